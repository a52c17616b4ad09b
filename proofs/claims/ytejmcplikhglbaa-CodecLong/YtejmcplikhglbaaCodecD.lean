/- Walks: take, Num, row, Text, Ints of a Reader. -/
import Derived.Test.YtejmcplikhglbaaCodecC
namespace Go.Proofs.Ytejmcplikhglbaa
open Go.RowKit
variable {K : Nat}
attribute [local go_sem] W_or W_shr8 W_low B_w64 W_w64 I_w64 W_shl_w W_wrap64 str_size

theorem take_dead (g : Nat) (s : Cod.St) (m : Int) (w : World) (h : Rd K w g s) (he : s.err ≠ 0) :
    Calls Try.prog 43 #[.pointer (some ⟨g, 0, none⟩), .int .u64 m] w fun e w' => e = .returned (.slice none 0 0) ∧ w = w' := by
  have HF := Lib.hid (failed_any g s w h)
  have ht : (s.err != 0) = true := by simpa using he
  clear h he
  go_enter Try.func43, Try.ntmps43
  go_wp2_with fail
  refine HF.out.mono ?_
  rintro e w1 ⟨rfl, rfl⟩
  go_wp2
  go_ret
  exact ⟨rfl, rfl⟩

theorem take_short (g b o n c m : Nat) (w : World) (hr : Row w g 64 #[.slice (some ⟨b, o, none⟩) n c, .int .i64 0]) (hn : n ≤ 1000000000) (hm : n < m) :
    Calls Try.prog 43 #[.pointer (some ⟨g, 0, none⟩), .int .u64 m] w fun e w' => e = .returned (.slice none 0 0) ∧ Row w' g 64 #[.slice none 0 0, .int .i64 10] ∧ w.grownBy w' (some g) := by
  have HF := Lib.hid (failed_row g _ _ w hr)
  have HE := Lib.hid (fail_any g _ _ 10 w hr)
  have h0 : w.cell? ⟨g, 0, none⟩ = some (.slice (some ⟨b, o, none⟩) n c) := hr.cell 0
  have hm' : (n : Int) < (m : Int) := by omega
  clear hr
  go_enter Try.func43, Try.ntmps43
  go_wp2_with fail
  refine HF.out.mono ?_
  rintro e w1 ⟨rfl, rfl⟩
  go_wp2_with fail
  refine HE.out.mono ?_
  rintro e w1 ⟨rfl, hr1, hg1⟩
  have HR := Lib.hid hr1
  have HG := Lib.hid hg1
  clear hr1 hg1
  go_wp2
  go_ret
  exact ⟨rfl, HR.out, HG.out⟩

theorem take_good (g b o n c m : Nat) (w : World) (hr : Row w g 64 #[.slice (some ⟨b, o, none⟩) n c, .int .i64 0]) (hn : n ≤ 1000000000) (hc : n ≤ c) (hm : m ≤ n) :
    Calls Try.prog 43 #[.pointer (some ⟨g, 0, none⟩), .int .u64 m] w fun e w' => e = .returned (.slice (some ⟨b, o, none⟩) m m) ∧
      (∃ o', Row w' g 64 #[.slice (some ⟨b, o', none⟩) (n - m) (c - m), .int .i64 0] ∧ (m < n → o' = o + m)) ∧ w.grownBy w' (some g) := by
  have HF := Lib.hid (failed_row g _ _ w hr)
  have h0 : w.cell? ⟨g, 0, none⟩ = some (.slice (some ⟨b, o, none⟩) n c) := hr.cell 0
  have hf := hr.thaw 0
  have HR := Lib.hid (fun v => hr.put 0 v)
  have HG := Lib.hid (fun v => grown_put' (World.grownBy.refl w (some g)) 0 v)
  have hm' : (m : Int) ≤ (n : Int) := by omega
  have hmc : (m : Int) ≤ (c : Int) := by omega
  clear hr
  by_cases hcm : c = m
  · have hnm : n = m := by omega
    subst hcm
    subst hnm
    go_enter Try.func43, Try.ntmps43
    go_wp2_with fail
    refine HF.out.mono ?_
    rintro e w1 ⟨rfl, rfl⟩
    go_wp2
    go_ret
    refine ⟨rfl, ⟨o, ?_, by omega⟩, HG.out _⟩
    have h := HR.out (.slice (some ⟨b, o, none⟩) (n - n) (n - n))
    rw [row2_set0] at h
    simpa using h
  · go_enter Try.func43, Try.ntmps43
    go_wp2_with fail
    refine HF.out.mono ?_
    rintro e w1 ⟨rfl, rfl⟩
    go_wp2
    go_ret
    refine ⟨rfl, ⟨o + m, ?_, fun _ => rfl⟩, HG.out _⟩
    have h := HR.out (.slice (some ⟨b, o + m, none⟩) (n - m) (c - m))
    rw [row2_set0] at h
    exact h

theorem Bytes.take {w : World} {a : Option Addr} {l : List (BitVec 8)} (h : Bytes w a l) (m : Nat) : Bytes w a (l.take m) := by
  rcases h with rfl | ⟨b, o, rfl, h⟩
  · simp [Bytes]
  · refine .inr ⟨b, o, rfl, fun i x hx => h i x ?_⟩
    rw [List.getElem?_take] at hx
    split at hx
    · exact hx
    · cases hx
theorem Bytes.drop {w : World} {b o : Nat} {l : List (BitVec 8)} (h : Bytes w (some ⟨b, o, none⟩) l) (m : Nat) : Bytes w (some ⟨b, o + m, none⟩) (l.drop m) := by
  rcases h with rfl | ⟨b', o', e, h⟩
  · simp [Bytes]
  · injection e with e
    injection e with e1 e2
    subst e1 e2
    refine .inr ⟨b, o + m, rfl, fun i x hx => ?_⟩
    rw [List.getElem?_drop] at hx
    rw [Nat.add_assoc]
    exact h _ x hx

/-- m bytes are taken. -/
theorem take_any (g : Nat) (s : Cod.St) (m : Nat) (w : World) (h : Rd K w g s) :
    Calls Try.prog 43 #[.pointer (some ⟨g, 0, none⟩), .int .u64 m] w fun e w' => ∃ a c, e = .returned (.slice a (Cod.takeQ s m).length c) ∧ Bytes w' a (Cod.takeQ s m) ∧ (Cod.takeQ s m).length ≤ c ∧ Rd K w' g (Cod.takeS s m) ∧ w.grownBy w' (some g) := by
  by_cases he : s.err = 0
  · rcases h with ⟨_, b, o, c, hK, hr, hB, hc, hs⟩ | ⟨h, _⟩
    · by_cases hm : s.rest.length < m
      · have e1 : Cod.takeQ s m = [] := by simp [Cod.takeQ, he, hm]
        have e2 : Cod.takeS s m = ⟨[], 10⟩ := by simp [Cod.takeS, he, hm]
        rw [e1, e2]
        refine (take_short g b o _ c m w hr hs hm).mono ?_
        rintro e w' ⟨rfl, hr', hg'⟩
        exact ⟨none, 0, rfl, Bytes.nil _ _, Nat.le_refl _, .inr ⟨by decide, rfl, hr'⟩, hg'⟩
      · have e1 : Cod.takeQ s m = s.rest.take m := by simp [Cod.takeQ, he, hm]
        have e2 : Cod.takeS s m = ⟨s.rest.drop m, 0⟩ := by simp [Cod.takeS, he, hm]
        have e3 : (s.rest.take m).length = m := by simp; omega
        rw [e1, e2, e3]
        refine (take_good g b o _ c m w hr hs hc (by omega)).mono ?_
        rintro e w' ⟨rfl, ⟨o', hr', ho'⟩, hg'⟩
        have hB' := hB.apart hr hg'
        refine ⟨_, m, rfl, hB'.take m, Nat.le_refl _, .inl ⟨rfl, b, o', c - m, hK, by simpa using hr', ?_, by simp; omega, by simp; omega⟩, hg'⟩
        by_cases hlt : m < s.rest.length
        · rw [ho' hlt]
          exact hB'.drop m
        · rw [List.drop_of_length_le (by omega)]
          exact Bytes.nil _ _
    · exact absurd he h
  · have e1 : Cod.takeQ s m = [] := by simp [Cod.takeQ, he]
    have e2 : Cod.takeS s m = s := by simp [Cod.takeS, he]
    rw [e1, e2]
    refine (take_dead g s m w h he).mono ?_
    rintro e w' ⟨rfl, rfl⟩
    exact ⟨none, 0, rfl, Bytes.nil _ _, Nat.le_refl _, h, World.grownBy.refl _ _⟩
theorem take_at (g : Nat) (s : Cod.St) (m : Nat) (z : Int) (hz : z = m) (w : World) (h : Rd K w g s) :
    Calls Try.prog 43 #[.pointer (some ⟨g, 0, none⟩), .int .u64 z] w fun e w' => ∃ a c, e = .returned (.slice a (Cod.takeQ s m).length c) ∧ Bytes w' a (Cod.takeQ s m) ∧ (Cod.takeQ s m).length ≤ c ∧ Rd K w' g (Cod.takeS s m) ∧ w.grownBy w' (some g) := by
  subst hz
  exact take_any g s m w h
theorem takeQ_le (s : Cod.St) (m : Nat) : (Cod.takeQ s m).length ≤ m := by
  unfold Cod.takeQ
  split
  · simp
  · split
    · simp
    · simp; omega

theorem num_any (g : Nat) (s : Cod.St) (z : Int) (w : World) (h : Rd K w g s) :
    Calls Try.prog 25 #[.pointer (some ⟨g, 0, none⟩), .int .i64 z] w fun e w' => e = .returned (.int .u64 (W (Cod.num (Cod.takeQ s (Cod.clip z))))) ∧ Rd K w' g (Cod.takeS s (Cod.clip z)) ∧ w.grownBy w' (some g) := by
  have hk := Cod.clip_le z
  have HC := Lib.hid (clip_any z w)
  have HQ := Lib.hid (takeQ_le s (Cod.clip z))
  generalize Cod.clip z = k at *
  have HT := Lib.hid (take_any g s k w h)
  generalize Cod.takeQ s k = q at *
  generalize Cod.takeS s k = s' at *
  clear h
  go_enter Try.func25, Try.ntmps25
  go_wp2_with fail
  refine HC.out.mono ?_
  rintro e w1 ⟨rfl, rfl⟩
  go_wp2_with fail
  refine HT.out.mono ?_
  rintro e w1 ⟨a, c, rfl, hB, hc, hR, hG⟩
  have HR := Lib.hid hR
  have HG := Lib.hid hG
  have HB := Lib.hid hB
  clear hR hG hB
  go_wp2_with fail
  refine (number_any a q c w1 HB.out (by have := HQ.out; omega)).mono ?_
  rintro e w2 ⟨rfl, rfl⟩
  go_wp2
  go_ret
  exact ⟨rfl, HR.out, HG.out⟩
theorem num_at (g : Nat) (s : Cod.St) (z : Int) (k : Nat) (hk : Cod.clip z = k) (w : World) (h : Rd K w g s) :
    Calls Try.prog 25 #[.pointer (some ⟨g, 0, none⟩), .int .i64 z] w fun e w' => e = .returned (.int .u64 (W (Cod.num (Cod.takeQ s k)))) ∧ Rd K w' g (Cod.takeS s k) ∧ w.grownBy w' (some g) := by
  subst hk
  exact num_any g s z w h
end Go.Proofs.Ytejmcplikhglbaa
