/- Walks: the document's reader: fail, Num. -/
import Derived.Test.YtejmcplikhglbaaCodecLawF
namespace Go.Proofs.Ytejmcplikhglbaa
open Go.RowKit
attribute [local go_sem] W_tmod W_tdiv W_or W_shr8 W_low B_w64 W_w64 I_w64 W_shl_w W_wrap64 str_size B_low B_w8 W_mul256_w W_add_w

theorem rfail_any (e : Int) (w : World) :
    Calls Try.prog 42 #[.int .i64 e] w fun e' w' => e' = .returned (.agg #[.slice none 0 0, .int .i64 e]) ∧ Below w.heap.size w w' := by
  go_enter Try.func42, Try.ntmps42
  go_wp2
  exact bodyPost_ret (v := .agg #[.slice none 0 0, .int .i64 e]) (by simp [results, Try.results42, go_sem]) rfl ⟨rfl, (Below.refl _ _).alloc (Nat.le_refl _) _⟩

theorem rnum_dead (a : Option Addr) (n c : Nat) (e z : Int) (w : World) (he : (e != 0) = true) :
    Calls Try.prog 24 #[.agg #[.slice a n c, .int .i64 e], .int .i64 z] w fun e' w' => e' = .returned (.tuple #[.agg #[.slice a n c, .int .i64 e], .int .u64 0]) ∧ Below w.heap.size w w' := by
  go_enter Try.func24, Try.ntmps24
  go_wp2_with fail
  refine (rclip_any z _).mono ?_
  rintro e w1 ⟨rfl, rfl⟩
  go_wp2
  exact bodyPost_ret (v := .tuple #[.agg #[.slice a n c, .int .i64 e], .int .u64 0]) (by simp [results, Try.results24, go_sem]) rfl ⟨rfl, ((Below.refl _ _).alloc (Nat.le_refl _) _).alloc (by simp) _⟩

/-- All old cells, and their marks, are as they were. -/
theorem bcell {W w1 : World} (hb : Below W.heap.size W w1) : (∀ b o, b < W.heap.size → w1.cell? ⟨b, o, none⟩ = W.cell? ⟨b, o, none⟩) ∧ (∀ b o, b < W.heap.size → w1.frozen? ⟨b, o, none⟩ = W.frozen? ⟨b, o, none⟩) :=
  ⟨fun b o h => hb.cell (p := ⟨b, o, none⟩) h, fun b o h => hb.frozen (p := ⟨b, o, none⟩) h⟩

theorem rnum_short (a : Option Addr) (n c : Nat) (z : Int) (w : World) (hn : n < Cod.clip z) :
    Calls Try.prog 24 #[.agg #[.slice a n c, .int .i64 0], .int .i64 z] w fun e' w' => e' = .returned (.tuple #[.agg #[.slice none 0 0, .int .i64 10], .int .u64 0]) ∧ Below w.heap.size w w' := by
  have HC := Lib.hid (fun w => rclip_any z w)
  generalize Cod.clip z = k at *
  have hn' : (n : Int) < (k : Int) := by omega
  go_enter Try.func24, Try.ntmps24
  go_wp2_with fail
  refine (HC.out _).mono ?_
  rintro e w1 ⟨rfl, rfl⟩
  go_wp2_with fail
  refine (rfail_any 10 _).mono ?_
  rintro e w2 ⟨rfl, hb2⟩
  obtain ⟨hc, hf⟩ := bcell hb2
  have hz : w.heap.size + 1 < w2.heap.size := by have := hb2.size; simp at this; omega
  have HX := Lib.hid ((((Below.refl w.heap.size w).alloc (Nat.le_refl _) _).alloc (by simp) _).trans (hb2.mono (by simp; omega)))
  clear hb2
  go_wp2
  exact bodyPost_ret (v := .tuple #[.agg #[.slice none 0 0, .int .i64 10], .int .u64 0]) (by simp [results, Try.results24, go_sem, hc]) rfl ⟨rfl, (HX.out.setCell (by simp) _).setCell (by simp) _⟩

theorem num_drop (q : List (BitVec 8)) (m : Nat) (h : m < q.length) : Cod.num (q.drop (m + 1)) <<< 8 + (q[m]'h).setWidth 64 = Cod.num (q.drop m) := by
  rw [Cod.num_horner, List.drop_eq_getElem_cons h]

theorem rnum_none (a : Option Addr) (c : Nat) (z : Int) (w : World) (hn : Cod.clip z = 0) :
    Calls Try.prog 24 #[.agg #[.slice a 0 c, .int .i64 0], .int .i64 z] w fun e' w' => ∃ a' c', e' = .returned (.tuple #[.agg #[.slice a' 0 c', .int .i64 0], .int .u64 0]) ∧ Below w.heap.size w w' := by
  have HC := fun w => rclip_any z w
  rw [hn] at HC
  have HC := Lib.hid HC
  clear hn
  go_enter Try.func24, Try.ntmps24
  go_wp2_with fail
  refine (HC.out _).mono ?_
  rintro e w1 ⟨rfl, rfl⟩
  go_wp2
  go_loop [7, 8] (fun n i => n = .int .u64 0 ∧ i = .int .i64 (-1)) (fun _ _ => 0)
  case atStart => exact ⟨rfl, rfl⟩
  case round =>
    obtain ⟨rfl, rfl⟩ := hrel
    go_wp2
    exact bodyPost_ret (v := .tuple #[.agg #[.slice a 0 c, .int .i64 0], .int .u64 0]) (by simp [results, Try.results24, go_sem]) rfl ⟨⟨a, c, rfl⟩, ((Below.refl _ _).alloc (Nat.le_refl _) _).alloc (by simp) _⟩

theorem rnum_some (b o : Nat) (l : List (BitVec 8)) (c : Nat) (z : Int) (w : World) (hB : Bytes w (some ⟨b, o, none⟩) l) (hc : l.length ≤ c) (hk : Cod.clip z ≤ l.length) (hl : l.length ≤ 1000000000) (h0 : 0 < l.length) :
    Calls Try.prog 24 #[.agg #[.slice (some ⟨b, o, none⟩) l.length c, .int .i64 0], .int .i64 z] w fun e' w' => (∃ o', e' = .returned (.tuple #[.agg #[.slice (some ⟨b, o', none⟩) (l.length - Cod.clip z) (c - Cod.clip z), .int .i64 0], .int .u64 (W (Cod.num (l.take (Cod.clip z))))]) ∧ (Cod.clip z < l.length → o' = o + Cod.clip z)) ∧ Below w.heap.size w w' := by
  have HC := Lib.hid (fun w => rclip_any z w)
  have hk8 := Cod.clip_le z
  generalize Cod.clip z = k at *
  have hlt0 : b < w.heap.size := by obtain ⟨b', o', e, h, _⟩ := hB.at_ (i := 0) h0; injection e with e; injection e with e1 e2; subst e1; exact h
  have HB := Lib.hid hB
  clear hB
  have hn' : (k : Int) ≤ (l.length : Int) := by omega
  have hkc : (k : Int) ≤ (c : Int) := by omega
  have HLk := Lib.hid (show (l.take k).length = k by rw [List.length_take]; omega)
  go_enter Try.func24, Try.ntmps24
  go_wp2_with fail
  refine (HC.out _).mono ?_
  rintro e w1 ⟨rfl, rfl⟩
  go_wp2
  go_loop [7, 8] (fun n i => ∃ j : Nat, j ≤ k ∧ i = .int .i64 ((j : Int) - 1) ∧ n = .int .u64 (W (Cod.num ((l.take k).drop j)))) (fun _ i => (intOf i + 1).toNat)
  case atStart => exact ⟨k, by omega, rfl, by rw [List.drop_of_length_le (by rw [HLk.out]; omega)]; rfl⟩
  case round =>
    obtain ⟨j, hj, rfl, rfl⟩ := hrel
    cases j with
    | zero =>
      rw [show (((0 : Nat) : Int) - 1) = -1 from rfl, List.drop_zero]
      by_cases hck : c = k
      · go_wp2
        exact bodyPost_ret (v := .tuple #[.agg #[.slice (some ⟨b, o, none⟩) (l.length - k) 0, .int .i64 0], .int .u64 (W (Cod.num (l.take k)))]) (by simp [results, Try.results24, go_sem]) rfl ⟨⟨o, rfl, by omega⟩, ((Below.refl _ _).alloc (Nat.le_refl _) _).alloc (by simp) _⟩
      · go_wp2
        exact bodyPost_ret (v := .tuple #[.agg #[.slice (some ⟨b, o + k, none⟩) (l.length - k) (c - k), .int .i64 0], .int .u64 (W (Cod.num (l.take k)))]) (by simp [results, Try.results24, go_sem]) rfl ⟨⟨o + k, rfl, fun _ => rfl⟩, ((Below.refl _ _).alloc (Nat.le_refl _) _).alloc (by simp) _⟩
    | succ m =>
      rw [show (((m + 1 : Nat) : Int) - 1) = (m : Int) by omega]
      have hml : m < l.length := by omega
      obtain ⟨b', o', e, _, hcell⟩ := HB.out.at_ (i := m) hml
      injection e with e
      injection e with e1 e2
      subst e1 e2
      have HS := num_drop (l.take k) m (by rw [HLk.out]; omega)
      rw [show (l.take k)[m]'(by rw [HLk.out]; omega) = l[m]'hml by simp] at HS
      have HS' := Lib.hid HS
      clear HS
      generalize l[m]'hml = y at *
      have hml' : (m : Int) < (l.length : Int) := by omega
      go_wp2
      go_round
      case rel => exact ⟨m, by omega, rfl, by rw [HS'.out]⟩
      case measure => simp [intOf]

/-- A value is the document's reader in the state s, its bytes being w0's. -/
def Tv (w0 : World) (v : Value) (s : Cod.St) : Prop := ∃ a c, v = .agg #[.slice a s.rest.length c, .int .i64 s.err] ∧ Bytes w0 a s.rest ∧ s.rest.length ≤ c ∧ s.rest.length ≤ 1000000000 ∧ Cod.Ok s

theorem rnum_any (w0 : World) (v : Value) (s : Cod.St) (z : Int) (w : World) (h : Tv w0 v s) (hb0 : Below w0.heap.size w0 w) :
    Calls Try.prog 24 #[v, .int .i64 z] w fun e' w' => (∃ v', e' = .returned (.tuple #[v', .int .u64 (W (Cod.num (Cod.takeQ s (Cod.clip z))))]) ∧ Tv w0 v' (Cod.takeS s (Cod.clip z))) ∧ Below w.heap.size w w' := by
  obtain ⟨a, c, rfl, hB, hc, hs, hok⟩ := h
  by_cases he : s.err = 0
  · by_cases hk : s.rest.length < Cod.clip z
    · have e1 : Cod.takeQ s (Cod.clip z) = [] := by simp [Cod.takeQ, he, hk]
      have e2 : Cod.takeS s (Cod.clip z) = ⟨[], 10⟩ := by simp [Cod.takeS, he, hk]
      rw [e1, e2, he]
      refine (rnum_short a _ c z w hk).mono ?_
      rintro e w' ⟨rfl, hb⟩
      exact ⟨⟨_, rfl, none, 0, rfl, Bytes.nil _ _, Nat.le_refl _, by simp, fun _ => rfl⟩, hb⟩
    · have e1 : Cod.takeQ s (Cod.clip z) = s.rest.take (Cod.clip z) := by simp [Cod.takeQ, he, hk]
      have e2 : Cod.takeS s (Cod.clip z) = ⟨s.rest.drop (Cod.clip z), 0⟩ := by simp [Cod.takeS, he, hk]
      rw [e1, e2, he]
      by_cases h0 : s.rest = []
      · have hz : Cod.clip z = 0 := by rw [h0] at hk; simp at hk; exact hk
        rw [h0, hz]
        refine (rnum_none a c z w hz).mono ?_
        rintro e w' ⟨a', c', rfl, hb⟩
        exact ⟨⟨_, rfl, a', c', rfl, Bytes.nil _ _, by simp, by simp, fun _ => rfl⟩, hb⟩
      · have hp : 0 < s.rest.length := List.length_pos_iff.2 h0
        rcases hB with h | ⟨b, o, rfl, h⟩
        · exact absurd h h0
        · have hB : Bytes w0 (some ⟨b, o, none⟩) s.rest := .inr ⟨b, o, rfl, h⟩
          refine (rnum_some b o s.rest c z w (hB.under hb0) hc (by omega) hs hp).mono ?_
          rintro e w' ⟨⟨o', rfl, ho'⟩, hb⟩
          refine ⟨⟨_, rfl, some ⟨b, o', none⟩, c - Cod.clip z, by simp, ?_, by simp; omega, by simp; omega, fun x => absurd rfl x⟩, hb⟩
          by_cases hlt : Cod.clip z < s.rest.length
          · rw [ho' hlt]
            exact hB.drop _
          · rw [List.drop_of_length_le (by omega)]
            exact Bytes.nil _ _
  · have e1 : Cod.takeQ s (Cod.clip z) = [] := Cod.takeQ_dead s _ he
    have e2 : Cod.takeS s (Cod.clip z) = s := Cod.takeS_dead s _ he
    rw [e1, e2]
    refine (rnum_dead a _ c _ z w (by simpa using he)).mono ?_
    rintro e w' ⟨rfl, hb⟩
    exact ⟨⟨_, rfl, a, c, rfl, hB, hc, hs, hok⟩, hb⟩
/-- A struct of two cells that was just laid, in a later world. -/
theorem Row.laid {w w1 : World} {o : Obj} {t : TypeId} {cs : Array Value} (hb : Below ((w.alloc o).alloc (.cells cs t)).heap.size ((w.alloc o).alloc (.cells cs t)) w1) : Row w1 (w.heap.size + 1) t cs := by
  have h := Row.fresh (w.alloc o) t cs
  rw [World.size_alloc] at h
  exact h.under hb (by simp)
end Go.Proofs.Ytejmcplikhglbaa
