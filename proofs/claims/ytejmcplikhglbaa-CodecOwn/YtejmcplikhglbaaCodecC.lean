/- Walks: a Reader: New, Failed, Left, End, fail, take, Num. -/
import Derived.Test.YtejmcplikhglbaaCodecB
namespace Go.Proofs.Ytejmcplikhglbaa
open Go.RowKit
variable {K : Nat}
attribute [local go_sem] W_or W_shr8 W_low B_w64 W_w64 I_w64 W_shl_w W_wrap64 str_size

/-- Block g is a reader in the state s: with no error, its bytes in a block from K on; or with one. -/
def Rd (K : Nat) (w : World) (g : Nat) (s : Cod.St) : Prop :=
  (s.err = 0 ∧ ∃ b o c, K ≤ b ∧ Row w g 64 #[.slice (some ⟨b, o, none⟩) s.rest.length c, .int .i64 0] ∧ Bytes w (some ⟨b, o, none⟩) s.rest ∧ s.rest.length ≤ c ∧ s.rest.length ≤ 1000000000) ∨
  (s.err ≠ 0 ∧ s.rest = [] ∧ Row w g 64 #[.slice none 0 0, .int .i64 s.err])
theorem Rd.ok {w : World} {g : Nat} {s : Cod.St} (h : Rd K w g s) : Cod.Ok s := by
  rcases h with ⟨h, _⟩ | ⟨_, h, _⟩
  · intro e; exact absurd h e
  · intro _; exact h
theorem Rd.lt {w : World} {g : Nat} {s : Cod.St} (h : Rd K w g s) : g < w.heap.size := by
  rcases h with ⟨_, _, _, _, _, h, _⟩ | ⟨_, _, h⟩
  · exact h.lt
  · exact h.lt
theorem Rd.small {w : World} {g : Nat} {s : Cod.St} (h : Rd K w g s) : s.rest.length ≤ 1000000000 := by
  rcases h with ⟨_, _, _, _, _, _, _, _, h⟩ | ⟨_, h, _⟩
  · exact h
  · rw [h]; simp
theorem Rd.under {w w' : World} {g : Nat} {s : Cod.St} (h : Rd K w g s) (hb : Below w.heap.size w w') : Rd K w' g s := by
  have hl := h.lt
  rcases h with ⟨h0, b, o, c, hK, hr, hB, hc, hs⟩ | ⟨h0, h1, hr⟩
  · exact .inl ⟨h0, b, o, c, hK, hr.under hb hl, hB.under hb, hc, hs⟩
  · exact .inr ⟨h0, h1, hr.under hb hl⟩
theorem Rd.low {w : World} {g K' : Nat} {s : Cod.St} (h : Rd K w g s) (hK : K' ≤ K) : Rd K' w g s := by
  rcases h with ⟨h0, b, o, c, hb, r⟩ | h
  · exact .inl ⟨h0, b, o, c, by omega, r⟩
  · exact .inr h
/-- Bytes and a reader's own block are two things. -/
theorem Bytes.apart {w w' : World} {g b o : Nat} {t : TypeId} {x : Option Addr} {n c : Nat} {e : Int} {l : List (BitVec 8)} (hB : Bytes w (some ⟨b, o, none⟩) l) (hr : Row w g t #[.slice x n c, .int .i64 e]) (hg : w.grownBy w' (some g)) : Bytes w' (some ⟨b, o, none⟩) l := by
  rcases hB with h | ⟨b', o', e', h⟩
  · exact .inl h
  · refine .inr ⟨b', o', e', fun i y hy => ?_⟩
    have hc := h i y hy
    have hlt : b' < w.heap.size := block_lt_of_cell hc
    have hne : b' ≠ g := by
      rintro rfl
      rw [hr.cell] at hc
      match o' + i, hc with
      | 0, hc => cases hc
      | 1, hc => cases hc
      | k + 2, hc => simp at hc
    rw [World.cell?_of_block (a := ⟨b', o' + i, none⟩) (hg.block b' hlt (by intro e; injection e with e; exact hne e))]
    exact hc

theorem Bytes.off {w w' : World} {b o k : Nat} {l : List (BitVec 8)} (hB : Bytes w (some ⟨b, o, none⟩) l) (hg : w.grownBy w' (some k)) (hk : k ≠ b) : Bytes w' (some ⟨b, o, none⟩) l := by
  rcases hB with h | ⟨b', o', e', h⟩
  · exact .inl h
  · injection e' with e'
    injection e' with e1 e2
    subst e1 e2
    refine .inr ⟨b, o, rfl, fun i y hy => ?_⟩
    have hc := h i y hy
    rw [World.cell?_of_block (a := ⟨b, o + i, none⟩) (hg.block b (block_lt_of_cell hc) (by intro e; injection e with e; exact hk e.symm))]
    exact hc
/-- A reader stays as it is where other memory is written: old memory; another reader. -/
theorem Rd.away {w w' : World} {g k : Nat} {s : Cod.St} (h : Rd K w g s) (hg : w.grownBy w' (some k)) (hk : k < K) (hkg : k ≠ g) : Rd K w' g s := by
  have hl := h.lt
  have hne : some g ≠ some k := by intro e; injection e with e; exact hkg e.symm
  rcases h with ⟨h0, b, o, c, hK, hr, hB, hc, hs⟩ | ⟨h0, h1, hr⟩
  · exact .inl ⟨h0, b, o, c, hK, (hg.block g hl hne).trans hr, hB.off hg (by omega), hc, hs⟩
  · exact .inr ⟨h0, h1, (hg.block g hl hne).trans hr⟩
theorem Rd.beside {w w' : World} {g k K' : Nat} {s s' : Cod.St} (h : Rd K w g s) (h' : Rd K' w k s') (hg : w.grownBy w' (some k)) (hkg : k ≠ g) : Rd K w' g s := by
  have hl := h.lt
  have hne : some g ≠ some k := by intro e; injection e with e; exact hkg e.symm
  rcases h with ⟨h0, b, o, c, hK, hr, hB, hc, hs⟩ | ⟨h0, h1, hr⟩
  · refine .inl ⟨h0, b, o, c, hK, (hg.block g hl hne).trans hr, ?_, hc, hs⟩
    rcases h' with ⟨_, _, _, _, _, hr', _⟩ | ⟨_, _, hr'⟩
    · exact hB.apart hr' hg
    · exact hB.apart hr' hg
  · exact .inr ⟨h0, h1, (hg.block g hl hne).trans hr⟩

theorem new_any (a : Option Addr) (l : List (BitVec 8)) (c : Nat) (w : World) (hB : Bytes w a l) (hl : l.length ≤ 1000000000) :
    Calls Try.prog 18 #[.slice a l.length c] w fun e w' => ∃ g, e = .returned (.pointer (some ⟨g, 0, none⟩)) ∧ w.heap.size ≤ g ∧ Rd w.heap.size w' g ⟨l, 0⟩ ∧ Below w.heap.size w w' := by
  go_enter Try.func18, Try.ntmps18
  go_wp2_with (first | ((with_reducible show wpList _ _ _ (Oper.mk _ (Op.makeSlice _ _ _) _ _ _ _ :: _) _ _); refine wpList_makeB rfl _ _ rfl _ l.length rfl rfl rfl (by omega) w.heap.size w (Below.refl _ _) (Nat.le_refl _) ?_; intro w1 HR1 hb1) | ((with_reducible show wpList _ _ _ (Oper.mk _ (Op.call ⟨Callee.builtin Builtin.copy, _, _⟩) _ _ _ _ :: _) _ _); refine wpList_copyB rfl _ _ rfl w.heap.size l.length l.length a l (List.replicate l.length (BitVec.ofNat 8 0)) c rfl rfl HR1.out (hB.under hb1) (by simp) w.heap.size w hb1 (Nat.le_refl _) l (by simp) l.length (by simp) ?_; clear HR1 hb1; intro w2 HR2 hb2))
  go_ret
  have hlt := HR2.out.lt
  refine ⟨w2.heap.size, rfl, hb2.size, .inl ⟨rfl, w.heap.size, 0, l.length, Nat.le_refl _, Row.fresh w2 _ _, ?_, Nat.le_refl _, hl⟩, hb2.alloc hb2.size _⟩
  refine .inr ⟨_, _, rfl, fun i x hx => ?_⟩
  have h := (HR2.out.past (.cells #[.slice (some ⟨w.heap.size, 0, none⟩) l.length l.length, .int .i64 0] 64)).cell i
  rw [Nat.zero_add, h]
  simp [cells_get, hx]

theorem failed_row (g : Nat) (v : Value) (e : Int) (w : World) (hr : Row w g 64 #[v, .int .i64 e]) :
    Calls Try.prog 26 #[.pointer (some ⟨g, 0, none⟩)] w fun e' w' => e' = .returned (.int .i64 e) ∧ w = w' := by
  have h1 : w.cell? ⟨g, 1, none⟩ = some (.int .i64 e) := hr.cell 1
  clear hr
  go_enter Try.func26, Try.ntmps26
  go_wp2
  go_ret
  exact ⟨rfl, rfl⟩
theorem failed_nil (w : World) :
    Calls Try.prog 26 #[.pointer none] w fun e' w' => e' = .returned (.int .i64 1) ∧ w = w' := by
  go_enter Try.func26, Try.ntmps26
  go_wp2
  go_ret
  exact ⟨rfl, rfl⟩
theorem Rd.row {w : World} {g : Nat} {s : Cod.St} (h : Rd K w g s) : ∃ a c, Row w g 64 #[.slice a s.rest.length c, .int .i64 s.err] := by
  rcases h with ⟨h0, b, o, c, _, hr, _⟩ | ⟨_, h1, hr⟩
  · rw [h0]; exact ⟨_, _, hr⟩
  · rw [h1]; exact ⟨_, _, hr⟩
theorem failed_any (g : Nat) (s : Cod.St) (w : World) (h : Rd K w g s) :
    Calls Try.prog 26 #[.pointer (some ⟨g, 0, none⟩)] w fun e' w' => e' = .returned (.int .i64 s.err) ∧ w = w' := by
  obtain ⟨a, c, hr⟩ := h.row
  exact failed_row g _ _ w hr
theorem left_any (g : Nat) (s : Cod.St) (w : World) (h : Rd K w g s) :
    Calls Try.prog 27 #[.pointer (some ⟨g, 0, none⟩)] w fun e' w' => e' = .returned (.int .i64 s.rest.length) ∧ w = w' := by
  obtain ⟨a, c, hr⟩ := h.row
  have h1 : w.cell? ⟨g, 0, none⟩ = some (.slice a s.rest.length c) := hr.cell 0
  clear hr h
  go_enter Try.func27, Try.ntmps27
  go_wp2
  go_ret
  exact ⟨rfl, rfl⟩
theorem end_nil (w : World) :
    Calls Try.prog 28 #[.pointer none] w fun e' w' => e' = .returned (.int .i64 1) ∧ w = w' := by
  go_enter Try.func28, Try.ntmps28
  go_wp2_with fail
  refine (failed_nil w).mono ?_
  rintro e w1 ⟨rfl, rfl⟩
  go_wp2
  go_ret
  exact ⟨rfl, rfl⟩
theorem end_any (g : Nat) (s : Cod.St) (w : World) (h : Rd K w g s) :
    Calls Try.prog 28 #[.pointer (some ⟨g, 0, none⟩)] w fun e' w' => e' = .returned (.int .i64 (Cod.endE s)) ∧ w = w' := by
  have HF := Lib.hid (failed_any g s w h)
  have HL := Lib.hid (left_any g s w h)
  by_cases h0 : s.err = 0
  · by_cases h1 : s.rest = []
    · have e : Cod.endE s = 0 := by simp [Cod.endE, h0, h1]
      rw [e]
      rw [h0] at HF
      rw [h1] at HL
      clear h e h0 h1
      go_enter Try.func28, Try.ntmps28
      go_wp2_with fail
      refine HF.out.mono ?_
      rintro e w1 ⟨rfl, rfl⟩
      go_wp2_with fail
      refine HL.out.mono ?_
      rintro e w1 ⟨rfl, rfl⟩
      go_wp2
      go_ret
      exact ⟨rfl, rfl⟩
    · have e : Cod.endE s = 5 := by simp [Cod.endE, h0, h1]
      have hp : 0 < s.rest.length := List.length_pos_iff.2 h1
      rw [e]
      rw [h0] at HF
      clear h e h0 h1
      go_enter Try.func28, Try.ntmps28
      go_wp2_with fail
      refine HF.out.mono ?_
      rintro e w1 ⟨rfl, rfl⟩
      go_wp2_with fail
      refine HL.out.mono ?_
      rintro e w1 ⟨rfl, rfl⟩
      go_wp2
      go_ret
      exact ⟨rfl, rfl⟩
  · have e : Cod.endE s = s.err := by simp [Cod.endE, h0]
    rw [e]
    have ht : (s.err != 0) = true := by simpa using h0
    clear h e
    go_enter Try.func28, Try.ntmps28
    go_wp2_with fail
    refine HF.out.mono ?_
    rintro e w1 ⟨rfl, rfl⟩
    go_wp2
    go_ret
    exact ⟨rfl, rfl⟩

theorem row2_set0 (a b v : Value) : (#[a, b] : Array Value).setIfInBounds 0 v = #[v, b] := rfl
theorem row2_set1 (a b v : Value) : (#[a, b] : Array Value).setIfInBounds 1 v = #[a, v] := rfl
theorem fail_any (g : Nat) (v0 v1 : Value) (e : Int) (w : World) (hr : Row w g 64 #[v0, v1]) :
    Calls Try.prog 44 #[.pointer (some ⟨g, 0, none⟩), .int .i64 e] w fun e' w' => e' = .returned (.tuple #[]) ∧ Row w' g 64 #[.slice none 0 0, .int .i64 e] ∧ w.grownBy w' (some g) := by
  have HR := Lib.hid ((hr.put 1 (.int .i64 e)).put 0 (.slice none 0 0))
  rw [row2_set1, row2_set0] at HR
  have HG := Lib.hid (grown_put' (grown_put' (World.grownBy.refl w (some g)) 1 (.int .i64 e)) 0 (.slice none 0 0))
  have h0 : w.cell? ⟨g, 0, none⟩ = some v0 := hr.cell 0
  have h1 : w.cell? ⟨g, 1, none⟩ = some v1 := hr.cell 1
  have f0 := hr.thaw 0
  have f1 := hr.thaw 1
  clear hr
  go_enter Try.func44, Try.ntmps44
  go_wp2
  go_end0
  exact ⟨rfl, HR.out, HG.out⟩
end Go.Proofs.Ytejmcplikhglbaa
