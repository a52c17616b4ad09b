/- Of, as the laws of layers 7 on use it. -/
import Derived.Test.YtdkpdmpghibmmaaGreatGhY
namespace Go.Proofs.YtdkpdmpghibmmaaGreat
open Go.RowKit Go.Shelf Grm Lay
theorem dof_any (n : Int) (a : Option Addr) (l : List Ar) (c : Nat) (w : World) (hA : Arcs w a l) (hF : ∀ y ∈ l, FitA y) : Calls Tryz.prog 28 #[.int .i64 n, .slice a l.length c] w fun e w' => Below w.heap.size w w' ∧ ∃ a' c', e = .returned (mV (ofN n : Nat) a' (ofL n l).length c') ∧ AV w' w.heap.size (.slice a' (ofL n l).length c') (ofL n l) := by
  obtain ⟨w1, hw1⟩ : ∃ w1, w1 = w.alloc (.cells #[.int .i64 0, .slice none 0 0] 24) := ⟨_, rfl⟩
  have hb1 : Below w.heap.size w w1 := by rw [hw1]; exact (Below.refl _ _).alloc (Nat.le_refl _) _
  have hr1 : Row w1 w.heap.size 24 #[.int .i64 0, .slice none 0 0] := by rw [hw1]; exact Row.fresh w _ _
  have hs1 : w1.heap.size = w.heap.size + 1 := by rw [hw1]; simp
  have HO := Lib.hid (of_map n a l c w1 (hA.under hb1) hF)
  have HW := Lib.hid hw1
  have H1 := Lib.hid (And.intro hb1 (And.intro hr1 hs1))
  clear hA hF hw1 hb1 hr1 hs1
  generalize ofL n l = M at *
  generalize ofN n = N at *
  go_enter Tryz.func28, Tryz.ntmps28
  go_wp2_with (first | (go_at_call 79; rw [← HW.out]; refine HO.out.mono ?_; rintro e w2 ⟨hb2, am, cm, rfl, hv2⟩; have hr2 := H1.out.2.1.under hb2 H1.out.2.1.lt; have z0 := hr2.cell 0; have z1 := hr2.cell 1; have m0 := hr2.thaw 0; have m1 := hr2.thaw 1; simp only [List.getElem?_toArray, List.getElem?_cons_zero, List.getElem?_cons_succ] at z0 z1; have H2 := Lib.hid (And.intro hb2 (And.intro hr2 hv2)); clear hb2 hr2 hv2))
  have hq := (H2.out.2.1.put 0 (.int .i64 (N : Nat))).put 1 (.slice am M.length cm)
  have hs := H1.out.2.2
  have hz := H2.out.1.size
  have ho : Only (fun k => k = w.heap.size) w2 ((w2.setCell ⟨w.heap.size, 0, none⟩ (.int .i64 (N : Nat))).setCell ⟨w.heap.size, 1, none⟩ (.slice am M.length cm)) := ((Only.refl (fun k => k = w.heap.size) w2).setCell (p := ⟨w.heap.size, 0, none⟩) (.inl rfl) _).setCell (p := ⟨w.heap.size, 1, none⟩) (.inl rfl) _
  have r0 := hq.cell 0
  have r1 := hq.cell 1
  simp only [List.setIfInBounds_toArray, List.set_cons_zero, List.set_cons_succ, List.getElem?_toArray, List.getElem?_cons_zero, List.getElem?_cons_succ] at r0 r1
  refine bodyPost_ret (v := mV (N : Nat) am M.length cm) (by simp [results, Tryz.results28, go_sem, r0, r1]) rfl ?_
  have hb2 := H1.out.1.trans (H2.out.1.mono H1.out.1.size)
  exact ⟨hb2.trans (ho.below (K := w.heap.size) (fun k e => by omega) hb2.size), am, cm, rfl, owns_base (owns_only H2.out.2.2 ho (fun k q e => by have := (owns_lt H2.out.2.2 k q).1; omega)) (by omega)⟩
end Go.Proofs.YtdkpdmpghibmmaaGreat
