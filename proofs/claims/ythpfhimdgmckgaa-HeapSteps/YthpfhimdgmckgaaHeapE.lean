/- Walks: the heap's settle. -/
import Derived.Test.YthpfhimdgmckgaaHeapD
namespace Go.Proofs.Ythpfhimdgmckgaa
open Go.RowKit Hp

theorem settle_any (g tb sb c m n s x : Nat) (k : Int) (key : Nat → Int) (a : Nat → Nat) (e : Nat → Int × Nat) (p : Nat → Nat) (w : World) (h : Qs w g tb sb c m n e p) (hh : Hol key a n m s e p) (hx : a s = x) (hk : key x = k) (hm : Mid key a m s) (hs : s < m) :
    Calls Try.prog 33 #[ptr g, .int .i64 s, ent k x] w fun e' w' => e' = .returned (.tuple #[]) ∧ (∃ a' e1 p1, Qs w' g tb sb c m n e1 p1 ∧ Hol key a' n m m e1 p1 ∧ Heap key a' m ∧ (∀ i, Mem a' m i ↔ Mem a m i)) ∧ Only (fun i => i = tb ∨ i = sb) w w' := by
  subst hk
  obtain ⟨lg, lt, ls⟩ := h.lts
  have hne : ¬ (w.heap.size = tb ∨ w.heap.size = sb) := by omega
  have hQ0 : Qs (w.alloc (.cells #[.int .i64 (key x), .int .i64 x] 61)) g tb sb c m n e p := h.only (S := fun _ => False) (((Only.refl _ w).alloc _)) (fun f => f) (fun f => f) (fun f => f)
  have HQ := Lib.hid hQ0
  have HH := Lib.hid hh
  have HX := Lib.hid hx
  have HM := Lib.hid hm
  have HN := Lib.hid hne
  clear h hh hx hm hQ0 hne
  go_enter Try.func33, Try.ntmps33
  go_wp2_with fail
  refine (wayUp_any g tb sb c m n s x key a e p _ HQ.out HH.out HX.out HM.out hs).mono ?_
  rintro e' w1 ⟨s1, a1, e1, p1, rfl, hs1, hQ1, hH1, hx1, hd1, hm1, ho1⟩
  have hr1 : Row w1 w.heap.size 61 #[.int .i64 (key x), .int .i64 x] := (Row.fresh w _ _).only ho1 HN.out
  have b0 : w1.cell? ⟨w.heap.size, 0, none⟩ = some (.int .i64 (key x)) := hr1.cell 0
  have b1 : w1.cell? ⟨w.heap.size, 1, none⟩ = some (.int .i64 x) := hr1.cell 1
  have HR1 := Lib.hid hr1
  have HQ1 := Lib.hid hQ1
  have HH1 := Lib.hid hH1
  have HX1 := Lib.hid hx1
  have HD1 := Lib.hid hd1
  have HM1 := Lib.hid hm1
  have HO1 := Lib.hid (show Only (fun i => i = tb ∨ i = sb) w w1 from ((Only.refl _ w).alloc _).trans ho1 (fun i hi => .inl hi))
  clear hr1 hQ1 hH1 hx1 hd1 hm1 ho1 HQ HH HM
  go_wp2_with fail
  refine (wayDown_any g tb sb c m n s1 x key a1 e1 p1 w1 HQ1.out HH1.out HX1.out HD1.out hs1).mono ?_
  rintro e' w2 ⟨s2, rfl, a2, e2, p2, hs2, hQ2, hH2, hx2, hp2, hm2, ho2⟩
  have hr2 := HR1.out.only ho2 HN.out
  have b0' : w2.cell? ⟨w.heap.size, 0, none⟩ = some (.int .i64 (key x)) := hr2.cell 0
  have b1' : w2.cell? ⟨w.heap.size, 1, none⟩ = some (.int .i64 x) := hr2.cell 1
  have HQ2 := Lib.hid hQ2
  have HH2 := Lib.hid hH2
  have HX2 := Lib.hid hx2
  have HP2 := Lib.hid hp2
  have HM2 := Lib.hid hm2
  have HO2 := Lib.hid (show Only (fun i => i = tb ∨ i = sb) w w2 from HO1.out.trans ho2 (fun i hi => .inl hi))
  clear hr2 hQ2 hH2 hx2 hp2 hm2 ho2 HR1 b0 b1 HO1 HQ1 HH1
  go_wp2_with fail
  refine (lay_any g tb sb c m n s2 x (key x) e2 p2 w2 HQ2.out hs2 (by rw [← HX2.out]; exact HH2.out.low s2 hs2)).mono ?_
  rintro e' w3 ⟨rfl, hQ3, ho3⟩
  have HR := Lib.hid (show (∃ a' e1 p1, Qs w3 g tb sb c m n e1 p1 ∧ Hol key a' n m m e1 p1 ∧ Heap key a' m ∧ (∀ i, Mem a' m i ↔ Mem a m i)) ∧ Only (fun i => i = tb ∨ i = sb) w w3 from ⟨⟨a2, _, _, hQ3, by have := HH2.out.fill hs2; rw [HX2.out] at this; exact this, HP2.out, fun i => (HM2.out i).trans (HM1.out i)⟩, HO2.out.trans ho3 (fun i hi => .inl hi)⟩)
  clear hQ3 ho3 b0' b1'
  go_wp2
  go_end0
  exact ⟨rfl, HR.out⟩
end Go.Proofs.Ythpfhimdgmckgaa
