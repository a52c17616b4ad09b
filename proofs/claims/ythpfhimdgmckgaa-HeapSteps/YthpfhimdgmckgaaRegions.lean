/- A statement of open order, walked once in the order of its text, in whatever worlds of a class: operations that yield one value in all of them; calls that hand back one value and stay in the class. -/
import Derived.Deep.Quiet
import Derived.Deep.RegionHeld3
import Derived.WalkKit
namespace Go.Proofs.Ythpfhimdgmckgaa
open Go.RowKit

section
variable {P : Program} {ops : Array Oper} {C : World → Prop} {Q : Act → Prop} {o : Oper} {rest : List Oper} {a : Act}

theorem region_in {id : Nat} {R : Exit → Act → World → Prop} {w : World} {l : List Oper} (C : World → Prop) (hm : P.follows .mixedOrders = true) (hB : Region.lexB .any l.toArray = true) (hC : C w.drew)
    (h : wpQuiet P l.toArray C (fun a' => ∀ w', C w' → R .normal a' w') l a) : (Code.region id l.toArray true).wp P R a w :=
  wp_region_quiet (C := C) hm hB hC (by simpa using h)
theorem in_pure (hw : Region.wanted o (yielded ops a.tmps) = true) (v : Value) (hv : ∀ W, C W → (execOp a.eval o).run P W = .ok (.value v) W) (h : wpQuiet P ops C Q rest (a.put o.dst v)) : wpQuiet P ops C Q (o :: rest) a := by
  refine wpQuiet_step fun K hK => ?_
  rw [if_pos hw]
  refine ⟨v, fun W hW => ?_, hK _ h⟩
  unfold Oper.quietAt
  rw [hv W hW]
  exact ⟨rfl, rfl⟩
theorem in_call (hw : Region.wanted o (yielded ops a.tmps) = true) (f : FuncId) (args : Array Value) (v : Value) (he : ∀ W, C W → (execOp a.eval o).run P W = .ok (.enter f args) W)
    (hc : ∀ W, C W → Calls P f args W fun e w' => e = .returned v ∧ C w') (h : wpQuiet P ops C Q rest (a.put o.dst v)) : wpQuiet P ops C Q (o :: rest) a := by
  refine wpQuiet_step fun K hK => ?_
  rw [if_pos hw]
  refine ⟨v, fun W hW => ?_, hK _ h⟩
  unfold Oper.quietAt
  rw [he W hW]
  exact ⟨rfl, hc W hW⟩
theorem in_idle (hw : Region.wanted o (yielded ops a.tmps) = false) (h : wpQuiet P ops C Q rest (a.put o.dst undef)) : wpQuiet P ops C Q (o :: rest) a := by
  refine wpQuiet_step fun K hK => ?_
  rw [if_neg (by rw [hw]; decide)]
  exact hK _ h
end

/-- The worlds in which all that was there is as it was. -/
def Above (w W : World) : Prop := Below w.heap.size w W
theorem Above.start (w : World) : Above w w.drew := (Below.refl _ _).drew
theorem Above.call {w W w' : World} (h : Above w W) (hb : Below W.heap.size W w') : Above w w' := h.trans (hb.mono h.size)
end Go.Proofs.Ythpfhimdgmckgaa
