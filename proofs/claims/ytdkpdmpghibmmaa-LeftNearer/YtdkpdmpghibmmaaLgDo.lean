/- A thing done to what is left, as an argument: five numbers. -/
import Derived.Test.YtdkpdmpghibmmaaLgX
import Derived.Deep.Slices
import Derived.ChangeArms
import Derived.DataReads
namespace Go.Proofs.Ytdkpdmpghibmmaa
open Go.RowKit Go.ChangeShapes Go.WideShapes
theorem do8_one : Try.prog.cellsOf 3 = 1 := by kernel_rfl
theorem do8_five : Try.prog.cellsOf 39 = 5 := by kernel_rfl
section
variable {H : Type} {enc : TypeId × Value → H} {w : World} {base : Nat} {spare : Nat → Bool} {held : Bool}
theorem do8_num {fuel off : Nat} {cs : List Value} {x : DataW H × List MemPlace} (h : DataW.trod enc Try.prog w base spare held fuel 3 ((cs.drop off).take (Try.prog.cellsOf 3)) = some x) : ∃ z, cs[off]? = some (.int .i64 z) ∧ (Lit.int .i64 z).wf = true := by
  obtain ⟨z, hz, _, hw⟩ := DataW.trod_int Try.underlying3 h
  rw [do8_one] at hz
  refine ⟨z, ?_, hw⟩
  have : ((cs.drop off).take 1)[0]? = some (.int .i64 z) := by rw [hz]; rfl
  rw [List.getElem?_take_of_lt (by omega), List.getElem?_drop] at this
  simpa using this
theorem do8_fields {fuel : Nat} {cs : List Value} {x : DataW H × List MemPlace} (h : DataW.trod enc Try.prog w base spare held fuel 39 cs = some x) : ∃ z0 z1 z2 z3 z4, (cs[0]? = some (.int .i64 z0) ∧ cs[1]? = some (.int .i64 z1) ∧ cs[2]? = some (.int .i64 z2) ∧ cs[3]? = some (.int .i64 z3) ∧ cs[4]? = some (.int .i64 z4)) ∧ (Lit.int .i64 z0).wf = true ∧ (Lit.int .i64 z1).wf = true ∧ (Lit.int .i64 z2).wf = true ∧ (Lit.int .i64 z3).wf = true ∧ (Lit.int .i64 z4).wf = true := by
  obtain ⟨xs, k, _, _, _, hl, hf⟩ := DataW.trod_struct Try.underlying39 h
  have hl3 : xs.length = 5 := hl
  have h0 := hf 0 _ rfl
  have h1 := hf 1 _ rfl
  have h2 := hf 2 _ rfl
  have h3 := hf 3 _ rfl
  have h4 := hf 4 _ rfl
  rw [List.getElem?_eq_getElem (by omega)] at h0 h1 h2 h3 h4
  obtain ⟨z0, e0, w0⟩ := do8_num h0
  obtain ⟨z1, e1, w1⟩ := do8_num h1
  obtain ⟨z2, e2, w2⟩ := do8_num h2
  obtain ⟨z3, e3, w3⟩ := do8_num h3
  obtain ⟨z4, e4, w4⟩ := do8_num h4
  exact ⟨z0, z1, z2, z3, z4, ⟨e0, e1, e2, e3, e4⟩, w0, w1, w2, w3, w4⟩
theorem do8_of {fuel : Nat} {cs : Array Value} {x : DataW H × List MemPlace} (h : DataW.trod enc Try.prog w base spare held fuel 39 cs.toList = some x) (hs : cs.size = 5) : ∃ z0 z1 z2 z3 z4, Value.agg cs = .agg #[.int .i64 z0, .int .i64 z1, .int .i64 z2, .int .i64 z3, .int .i64 z4] ∧ (Lit.int .i64 z0).wf = true ∧ (Lit.int .i64 z1).wf = true ∧ (Lit.int .i64 z2).wf = true ∧ (Lit.int .i64 z3).wf = true ∧ (Lit.int .i64 z4).wf = true := by
  obtain ⟨z0, z1, z2, z3, z4, ⟨e0, e1, e2, e3, e4⟩, hw⟩ := do8_fields h
  refine ⟨z0, z1, z2, z3, z4, ?_, hw⟩
  obtain ⟨l⟩ := cs
  match l, hs with
  | [p, q, r, s, t], _ =>
    simp at e0 e1 e2 e3 e4
    subst e0 e1 e2 e3 e4
    rfl
end
end Go.Proofs.Ytdkpdmpghibmmaa
