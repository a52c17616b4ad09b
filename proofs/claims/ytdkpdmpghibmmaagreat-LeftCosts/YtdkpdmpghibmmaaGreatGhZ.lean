/- What the chapter's example fixes (known); how a graph is carried through a law. -/
import Derived.Test.YtdkpdmpghibmmaaGreatGhY
namespace Go.Proofs.YtdkpdmpghibmmaaGreat
open Go.RowKit Go.Shelf Grm Lay

theorem EV.shape {w : World} {K : Nat} {v : Value} {l : List Ed} (h : EV w K v l) : ∃ a c, v = .slice a l.length c ∧ Es w a l ∧ l.length ≤ c ∧ ∀ b o, a = some ⟨b, o, none⟩ → K ≤ b := by
  obtain ⟨a, c, rfl, hc, _⟩ := owns_shape h
  exact ⟨a, c, rfl, Es.of h, hc, fun b o e => (owns_lt h b (by rw [e]; rfl)).1⟩
/-- Arcs that a block holds from its begin on. -/
theorem Arcs.of_row {w : World} {g : Nat} {t : TypeId} {l : List Ar} {cs : Array Value} (h : Row w g t cs) (hc : ∀ (j : Nat) (u : Value), (acells l)[j]? = some u → cs[j]? = some u) : Arcs w (some ⟨g, 0, none⟩) l := by
  refine .inr ⟨g, 0, rfl, fun i y hi => ?_⟩
  obtain ⟨hlt, rfl⟩ := List.getElem?_eq_some_iff.1 hi
  obtain ⟨q0, q1, q2⟩ := acells_get l i hlt
  rw [Nat.zero_add, h.cell, h.cell, h.cell]
  exact ⟨hc _ _ q0, hc _ _ q1, hc _ _ q2⟩
theorem Es.of_row {w : World} {g : Nat} {t : TypeId} {l : List Ed} {cs : Array Value} (h : Row w g t cs) (hc : ∀ (j : Nat) (u : Value), (ecells l)[j]? = some u → cs[j]? = some u) : Es w (some ⟨g, 0, none⟩) l := by
  refine .inr ⟨g, 0, rfl, fun i y hi => ?_⟩
  obtain ⟨hlt, rfl⟩ := List.getElem?_eq_some_iff.1 hi
  obtain ⟨q0, q1, q2⟩ := ecells_get l i hlt
  rw [Nat.zero_add, h.cell, h.cell, h.cell]
  exact ⟨hc _ _ q0, hc _ _ q1, hc _ _ q2⟩
def kL : List Ar := [(0, 1, 5), (0, 1, 3), (1, 1, 0)]
theorem kL_check : checkL 2 kL = 0 := by decide
theorem kL_out0 : outI 2 kL 0 = [(1, 3, 1)] := by decide
theorem kL_out1 : outI 2 kL 1 = [] := by decide
end Go.Proofs.YtdkpdmpghibmmaaGreat
