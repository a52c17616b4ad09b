/- slices.Collect and AppendSeq of edges, over whatever tells them. -/
import Derived.Test.YtdkpdmpghibmmaaGhB
import Derived.Test.YtdkpdmpghibmmaaGhBw
import Derived.Test.YtdkpdmpghibmmaaColl
import Derived.Test.YtdkpdmpghibmmaaSepX
namespace Go.Proofs.Ytdkpdmpghibmmaa
open Go.RowKit Go.Shelf Grm Lay
attribute [local go_sem] Oper.semAt_some

theorem add_zero_addr (g j : Nat) : (⟨g, 0, none⟩ : Addr).add j = ⟨g, j, none⟩ := by
  unfold Addr.add
  split
  · simp_all
  · simp
theorem news3 (w : World) (a b c : Value) (t : TypeId) : ∀ (j : Nat) (u : Value), [a, b, c][j]? = some u → (w.alloc (.cells #[a, b, c] t)).cell? ((⟨w.heap.size, 0, none⟩ : Addr).add j) = some u := by
  intro j u h
  rw [add_zero_addr, (Row.fresh w t #[a, b, c]).cell j]
  simpa using h
/-- Between two rounds: what was told is laid. -/
def CollI (w : World) (K : Nat) (pre : List Ed) (T : Foot) (W : World) : Prop :=
  ∃ v, Row W w.heap.size 56 #[v] ∧ W.ownsRow K 74 3 v pre.length (ecells pre) ∧ (∀ k, v.ownBlock = some k → T k) ∧ Below w.heap.size w W
theorem CollI.abide {w : World} {K B : Nat} (h : w.heap.size < B) : Abide B (CollI w K) := by
  rintro pre T A A' ⟨v, r1, r2, r3, r4⟩ hT ho
  exact ⟨v, r1.only ho (fun q => by omega), owns_only r2 ho (fun k q h => h.2 (r3 k q)), r3, r4.trans (ho.below (K := w.heap.size) (fun k q => by omega) r4.size)⟩
end Go.Proofs.Ytdkpdmpghibmmaa
