/- A range over an iterator, its one variable in a box that has a name. -/
import Derived.Test.YtdkpdmpghibmmaaGreatSep
namespace Go.Proofs.YtdkpdmpghibmmaaGreat
open Go.RowKit
variable {F : Fence} {n : Nat} {P : Program}
/-- As wpIn_rangeFunc_sepB, the box by its name. -/
theorem wpIn_rangeFunc_sepX {α : Type} {g : Operand} {ps : Array Tmp} {assign body : Code} {Q : Exit → Act → World → Prop} {a : Act} {w : World}
    (hro : F.round = none) (h1 : 1 ≤ n) {gf : Nat} {lb : Array Value} (hg : a.eval g = .func (.func gf) #[] lb) (hFg : F.fn gf) (eg : ∀ args w, (callFunc gf args).run P w = .ok (.enter gf args) w)
    {encs : α → Array Value} {Wr : Foot} {R : List α → α → Prop} {S : List α → Prop} (hseq : SeqSep F (n - 1) P gf lb encs Wr R S w) (hWr : ∀ k, Wr k → k < w.heap.size) (hps : ∀ x, (encs x).size = ps.size)
    (I : List α → Foot → World → Prop) (Ix : Code → List α → Foot → World → Prop) (hI : Abide w.heap.size I) (hIx : ∀ c, Abide w.heap.size (Ix c)) (h0 : I [] (fun _ => False) w)
    (t : TypeId) (cs : α → Array Value) (mk : α → Nat → Act)
    (hassign : ∀ (l : Nat) (x : α) (b : Nat) (W : World) (K : Act → World → Prop), W.heap.size = b → K (mk x b) (W.alloc (.cells (cs x) t)) →
      assign.wpIn (F.inRound l) (n - 1 - 1) P (Exit.then K (fun _ _ _ => False)) { tmps := (ps.zip (encs x)).foldl (fun t (p, v) => t.setIfInBounds p v) a.tmps, defers := [] } W)
    (hgrow : ∀ pre T T' W, I pre T W → (∀ k, T k → T' k) → I pre T' W)
    (hbody : ∀ (l : Nat) (pre : List α) (x : α) (bx : Nat) (T : Foot) (W : World), I pre T W → Row W bx t (cs x) → w.heap.size ≤ bx → T bx → R pre x → (∀ k, T k → w.heap.size ≤ k ∧ k < W.heap.size) → w.heap.size ≤ W.heap.size →
      body.wpIn (F.inRound l) (n - 1 - 1) P (sepPost w.heap.size Wr I Ix (pre ++ [x]) T W) (mk x bx) W)
    (hdone : ∀ (D : Nat) (xs : List α) (T : Foot) (W : World), w.heap.size ≤ D → S xs → I xs T W → (∀ k, T k → D + 1 < k ∧ k < W.heap.size) → W.heap[D]? = some (.deferred (some [])) → Q .normal { a with defers := { target := .collected D, args := #[] } :: a.defers } W)
    (hstop : ∀ (D : Nat) (c : Code) (pre : List α) (T : Foot) (W : World), w.heap.size ≤ D → Ix c pre T W → (∀ k, T k → D + 1 < k ∧ k < W.heap.size) → W.heap[D]? = some (.deferred (some [])) → c.wpIn F n P Q { a with defers := { target := .collected D, args := #[] } :: a.defers } W) :
    (Code.rangeFunc g ps assign body).wpIn F n P Q a w :=
  wpIn_rangeFunc_sepB hro h1 hg hFg eg hseq hWr hps I Ix hI hIx h0 t cs mk (fun l x W K hK => hassign l x W.heap.size W K rfl hK) hgrow hbody hdone hstop
end Go.Proofs.YtdkpdmpghibmmaaGreat
