/- A heap of the call's own beside rows of numbers of its own. -/
import Derived.Test.YthpfhimdgmckgaaHeapInts
namespace Go.Proofs.Ythpfhimdgmckgaa
open Go.RowKit Hp

/-- A heap, and a row of n' numbers in block sb. -/
def OwnR (w : World) (x n : Nat) (f : Nat → Option Int) (sb n' : Nat) (s : Nat → Nat) (wr : World) : Prop :=
  ∃ S, Hq wr x S n f ∧ (∀ k, S k → w.heap.size ≤ k) ∧ ¬ S sb ∧ Spots wr sb n' s ∧ w.heap.size ≤ sb ∧ Below w.heap.size w wr
theorem Spots.lt {w : World} {sb n : Nat} {p : Nat → Nat} (h : Spots w sb n p) : sb < w.heap.size := by
  obtain ⟨cs, h, _⟩ := h
  exact h.lt
theorem OwnR.own {w wr : World} {x n sb n' : Nat} {f : Nat → Option Int} {s : Nat → Nat} (h : OwnR w x n f sb n' s wr) : Own w x n f wr := by
  obtain ⟨S, h1, h2, _, _, _, h3⟩ := h
  exact ⟨S, h1, h2, h3⟩
theorem OwnR.spots {w wr : World} {x n sb n' : Nat} {f : Nat → Option Int} {s : Nat → Nat} (h : OwnR w x n f sb n' s wr) : Spots wr sb n' s := by
  obtain ⟨S, _, _, _, h, _⟩ := h
  exact h
theorem OwnR.step {w wr w' : World} {x n sb n' : Nat} {f' : Nat → Option Int} {s : Nat → Nat} {S : Nat → Prop} (h2 : ∀ k, S k → w.heap.size ≤ k) (h3 : ¬ S sb) (h4 : Spots wr sb n' s) (h5 : w.heap.size ≤ sb) (h6 : Below w.heap.size w wr) (hd : Did wr x n S f' w') : OwnR w x n f' sb n' s w' := by
  obtain ⟨S', r1, r2, r3⟩ := hd
  have := h6.size
  exact ⟨S', r1, fun k hk => by rcases r2 k hk with h | h; exact h2 k h; omega, fun hk => by
    rcases r2 sb hk with h | h
    · exact h3 h
    · have := h4.lt; omega, h4.only r3 h3, h5, h6.trans (r3.below h2 h6.size)⟩
theorem OwnR.put {w wr : World} {x n sb n' : Nat} {f : Nat → Option Int} {s : Nat → Nat} (h : OwnR w x n f sb n' s wr) (i v : Nat) : OwnR w x n f sb n' (upd s i v) (wr.setCell ⟨sb, i, none⟩ (.int .i64 v)) := by
  obtain ⟨S, h1, h2, h3, h4, h5, h6⟩ := h
  exact ⟨S, h1.only (S' := fun k => k = sb) ((Only.refl (fun k => k = sb) wr).setCell (p := ⟨sb, i, none⟩) (.inl rfl) _) (fun k hk e => h3 (e ▸ hk)), h2, h3, h4.put v, h5, h6.setCell h5 _⟩
theorem OwnR.popSome {w wr : World} {x n sb n' : Nat} {f : Nat → Option Int} {s : Nat → Nat} (q : OwnR w x n f sb n' s wr) (hc : 0 < cnt n f) : Calls Try.prog 20 #[ptr x] wr fun e w' => ∃ (i : Nat) (k : Int), e = .returned (told i k true) ∧ isFirst f i k ∧ OwnR w x n (upd f i none) sb n' s w' := by
  obtain ⟨S, h1, h2, h3, h4, h5, h6⟩ := q
  refine (pop_any x n S f wr h1).mono ?_
  rintro e w2 (⟨_, hn, _⟩ | ⟨j, l, rfl, hf2, hd⟩)
  · rw [cnt_none n f (fun i _ => hn i)] at hc
    omega
  · exact ⟨j, l, rfl, hf2, OwnR.step h2 h3 h4 h5 h6 hd⟩
theorem Own.beside {w w1 : World} {x n n' : Nat} {f : Nat → Option Int} (q : Own w x n f w1) : OwnR w x n f w1.heap.size n' (fun _ => 0) (w1.alloc (.cells (List.replicate n' (Value.int .i64 0)).toArray 3)) := by
  obtain ⟨S, h1, h2, h3⟩ := q
  exact ⟨S, h1.below ((Below.refl _ _).alloc (Nat.le_refl _) _), h2, fun h => by have := h1.lt _ h; omega, ⟨_, Row.fresh w1 _ _, by simp, fun i hi => by simp [hi]⟩, h3.size, h3.alloc h3.size _⟩
theorem OwnR.b {w wr : World} {x n sb n' : Nat} {f : Nat → Option Int} {s : Nat → Nat} (h : OwnR w x n f sb n' s wr) : Below w.heap.size w wr := h.own.b
theorem OwnR.congr {w wr : World} {x n sb n' : Nat} {f : Nat → Option Int} {s s' : Nat → Nat} (h : OwnR w x n f sb n' s wr) (e : ∀ i, i < n' → s' i = s i) : OwnR w x n f sb n' s' wr := by
  obtain ⟨S, h1, h2, h3, ⟨cs, r1, r2, r3⟩, h5, h6⟩ := h
  exact ⟨S, h1, h2, h3, ⟨cs, r1, r2, fun i hi => by rw [e i hi]; exact r3 i hi⟩, h5, h6⟩
end Go.Proofs.Ythpfhimdgmckgaa
