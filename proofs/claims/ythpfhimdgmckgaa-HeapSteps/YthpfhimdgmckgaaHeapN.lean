/- Heaps beside one another. -/
import Derived.Test.YthpfhimdgmckgaaHeapM
namespace Go.Proofs.Ythpfhimdgmckgaa
open Go.RowKit Hp

/-- One heap's step leaves another as it is, and apart. -/
theorem other {w w' : World} {S S' S2 : Nat → Prop} {g2 n2 : Nat} {h : Nat → Option Int} (h2 : Hq w g2 S2 n2 h) (hs : ∀ k, S' k → S k ∨ w.heap.size ≤ k) (ho : Only S w w') (hd : ∀ k, S k → ¬ S2 k) : Hq w' g2 S2 n2 h ∧ ∀ k, S' k → ¬ S2 k :=
  ⟨h2.only ho (fun k h1 h3 => hd k h3 h1), fun k hk h3 => by
    rcases hs k hk with h4 | h4
    · exact hd k h4 h3
    · have := h2.lt k h3; omega⟩
/-- Two heaps of the call's own. -/
def Pair (w : World) (x y n : Nat) (f h : Nat → Option Int) (wr : World) : Prop :=
  ∃ Sx Sy, Hq wr x Sx n f ∧ Hq wr y Sy n h ∧ (∀ k, Sx k → ¬ Sy k) ∧ (∀ k, Sx k → w.heap.size ≤ k) ∧ (∀ k, Sy k → w.heap.size ≤ k) ∧ Below w.heap.size w wr
theorem Pair.b {w wr : World} {x y n : Nat} {f h : Nat → Option Int} (q : Pair w x y n f h wr) : Below w.heap.size w wr := by
  obtain ⟨_, _, _, _, _, _, _, h⟩ := q
  exact h
theorem Pair.swap {w wr : World} {x y n : Nat} {f h : Nat → Option Int} (q : Pair w x y n f h wr) : Pair w y x n h f wr := by
  obtain ⟨Sx, Sy, q1, q2, q3, q4, q5, q6⟩ := q
  exact ⟨Sy, Sx, q2, q1, fun k h1 h2 => q3 k h2 h1, q5, q4, q6⟩
/-- A step of the first. -/
theorem Pair.step {w wr w' : World} {x y n : Nat} {f h f' : Nat → Option Int} {Sx Sy : Nat → Prop} (q2 : Hq wr y Sy n h) (q3 : ∀ k, Sx k → ¬ Sy k) (q4 : ∀ k, Sx k → w.heap.size ≤ k) (q5 : ∀ k, Sy k → w.heap.size ≤ k) (q6 : Below w.heap.size w wr) (hd : Did wr x n Sx f' w') : Pair w x y n f' h w' := by
  obtain ⟨S', r1, r2, r3⟩ := hd
  obtain ⟨o1, o2⟩ := other q2 r2 r3 q3
  have := q6.size
  exact ⟨S', Sy, r1, o1, o2, fun k hk => by rcases r2 k hk with h | h; exact q4 k h; omega, q5, q6.trans (r3.below q4 q6.size)⟩
theorem Pair.own {w wr : World} {x y n : Nat} {f h : Nat → Option Int} (q : Pair w x y n f h wr) : Own w x n f wr := by
  obtain ⟨Sx, Sy, q1, q2, q3, q4, q5, q6⟩ := q
  exact ⟨Sx, q1, q4, q6⟩
theorem Pair.hlen {w wr : World} {x y n : Nat} {f h : Nat → Option Int} (q : Pair w x y n f h wr) : hlen x wr = cnt n f := q.own.hlen
theorem Pair.did {w wr : World} {x y n : Nat} {f h : Nat → Option Int} (q : Pair w x y n f h wr) (d : Int × Int × Int) : Calls Try.prog 14 #[ptr x, doV d] wr fun e w' => ∃ v f', e = .returned v ∧ DidV n f d v f' ∧ Pair w x y n f' h w' := by
  obtain ⟨Sx, Sy, q1, q2, q3, q4, q5, q6⟩ := q
  refine (did_any x n Sx f d wr q1).mono ?_
  rintro e w2 ⟨v, f', rfl, hv, hd⟩
  exact ⟨v, f', rfl, hv, Pair.step (f := f) q2 q3 q4 q5 q6 hd⟩
theorem Pair.set {w wr : World} {x y n : Nat} {f h : Nat → Option Int} (q : Pair w x y n f h wr) (i : Nat) (k : Int) (hi : i < n) : Calls Try.prog 12 #[ptr x, .int .i64 i, .int .i64 k] wr fun e w' => e = .returned (.bool true) ∧ Pair w x y n (upd f i (some k)) h w' := by
  obtain ⟨Sx, Sy, q1, q2, q3, q4, q5, q6⟩ := q
  refine (set_in x n i Sx f k wr q1 hi).mono ?_
  rintro e w2 ⟨rfl, hd⟩
  exact ⟨rfl, Pair.step (f := f) q2 q3 q4 q5 q6 hd⟩
theorem Pair.clear {w wr : World} {x y n : Nat} {f h : Nat → Option Int} (q : Pair w x y n f h wr) : Calls Try.prog 21 #[ptr x] wr fun e w' => e = .returned (.tuple #[]) ∧ Pair w x y n (fun _ => none) h w' := by
  obtain ⟨Sx, Sy, q1, q2, q3, q4, q5, q6⟩ := q
  refine (clear_any x n Sx f wr q1).mono ?_
  rintro e w2 ⟨rfl, hd⟩
  exact ⟨rfl, Pair.step (f := f) q2 q3 q4 q5 q6 hd⟩
theorem Pair.dropYes {w wr : World} {x y n i : Nat} {f h : Nat → Option Int} {k : Int} (q : Pair w x y n f h wr) (hf : f i = some k) : Calls Try.prog 22 #[ptr x, .int .i64 i] wr fun e w' => e = .returned (.bool true) ∧ Pair w x y n (upd f i none) h w' := by
  obtain ⟨Sx, Sy, q1, q2, q3, q4, q5, q6⟩ := q
  refine (drop_yes x n i Sx f k wr q1 hf).mono ?_
  rintro e w2 ⟨rfl, hd⟩
  exact ⟨rfl, Pair.step (f := f) q2 q3 q4 q5 q6 hd⟩
theorem Pair.dropNo {w wr : World} {x y n i : Nat} {f h : Nat → Option Int} (q : Pair w x y n f h wr) (hi : i < n) (hf : f i = none) : Calls Try.prog 22 #[ptr x, .int .i64 i] wr fun e w' => e = .returned (.bool false) ∧ w' = wr := by
  obtain ⟨Sx, Sy, q1, q2, q3, q4, q5, q6⟩ := q
  exact drop_no x n i Sx f wr q1 hi hf
theorem Pair.popped {w wr : World} {x y n i : Nat} {f h : Nat → Option Int} {k : Int} (q : Pair w x y n f h wr) (hf : isFirst f i k) : Calls Try.prog 20 #[ptr x] wr fun e w' => e = .returned (told i k true) ∧ Pair w x y n (upd f i none) h w' := by
  obtain ⟨Sx, Sy, q1, q2, q3, q4, q5, q6⟩ := q
  refine (pop_any x n Sx f wr q1).mono ?_
  rintro e w2 (⟨_, hn, _⟩ | ⟨j, l, rfl, hf2, hd⟩)
  · have := hf.1; rw [hn] at this; cases this
  · obtain ⟨rfl, rfl⟩ := hf.unique hf2
    exact ⟨rfl, Pair.step (f := f) q2 q3 q4 q5 q6 hd⟩
theorem Own.newPair {w w1 : World} {x n : Nat} {f : Nat → Option Int} (q : Own w x n f w1) (hn : n ≤ 16777216) : Calls Try.prog 11 #[.int .i64 n] w1 fun e w' => ∃ y, e = .returned (ptr y) ∧ Pair w x y n f (fun _ => none) w' := by
  obtain ⟨S, q1, q2, q3⟩ := q
  refine (new_in n w1 hn).mono ?_
  rintro e w2 ⟨y, rfl, Sy, r1, r2, r3⟩
  have := q3.size
  exact ⟨y, rfl, S, Sy, q1.below r3, r1, fun k h1 h2 => by have := q1.lt k h1; have := r2 k h2; omega, q2, fun k hk => by have := r2 k hk; omega, then_below q3 r3⟩

/-- Two heaps, and a third. -/
def Three (w : World) (x y z n : Nat) (f f2 h : Nat → Option Int) (wr : World) : Prop :=
  ∃ Sx Sy Sz, Hq wr x Sx n f ∧ Hq wr y Sy n f2 ∧ Hq wr z Sz n h ∧ (∀ k, Sx k → ¬ Sy k) ∧ (∀ k, Sx k → ¬ Sz k) ∧ (∀ k, Sy k → ¬ Sz k) ∧ (∀ k, Sx k → w.heap.size ≤ k) ∧ (∀ k, Sy k → w.heap.size ≤ k) ∧ (∀ k, Sz k → w.heap.size ≤ k) ∧ Below w.heap.size w wr
theorem Three.b {w wr : World} {x y z n : Nat} {f f2 h : Nat → Option Int} (q : Three w x y z n f f2 h wr) : Below w.heap.size w wr := by
  obtain ⟨_, _, _, _, _, _, _, _, _, _, _, _, h⟩ := q
  exact h
theorem Three.turn {w wr : World} {x y z n : Nat} {f f2 h : Nat → Option Int} (q : Three w x y z n f f2 h wr) : Three w y z x n f2 h f wr := by
  obtain ⟨Sx, Sy, Sz, q1, q2, q3, d1, d2, d3, l1, l2, l3, hb⟩ := q
  exact ⟨Sy, Sz, Sx, q2, q3, q1, d3, fun k h1 h2 => d1 k h2 h1, fun k h1 h2 => d2 k h2 h1, l2, l3, l1, hb⟩
theorem Three.did {w wr : World} {x y z n : Nat} {f f2 h : Nat → Option Int} (q : Three w x y z n f f2 h wr) (d : Int × Int × Int) : Calls Try.prog 14 #[ptr x, doV d] wr fun e w' => ∃ v f', e = .returned v ∧ DidV n f d v f' ∧ Three w x y z n f' f2 h w' := by
  obtain ⟨Sx, Sy, Sz, q1, q2, q3, d1, d2, d3, l1, l2, l3, hb⟩ := q
  refine (did_any x n Sx f d wr q1).mono ?_
  rintro e w2 ⟨v, f', rfl, hv, S', r1, r2, r3⟩
  obtain ⟨o1, o2⟩ := other q2 r2 r3 d1
  obtain ⟨o3, o4⟩ := other q3 r2 r3 d2
  have := hb.size
  exact ⟨v, f', rfl, hv, S', Sy, Sz, r1, o1, o3, o2, o4, d3, fun k hk => by rcases r2 k hk with h | h; exact l1 k h; omega, l2, l3, hb.trans (r3.below l1 hb.size)⟩
theorem Three.len {w wr : World} {x y z n : Nat} {f f2 h : Nat → Option Int} (q : Three w x y z n f f2 h wr) : Calls Try.prog 19 #[ptr x] wr fun e w' => e = .returned (.int .i64 (cnt n f)) ∧ w' = wr := by
  obtain ⟨Sx, Sy, Sz, q1, _⟩ := q
  exact len_any x n Sx f wr q1
theorem Pair.newThree {w w1 : World} {x y n : Nat} {f h : Nat → Option Int} (q : Pair w x y n f h w1) (hn : n ≤ 16777216) : Calls Try.prog 11 #[.int .i64 n] w1 fun e w' => ∃ z, e = .returned (ptr z) ∧ Three w x y z n f h (fun _ => none) w' := by
  obtain ⟨Sx, Sy, q1, q2, q3, q4, q5, q6⟩ := q
  refine (new_in n w1 hn).mono ?_
  rintro e w2 ⟨z, rfl, Sz, r1, r2, r3⟩
  have := q6.size
  exact ⟨z, rfl, Sx, Sy, Sz, q1.below r3, q2.below r3, r1, q3, fun k h1 h2 => by have := q1.lt k h1; have := r2 k h2; omega, fun k h1 h2 => by have := q2.lt k h1; have := r2 k h2; omega, q4, q5, fun k hk => by have := r2 k hk; omega, then_below q6 r3⟩
end Go.Proofs.Ythpfhimdgmckgaa
