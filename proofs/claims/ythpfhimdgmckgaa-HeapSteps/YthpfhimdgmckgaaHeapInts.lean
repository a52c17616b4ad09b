/- A list of ints that comes in as an argument; f by a list of keys. -/
import Derived.Test.YthpfhimdgmckgaaHeapN
namespace Go.Proofs.Ythpfhimdgmckgaa
open Go.RowKit

/-- A slice whose first cell is at a reads as these ints. -/
def Ints (w : World) (a : Option Addr) (l : List Int) : Prop := l = [] ∨ ∃ b o, a = some ⟨b, o, none⟩ ∧ ∀ i x, l[i]? = some x → w.cell? ⟨b, o + i, none⟩ = some (.int .i64 x)
theorem Ints.at_ {w w' : World} {a : Option Addr} {l : List Int} (h : Ints w a l) (hb : Below w.heap.size w w') {i : Nat} (hi : i < l.length) : ∃ b o, a = some ⟨b, o, none⟩ ∧ b < w.heap.size ∧ w'.cell? ⟨b, o + i, none⟩ = some (.int .i64 (l[i]'hi)) := by
  rcases h with rfl | ⟨b, o, rfl, h⟩
  · simp at hi
  · have h1 := h i (l[i]'hi) (List.getElem?_eq_getElem hi)
    have hl : b < w.heap.size := block_lt_of_cell h1
    exact ⟨b, o, rfl, hl, (hb.cell (p := ⟨b, _, none⟩) hl).trans h1⟩
theorem ints_of {w : World} {x : Addr} {len cap : Nat} {zs : List Int} (hl : len ≤ cap) (hz : zs.length = cap) (hcell : ∀ i, i < zs.length → w.cell? (x.add i) = some (.int .i64 (zs.getD i 0))) : ∃ l, l.length = len ∧ Ints w (some x) l := by
  rcases Nat.eq_zero_or_pos len with h0 | h0
  · exact ⟨[], by rw [h0]; rfl, .inl rfl⟩
  · obtain ⟨b, o, spot⟩ := x
    have hspot : spot = none := by simpa [Addr.add] using World.cell?_spot (hcell 0 (by omega))
    subst hspot
    refine ⟨zs.take len, by simp; omega, .inr ⟨b, o, rfl, fun i v hv => ?_⟩⟩
    have hi : i < len := by
      have := (List.getElem?_eq_some_iff.1 hv).1
      simp at this
      omega
    rw [List.getElem?_take_of_lt hi] at hv
    have hc := hcell i (by omega)
    have ea : (⟨b, o, none⟩ : Addr).add i = ⟨b, o + i, none⟩ := by
      unfold Addr.add
      by_cases h1 : i = 0 <;> simp [h1]
    rw [ea] at hc
    rw [hc]
    simp [List.getD, hv]

theorem Pair.pop {w wr : World} {x y n : Nat} {f h : Nat → Option Int} (q : Pair w x y n f h wr) (hc : 0 < cnt n f) : Calls Try.prog 20 #[ptr x] wr fun e w' => ∃ (i : Nat) (k : Int), e = .returned (told i k true) ∧ isFirst f i k ∧ Pair w x y n (upd f i none) h w' := by
  obtain ⟨Sx, Sy, q1, q2, q3, q4, q5, q6⟩ := q
  refine (pop_any x n Sx f wr q1).mono ?_
  rintro e w2 (⟨_, hn, _⟩ | ⟨j, l, rfl, hf2, hd⟩)
  · rw [cnt_none n f (fun i _ => hn i)] at hc
    omega
  · exact ⟨j, l, rfl, hf2, Pair.step (f := f) q2 q3 q4 q5 q6 hd⟩
theorem Own.popSome {w wr : World} {x n : Nat} {f : Nat → Option Int} (q : Own w x n f wr) (hc : 0 < cnt n f) : Calls Try.prog 20 #[ptr x] wr fun e w' => ∃ (i : Nat) (k : Int), e = .returned (told i k true) ∧ isFirst f i k ∧ Own w x n (upd f i none) w' := by
  refine q.pop.mono ?_
  rintro e w2 (⟨_, hn, _⟩ | h)
  · rw [cnt_none n f (fun i _ => hn i)] at hc
    omega
  · exact h
theorem cnt_full (n : Nat) (f : Nat → Option Int) (h : ∀ i, i < n → (f i).isSome = true) : cnt n f = n := by
  induction n with
  | zero => rfl
  | succ n ih => rw [cnt_succ, ih (fun i hi => h i (by omega)), h n (by omega)]; rfl
/-- The first j keys. -/
def upto (l : List Int) (j : Nat) : Nat → Option Int := fun i => if i < j then l[i]? else none
theorem upto_zero (l : List Int) : upto l 0 = fun _ => none := by funext i; simp [upto]
theorem upto_succ (l : List Int) (j : Nat) (hj : j < l.length) : upd (upto l j) j (some (l[j]'hj)) = upto l (j + 1) := by
  funext i
  unfold upd upto
  by_cases h : i = j
  · subst h; simp
  · rw [if_neg h]
    by_cases h2 : i < j
    · rw [if_pos h2, if_pos (by omega)]
    · rw [if_neg h2, if_neg (by omega)]
/-- .. but k. -/
def but (f : Nat → Option Int) (k : Nat) : Nat → Option Int := upd f k none
theorem but_skip (l : List Int) (j : Nat) (hj : j < l.length) : but (upto l j) j = but (upto l (j + 1)) j := by
  unfold but
  funext i
  unfold upd upto
  by_cases h : i = j
  · subst h; simp
  · rw [if_neg h, if_neg h]
    by_cases h2 : i < j
    · rw [if_pos h2, if_pos (by omega)]
    · rw [if_neg h2, if_neg (by omega)]
theorem but_succ (l : List Int) (j k : Nat) (hj : j < l.length) (hk : j ≠ k) : upd (but (upto l j) k) j (some (l[j]'hj)) = but (upto l (j + 1)) k := by
  rw [← upto_succ l j hj]
  unfold but
  funext i
  unfold upd
  by_cases h : i = j
  · subst h; simp [hk]
  · simp [h]
theorem but_zero (l : List Int) (k : Nat) : but (upto l 0) k = fun _ => none := by
  rw [upto_zero]
  funext i
  simp [but, upd]
theorem upto_all (l : List Int) (i : Nat) (hi : i < l.length) : upto l l.length i = some (l[i]'hi) := by simp [upto, hi]
end Go.Proofs.Ythpfhimdgmckgaa
