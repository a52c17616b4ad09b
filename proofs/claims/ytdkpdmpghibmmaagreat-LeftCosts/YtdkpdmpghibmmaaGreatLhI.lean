/- left: what a place costs, counted in pairs, and behind a take. -/
import Derived.Test.YtdkpdmpghibmmaaGreatM10
namespace Go.Proofs.YtdkpdmpghibmmaaGreat
open Go.RowKit Go.Maps Go.Shelf Grm Lay
/-- How many pairs of the first i of A, and B, are of two. -/
def pairP (A B : List Int) (i : Nat) : Nat := ((A.take i).map fun a => (B.filter fun b => b != a).length).sum
theorem pairP_zero (A B : List Int) : pairP A B 0 = 0 := rfl
theorem pairP_succ {A B : List Int} {i : Nat} (h : i < A.length) : pairP A B (i + 1) = pairP A B i + (B.filter fun b => b != A[i]'h).length := by
  unfold pairP
  rw [List.take_succ_eq_append_getElem h, List.map_append, List.sum_append, List.map_cons, List.map_nil, List.sum_cons, List.sum_nil, Nat.add_zero]
def neP (B : List Int) (a : Int) (k : Nat) : Nat := ((B.take k).filter fun b => b != a).length
theorem neP_succ {B : List Int} {a : Int} {k : Nat} (h : k < B.length) : neP B a (k + 1) = neP B a k + (if B[k]'h != a then 1 else 0) := by
  unfold neP
  rw [List.take_succ_eq_append_getElem h, List.filter_append, List.length_append]
  congr 1
  cases hb : (B[k]'h != a) <;> simp [hb]
theorem neP_all (B : List Int) (a : Int) : neP B a B.length = (B.filter fun b => b != a).length := by
  unfold neP
  rw [List.take_length]
theorem ne_count {B : List Int} (hn : B.Nodup) (a : Int) : (B.filter fun b => b != a).length + (if a ∈ B then 1 else 0) = B.length := by
  induction B with
  | nil => simp
  | cons b B ih =>
    have ih := ih (List.nodup_cons.1 hn).2
    have hb := (List.nodup_cons.1 hn).1
    rw [List.filter_cons]
    by_cases e : b = a
    · subst e
      rw [if_neg hb] at ih
      have e0 : (b != b) = false := by simp
      rw [e0]
      simp only [Bool.false_eq_true, if_false, List.length_cons, List.mem_cons, true_or, if_true]
      omega
    · have e2 : (b != a) = true := by simpa using e
      rw [e2]
      simp only [if_true, List.length_cons, List.mem_cons]
      by_cases h : a ∈ B
      · rw [if_pos h] at ih
        rw [if_pos (.inr h)]
        omega
      · rw [if_neg h] at ih
        rw [if_neg (fun h2 => h2.elim (fun e3 => e e3.symm) h)]
        omega
theorem pair_total (A : List Int) {B : List Int} (hn : B.Nodup) : pairP A B A.length + (A.filter fun a => decide (a ∈ B)).length = A.length * B.length := by
  unfold pairP
  rw [List.take_length]
  induction A with
  | nil => simp
  | cons a A ih =>
    have h := ne_count hn a
    rw [List.map_cons, List.sum_cons, List.filter_cons, List.length_cons, Nat.succ_mul]
    by_cases e : a ∈ B
    · rw [if_pos e] at h
      rw [decide_eq_true e]
      simp only [if_true, List.length_cons]
      omega
    · rw [if_neg e] at h
      rw [decide_eq_false e]
      simp only [Bool.false_eq_true, if_false]
      omega
theorem pair_le {A B : List Int} (hn : B.Nodup) {i : Nat} (hi : i ≤ A.length) : pairP A B i ≤ A.length * B.length := by
  have h := pair_total (A.take i) hn
  have e : pairP (A.take i) B (A.take i).length = pairP A B i := by
    unfold pairP
    rw [List.take_length]
  rw [e, List.length_take, Nat.min_eq_left hi] at h
  have h2 : i * B.length ≤ A.length * B.length := Nat.mul_le_mul_right _ hi
  omega
theorem share_keys {α β : Type} (f : Int → Option α) (g : Int → Option β) (N : Nat) : ((keysOf f N).filter fun a => decide (a ∈ keysOf g N)).length = share f g N := by
  unfold share cnt keysOf
  rw [List.filter_map, List.length_map, List.filter_filter]
  congr 1
  refine List.filter_congr fun i hi => ?_
  have hi2 := List.mem_range.1 hi
  have : decide (((i : Nat) : Int) ∈ keysOf g N) = (g (i : Nat)).isSome := by
    cases hg : (g (i : Nat)).isSome
    · simp [mem_keysOf, hg]
    · simp [mem_keysOf, hg, hi2]
  show (decide (((i : Nat) : Int) ∈ keysOf g N) && (f (i : Nat)).isSome) = _
  rw [this, Bool.and_comm]
/-- What it costs, by pairs. -/
theorem cost_pairs {s : LSt} {a : Nat} {N : Nat} (hlen : s.lost.length = N) (hh : s.holds (a : Nat) = true) (hl : s.lost.getD a 0 = 0) : s.cost (a : Nat) = (pairP (keysOf (s.ins (a : Nat)) N) (keysOf (s.F (a : Nat)) N) (keysOf (s.ins (a : Nat)) N).length : Nat) - ((keysOf (s.ins (a : Nat)) N).length : Nat) - ((keysOf (s.F (a : Nat)) N).length : Nat) := by
  have h := pair_total (keysOf (s.ins (a : Nat)) N) ((keysOf_sorted (s.F (a : Nat)) N).imp (fun {a b} (h : a < b) => by omega) : (keysOf (s.F (a : Nat)) N).Nodup)
  rw [share_keys] at h
  unfold LSt.cost
  rw [hh, if_pos rfl, Int.toNat_natCast, hl, hlen]
  rw [keysOf_length, keysOf_length] at *
  have h2 : ((cntF (s.ins (a : Nat)) N * cntF (s.F (a : Nat)) N : Nat) : Int) = (cntF (s.ins (a : Nat)) N : Nat) * (cntF (s.F (a : Nat)) N : Nat) := Int.natCast_mul _ _
  omega
theorem cntF_drop {α : Type} {f g : Int → Option α} {N b : Nat} (hb : b < N) (hg : ∀ z, g z = if z = ((b : Nat) : Int) then none else f z) : cntF g N + (if (f (b : Nat)).isSome then 1 else 0) = cntF f N := by
  unfold cntF
  cases hf : (f (b : Nat)).isSome
  · simp only [Bool.false_eq_true, if_false, Nat.add_zero]
    congr 1
    refine List.filter_congr fun i _ => ?_
    rw [hg]
    split
    · rename_i e; rw [e, hf]; rfl
    · rfl
  · simp only [if_true]
    refine filter_drop hb hf fun i => ?_
    rw [hg]
    by_cases e : i = b
    · subst e; simp
    · have : ¬ ((i : Nat) : Int) = (b : Nat) := by omega
      simp [this, e]
theorem share_drop {α β : Type} {f f' : Int → Option α} {g g' : Int → Option β} {N b : Nat} (hb : b < N) (hf : ∀ z, f' z = if z = ((b : Nat) : Int) then none else f z) (hg : ∀ z, g' z = if z = ((b : Nat) : Int) then none else g z) : share f' g' N + (if (f (b : Nat)).isSome && (g (b : Nat)).isSome then 1 else 0) = share f g N := by
  unfold share cnt
  cases hfb : ((f (b : Nat)).isSome && (g (b : Nat)).isSome)
  · simp only [Bool.false_eq_true, if_false, Nat.add_zero]
    congr 1
    refine List.filter_congr fun i _ => ?_
    rw [hf, hg]
    by_cases e : i = b
    · subst e; simp [hfb]
    · have : ¬ ((i : Nat) : Int) = (b : Nat) := by omega
      simp [this]
  · simp only [if_true]
    refine filter_drop (p := fun i : Nat => (f (i : Nat)).isSome && (g (i : Nat)).isSome) hb hfb fun i => ?_
    rw [hf, hg]
    by_cases e : i = b
    · subst e; simp
    · have : ¬ ((i : Nat) : Int) = (b : Nat) := by omega
      simp [this, e]
/-- What it costs behind a take of another place. -/
theorem cost_take {s : LSt} {N i a b : Nat} (h : Fine s N i) (ha : s.holds (a : Nat) = true) (hb : b < N) (hab : a ≠ b) :
    (s.F (a : Nat) (b : Nat) = none → s.F (b : Nat) (a : Nat) = none → (s.take (b : Nat)).cost (a : Nat) = s.cost (a : Nat)) ∧ (s.take (b : Nat)).cost (a : Nat) ≤ s.cost (a : Nat) + 3 := by
  have haN : a < s.lost.length := by have := (LSt.holds_in ha).2; omega
  have hF : ∀ z, (s.take (b : Nat)).F (a : Nat) z = if z = ((b : Nat) : Int) then none else s.F (a : Nat) z := fun z => by
    show (if ((a : Nat) : Int) = (b : Nat) ∨ z = ((b : Nat) : Int) then none else s.F (a : Nat) z) = _
    by_cases e : z = ((b : Nat) : Int)
    · rw [if_pos e, if_pos (.inr e)]
    · rw [if_neg e, if_neg]
      rintro (e2 | e2)
      · omega
      · exact e e2
  have hI : ∀ z, (s.take (b : Nat)).ins (a : Nat) z = if z = ((b : Nat) : Int) then none else s.ins (a : Nat) z := fun z => by
    show (if z = ((b : Nat) : Int) ∨ ((a : Nat) : Int) = (b : Nat) then none else s.F z (a : Nat)).map (fun _ => ()) = _
    by_cases e : z = ((b : Nat) : Int)
    · rw [if_pos e, if_pos (.inl e)]
      rfl
    · rw [if_neg e, if_neg]
      · rfl
      · rintro (e2 | e2)
        · exact e e2
        · omega
  have hlen := h.len
  have h1 := cntF_drop (N := N) hb hF
  have h2 := cntF_drop (N := N) hb hI
  have h3 := share_drop (N := N) hb hI hF
  have hh : (s.take (b : Nat)).holds (a : Nat) = true := by
    rw [take_holds h, ha]
    have : ¬ ((a : Nat) : Int) = (b : Nat) := by omega
    simp [this]
  have hl : (s.take (b : Nat)).lost.getD a 0 = s.lost.getD a 0 + (if (s.F (b : Nat) (a : Nat)).isSome || (s.F (a : Nat) (b : Nat)).isSome then 1 else 0) := by
    rw [List.getD_eq_getElem?_getD, take_lost_get haN, if_neg hab, List.getD_eq_getElem?_getD, List.getElem?_eq_getElem haN]
    rfl
  have hins : (s.ins (a : Nat) (b : Nat)).isSome = (s.F (b : Nat) (a : Nat)).isSome := by
    unfold LSt.ins
    rw [Option.isSome_map]
  have c0 : s.cost (a : Nat) = ((cntF (s.ins (a : Nat)) N : Nat) : Int) * (cntF (s.F (a : Nat)) N : Nat) - (share (s.ins (a : Nat)) (s.F (a : Nat)) N : Nat) - (cntF (s.ins (a : Nat)) N : Nat) - (cntF (s.F (a : Nat)) N : Nat) + s.lost.getD a 0 := by
    unfold LSt.cost
    rw [ha, if_pos rfl, Int.toNat_natCast, hlen]
  have c1 : (s.take (b : Nat)).cost (a : Nat) = ((cntF ((s.take (b : Nat)).ins (a : Nat)) N : Nat) : Int) * (cntF ((s.take (b : Nat)).F (a : Nat)) N : Nat) - (share ((s.take (b : Nat)).ins (a : Nat)) ((s.take (b : Nat)).F (a : Nat)) N : Nat) - (cntF ((s.take (b : Nat)).ins (a : Nat)) N : Nat) - (cntF ((s.take (b : Nat)).F (a : Nat)) N : Nat) + (s.take (b : Nat)).lost.getD a 0 := by
    unfold LSt.cost
    rw [hh, if_pos rfl, Int.toNat_natCast, take_length, hlen]
  rw [c0, c1, hl]
  rw [hins] at h2 h3
  generalize cntF (s.ins (a : Nat)) N = i0 at *
  generalize cntF (s.F (a : Nat)) N = o0 at *
  generalize share (s.ins (a : Nat)) (s.F (a : Nat)) N = sh0 at *
  generalize cntF ((s.take (b : Nat)).ins (a : Nat)) N = i1 at *
  generalize cntF ((s.take (b : Nat)).F (a : Nat)) N = o1 at *
  generalize share ((s.take (b : Nat)).ins (a : Nat)) ((s.take (b : Nat)).F (a : Nat)) N = sh1 at *
  generalize s.lost.getD a 0 = l0 at *
  constructor
  · intro e1 e2
    have f1 : (s.F (a : Nat) (b : Nat)).isSome = false := by rw [e1]; rfl
    have f2 : (s.F (b : Nat) (a : Nat)).isSome = false := by rw [e2]; rfl
    rw [f1] at h1 h3 ⊢
    rw [f2] at h2 h3 ⊢
    simp only [Bool.false_eq_true, if_false, Bool.or_self, Bool.and_self, Nat.add_zero, Int.add_zero] at h1 h2 h3 ⊢
    rw [h1, h2, h3]
  · cases e1 : (s.F (a : Nat) (b : Nat)).isSome <;> cases e2 : (s.F (b : Nat) (a : Nat)).isSome
    all_goals
      rw [e1] at h1 h3
      rw [e2] at h2 h3
      simp only [Bool.false_eq_true, if_false, if_true, Bool.or_false, Bool.or_true, Bool.false_or, Bool.true_or, Bool.and_true, Bool.and_false, Bool.true_and, Bool.false_and, Bool.or_self, Bool.and_self, Nat.add_zero] at h1 h2 h3 ⊢
    · subst h1 h2 h3
      omega
    · subst h1 h3
      have e : ((i0 : Nat) : Int) = (i1 : Nat) + 1 := by omega
      rw [e, Int.add_mul]
      omega
    · subst h2 h3
      have e : ((o0 : Nat) : Int) = (o1 : Nat) + 1 := by omega
      rw [e, Int.mul_add]
      omega
    · have ei : ((i0 : Nat) : Int) = (i1 : Nat) + 1 := by omega
      have eo : ((o0 : Nat) : Int) = (o1 : Nat) + 1 := by omega
      rw [ei, eo, Int.add_mul, Int.mul_add, Int.mul_add]
      omega
end Go.Proofs.YtdkpdmpghibmmaaGreat
