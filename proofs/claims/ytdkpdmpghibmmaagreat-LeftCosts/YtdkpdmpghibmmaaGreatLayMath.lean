/- Things laid by their places, in the order in which they were: pure. -/
import Derived.ProofKit
namespace Go.Proofs.YtdkpdmpghibmmaaGreat
namespace Lay
variable {α : Type} (p : α → Nat)

def cnt (v : Nat) (l : List α) : Nat := (l.filter fun x => p x == v).length
def lt (v : Nat) (l : List α) : Nat := (l.filter fun x => decide (p x < v)).length
/-- All of place 0, then all of place 1, and so on. -/
def layL (n : Nat) (l : List α) : List α := (List.range n).flatMap fun v => l.filter fun x => p x == v
theorem cnt_app (v : Nat) (a b : List α) : cnt p v (a ++ b) = cnt p v a + cnt p v b := by simp [cnt]
theorem cnt_take {v k : Nat} {xs : List α} (h : k < xs.length) : cnt p v (xs.take (k + 1)) = cnt p v (xs.take k) + if p (xs[k]'h) = v then 1 else 0 := by
  rw [List.take_succ_eq_append_getElem h, cnt_app]
  congr 1
  unfold cnt
  by_cases hp : p (xs[k]'h) = v <;> simp [hp]
theorem cnt_drop {v k : Nat} {xs : List α} (h : k < xs.length) : cnt p v (xs.drop k) = (if p (xs[k]'h) = v then 1 else 0) + cnt p v (xs.drop (k + 1)) := by
  rw [List.drop_eq_getElem_cons h]
  unfold cnt
  by_cases hp : p (xs[k]'h) = v
  · rw [List.filter_cons_of_pos (by simpa using hp)]; simp [hp]; omega
  · rw [List.filter_cons_of_neg (by simpa using hp)]; simp [hp]
theorem cnt_both (v k : Nat) (xs : List α) : cnt p v (xs.take k) + cnt p v (xs.drop k) = cnt p v xs := by
  rw [← cnt_app, List.take_append_drop]
theorem lt_zero (l : List α) : lt p 0 l = 0 := by simp [lt]
theorem lt_succ (v : Nat) (l : List α) : lt p (v + 1) l = lt p v l + cnt p v l := by
  unfold lt cnt
  induction l with
  | nil => rfl
  | cons x t ih =>
    by_cases h1 : p x < v
    · have h2 : p x < v + 1 := by omega
      have h3 : ¬ p x = v := by omega
      simp only [List.filter_cons, h1, h2, decide_true, if_true, List.length_cons]
      have : (p x == v) = false := by simpa using h3
      simp only [this]
      simp only [ih]
      simp; omega
    · by_cases h3 : p x = v
      · have h2 : p x < v + 1 := by omega
        have h4 : (p x == v) = true := by simpa using h3
        simp only [List.filter_cons, h1, h2, h4, decide_true, decide_false, if_true, List.length_cons]
        simp only [ih]
        simp; omega
      · have h2 : ¬ p x < v + 1 := by omega
        have h4 : (p x == v) = false := by simpa using h3
        simp only [List.filter_cons, h1, h2, h4, decide_false]
        simpa using ih
theorem lt_mono {v u : Nat} (h : v ≤ u) (l : List α) : lt p v l ≤ lt p u l := by
  induction u with
  | zero => obtain rfl : v = 0 := by omega
            exact Nat.le_refl _
  | succ u ih =>
    rcases Nat.lt_or_ge v (u + 1) with h' | h'
    · exact Nat.le_trans (ih (by omega)) (by rw [lt_succ]; omega)
    · obtain rfl : v = u + 1 := by omega
      exact Nat.le_refl _
theorem lt_all {n : Nat} {l : List α} (h : ∀ x ∈ l, p x < n) : lt p n l = l.length := by
  unfold lt
  rw [List.filter_eq_self.2 (fun x hx => by simpa using h x hx)]
theorem cnt_le (v : Nat) (l : List α) : cnt p v l ≤ l.length := List.length_filter_le _ _
theorem cnt_none {n v : Nat} {l : List α} (h : ∀ x ∈ l, p x < n) (hv : n ≤ v) : cnt p v l = 0 := by
  unfold cnt
  rw [List.filter_eq_nil_iff.2 (fun x hx => by have := h x hx; simp; omega)]
  rfl
/-- What is filled when all but the first k are laid. -/
def Fill (n : Nat) (xs : List α) (k : Nat) (R : List α) : Prop :=
  R.length = xs.length ∧ ∀ v, v < n → (R.drop (lt p v xs + cnt p v (xs.take k))).take (cnt p v (xs.drop k)) = (xs.drop k).filter fun x => p x == v
theorem Fill.start {n : Nat} {xs R : List α} (h : R.length = xs.length) : Fill p n xs xs.length R := by
  refine ⟨h, fun v _ => ?_⟩
  rw [List.drop_length]
  simp [cnt]
theorem seg_set {R : List α} {a m q : Nat} (x : α) (h : q < a ∨ a + m ≤ q) : ((R.set q x).drop a).take m = (R.drop a).take m := by
  apply List.ext_getElem?
  intro i
  rw [List.getElem?_take, List.getElem?_take]
  by_cases hi : i < m
  · rw [if_pos hi, if_pos hi, List.getElem?_drop, List.getElem?_drop, List.getElem?_set_ne (by omega)]
  · rw [if_neg hi, if_neg hi]
/-- Where the k-th is laid. -/
def spot (xs : List α) (k : Nat) (x : α) : Nat := lt p (p x) xs + cnt p (p x) (xs.take k)
theorem spot_lt {n k : Nat} {xs : List α} (hk : k < xs.length) (hp : ∀ x ∈ xs, p x < n) : spot p xs k (xs[k]'hk) < xs.length := by
  have h1 := lt_succ p (p (xs[k]'hk)) xs
  have h2 := lt_mono p (show p (xs[k]'hk) + 1 ≤ n from hp _ (List.getElem_mem hk)) xs
  rw [lt_all p hp] at h2
  have h3 := cnt_both p (p (xs[k]'hk)) k xs
  have h4 := cnt_drop p (v := p (xs[k]'hk)) hk
  rw [if_pos rfl] at h4
  unfold spot
  omega
theorem Fill.step {n k : Nat} {xs R : List α} (hk : k < xs.length) (hp : ∀ x ∈ xs, p x < n) (h : Fill p n xs (k + 1) R) : Fill p n xs k (R.set (spot p xs k (xs[k]'hk)) (xs[k]'hk)) := by
  refine ⟨by rw [List.length_set]; exact h.1, fun v hv => ?_⟩
  have hs := spot_lt p hk hp
  have ht := cnt_take p (v := v) hk
  have hd := cnt_drop p (v := v) hk
  have hh := h.2 v hv
  generalize hx : xs[k]'hk = x at *
  by_cases hpv : p x = v
  · subst hpv
    rw [if_pos rfl] at ht hd
    rw [hd, List.drop_eq_getElem_cons hk, hx, List.filter_cons_of_pos (by simp)]
    rw [ht] at hh
    have e : lt p (p x) xs + cnt p (p x) (xs.take k) = spot p xs k x := rfl
    have hR : spot p xs k x < (R.set (spot p xs k x) x).length := by rw [List.length_set, h.1]; exact hs
    rw [e, List.drop_eq_getElem_cons (l := R.set (spot p xs k x) x) hR, List.getElem_set_self, Nat.add_comm 1, List.take_succ_cons]
    congr 1
    rw [List.drop_set_of_lt (by omega), ← hh]
    congr 2
  · rw [if_neg hpv] at ht hd
    rw [Nat.add_zero] at ht
    rw [Nat.zero_add] at hd
    rw [hd, List.drop_eq_getElem_cons hk, hx, List.filter_cons_of_neg (by simpa using hpv), ← hh, ht]
    refine seg_set x ?_
    have b1 := cnt_both p v k xs
    have b2 := cnt_both p (p x) k xs
    have b3 := cnt_drop p (v := p x) hk
    rw [hx, if_pos rfl] at b3
    have c1 := lt_succ p v xs
    have c2 := lt_succ p (p x) xs
    unfold spot
    rcases Nat.lt_or_ge v (p x) with hlt | hge
    · have := lt_mono p (show v + 1 ≤ p x from hlt) xs
      right; omega
    · have := lt_mono p (show p x + 1 ≤ v by omega) xs
      left; omega
theorem Fill.upto {n : Nat} {xs R : List α} (h : Fill p n xs 0 R) : ∀ v, v ≤ n → R.take (lt p v xs) = (List.range v).flatMap fun u => xs.filter fun x => p x == u := by
  intro v
  induction v with
  | zero => intro _; rw [lt_zero]; rfl
  | succ v ih =>
    intro hv
    have hh := h.2 v (by omega)
    simp only [List.take_zero, List.drop_zero] at hh
    have e : cnt p v ([] : List α) = 0 := rfl
    rw [e, Nat.add_zero] at hh
    rw [lt_succ, List.take_add, ih (by omega), hh, List.range_succ, List.flatMap_append]
    simp
theorem Fill.all {n : Nat} {xs R : List α} (h : Fill p n xs 0 R) (hp : ∀ x ∈ xs, p x < n) : R = layL p n xs := by
  have := Fill.upto p h n (Nat.le_refl _)
  rw [lt_all p hp, ← h.1, List.take_length] at this
  exact this
/-- What of a row is one place's. -/
theorem lay_seg {n : Nat} {xs : List α} {v : Nat} (hv : v < n) : ((layL p n xs).drop (lt p v xs)).take (cnt p v xs) = xs.filter fun x => p x == v := by
  have hpre : ∀ u, u ≤ n → (((List.range u).flatMap fun u => xs.filter fun x => p x == u) : List α).length = lt p u xs := by
    intro u
    induction u with
    | zero => intro _; rw [lt_zero]; rfl
    | succ u ih =>
      intro hu
      rw [List.range_succ, List.flatMap_append, List.length_append, ih (by omega), lt_succ]
      simp [cnt]
  have hsplit : layL p n xs = ((List.range v).flatMap fun u => xs.filter fun x => p x == u) ++ ((xs.filter fun x => p x == v) ++ ((List.range' (v + 1) (n - (v + 1))).flatMap fun u => xs.filter fun x => p x == u)) := by
    unfold layL
    rw [show n = v + (1 + (n - (v + 1))) by omega, List.range_eq_range', List.range'_append_1.symm, List.flatMap_append, ← List.range_eq_range', ← List.range'_append_1, List.flatMap_append]
    congr 1
    rw [show v + (1 + (n - (v + 1))) - (v + 1) = n - (v + 1) by omega]
    simp
  rw [hsplit, List.drop_append_of_le_length (by rw [hpre v (by omega)]; exact Nat.le_refl _)]
  rw [List.drop_of_length_le (by rw [hpre v (by omega)]; exact Nat.le_refl _), List.nil_append]
  rw [List.take_append_of_le_length (by unfold cnt; exact Nat.le_refl _)]
  exact List.take_of_length_le (by unfold cnt; exact Nat.le_refl _)
end Lay
end Go.Proofs.YtdkpdmpghibmmaaGreat
