/- Plain mathematics: the document's list, and what is in. Nothing of the program. -/
import Derived.Test.YthpfhimdgmckgaaHeapU
namespace Go.Proofs.Ythpfhimdgmckgaa
open Hp

/-- The list t is what is in by f, each once. -/
def Rel (f : Nat → Option Int) (t : List (Int × Int)) : Prop := (∀ x, x ∈ t ↔ ∃ (i : Nat) (k : Int), x = ((i : Int), k) ∧ f i = some k) ∧ t.Pairwise (fun x y => x.1 ≠ y.1)
section
variable {f : Nat → Option Int} {t : List (Int × Int)}
theorem Rel.nil : Rel (fun _ => none) [] := ⟨fun x => ⟨fun h => by simp at h, fun ⟨_, _, _, h⟩ => by cases h⟩, List.Pairwise.nil⟩
theorem Rel.drop (h : Rel f t) (i : Nat) : Rel (upd f i none) (dropL t i) := by
  refine ⟨fun x => ?_, h.2.filter _⟩
  unfold dropL
  rw [List.mem_filter, h.1 x]
  constructor
  · rintro ⟨⟨j, k, rfl, hj⟩, hne⟩
    have hji : j ≠ i := fun e => by subst e; simp at hne
    exact ⟨j, k, rfl, by rw [upd_other _ _ _ _ hji]; exact hj⟩
  · rintro ⟨j, k, rfl, hj⟩
    by_cases e : j = i
    · subst e; rw [upd_same] at hj; cases hj
    · rw [upd_other _ _ _ _ e] at hj
      exact ⟨⟨j, k, rfl, hj⟩, by simp; omega⟩
theorem Rel.drop_none (h : Rel f t) (id : Int) (hn : ∀ i : Nat, id = i → f i = none) : dropL t id = t := by
  unfold dropL
  rw [List.filter_eq_self]
  intro x hx
  obtain ⟨i, k, rfl, hi⟩ := (h.1 x).1 hx
  simp only [bne_iff_ne, ne_eq]
  intro e
  rw [hn i e.symm] at hi
  cases hi
theorem Rel.drop_lt (h : Rel f t) (i : Nat) (k : Int) (hi : f i = some k) : (dropL t i).length < t.length := by
  unfold dropL
  have hm : ((i : Int), k) ∈ t := (h.1 _).2 ⟨i, k, rfl, hi⟩
  have hle := List.length_filter_le (fun x : Int × Int => x.1 != (i : Int)) t
  rcases Nat.lt_or_ge (t.filter fun x => x.1 != (i : Int)).length t.length with h1 | h1
  · exact h1
  · have heq : (t.filter fun x => x.1 != (i : Int)).length = t.length := by omega
    rw [List.length_filter_eq_length_iff] at heq
    have := heq _ hm
    simp at this
theorem Rel.set (h : Rel f t) (i : Nat) (k : Int) : Rel (upd f i (some k)) (dropL t i ++ [((i : Int), k)]) := by
  have hd := h.drop i
  refine ⟨fun x => ?_, ?_⟩
  · rw [List.mem_append, List.mem_singleton, hd.1 x]
    constructor
    · rintro (⟨j, k', rfl, hj⟩ | rfl)
      · by_cases e : j = i
        · subst e; rw [upd_same] at hj; cases hj
        · exact ⟨j, k', rfl, by rw [upd_other _ _ _ _ e] at hj ⊢; exact hj⟩
      · exact ⟨i, k, rfl, upd_same _ _ _⟩
    · rintro ⟨j, k', rfl, hj⟩
      by_cases e : j = i
      · subst e; rw [upd_same] at hj; injection hj with hj; exact .inr (by rw [hj])
      · exact .inl ⟨j, k', rfl, by rw [upd_other _ _ _ _ e] at hj ⊢; exact hj⟩
  · rw [List.pairwise_append]
    refine ⟨hd.2, List.pairwise_singleton _ _, fun x hx y hy => ?_⟩
    rw [List.mem_singleton] at hy
    subst hy
    obtain ⟨j, k', rfl, hj⟩ := (hd.1 x).1 hx
    show (j : Int) ≠ (i : Int)
    intro e
    have : j = i := by omega
    subst this
    rw [upd_same] at hj
    cases hj
theorem Rel.len (h : Rel f t) (n : Nat) (hn : ∀ i k, f i = some k → i < n) : t.length = cnt n f := by
  have h1 : (t.map fun x => x.1.toNat).Nodup := by
    rw [List.Nodup, List.pairwise_map]
    refine List.Pairwise.imp_of_mem (fun {x y} hx hy hxy e => hxy ?_) h.2
    obtain ⟨i, k, rfl, _⟩ := (h.1 x).1 hx
    obtain ⟨j, l, rfl, _⟩ := (h.1 y).1 hy
    simp at e ⊢
    omega
  have h2 : ((List.range n).filter (fun i => (f i).isSome)).Nodup := List.nodup_range.filter _
  have hp : (t.map fun x => x.1.toNat).Perm ((List.range n).filter (fun i => (f i).isSome)) := by
    rw [List.perm_ext_iff_of_nodup h1 h2]
    intro i
    simp only [List.mem_map, List.mem_range, List.mem_filter]
    constructor
    · rintro ⟨x, hx, rfl⟩
      obtain ⟨i, k, rfl, hi⟩ := (h.1 x).1 hx
      simp
      exact ⟨hn i k hi, by rw [hi]; rfl⟩
    · rintro ⟨_, hi⟩
      obtain ⟨k, hk⟩ := Option.isSome_iff_exists.1 hi
      exact ⟨((i : Int), k), (h.1 _).2 ⟨i, k, rfl, hk⟩, by simp⟩
  have := hp.length_eq
  rw [List.length_map] at this
  exact this
theorem Rel.empty (h : Rel f t) (h0 : t.length = 0) : ∀ i, f i = none := by
  intro i
  cases hf : f i with
  | none => rfl
  | some k =>
    have : ((i : Int), k) ∈ t := (h.1 _).2 ⟨i, k, rfl, hf⟩
    have ht : t = [] := List.eq_nil_of_length_eq_zero h0
    rw [ht] at this
    simp at this
theorem Rel.first (h : Rel f t) {x : Int × Int} (hx : BestL t t.length x) (h0 : 0 < t.length) : ∃ (i : Nat) (k : Int), x = ((i : Int), k) ∧ isFirst f i k := by
  rcases hx with ⟨h1, _⟩ | ⟨_, ⟨r, hr, e⟩, hm⟩
  · omega
  · obtain ⟨i, k, rfl, hi⟩ := (h.1 x).1 (List.mem_of_getElem? e)
    refine ⟨i, k, rfl, hi, fun j k' hj => ?_⟩
    have hmem : ((j : Int), k') ∈ t := (h.1 _).2 ⟨j, k', rfl, hj⟩
    obtain ⟨q, hq, eq⟩ := List.mem_iff_getElem.1 hmem
    have := hm q ((j : Int), k') hq (by rw [List.getElem?_eq_getElem hq, eq])
    simp at this
    omega
theorem Rel.key (h : Rel f t) {i : Nat} {k : Int} (hi : f i = some k) : ∃ (r : Nat) (hr : r < t.length), t[r]'hr = ((i : Int), k) ∧ ∀ j (hj : j < t.length), j < r → (t[j]'hj).1 ≠ (i : Int) := by
  have hmem : ((i : Int), k) ∈ t := (h.1 _).2 ⟨i, k, rfl, hi⟩
  obtain ⟨r, hr, e⟩ := List.mem_iff_getElem.1 hmem
  refine ⟨r, hr, e, fun j hj hjr => ?_⟩
  have := List.pairwise_iff_getElem.1 h.2 j r hj hr hjr
  rw [e] at this
  exact this
theorem Rel.key_none (h : Rel f t) (id : Int) (hn : ∀ i : Nat, id = i → f i = none) : ∀ j (hj : j < t.length), (t[j]'hj).1 ≠ id := by
  intro j hj e
  obtain ⟨i, k, hx, hi⟩ := (h.1 _).1 (List.getElem_mem hj)
  rw [hx] at e
  rw [hn i e.symm] at hi
  cases hi
end
end Go.Proofs.Ythpfhimdgmckgaa
