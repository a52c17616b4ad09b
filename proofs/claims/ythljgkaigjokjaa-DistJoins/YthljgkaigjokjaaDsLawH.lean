/- DistJoins: pure. -/
import Derived.Test.YthljgkaigjokjaaDsLawA
import Derived.Test.YthljgkaigjokjaaDsJ
namespace Go.Proofs.Ythljgkaigjokjaa
open Go.RowKit Go.Shelf Grm Lay
theorem walkL_cons (l : List Ar) (v d k : Int) (ks : List Int) : walkL l v d (k :: ks) = if 0 ≤ k ∧ k < (l.length : Int) ∧ (l[k.toNat]?.getD (0, 0, 0)).1 = v then walkL l (l[k.toNat]?.getD (0, 0, 0)).2.1 (d + (l[k.toNat]?.getD (0, 0, 0)).2.2) ks else none := rfl
theorem walkL_append (l : List Ar) : ∀ (ks ks' : List Int) (v d : Int), walkL l v d (ks ++ ks') = (walkL l v d ks).bind fun r => walkL l r.1 r.2 ks' := by
  intro ks
  induction ks with
  | nil => intro ks' v d; rfl
  | cons k ks ih =>
    intro ks' v d
    rw [List.cons_append, walkL_cons, walkL_cons]
    split
    · exact ih ks' _ _
    · rfl
theorem walkL_shift (l : List Ar) : ∀ (ks : List Int) (v d e : Int), walkL l v (d + e) ks = (walkL l v e ks).map fun r => (r.1, d + r.2) := by
  intro ks
  induction ks with
  | nil => intro v d e; rfl
  | cons k ks ih =>
    intro v d e
    rw [walkL_cons, walkL_cons]
    split
    · rw [Int.add_assoc]
      exact ih _ _ _
    · rfl
theorem walkL_le {l : List Ar} (hl : Len l) : ∀ (ks : List Int) (v d : Int) (r : Int × Int), walkL l v d ks = some r → d ≤ r.2 ∧ r.2 ≤ d + (ks.length : Int) * 2147483648 := by
  intro ks
  induction ks with
  | nil =>
    intro v d r h
    injection h with h
    subst h
    simp
  | cons k ks ih =>
    intro v d r h
    rw [walkL_cons] at h
    split at h
    · rename_i hk
      have hlt : k.toNat < l.length := by omega
      rw [getD_ar hlt] at h
      have hL := hl _ (List.getElem_mem hlt)
      have := ih _ _ _ h
      rw [List.length_cons]
      omega
    · cases h
/-- A walk behind another. -/
theorem walkR_join {n : Int} {l : List Ar} {s : Int} {ka kb : List Int} {r : Int × Int} (h : walkR n l s ka = some r) : walkR n l s (ka ++ kb) = (walkR n l r.1 kb).map fun q => (q.1, r.2 + q.2) := by
  obtain ⟨hck, h0, h1, u, hu, hw⟩ := walkR_some h
  obtain ⟨N, rfl, _, _, hok, hln⟩ := checkL_zero hck
  have hlt := hw.lt (eds_arc hok hln) (show s.toNat < N by omega)
  unfold walkR at h ⊢
  rw [if_pos ⟨hck, h0, h1⟩] at h ⊢
  rw [if_pos ⟨hck, by omega, by omega⟩, walkL_append, h]
  show walkL l r.1 r.2 kb = _
  rw [← walkL_shift, Int.add_zero]
theorem walkR_none {n : Int} {l : List Ar} {s : Int} {ka kb : List Int} (h : walkR n l s ka = none) : walkR n l s (ka ++ kb) = none := by
  unfold walkR at h ⊢
  split at h
  · rename_i hc
    rw [if_pos hc, walkL_append, h]
    rfl
  · rename_i hc
    rw [if_neg hc]
theorem walkR_le {n : Int} {l : List Ar} {s : Int} {ka : List Int} {r : Int × Int} (h : walkR n l s ka = some r) : 0 ≤ r.2 ∧ r.2 ≤ (ka.length : Int) * 2147483648 := by
  obtain ⟨hck, h0, h1, _⟩ := walkR_some h
  unfold walkR at h
  rw [if_pos ⟨hck, h0, h1⟩] at h
  have := walkL_le (len_of hck) ka s 0 r h
  omega
theorem filter_sub {α : Type} {p q : α → Bool} (h : ∀ x, p x = true → q x = true) : ∀ l : List α, (l.filter p).Sublist (l.filter q) := by
  intro l
  induction l with
  | nil => exact .slnil
  | cons x l ih =>
    by_cases hp : p x = true
    · rw [List.filter_cons_of_pos hp, List.filter_cons_of_pos (h x hp)]
      exact ih.cons_cons x
    · rw [List.filter_cons_of_neg hp]
      by_cases hq : q x = true
      · rw [List.filter_cons_of_pos hq]
        exact ih.cons x
      · rw [List.filter_cons_of_neg hq]
        exact ih
theorem around_sub (L : List Int) (most : Int) : (aroundL L most).Sublist (aroundL L (most + 1)) := by
  unfold aroundL
  refine List.Sublist.map _ (filter_sub (fun v hv => ?_) _)
  simp only [decide_eq_true_eq] at hv ⊢
  omega
theorem around_len (L : List Int) (most : Int) : (aroundL L most).length ≤ L.length := by
  unfold aroundL
  rw [List.length_map]
  exact Nat.le_trans (List.length_filter_le _ _) (by simp)
/-- The count of those that were found, one step on. -/
theorem sub_step {A B : List Int} {i j : Nat} (hi : i < B.length) (h : (A.drop j).Sublist (B.drop i)) :
    (j < A.length → ∀ x y, A[j]? = some x → B[i]? = some y → (x = y → (A.drop (j + 1)).Sublist (B.drop (i + 1))) ∧ (x ≠ y → (A.drop j).Sublist (B.drop (i + 1)))) ∧ (A.length ≤ j → (A.drop j).Sublist (B.drop (i + 1))) := by
  refine ⟨fun hj x y hx hy => ?_, fun hj => ?_⟩
  · rw [List.drop_eq_getElem_cons hi, List.drop_eq_getElem_cons hj] at h
    rw [List.getElem?_eq_getElem hj] at hx
    rw [List.getElem?_eq_getElem hi] at hy
    injection hx with hx
    injection hy with hy
    rw [hx, hy] at h
    refine ⟨fun e => ?_, fun e => ?_⟩
    · subst e
      exact List.cons_sublist_cons.1 h
    · rw [List.drop_eq_getElem_cons hj, hx]
      cases h with
      | cons _ h => exact h
      | cons_cons _ h => exact (e rfl).elim
  · rw [List.drop_eq_nil_of_le hj]
    exact List.nil_sublist _
theorem sub_done {A B : List Int} {j : Nat} (hj : j ≤ A.length) (h : (A.drop j).Sublist (B.drop B.length)) : j = A.length := by
  rw [List.drop_length] at h
  have := List.sublist_nil.1 h
  have := List.drop_eq_nil_iff.1 this
  omega
end Go.Proofs.Ythljgkaigjokjaa
