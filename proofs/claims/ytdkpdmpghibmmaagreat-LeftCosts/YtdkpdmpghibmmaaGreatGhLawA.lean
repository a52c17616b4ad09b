/- GraphTurned (written by mkglawa.py). -/
import Derived.Test.YtdkpdmpghibmmaaGreatGhZ
import Derived.Test.YtdkpdmpghibmmaaGreatGhV
namespace Go.Proofs.YtdkpdmpghibmmaaGreat
open Go.RowKit Go.Shelf Grm Lay

/-- All arcs turned round. -/
def turnA (x : Ar) : Ar := (x.2.1, x.1, x.2.2)
theorem turn_from (l : List Ar) (k : Nat) : fromN (l.map turnA) k = toN l k := by
  unfold fromN toN
  rw [List.getElem?_map]
  cases l[k]? <;> rfl
theorem turn_to (l : List Ar) (k : Nat) : toN (l.map turnA) k = fromN l k := by
  unfold fromN toN
  rw [List.getElem?_map]
  cases l[k]? <;> rfl
theorem turn_w (l : List Ar) (k : Nat) : wN (l.map turnA) k = wN l k := by
  unfold wN
  rw [List.getElem?_map]
  cases l[k]? <;> rfl
theorem turn_bst (l : List Ar) (b : Nat) (g : List Nat) : bst (l.map turnA) b g = bst l b g := by
  unfold bst
  congr 1
  funext b k
  rw [turn_w, turn_w]
theorem turn_uv (l : List Ar) (u v : Nat) : arcsUV (l.map turnA) u v = arcsUV l v u := by
  unfold arcsUV
  rw [List.length_map]
  congr 1
  funext k
  rw [turn_from, turn_to, Bool.and_comm]
theorem turn_best (l : List Ar) (u v : Nat) : bestArc (l.map turnA) u v = bestArc l v u := by
  unfold bestArc
  rw [turn_uv]
  by_cases h : u = v
  · rw [if_pos h, if_pos h.symm]
  · rw [if_neg h, if_neg (fun e => h e.symm)]
    cases (arcsUV l v u).head? with
    | none => rfl
    | some b => rw [Option.map_some, Option.map_some, turn_bst]
theorem turn_edge_in (l : List Ar) (k : Nat) : edge_in (l.map turnA) k = edge_out l k := by
  unfold edge_in edge_out
  rw [List.getElem?_map]
  cases l[k]? <;> rfl
theorem turn_edge_out (l : List Ar) (k : Nat) : edge_out (l.map turnA) k = edge_in l k := by
  unfold edge_in edge_out
  rw [List.getElem?_map]
  cases l[k]? <;> rfl
theorem turn_in (n : Nat) (l : List Ar) (v : Int) : inI n (l.map turnA) v = outI n l v := by
  unfold inI outI inE outE
  split
  · split
    · congr 1
      funext u
      rw [turn_best]
      cases bestArc l v.toNat u with
      | none => rfl
      | some k => rw [Option.map_some, Option.map_some, turn_edge_in]
    · rfl
  · rfl
theorem turn_out (n : Nat) (l : List Ar) (v : Int) : outI n (l.map turnA) v = inI n l v := by
  unfold inI outI inE outE
  split
  · split
    · congr 1
      funext u
      rw [turn_best]
      cases bestArc l u v.toNat with
      | none => rfl
      | some k => rw [Option.map_some, Option.map_some, turn_edge_out]
    · rfl
  · rfl
theorem turn_kept (l : List Ar) : keptL (l.map turnA) = keptL l := by
  unfold keptL
  rw [List.length_map]
  congr 1
  funext k
  rw [turn_best, turn_from, turn_to]
theorem check_of {n : Nat} {l : List Ar} (hn : n ≤ 16777216) (hl : l.length ≤ 67108864) (h : ∀ x ∈ l, 0 ≤ x.1 ∧ x.1 < (n : Int) ∧ 0 ≤ x.2.1 ∧ x.2.1 < (n : Int) ∧ 0 ≤ x.2.2 ∧ x.2.2 ≤ 2147483648) : checkL (n : Nat) l = 0 := by
  unfold checkL
  rw [if_neg (by omega), if_neg (by omega), if_neg]
  rw [List.any_eq_true]
  rintro ⟨x, hx, hb⟩
  have := h x hx
  simp [badA] at hb
  omega
theorem ofL_len (n : Int) (l : List Ar) : (ofL n l).length ≤ 40 := by
  unfold ofL
  rw [List.length_map, List.length_take]
  omega
theorem ofL_ok (n : Int) (l : List Ar) : ∀ x ∈ ofL n l, 0 ≤ x.1 ∧ x.1 < (ofN n : Int) ∧ 0 ≤ x.2.1 ∧ x.2.1 < (ofN n : Int) ∧ 0 ≤ x.2.2 ∧ x.2.2 ≤ 2147483648 := by
  intro x hx
  unfold ofL at hx
  obtain ⟨y, _, rfl⟩ := List.mem_map.1 hx
  have := ofN_le n
  unfold ofA
  refine ⟨Int.emod_nonneg _ (by omega), Int.emod_lt_of_pos _ (by omega), Int.emod_nonneg _ (by omega), Int.emod_lt_of_pos _ (by omega), Int.emod_nonneg _ (by omega), ?_⟩
  have := Int.emod_lt_of_pos y.2.2 (show (0 : Int) < 2147483649 by omega)
  simp only
  omega
theorem ofL_check (n : Int) (l : List Ar) : checkL (ofN n : Nat) (ofL n l) = 0 :=
  check_of (by have := ofN_le n; omega) (by have := ofL_len n l; omega) (ofL_ok n l)
theorem ofT_check (n : Int) (l : List Ar) : checkL (ofN n : Nat) ((ofL n l).map turnA) = 0 :=
  check_of (by have := ofN_le n; omega) (by have := ofL_len n l; rw [List.length_map]; omega) (fun x hx => by
    obtain ⟨y, hy, rfl⟩ := List.mem_map.1 hx
    have := ofL_ok n l y hy
    unfold turnA
    simp only
    omega)
end Go.Proofs.YtdkpdmpghibmmaaGreat
