/- The tree's list, appended to. -/
import Derived.Test.YthpfhimdgmckgaaHeapE
import Derived.Maps.AppendAt
import Derived.Deep.RegionHeld3
namespace Go.Proofs.Ythpfhimdgmckgaa
open Go.RowKit Hp

/-- The cells of m entries. -/
def elist : Nat → (Nat → Int × Nat) → List Value
  | 0, _ => []
  | m + 1, e => elist m e ++ [.int .i64 (e m).1, .int .i64 (e m).2]
theorem elist_length (m : Nat) (e : Nat → Int × Nat) : (elist m e).length = m * 2 := by
  induction m with
  | zero => rfl
  | succ m ih => simp [elist, ih]; omega
theorem elist_get (m : Nat) (e : Nat → Int × Nat) (j : Nat) (h : j < m) : (elist m e)[j * 2]? = some (.int .i64 (e j).1) ∧ (elist m e)[j * 2 + 1]? = some (.int .i64 (e j).2) := by
  induction m with
  | zero => omega
  | succ m ih =>
    have hl := elist_length m e
    by_cases e1 : j = m
    · subst e1
      simp only [elist]
      rw [List.getElem?_append_right (by omega), List.getElem?_append_right (by omega), hl]
      simp
    · simp only [elist]
      rw [List.getElem?_append_left (by omega), List.getElem?_append_left (by omega)]
      exact ih (by omega)
theorem elist_congr (m : Nat) (e e' : Nat → Int × Nat) (h : ∀ j, j < m → e' j = e j) : elist m e' = elist m e := by
  induction m with
  | zero => rfl
  | succ m ih => simp only [elist]; rw [ih (fun j hj => h j (by omega)), h m (by omega)]
theorem elist_more (m : Nat) (e : Nat → Int × Nat) (k : Int) (i : Nat) : elist (m + 1) (upd e m (k, i)) = elist m e ++ [.int .i64 k, .int .i64 i] := by
  simp only [elist, upd, if_true]
  rw [elist_congr m e]
  intro j hj
  exact upd_other _ _ _ _ (by omega)
theorem take_elist (cs : List Value) (m : Nat) (e : Nat → Int × Nat) (h : ∀ j, j < m → cs[j * 2]? = some (.int .i64 (e j).1) ∧ cs[j * 2 + 1]? = some (.int .i64 (e j).2)) : cs.take (m * 2) = elist m e := by
  induction m with
  | zero => simp [elist]
  | succ m ih =>
    obtain ⟨h1, h2⟩ := h m (by omega)
    have l2 := (List.getElem?_eq_some_iff.1 h2).1
    rw [show (m + 1) * 2 = m * 2 + 1 + 1 by omega, List.take_add_one, List.take_add_one, ih (fun j hj => h j (by omega)), h1, h2]
    simp [elist]

/-- The value of a tree's list: none yet, or a row. -/
def TreeV (w : World) (tv : Value) (m : Nat) (e : Nat → Int × Nat) : Prop := (tv = .slice none 0 0 ∧ m = 0) ∨ ∃ tb c, tv = .slice (some ⟨tb, 0, none⟩) m c ∧ Tree w tb c m e
theorem TreeV.owns {w : World} {tv : Value} {m : Nat} {e : Nat → Int × Nat} (h : TreeV w tv m e) : w.ownsRow 0 61 2 tv m (elist m e) := by
  refine ⟨elist_length m e, ?_⟩
  rcases h with ⟨rfl, rfl⟩ | ⟨tb, c, rfl, cs, hr, hs, hm, hx, hc⟩
  · exact .inl ⟨rfl, rfl⟩
  · exact .inr ⟨tb, c, cs, rfl, Nat.zero_le _, hr, hm, hx, hs, take_elist _ _ _ (fun j hj => by simpa using hc j hj)⟩
theorem TreeV.of_owns {w : World} {v : Value} {m : Nat} {e : Nat → Int × Nat} (h : w.ownsRow 0 61 2 v m (elist m e)) (hm : 0 < m) : ∃ tb c, v = .slice (some ⟨tb, 0, none⟩) m c ∧ Tree w tb c m e := by
  rcases h.2 with ⟨_, h0⟩ | ⟨g, cap, cur, rfl, _, hr, hc, hx, hs, ht⟩
  · omega
  · refine ⟨g, cap, rfl, cur, hr, hs, hc, hx, fun j hj => ?_⟩
    obtain ⟨h1, h2⟩ := elist_get m e j hj
    rw [← ht, List.getElem?_take_of_lt (by omega)] at h1 h2
    exact ⟨by simpa using h1, by simpa using h2⟩
theorem infoE : (Try.prog.info? 61).map (fun i => (i.zero, i.size, i.bytes)) = some (some (.agg #[.int .i64 0, .int .i64 0]), 2, 16) := by kernel_rfl
theorem info_partsE {t : TypeId} {z : Value} {a b : Nat} (h : (Try.prog.info? t).map (fun i => (i.zero, i.size, i.bytes)) = some (some z, a, b)) : ∃ i, Try.prog.info? t = some i ∧ i.zero = some z ∧ i.size = a ∧ i.bytes = b := by
  cases hi : Try.prog.info? t with
  | none => rw [hi] at h; simp at h
  | some i => rw [hi] at h; simp at h; exact ⟨i, rfl, h.1, h.2.1, h.2.2⟩

/-- 'append(tree, e)', e laid in block b. -/
theorem run_appendE {w : World} (ty : TypeId) (tv : Value) (m b : Nat) (e : Nat → Int × Nat) (k : Int) (i : Nat) (h : TreeV w tv m e) (hm : m ≤ 16777216) (h0 : w.cell? ⟨b, 0, none⟩ = some (.int .i64 k)) (h1 : w.cell? ⟨b, 1, none⟩ = some (.int .i64 i)) :
    ∃ tb c w', (Builtin.append_ #[54, 54] ty #[tv, .slice (some ⟨b, 0, none⟩) 1 1]).run Try.prog w = .ok (.slice (some ⟨tb, 0, none⟩) (m + 1) c) w' ∧ Tree w' tb c (m + 1) (upd e m (k, i)) ∧ w.grownBy w' tv.ownBlock ∧ (tv.ownBlock = some tb ∨ tb = w.heap.size) := by
  obtain ⟨inf, hi, hz0, hz1, hz2⟩ := info_partsE infoE
  obtain ⟨v', w', hrun, h2, h3, _, h5⟩ := run_append_own_at (P := Try.prog) w 0 54 ty 61 inf (.agg #[.int .i64 0, .int .i64 0]) 2 16 Try.underlying54 hi hz0 hz1 hz2 rfl (by omega) tv m (elist m e) h.owns ⟨b, 0, none⟩ 1 1 [.int .i64 k, .int .i64 i] rfl (by
      intro j u hu
      match j, hu with
      | 0, hu => injection hu with hu; subst hu; exact h0
      | 1, hu => injection hu with hu; subst hu; exact h1
      | j + 2, hu => simp at hu) (by intro u hu; simp at hu; rcases hu with rfl | rfl <;> rfl) (by simp only [maxLen]; omega) (by omega) (Nat.zero_le _)
  rw [← elist_more] at h2
  obtain ⟨tb, c, rfl, hT⟩ := TreeV.of_owns h2 (by omega)
  refine ⟨tb, c, w', hrun, hT, h3, ?_⟩
  rcases h5 with h5 | h5
  · exact .inl h5.symm
  · injection h5 with h5; exact .inr h5
end Go.Proofs.Ythpfhimdgmckgaa
