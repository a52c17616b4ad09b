/- Arcs of the call's own, and slices.Clone of them. -/
import Derived.Test.YtdkpdmpghibmmaaGreatArcH
import Derived.Test.YtdkpdmpghibmmaaGreatColl
import Derived.Test.YtdkpdmpghibmmaaGreatGhB
import Derived.Lib.SliceRun
namespace Go.Proofs.YtdkpdmpghibmmaaGreat
open Go.RowKit Go.Shelf Grm

/-- The cells of arcs. -/
def acells : List Ar → List Value
  | [] => []
  | x :: t => .int .i64 x.1 :: .int .i64 x.2.1 :: .int .i64 x.2.2 :: acells t
theorem acells_append (t s : List Ar) : acells (t ++ s) = acells t ++ acells s := by
  induction t with
  | nil => rfl
  | cons x t ih => simp [acells, ih]
theorem acells_length (t : List Ar) : (acells t).length = t.length * 3 := by
  induction t with
  | nil => rfl
  | cons x t ih => simp [acells, ih]; omega
theorem acells_get (t : List Ar) (j : Nat) (h : j < t.length) : (acells t)[j * 3]? = some (.int .i64 (t[j]'h).1) ∧ (acells t)[j * 3 + 1]? = some (.int .i64 (t[j]'h).2.1) ∧ (acells t)[j * 3 + 2]? = some (.int .i64 (t[j]'h).2.2) := by
  induction t generalizing j with
  | nil => simp at h
  | cons x t ih =>
    cases j with
    | zero => simp [acells]
    | succ j =>
      have := ih j (by simpa using h)
      simpa [acells, Nat.succ_mul] using this
theorem infoA : (Tryz.prog.info? 88).map (fun i => (i.zero, i.size, i.bytes)) = some (some (.agg #[.int .i64 0, .int .i64 0, .int .i64 0]), 3, 24) := by kernel_rfl
/-- A slice of arcs of the call's own. -/
def AV (w : World) (K : Nat) (v : Value) (l : List Ar) : Prop := w.ownsRow K 88 3 v l.length (acells l)
theorem AV.nil (w : World) (K : Nat) : AV w K (.slice none 0 0) [] := World.ownsRow_nil _ _ _ _
theorem AV.shape {w : World} {K : Nat} {v : Value} {l : List Ar} (h : AV w K v l) : ∃ a c, v = .slice a l.length c := by
  rcases h.2 with ⟨rfl, h0⟩ | ⟨g, cap, cur, rfl, _⟩
  · exact ⟨_, _, by rw [h0]⟩
  · exact ⟨_, _, rfl⟩
theorem AV.arcs {w : World} {K : Nat} {a : Option Addr} {n c : Nat} {l : List Ar} (h : AV w K (.slice a n c) l) : Arcs w a l := by
  rcases h.2 with ⟨hv, h0⟩ | ⟨g, cap, cur, hv, h1, h2, h3, _, hs, ht⟩
  · exact .inl (List.eq_nil_of_length_eq_zero h0)
  · injection hv with hv _ _
    subst hv
    refine .inr ⟨g, 0, rfl, fun i r hr => ?_⟩
    obtain ⟨hi, rfl⟩ := List.getElem?_eq_some_iff.1 hr
    obtain ⟨e1, e2, e3⟩ := acells_get l i hi
    rw [← ht, List.getElem?_take_of_lt (by omega)] at e1 e2 e3
    rw [Nat.zero_add, cell_of_row w g _ cur _ _ h2, cell_of_row w g _ cur _ _ h2, cell_of_row w g _ cur _ _ h2]
    exact ⟨by simpa using e1, by simpa using e2, by simpa using e3⟩
theorem AV.own {w : World} {K : Nat} {v : Value} {l : List Ar} (h : AV w K v l) (k : Nat) (hk : v.ownBlock = some k) : K ≤ k ∧ k < w.heap.size := World.ownsRow.lt h k hk
theorem AV.kept {w w' : World} {K : Nat} {v : Value} {l : List Ar} (h : AV w K v l) {row : Option Nat} (hg : w.grownBy w' row) (hr : v.ownBlock = none ∨ v.ownBlock ≠ row) : AV w' K v l := World.ownsRow.kept h hg hr
theorem AV.under {w w' : World} {K B : Nat} {v : Value} {l : List Ar} (h : AV w K v l) (hb : Below B w w') (hB : w.heap.size ≤ B) : AV w' K v l := by
  refine World.ownsRow.kept (row := Option.none) h ⟨hb.os, hb.tape, hb.output, hb.size, fun k hk _ => hb.block k (by omega)⟩ ?_
  cases hv : v.ownBlock
  · exact .inl rfl
  · exact .inr (by simp)
/-- Arcs that lie from an address on, cell by cell. -/
theorem Arcs.cells {w : World} {b o : Nat} {l : List Ar} (h : Arcs w (some ⟨b, o, none⟩) l) : ∀ (j : Nat) (u : Value), (acells l)[j]? = some u → w.cell? ⟨b, o + j, none⟩ = some u := by
  intro j u hj
  have hlt : j < l.length * 3 := by
    have := (List.getElem?_eq_some_iff.1 hj).1
    rwa [acells_length] at this
  have hq : j / 3 < l.length := by omega
  obtain ⟨b', o', e, x0, x1, x2⟩ := h.at_ hq
  cases e
  obtain ⟨q0, q1, q2⟩ := acells_get l (j / 3) hq
  rcases (show j % 3 = 0 ∨ j % 3 = 1 ∨ j % 3 = 2 by omega) with hr | hr | hr
  · have e : j / 3 * 3 = j := by omega
    rw [e] at q0
    rw [show o + j / 3 * 3 = o + j by omega] at x0
    rw [q0] at hj; injection hj with hj; rw [← hj]; exact x0
  · have e : j / 3 * 3 + 1 = j := by omega
    rw [e] at q1
    rw [show o + j / 3 * 3 + 1 = o + j by omega] at x1
    rw [q1] at hj; injection hj with hj; rw [← hj]; exact x1
  · have e : j / 3 * 3 + 2 = j := by omega
    rw [e] at q2
    rw [show o + j / 3 * 3 + 2 = o + j by omega] at x2
    rw [q2] at hj; injection hj with hj; rw [← hj]; exact x2
theorem acells_one (l : List Ar) : ∀ u ∈ acells l, u.oneCell' = true := by
  induction l with
  | nil => intro u hu; cases hu
  | cons x t ih =>
    intro u hu
    simp only [acells, List.mem_cons] at hu
    rcases hu with rfl | rfl | rfl | hu
    · rfl
    · rfl
    · rfl
    · exact ih u hu
theorem add_addr (b o j : Nat) : (⟨b, o, none⟩ : Addr).add j = ⟨b, o + j, none⟩ := by
  unfold Addr.add
  split
  · simp_all
  · simp
set_option maxRecDepth 100000 in
set_option maxHeartbeats 1000000 in
theorem clone_any (a : Option Addr) (l : List Ar) (c : Nat) (w : World) (h : Arcs w a l) (hl : l.length ≤ 67108864) :
    Calls Tryz.prog 58 #[.slice a l.length c] w fun e w' => Below w.heap.size w w' ∧ ∃ v, e = .returned v ∧ AV w' w.heap.size v l := by
  have q22 : ∀ (w : World) (a : Option Addr) (n c n' c' : Nat), (binOp .eql 22 (.slice a n c) (.slice none n' c')).run Tryz.prog w = .ok (.bool a.isNone) w := fun w a n c n' c' => Lib.run_eql_slice_nil w _ _ a n c n' c' Tryz.underlying22
  cases a with
  | none =>
    have hn : l = [] := by
      rcases h with h | ⟨b, o, e, _⟩
      · exact h
      · cases e
    subst hn
    clear h hl
    go_enter Tryz.func58, Tryz.ntmps58
    go_wp2
    go_ret
    exact ⟨Below.refl _ _, _, rfl, AV.nil _ _⟩
  | some ad =>
    obtain ⟨i0, hi, hz0, hz1, hz2⟩ := info_partsC infoA
    have hc : ∀ (j : Nat) (u : Value), (acells l)[j]? = some u → (w.alloc (.cells #[] 88)).cell? (ad.add j) = some u := by
      intro j u hj
      rcases h with rfl | ⟨b, o, e, h'⟩
      · cases hj
      cases e
      have h : Arcs w (some ⟨b, o, none⟩) l := .inr ⟨b, o, rfl, h'⟩
      rw [add_addr]
      have hx := h.cells j u hj
      exact (World.cell?_alloc_lt _ _ _ (block_lt_of_cell hx)).trans hx
    have HC := Lib.hid hc
    have HL := Lib.hid hl
    have hlen := Lib.hid (acells_length l)
    clear h hl hc
    go_enter Tryz.func58, Tryz.ntmps58
    go_wp2_with (at_builtin; refine wpList_append_own_at _ rfl _ _ 22 rfl w.heap.size 88 i0 (.agg #[.int .i64 0, .int .i64 0, .int .i64 0]) 3 24 Tryz.underlying22 hi hz0 hz1 hz2 rfl (by decide) _ _ _ rfl (World.ownsRow_made w #[] 0 (Nat.le_refl _) (Nat.zero_le _) rfl) ad l.length c (acells l) rfl hlen.out HC.out (acells_one l) (by unfold maxLen; have := HL.out; omega) (by have := HL.out; omega) (by simp) ?_; intro v' w1 hown hgrow _ _; have HA := Lib.hid (And.intro hown hgrow); clear hown hgrow)
    go_ret
    refine ⟨((Below.refl _ w).alloc (Nat.le_refl _) _).grown HA.out.2 (by simp) (by intro k hk; cases hk; exact Nat.le_refl _), v', rfl, ?_⟩
    have := HA.out.1
    simpa [AV] using this
end Go.Proofs.YtdkpdmpghibmmaaGreat
