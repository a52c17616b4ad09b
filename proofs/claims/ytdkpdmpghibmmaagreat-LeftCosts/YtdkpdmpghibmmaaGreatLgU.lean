/- left: what the chapter's example fixes. -/
import Derived.Test.YtdkpdmpghibmmaaGreatLgT
import Derived.Test.YtdkpdmpghibmmaaGreatLgS
import Derived.Test.YtdkpdmpghibmmaaGreatGhZ
namespace Go.Proofs.YtdkpdmpghibmmaaGreat
open Go.RowKit Go.Maps Go.Shelf Grm Lay
attribute [local go_sem ↓] Go.wp_at_zero Go.wp_at_succ
theorem lay_pos {s : LSt} (h : s.Pos) {u v : Int} {x : Wy} (hx : 0 ≤ x.1 ∧ x.1 ≤ 4611686018427387904) : (s.lay u v x).Pos := by
  intro i j y hy
  unfold LSt.lay at hy
  dsimp only at hy
  split at hy
  · injection hy with hy
    subst hy
    exact hx
  · exact h i j y hy
theorem newSt_pos {n : Nat} {l : List Ar} (hl : ∀ x ∈ l, 0 ≤ x.2.2 ∧ x.2.2 ≤ 4611686018427387904) (ks : List Nat) : (newSt n l ks).Pos := by
  unfold newSt
  suffices h : ∀ s : LSt, s.Pos → (ks.foldl (fun s k => s.lay (l.getD k (0, 0, 0)).1 (l.getD k (0, 0, 0)).2.1 (arcW l k)) s).Pos from h _ (fun i j x hx => by cases hx)
  induction ks with
  | nil => exact fun s h => h
  | cons k ks ih =>
    intro s h
    rw [List.foldl_cons]
    refine ih _ (lay_pos h ?_)
    unfold arcW
    dsimp only
    rw [List.getD_eq_getElem?_getD]
    cases hk : l[k]? with
    | none => exact ⟨Int.le_refl _, by decide⟩
    | some x => exact hl x (List.mem_of_getElem? hk)
theorem check_w {n : Nat} {l : List Ar} (h : checkL n l = 0) : ∀ x ∈ l, 0 ≤ x.2.2 ∧ x.2.2 ≤ 4611686018427387904 := by
  obtain ⟨_, _, _, _, _, hw⟩ := checkL_zero h
  intro x hx
  have := hw x hx
  omega
/-- The example's graph. -/
def k8 : List Ar := [(0, 1, 2), (1, 2, 3)]
theorem k8_check : checkL 3 k8 = 0 := by decide
def s8 : LSt := newSt 3 k8 (keptL k8)
theorem s8_eq : s8 = newSt 3 k8 [0, 1] := by
  have : keptL k8 = [0, 1] := by decide
  unfold s8
  rw [this]
theorem s8_F (i j : Int) : s8.F i j = if i = 1 ∧ j = 2 then some (3, -1, 1) else if i = 0 ∧ j = 1 then some (2, -1, 0) else none := by
  rw [s8_eq]
  rfl
theorem s8_pos : s8.Pos := newSt_pos (check_w k8_check) _
theorem s8_cost : s8.cost 1 = -1 := by
  rw [s8_eq]
  decide
theorem s8_near : NearP s8 0 2 7 5 := by
  have h1 : WkL s8 7 0 1 2 := .step 0 1 0 (2, -1, 0) .base (by rw [s8_F]; rfl) (by rw [s8_eq]; decide)
  have h2 : WkL s8 7 0 2 5 := .step 1 2 2 (3, -1, 1) h1 (by rw [s8_F]; rfl) (by rw [s8_eq]; decide)
  exact ⟨by rw [s8_eq]; decide, by rw [s8_eq]; decide, by decide, 5, by decide, h2⟩
theorem s8_not : ¬ NearP s8 0 2 1 99 := by
  rintro ⟨_, _, _, c, _, h⟩
  have key : ∀ p c, WkL s8 1 0 p c → p = 0 := by
    intro p c h
    induction h with
    | base => rfl
    | step p q c x _ hx hm ih =>
      subst ih
      rw [s8_F, if_neg (by omega)] at hx
      split at hx
      · rename_i e
        rw [e.2, s8_eq] at hm
        exact absurd hm (by decide)
      · cases hx
  exact absurd (key 2 c h) (by decide)
theorem near_is {w : World} {l bl bo bi : Nat} {go gi : Int → Option Nat} {s : LSt} (h : Lq w l bl bo bi go gi s) (hps : s.Pos) {u v wo most : Int} (hwu : (Lit.int .i64 u).wf = true) (hwv : (Lit.int .i64 v).wf = true) (hwm : most ≤ 9223372036854775807) {b : Bool} (hb : b = true ↔ NearP s u v wo most) :
    Calls Tryz.prog 26 #[ptr l, .int .i64 u, .int .i64 v, .int .i64 wo, .int .i64 most] w fun e w' => e = .returned (.bool b) ∧ Below w.heap.size w w' := by
  refine (near_any h hps hwu hwv hwm).mono fun e w' ⟨b', h1, h2, h3⟩ => ⟨?_, h3⟩
  have : b' = b := by
    cases b <;> cases b'
    · rfl
    · exact absurd (hb.2 (h2.1 rfl)) (by decide)
    · exact absurd (h2.2 (hb.1 rfl)) (by decide)
    · rfl
  rw [h1, this]
set_option maxRecDepth 100000 in
set_option maxHeartbeats 4000000 in
theorem lknown_any (w : World) : Calls Tryz.prog 17 #[] w fun e w' => e = .returned (.bool true) ∧ Below w.heap.size w w' := by
  obtain ⟨w1, hw1⟩ : ∃ w1, w1 = w.alloc (.cells #[.int .i64 0, .int .i64 1, .int .i64 2, .int .i64 1, .int .i64 2, .int .i64 3] 88) := ⟨_, rfl⟩
  have hb1 : Below w.heap.size w w1 := by rw [hw1]; exact (Below.refl _ _).alloc (Nat.le_refl _) _
  have hA : Arcs w1 (some ⟨w.heap.size, 0, none⟩) k8 := Arcs.of_row (t := 88) (cs := #[.int .i64 0, .int .i64 1, .int .i64 2, .int .i64 1, .int .i64 2, .int .i64 3]) (by rw [hw1]; exact Row.fresh w _ _) (fun j u h => by simpa [k8, acells] using h)
  have HW := Lib.hid hw1
  have HB := Lib.hid hb1
  have HN := Lib.hid (new_any (n := 3) (c := 2) hA k8_check)
  clear hw1 hb1 hA
  go_enter Tryz.func17, Tryz.ntmps17
  go_wp2_with (first
    | (go_at_call 19; rw [← HW.out]; refine HN.out.mono ?_; rintro e w2 ⟨g, rfl, hb2, hg⟩; have HG := Lib.hid (And.intro (HB.out.trans (hb2.mono HB.out.size)) hg); clear hb2 hg))
  refine (left_new HG.out.2 (Nat.le_refl _)).mono ?_
  rintro e w3 ⟨l, bl, bo, bi, go, gi, rfl, hl, _, hb3⟩
  have H3 := Lib.hid (And.intro (show Lq w3 l bl bo bi go gi s8 from hl) (HG.out.1.trans (hb3.mono HG.out.1.size)))
  clear hl hb3
  go_wp2_with fail
  refine (cost_any H3.out.1 (v := 1) (by decide)).mono ?_
  rintro e w4 ⟨rfl, hb4⟩
  have H4 := Lib.hid (And.intro (H3.out.1.under hb4) (H3.out.2.trans (hb4.mono H3.out.2.size)))
  clear hb4
  rw [s8_cost]
  go_wp2_with fail
  refine (near_is H4.out.1 s8_pos (u := 0) (v := 2) (wo := 1) (most := 99) (by decide) (by decide) (by decide) (b := false) ⟨fun e => (by cases e), fun h => absurd h s8_not⟩).mono ?_
  rintro e w5 ⟨rfl, hb5⟩
  have H5 := Lib.hid (And.intro (H4.out.1.under hb5) (H4.out.2.trans (hb5.mono H4.out.2.size)))
  clear hb5
  go_wp2_with fail
  refine (near_is H5.out.1 s8_pos (u := 0) (v := 2) (wo := 7) (most := 5) (by decide) (by decide) (by decide) (b := true) ⟨fun _ => s8_near, fun _ => rfl⟩).mono ?_
  rintro e w6 ⟨rfl, hb6⟩
  have H6 := Lib.hid (H5.out.2.trans (hb6.mono H5.out.2.size))
  clear hb6
  go_wp2_with fail
  refine (places_nil w6).mono ?_
  rintro e w7 ⟨rfl, rfl⟩
  go_wp2
  go_ret
  exact ⟨rfl, H6.out⟩
end Go.Proofs.YtdkpdmpghibmmaaGreat
