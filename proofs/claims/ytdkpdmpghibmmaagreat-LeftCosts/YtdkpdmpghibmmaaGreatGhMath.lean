/- graph: which arcs are picked, and what each place sees: pure. -/
import Derived.Test.YtdkpdmpghibmmaaGreatGhG
import Derived.Test.YtdkpdmpghibmmaaGreatGhH
namespace Go.Proofs.YtdkpdmpghibmmaaGreat
open Lay
/-- How long an arc is, by its number. -/
def wN (l : List Ar) (k : Nat) : Int := (l[k]?.getD (0, 0, 0)).2.2
/-- The first one of the least length, of b and those. -/
def bst (l : List Ar) (b : Nat) (g : List Nat) : Nat := g.foldl (fun b k => if wN l k < wN l b then k else b) b
/-- What is picked of some with the same ends. -/
def pickG (l : List Ar) (g : List Nat) : Option Nat := if g.any (fun k => fromN l k == toN l k) then none else g.head?.map fun b => bst l b g
def segL (X : List Nat) (z : Nat × Nat) : List Nat := (X.take z.2).drop z.1
def pickL (l : List Ar) (X : List Nat) : List Nat := (grp (sameE l) 0 0 X).filterMap fun z => pickG l (segL X z)
/-- The same, as lists. -/
def grpL (same : Nat → Nat → Bool) : List Nat → List Nat → List (List Nat)
  | _, [] => []
  | acc, [x] => [acc ++ [x]]
  | acc, x :: y :: t => if same x y then grpL same (acc ++ [x]) (y :: t) else (acc ++ [x]) :: grpL same [] (y :: t)
theorem drop_take_succ {X : List Nat} {b k : Nat} (hb : b ≤ k) (hk : k < X.length) : (X.take (k + 1)).drop b = (X.take k).drop b ++ [X[k]'hk] := by
  rw [List.take_succ_eq_append_getElem hk, List.drop_append_of_le_length (by rw [List.length_take]; omega)]
theorem grp_grpL {same : Nat → Nat → Bool} {X : List Nat} : ∀ (m b k : Nat), X.length - k = m → b ≤ k → k ≤ X.length → (grp same b k (X.drop k)).map (segL X) = grpL same ((X.take k).drop b) (X.drop k) := by
  intro m
  induction m with
  | zero =>
    intro b k h hb hk
    obtain rfl : k = X.length := by omega
    rw [List.drop_length]
    simp [grp, grpL]
  | succ m ih =>
    intro b k h hb hk
    by_cases h1 : k + 1 = X.length
    · rw [grp_last h1]
      have hk' : k < X.length := by omega
      have e2 : X.drop (k + 1) = [] := List.drop_of_length_le (by omega)
      rw [List.drop_eq_getElem_cons hk', e2]
      simp only [grp, grpL, List.map_cons, List.map_nil, segL]
      rw [← h1, drop_take_succ hb hk']
    · have h2 : k + 1 < X.length := by omega
      have hk' : k < X.length := by omega
      rw [grp_more h2, List.drop_eq_getElem_cons hk', List.drop_eq_getElem_cons h2]
      simp only [grpL]
      by_cases hs : same (X[k]'hk') (X[k + 1]'h2) = true
      · rw [if_pos hs, if_pos hs, ← List.drop_eq_getElem_cons h2, ih b (k + 1) (by omega) (by omega) (by omega), drop_take_succ hb hk']
      · rw [if_neg hs, if_neg hs, List.map_cons, ← List.drop_eq_getElem_cons h2, ih (k + 1) (k + 1) (by omega) (Nat.le_refl _) (by omega)]
        have e : (X.take (k + 1)).drop (k + 1) = [] := List.drop_of_length_le (by rw [List.length_take]; omega)
        rw [e]
        congr 1
        exact drop_take_succ hb hk'
theorem pickL_eq (l : List Ar) (X : List Nat) : pickL l X = (grpL (sameE l) [] X).filterMap (pickG l) := by
  have h := grp_grpL (same := sameE l) (X := X) X.length 0 0 (by omega) (Nat.le_refl _) (Nat.zero_le _)
  simp only [List.drop_zero, List.take_zero] at h
  unfold pickL
  rw [← h, List.filterMap_map]
  rfl
/-- Lists one behind the other, each of alike ones, of another kind than the next. -/
theorem grpL_one {same : Nat → Nat → Bool} : ∀ (g acc rest : List Nat) (hg : g ≠ []), (∀ x ∈ g, ∀ y ∈ g, same x y = true) → (∀ x ∈ g, ∀ y, rest.head? = some y → same x y = false) → grpL same acc (g ++ rest) = (acc ++ g) :: grpL same [] rest
  | [], _, _, hg, _, _ => absurd rfl hg
  | [x], acc, [], _, _, _ => by simp [grpL]
  | [x], acc, y :: t, _, _, h => by
    have := h x (by simp) y rfl
    simp [grpL, this]
  | x :: y :: t, acc, rest, _, hs, h => by
    have hxy := hs x (by simp) y (by simp)
    have ih := grpL_one (same := same) (y :: t) (acc ++ [x]) rest (by simp) (fun a ha b hb => hs a (List.mem_cons_of_mem _ ha) b (List.mem_cons_of_mem _ hb)) (fun a ha => h a (List.mem_cons_of_mem _ ha))
    simp only [List.cons_append, grpL, hxy, if_true]
    rw [List.cons_append] at ih
    rw [ih]
    simp
theorem grpL_flat {same : Nat → Nat → Bool} (kind : Nat → Int × Int) (hk : ∀ x y, same x y = (kind x == kind y)) : ∀ (Ls : List (List Nat)), (∀ g ∈ Ls, g ≠ [] ∧ ∀ x ∈ g, ∀ y ∈ g, kind x = kind y) → (Ls.Pairwise fun a b => ∀ x ∈ a, ∀ y ∈ b, kind x ≠ kind y) → grpL same [] Ls.flatten = Ls
  | [], _, _ => rfl
  | g :: Ls, h, hp => by
    rw [List.flatten_cons, grpL_one g [] _ (h g (by simp)).1 (fun x hx y hy => by rw [hk]; simpa using (h g (by simp)).2 x hx y hy) ?_, List.nil_append]
    · rw [grpL_flat kind hk Ls (fun a ha => h a (List.mem_cons_of_mem _ ha)) (List.pairwise_cons.1 hp).2]
    · intro x hx y hy
      rw [hk]
      have hm : y ∈ Ls.flatten := List.mem_of_head? hy
      obtain ⟨b, hb, hyb⟩ := List.mem_flatten.1 hm
      have := (List.pairwise_cons.1 hp).1 b hb x hx y hyb
      simpa using this
/-- The arcs from u to v. -/
def arcsUV (l : List Ar) (u v : Nat) : List Nat := (List.range l.length).filter fun k => fromN l k == u && toN l k == v
/-- The one that counts. -/
def bestArc (l : List Ar) (u v : Nat) : Option Nat := if u = v then none else (arcsUV l u v).head?.map fun b => bst l b (arcsUV l u v)
theorem byE_eq (n : Nat) (l : List Ar) : byE n l = (List.range n).flatMap fun u => (List.range n).flatMap fun v => arcsUV l u v := by
  unfold byE byT layL arcsUV
  congr 1
  funext u
  rw [List.filter_flatMap]
  congr 1
  funext v
  rw [List.filter_filter]
theorem pickG_uv (l : List Ar) (u v : Nat) (h : arcsUV l u v ≠ []) : pickG l (arcsUV l u v) = bestArc l u v := by
  have hm : ∀ k ∈ arcsUV l u v, fromN l k = u ∧ toN l k = v := fun k hk => by
    have := (List.mem_filter.1 hk).2
    simpa using this
  unfold pickG bestArc
  by_cases e : u = v
  · rw [if_pos e, if_pos]
    obtain ⟨k, hk⟩ := List.exists_mem_of_ne_nil _ h
    rw [List.any_eq_true]
    exact ⟨k, hk, by have := hm k hk; simp; omega⟩
  · rw [if_neg e, if_neg]
    rw [List.any_eq_true]
    rintro ⟨k, hk, h2⟩
    have := hm k hk
    simp at h2
    omega
theorem flatten_flatMap' {α β : Type} (xs : List α) (f : α → List (List β)) : (xs.flatMap f).flatten = xs.flatMap fun x => (f x).flatten := by
  induction xs with
  | nil => rfl
  | cons x t ih => simp [ih]
theorem pick_byE {n : Nat} {l : List Ar} (hok : EndsOk n l) : pickL l (byE n l) = (List.range n).flatMap fun u => (List.range n).filterMap fun v => bestArc l u v := by
  rw [pickL_eq]
  let Ls : List (List Nat) := (List.range n).flatMap fun u => ((List.range n).map fun v => arcsUV l u v).filter fun g => !g.isEmpty
  have e1 : byE n l = Ls.flatten := by
    rw [byE_eq]
    show _ = List.flatten (List.flatMap _ _)
    rw [flatten_flatMap']
    congr 1
    funext u
    rw [List.flatMap_def]
    generalize (List.range n).map (fun v => arcsUV l u v) = gs
    induction gs with
    | nil => rfl
    | cons g gs ih =>
      cases g with
      | nil => simpa using ih
      | cons x t => simp [ih]
  have hmem : ∀ {u v k}, k ∈ arcsUV l u v → fromN l k = u ∧ toN l k = v := fun hk => by
    have := (List.mem_filter.1 hk).2
    simpa using this
  have e2 : grpL (sameE l) [] Ls.flatten = Ls := by
    refine grpL_flat (fun k => ((l[k]?.getD (0, 0, 0)).1, (l[k]?.getD (0, 0, 0)).2.1)) (fun x y => ?_) Ls (fun g hg => ?_) ?_
    · unfold sameE
      rw [Bool.eq_iff_iff]
      simp [Prod.ext_iff]
    · obtain ⟨u, _, hg⟩ := List.mem_flatMap.1 hg
      obtain ⟨hg, hne⟩ := List.mem_filter.1 hg
      obtain ⟨v, _, rfl⟩ := List.mem_map.1 hg
      refine ⟨by simpa using hne, fun x hx y hy => ?_⟩
      have h1 := hmem hx
      have h2 := hmem hy
      have l1 := (List.mem_range.1 (List.mem_filter.1 hx).1)
      have l2 := (List.mem_range.1 (List.mem_filter.1 hy).1)
      have o1 := hok.at_ l1
      have o2 := hok.at_ l2
      rw [List.getElem?_eq_getElem l1, List.getElem?_eq_getElem l2]
      simp only [Option.getD_some]
      rw [o1.1, o1.2.1, o2.1, o2.2.1, h1.1, h1.2, h2.1, h2.2]
    · show List.Pairwise _ (List.flatMap _ _)
      rw [List.pairwise_flatMap]
      refine ⟨fun u _ => ?_, ?_⟩
      · refine List.Pairwise.filter _ ?_
        rw [List.pairwise_map]
        refine List.Pairwise.imp ?_ (List.pairwise_lt_range (n := n))
        intro v v' hlt x hx y hy he
        have h1 := hmem hx
        have h2 := hmem hy
        simp only [Prod.mk.injEq] at he
        have e1 : fromN l x = fromN l y := by unfold fromN; rw [he.1]
        have e2 : toN l x = toN l y := by unfold toN; rw [he.2]
        omega
      · refine List.Pairwise.imp ?_ (List.pairwise_lt_range (n := n))
        intro u u' hlt a ha b hb x hx y hy he
        obtain ⟨v, _, rfl⟩ := List.mem_map.1 (List.mem_filter.1 ha).1
        obtain ⟨v', _, rfl⟩ := List.mem_map.1 (List.mem_filter.1 hb).1
        have h1 := hmem hx
        have h2 := hmem hy
        simp only [Prod.mk.injEq] at he
        have e1 : fromN l x = fromN l y := by unfold fromN; rw [he.1]
        have e2 : toN l x = toN l y := by unfold toN; rw [he.2]
        omega
  rw [e1, e2]
  show List.filterMap _ (List.flatMap _ _) = _
  rw [List.filterMap_flatMap]
  congr 1
  funext u
  generalize List.range n = vs
  induction vs with
  | nil => rfl
  | cons v vs ih =>
    rw [List.map_cons, List.filter_cons]
    by_cases hne : arcsUV l u v = []
    · have hb : bestArc l u v = none := by unfold bestArc; rw [hne]; simp
      rw [hne]
      simp only [List.isEmpty_nil, Bool.not_true]
      rw [List.filterMap_cons_none hb]
      simpa using ih
    · have : (!(arcsUV l u v).isEmpty) = true := by simpa using hne
      rw [if_pos this]
      have hp := pickG_uv l u v hne
      cases hb : bestArc l u v with
      | none => rw [List.filterMap_cons_none (hp.trans hb), List.filterMap_cons_none hb, ih]
      | some k => rw [List.filterMap_cons_some (hp.trans hb), List.filterMap_cons_some hb, ih]
theorem bst_spec (l : List Ar) : ∀ (g : List Nat) (b : Nat), (bst l b g = b ∨ bst l b g ∈ g) ∧ wN l (bst l b g) ≤ wN l b ∧ ∀ k ∈ g, wN l (bst l b g) ≤ wN l k
  | [], b => ⟨.inl rfl, Int.le_refl _, fun k hk => by cases hk⟩
  | x :: g, b => by
    have e : bst l b (x :: g) = bst l (if wN l x < wN l b then x else b) g := rfl
    rw [e]
    by_cases h : wN l x < wN l b
    · rw [if_pos h]
      obtain ⟨h1, h2, h3⟩ := bst_spec l g x
      refine ⟨?_, by omega, fun k hk => ?_⟩
      · rcases h1 with h1 | h1
        · rw [h1]; simp
        · exact .inr (List.mem_cons_of_mem _ h1)
      · rcases List.mem_cons.1 hk with rfl | hk
        · exact h2
        · exact h3 k hk
    · rw [if_neg h]
      obtain ⟨h1, h2, h3⟩ := bst_spec l g b
      refine ⟨?_, h2, fun k hk => ?_⟩
      · rcases h1 with h1 | h1
        · exact .inl h1
        · exact .inr (List.mem_cons_of_mem _ h1)
      · rcases List.mem_cons.1 hk with rfl | hk
        · omega
        · exact h3 k hk
/-- The first of the least: those ahead of it are longer. -/
theorem bst_first (l : List Ar) : ∀ (g : List Nat) (b : Nat), (∀ k ∈ g, b ≤ k) → g.Pairwise (· < ·) → ∀ k, (k = b ∨ k ∈ g) → k < bst l b g → wN l (bst l b g) < wN l k
  | [], b, _, _, k, hk, hlt => by
    rcases hk with rfl | hk
    · exact absurd hlt (Nat.lt_irrefl _)
    · cases hk
  | x :: g, b, hb, hp, k, hk, hlt => by
    have e : bst l b (x :: g) = bst l (if wN l x < wN l b then x else b) g := rfl
    rw [e] at hlt ⊢
    have hpg := List.pairwise_cons.1 hp
    by_cases h : wN l x < wN l b
    · rw [if_pos h] at hlt ⊢
      have h2 := (bst_spec l g x).2.1
      rcases hk with rfl | hk
      · omega
      · exact bst_first l g x (fun j hj => Nat.le_of_lt (hpg.1 j hj)) hpg.2 k (List.mem_cons.1 hk) hlt
    · rw [if_neg h] at hlt ⊢
      have hbg : ∀ j ∈ g, b ≤ j := fun j hj => hb j (List.mem_cons_of_mem _ hj)
      rcases hk with hk | hk
      · exact bst_first l g b hbg hpg.2 k (.inl hk) hlt
      · rcases List.mem_cons.1 hk with rfl | hk
        · have h1 := hb k (by simp)
          rcases Nat.lt_or_ge b (bst l b g) with h3 | h3
          · have := bst_first l g b hbg hpg.2 b (.inl rfl) h3
            omega
          · omega
        · exact bst_first l g b hbg hpg.2 k (.inr hk) hlt
theorem mem_arcsUV {l : List Ar} {u v k : Nat} : k ∈ arcsUV l u v ↔ k < l.length ∧ fromN l k = u ∧ toN l k = v := by
  unfold arcsUV
  simp [List.mem_filter]
/-- Which arc counts between two places. -/
theorem bestArc_some {l : List Ar} {u v k : Nat} : bestArc l u v = some k ↔ u ≠ v ∧ k < l.length ∧ fromN l k = u ∧ toN l k = v ∧ ∀ j, j < l.length → fromN l j = u → toN l j = v → wN l k < wN l j ∨ (wN l k = wN l j ∧ k ≤ j) := by
  have hsp : (arcsUV l u v).Pairwise (· < ·) := List.Pairwise.filter _ List.pairwise_lt_range
  have key : ∀ b t, arcsUV l u v = b :: t → bst l b (b :: t) ∈ b :: t ∧ ∀ j, j ∈ b :: t → wN l (bst l b (b :: t)) < wN l j ∨ (wN l (bst l b (b :: t)) = wN l j ∧ bst l b (b :: t) ≤ j) := by
    intro b t e
    rw [e] at hsp
    obtain ⟨h1, h2, h3⟩ := bst_spec l (b :: t) b
    refine ⟨by rcases h1 with h1 | h1; rw [h1]; simp; exact h1, fun j hj => ?_⟩
    have e : bst l b (b :: t) = bst l b t := by
      show bst l (if wN l b < wN l b then b else b) t = _
      rw [if_neg (by omega)]
    rcases Nat.lt_or_ge j (bst l b (b :: t)) with hlt | hge
    · left
      rw [e] at hlt ⊢
      have hpg := List.pairwise_cons.1 hsp
      exact bst_first l t b (fun k hk => Nat.le_of_lt (hpg.1 k hk)) hpg.2 j (List.mem_cons.1 hj) hlt
    · have := h3 j hj
      omega
  unfold bestArc
  by_cases e : u = v
  · rw [if_pos e]
    exact ⟨fun h => (by cases h), fun h => absurd e h.1⟩
  · rw [if_neg e]
    cases hA : arcsUV l u v with
    | nil =>
      refine ⟨fun h => (by cases h), fun h => ?_⟩
      have := (mem_arcsUV (l := l) (u := u) (v := v) (k := k)).2 ⟨h.2.1, h.2.2.1, h.2.2.2.1⟩
      rw [hA] at this
      cases this
    | cons b t =>
      obtain ⟨k1, k2⟩ := key b t hA
      simp only [List.head?_cons, Option.map_some, Option.some.injEq]
      constructor
      · rintro rfl
        rw [← hA] at k1
        obtain ⟨m1, m2, m3⟩ := mem_arcsUV.1 k1
        rw [hA] at m1 m2 m3
        exact ⟨e, m1, m2, m3, fun j h1 h2 h3 => k2 j (by rw [← hA]; exact mem_arcsUV.2 ⟨h1, h2, h3⟩)⟩
      · rintro ⟨_, h1, h2, h3, h4⟩
        have m := mem_arcsUV.1 (show bst l b (b :: t) ∈ arcsUV l u v by rw [hA]; exact k1)
        have a1 := h4 _ m.1 m.2.1 m.2.2
        have a2 := k2 k (by rw [← hA]; exact mem_arcsUV.2 ⟨h1, h2, h3⟩)
        omega
theorem bestArc_ex {l : List Ar} {u v j : Nat} (he : u ≠ v) (h1 : j < l.length) (h2 : fromN l j = u) (h3 : toN l j = v) : ∃ k, bestArc l u v = some k := by
  unfold bestArc
  rw [if_neg he]
  cases hA : arcsUV l u v with
  | nil =>
    have := (mem_arcsUV (l := l)).2 ⟨h1, h2, h3⟩
    rw [hA] at this
    cases this
  | cons b t => exact ⟨_, rfl⟩
end Go.Proofs.YtdkpdmpghibmmaaGreat
