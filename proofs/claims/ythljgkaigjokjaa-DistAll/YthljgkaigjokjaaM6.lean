import Derived.Test.YthljgkaigjokjaaM4
import Derived.Test.YthljgkaigjokjaaDsC
/- dist: how far it is by edges and by arcs; the list of it: pure. -/
namespace Go.Proofs.Ythljgkaigjokjaa
open Lay
/-- What the lengths of arcs may be. -/
def Len (l : List Ar) : Prop := ∀ x ∈ l, 0 ≤ x.2.2 ∧ x.2.2 ≤ 2147483648
/-- The arcs from a place, as edges. -/
def arcE (l : List Ar) (u : Nat) : List Ed := (l.filter (fun x => decide (x.1 = (u : Int)))).map fun x => (x.2.1, x.2.2, 0)
theorem mem_arcE {l : List Ar} {u : Nat} {e : Ed} : e ∈ arcE l u ↔ ∃ x ∈ l, x.1 = (u : Int) ∧ e = (x.2.1, x.2.2, 0) := by
  unfold arcE
  simp only [List.mem_map, List.mem_filter, decide_eq_true_eq]
  constructor
  · rintro ⟨x, ⟨h1, h2⟩, rfl⟩
    exact ⟨x, h1, h2, rfl⟩
  · rintro ⟨x, h1, h2, rfl⟩
    exact ⟨x, ⟨h1, h2⟩, rfl⟩
/-- All arcs turned round. -/
def turn (l : List Ar) : List Ar := l.map fun x => (x.2.1, x.1, x.2.2)
theorem mem_turn {l : List Ar} {y : Ar} : y ∈ turn l ↔ ∃ x ∈ l, y = (x.2.1, x.1, x.2.2) := by
  unfold turn
  simp only [List.mem_map]
  constructor
  · rintro ⟨x, h, rfl⟩
    exact ⟨x, h, rfl⟩
  · rintro ⟨x, h, rfl⟩
    exact ⟨x, h, rfl⟩
theorem turn_turn (l : List Ar) : turn (turn l) = l := by
  unfold turn
  rw [List.map_map]
  exact List.map_id'' (fun _ => rfl) l
theorem turn_ok {n : Nat} {l : List Ar} (h : EndsOk n l) : EndsOk n (turn l) := by
  intro y hy
  obtain ⟨x, hx, rfl⟩ := mem_turn.1 hy
  have := h x hx
  simp only
  omega
theorem turn_len {l : List Ar} (h : Len l) : Len (turn l) := by
  intro y hy
  obtain ⟨x, hx, rfl⟩ := mem_turn.1 hy
  exact h x hx
theorem getD_ar {l : List Ar} {k : Nat} (h : k < l.length) : l[k]?.getD (0, 0, 0) = l[k]'h := by rw [List.getElem?_eq_getElem h]; rfl
theorem out_arc {n : Nat} {l : List Ar} (hok : EndsOk n l) {u : Nat} {e : Ed} (h : e ∈ outE n l u) : ∃ x ∈ l, x.1 = (u : Int) ∧ e.1 = x.2.1 ∧ e.2.1 = x.2.2 ∧ u < n := by
  obtain ⟨hu, v, k, hv, hb, rfl⟩ := mem_outE.1 h
  obtain ⟨_, hk, hf, ht, _⟩ := bestArc_some.1 hb
  refine ⟨l[k]'hk, List.getElem_mem hk, ?_, ?_, ?_, hu⟩
  · unfold fromN at hf
    rw [getD_ar hk] at hf
    have := hok _ (List.getElem_mem hk)
    omega
  · show (l[k]?.getD (0, 0, 0)).2.1 = _
    rw [getD_ar hk]
  · show (l[k]?.getD (0, 0, 0)).2.2 = _
    rw [getD_ar hk]
theorem in_arc {n : Nat} {l : List Ar} (hok : EndsOk n l) {v : Nat} {e : Ed} (h : e ∈ inE n l v) : ∃ x ∈ l, x.2.1 = (v : Int) ∧ e.1 = x.1 ∧ e.2.1 = x.2.2 ∧ v < n := by
  obtain ⟨hv, u, k, hu, hb, rfl⟩ := mem_inE.1 h
  obtain ⟨_, hk, hf, ht, _⟩ := bestArc_some.1 hb
  refine ⟨l[k]'hk, List.getElem_mem hk, ?_, ?_, ?_, hv⟩
  · unfold toN at ht
    rw [getD_ar hk] at ht
    have := hok _ (List.getElem_mem hk)
    omega
  · show (l[k]?.getD (0, 0, 0)).1 = _
    rw [getD_ar hk]
  · show (l[k]?.getD (0, 0, 0)).2.2 = _
    rw [getD_ar hk]
theorem eds_out {n : Nat} {l : List Ar} (hok : EndsOk n l) (hl : Len l) : Eds (outE n l) n 2147483648 := by
  refine ⟨fun u e he => ?_, fun u e he => ?_, fun u e he => ?_⟩
  · obtain ⟨x, hx, _, h, _, _⟩ := out_arc hok he
    have := hok x hx
    exact ⟨x.2.1.toNat, by omega, by omega⟩
  · obtain ⟨x, hx, _, _, h, _⟩ := out_arc hok he
    have := hl x hx
    omega
  · obtain ⟨x, hx, _, _, h, _⟩ := out_arc hok he
    have := hl x hx
    omega
theorem eds_in {n : Nat} {l : List Ar} (hok : EndsOk n l) (hl : Len l) : Eds (inE n l) n 2147483648 := by
  refine ⟨fun u e he => ?_, fun u e he => ?_, fun u e he => ?_⟩
  · obtain ⟨x, hx, _, h, _, _⟩ := in_arc hok he
    have := hok x hx
    exact ⟨x.1.toNat, by omega, by omega⟩
  · obtain ⟨x, hx, _, _, h, _⟩ := in_arc hok he
    have := hl x hx
    omega
  · obtain ⟨x, hx, _, _, h, _⟩ := in_arc hok he
    have := hl x hx
    omega
theorem eds_arc {n : Nat} {l : List Ar} (hok : EndsOk n l) (hl : Len l) : Eds (arcE l) n 2147483648 := by
  refine ⟨fun u e he => ?_, fun u e he => ?_, fun u e he => ?_⟩
  · obtain ⟨x, hx, _, rfl⟩ := mem_arcE.1 he
    have := hok x hx
    exact ⟨x.2.1.toNat, by simp only; omega, by omega⟩
  · obtain ⟨x, hx, _, rfl⟩ := mem_arcE.1 he
    exact (hl x hx).1
  · obtain ⟨x, hx, _, rfl⟩ := mem_arcE.1 he
    exact (hl x hx).2
/-- A walk that begins with an edge. -/
theorem Wk.cons {E : Nat → List Ed} {u v x : Nat} {d : Int} {e : Ed} (he : e ∈ E u) (hv : e.1 = (v : Int)) (h : Wk E v x d) : Wk E u x (e.2.1 + d) := by
  induction h with
  | nil =>
    have := Wk.snoc (Wk.nil (E := E) (s := u)) he hv
    rwa [show (0 : Int) + e.2.1 = e.2.1 + 0 by omega] at this
  | snoc _ he' hv' ih =>
    have := Wk.snoc ih he' hv'
    rwa [Int.add_assoc] at this
/-- A walk behind another. -/
theorem Wk.join {E : Nat → List Ed} {s u v : Nat} {a b : Int} (h : Wk E s u a) (h' : Wk E u v b) : Wk E s v (a + b) := by
  induction h' with
  | nil => rwa [Int.add_zero]
  | snoc _ he hv ih =>
    have := Wk.snoc ih he hv
    rwa [Int.add_assoc] at this
theorem wk_turn {l : List Ar} {s v : Nat} {d : Int} (h : Wk (arcE (turn l)) s v d) : Wk (arcE l) v s d := by
  induction h with
  | nil => exact .nil
  | snoc _ he hv ih =>
    obtain ⟨y, hy, hu, rfl⟩ := mem_arcE.1 he
    obtain ⟨x, hx, rfl⟩ := mem_turn.1 hy
    have := Wk.cons (mem_arcE.2 ⟨x, hx, hv, rfl⟩) hu ih
    rwa [Int.add_comm] at this
theorem wk_turn_iff {l : List Ar} {s v : Nat} {d : Int} : Wk (arcE (turn l)) s v d ↔ Wk (arcE l) v s d :=
  ⟨wk_turn, fun h => wk_turn (by rwa [turn_turn])⟩
theorem out_wk {n : Nat} {l : List Ar} (hok : EndsOk n l) {s v : Nat} {d : Int} (h : Wk (outE n l) s v d) : Wk (arcE l) s v d := by
  induction h with
  | nil => exact .nil
  | snoc _ he hv ih =>
    obtain ⟨x, hx, h1, h2, h3, _⟩ := out_arc hok he
    rw [h3]
    exact Wk.snoc (e := (x.2.1, x.2.2, 0)) ih (mem_arcE.2 ⟨x, hx, h1, rfl⟩) (by rw [← hv, h2])
theorem in_wk {n : Nat} {l : List Ar} (hok : EndsOk n l) {s v : Nat} {d : Int} (h : Wk (inE n l) s v d) : Wk (arcE (turn l)) s v d := by
  induction h with
  | nil => exact .nil
  | snoc _ he hv ih =>
    obtain ⟨x, hx, h1, h2, h3, _⟩ := in_arc hok he
    rw [h3]
    exact Wk.snoc (e := (x.1, x.2.2, 0)) ih (mem_arcE.2 ⟨(x.2.1, x.1, x.2.2), mem_turn.2 ⟨x, hx, rfl⟩, h1, rfl⟩) (by rw [← hv, h2])
theorem bestW_le {n : Nat} {l : List Ar} (hok : EndsOk n l) {u v : Nat} (hne : u ≠ v) {x : Ar} (hx : x ∈ l) (h1 : x.1 = (u : Int)) (h2 : x.2.1 = (v : Int)) :
    ∃ k, bestArc l u v = some k ∧ k < l.length ∧ (l[k]?.getD (0, 0, 0)).1 = (u : Int) ∧ (l[k]?.getD (0, 0, 0)).2.1 = (v : Int) ∧ (l[k]?.getD (0, 0, 0)).2.2 ≤ x.2.2 := by
  obtain ⟨j, hj, rfl⟩ := List.mem_iff_getElem.1 hx
  have hf : fromN l j = u := by unfold fromN; rw [getD_ar hj]; omega
  have ht : toN l j = v := by unfold toN; rw [getD_ar hj]; omega
  obtain ⟨k, hk⟩ := bestArc_ex hne hj hf ht
  obtain ⟨_, hlt, kf, kt, hb⟩ := bestArc_some.1 hk
  have hB := hb j hj hf ht
  unfold wN at hB
  rw [getD_ar hj] at hB
  have hK := hok _ (List.getElem_mem hlt)
  unfold fromN at kf
  unfold toN at kt
  rw [getD_ar hlt] at kf kt
  refine ⟨k, hk, hlt, ?_, ?_, by omega⟩
  · rw [getD_ar hlt]
    omega
  · rw [getD_ar hlt]
    omega
theorem wk_out {n : Nat} {l : List Ar} (hok : EndsOk n l) (hl : Len l) {s v : Nat} {d : Int} (h : Wk (arcE l) s v d) : ∃ d', Wk (outE n l) s v d' ∧ d' ≤ d := by
  induction h with
  | nil => exact ⟨0, .nil, by omega⟩
  | snoc _ he hv ih =>
    rename_i u v d e _
    obtain ⟨d', hd, hle⟩ := ih
    obtain ⟨x, hx, hu, rfl⟩ := mem_arcE.1 he
    have hL := hl x hx
    have hK := hok x hx
    dsimp only at hv ⊢
    by_cases e : u = v
    · subst e
      exact ⟨d', hd, by omega⟩
    · obtain ⟨k, hb, _, _, hkv, hw⟩ := bestW_le hok e hx hu hv
      refine ⟨_, Wk.snoc hd (mem_outE.2 ⟨by omega, v, k, by omega, hb, rfl⟩) hkv, ?_⟩
      show d' + (l[k]?.getD (0, 0, 0)).2.2 ≤ _
      omega
theorem wk_in {n : Nat} {l : List Ar} (hok : EndsOk n l) (hl : Len l) {s v : Nat} {d : Int} (h : Wk (arcE (turn l)) s v d) : ∃ d', Wk (inE n l) s v d' ∧ d' ≤ d := by
  induction h with
  | nil => exact ⟨0, .nil, by omega⟩
  | snoc _ he hv ih =>
    rename_i u v d e _
    obtain ⟨d', hd, hle⟩ := ih
    obtain ⟨y, hy, hu, rfl⟩ := mem_arcE.1 he
    obtain ⟨x, hx, rfl⟩ := mem_turn.1 hy
    have hL := hl x hx
    have hK := hok x hx
    dsimp only at hv hu ⊢
    by_cases e : v = u
    · subst e
      exact ⟨d', hd, by omega⟩
    · obtain ⟨k, hb, _, hkv, _, hw⟩ := bestW_le hok e hx hv hu
      refine ⟨_, Wk.snoc hd (mem_inE.2 ⟨by omega, v, k, by omega, hb, rfl⟩) hkv, ?_⟩
      show d' + (l[k]?.getD (0, 0, 0)).2.2 ≤ _
      omega
/-- By these edges it is as far as by those. -/
def SameD (E E' : Nat → List Ed) : Prop := (∀ s v d, Wk E s v d → ∃ d', Wk E' s v d' ∧ d' ≤ d) ∧ ∀ s v d, Wk E' s v d → ∃ d', Wk E s v d' ∧ d' ≤ d
theorem same_out {n : Nat} {l : List Ar} (hok : EndsOk n l) (hl : Len l) : SameD (outE n l) (arcE l) :=
  ⟨fun _ _ d h => ⟨d, out_wk hok h, Int.le_refl _⟩, fun _ _ _ h => wk_out hok hl h⟩
theorem same_in {n : Nat} {l : List Ar} (hok : EndsOk n l) (hl : Len l) : SameD (inE n l) (arcE (turn l)) :=
  ⟨fun _ _ d h => ⟨d, in_wk hok h, Int.le_refl _⟩, fun _ _ _ h => wk_in hok hl h⟩
theorem SameD.symm {E E' : Nat → List Ed} (h : SameD E E') : SameD E' E := ⟨h.2, h.1⟩
theorem SameD.isD {E E' : Nat → List Ed} (h : SameD E E') {s v : Nat} {d : Int} (hd : IsD E s v d) : IsD E' s v d := by
  obtain ⟨d', h1, h2⟩ := h.1 _ _ _ hd.1
  obtain ⟨d2, h3, h4⟩ := h.2 _ _ _ h1
  have := hd.2 _ h3
  have e : d' = d := by omega
  subst e
  refine ⟨h1, fun q hq => ?_⟩
  obtain ⟨q', h5, h6⟩ := h.2 _ _ _ hq
  have := hd.2 _ h5
  omega
/-- How far it is from s to each place; -1 where no walk leads. -/
def FarL (E : Nat → List Ed) (N s : Nat) (L : List Int) : Prop := L.length = N ∧ ∀ v, v < N → (∃ d, L[v]? = some d ∧ IsD E s v d) ∨ (L[v]? = some (-1) ∧ ∀ d, ¬ Wk E s v d)
theorem FarL.same {E E' : Nat → List Ed} (h : SameD E E') {N s : Nat} {L : List Int} (hL : FarL E N s L) : FarL E' N s L := by
  refine ⟨hL.1, fun v hv => ?_⟩
  rcases hL.2 v hv with ⟨d, h1, h2⟩ | ⟨h1, h2⟩
  · exact .inl ⟨d, h1, h.isD h2⟩
  · refine .inr ⟨h1, fun d hd => ?_⟩
    obtain ⟨d', h3, _⟩ := h.2 _ _ _ hd
    exact h2 _ h3
theorem FarL.uniq {E : Nat → List Ed} {N s : Nat} {L L' : List Int} (h : FarL E N s L) (h' : FarL E N s L') : L = L' := by
  apply List.ext_getElem?
  intro v
  by_cases hv : v < N
  · rcases h.2 v hv with ⟨d, h1, h2⟩ | ⟨h1, h2⟩
    · rcases h'.2 v hv with ⟨d', h3, h4⟩ | ⟨_, h4⟩
      · rw [h1, h3, h2.uniq h4]
      · exact (h4 _ h2.1).elim
    · rcases h'.2 v hv with ⟨d', _, h4⟩ | ⟨h3, _⟩
      · exact (h2 _ h4.1).elim
      · rw [h1, h3]
  · rw [List.getElem?_eq_none (by have := h.1; omega), List.getElem?_eq_none (by have := h'.1; omega)]
theorem least_int (p : Int → Prop) (hp : ∀ d, p d → 0 ≤ d) {d : Int} (h : p d) : ∃ m, p m ∧ ∀ d', p d' → m ≤ d' := by
  obtain ⟨k, hk⟩ : ∃ k : Nat, d = k := ⟨d.toNat, by have := hp d h; omega⟩
  induction k using Nat.strongRecOn generalizing d with
  | _ k ih =>
    by_cases hex : ∃ d', p d' ∧ d' < d
    · obtain ⟨d', h1, h2⟩ := hex
      have := hp d' h1
      exact ih d'.toNat (by omega) h1 (by omega)
    · refine ⟨d, h, fun d' h' => ?_⟩
      rcases Int.lt_or_le d' d with h1 | h1
      · exact (hex ⟨d', h', h1⟩).elim
      · exact h1
theorem FarL.ex {E : Nat → List Ed} {N : Nat} {B : Int} (hE : Eds E N B) (s : Nat) : ∃ L, FarL E N s L := by
  have key : ∀ m, ∃ L : List Int, L.length = m ∧ ∀ v, v < m → (∃ d, L[v]? = some d ∧ IsD E s v d) ∨ (L[v]? = some (-1) ∧ ∀ d, ¬ Wk E s v d) := by
    intro m
    induction m with
    | zero => exact ⟨[], rfl, fun v hv => absurd hv (by omega)⟩
    | succ m ih =>
      obtain ⟨L, hL, h⟩ := ih
      have hx : ∃ x : Int, (IsD E s m x) ∨ (x = -1 ∧ ∀ d, ¬ Wk E s m d) := by
        by_cases hex : ∃ d, Wk E s m d
        · obtain ⟨d, hd⟩ := hex
          obtain ⟨q, h1, h2⟩ := least_int (fun d => Wk E s m d) (fun d h => h.nonneg hE) hd
          exact ⟨q, .inl ⟨h1, h2⟩⟩
        · exact ⟨-1, .inr ⟨rfl, fun d hd => hex ⟨d, hd⟩⟩⟩
      obtain ⟨x, hx⟩ := hx
      refine ⟨L ++ [x], by simp [hL], fun v hv => ?_⟩
      by_cases e : v = m
      · subst e
        have e : (L ++ [x])[v]? = some x := by rw [← hL]; simp
        rw [e]
        rcases hx with hx | ⟨rfl, hx⟩
        · exact .inl ⟨x, rfl, hx⟩
        · exact .inr ⟨rfl, hx⟩
      · have e : (L ++ [x])[v]? = L[v]? := List.getElem?_append_left (by omega)
        rw [e]
        exact h v (by omega)
  exact key N
/-- The same for whatever number: of what is no place, nothing. -/
def FarI (E : Nat → List Ed) (N : Nat) (s : Int) (L : List Int) : Prop := (0 ≤ s ∧ s < (N : Int) ∧ FarL E N s.toNat L) ∨ ((s < 0 ∨ (N : Int) ≤ s) ∧ L = [])
theorem FarI.ex {E : Nat → List Ed} {N : Nat} {B : Int} (hE : Eds E N B) (s : Int) : ∃ L, FarI E N s L := by
  by_cases h : 0 ≤ s ∧ s < (N : Int)
  · obtain ⟨L, hL⟩ := FarL.ex hE s.toNat
    exact ⟨L, .inl ⟨h.1, h.2, hL⟩⟩
  · exact ⟨[], .inr ⟨by omega, rfl⟩⟩
theorem FarI.len {E : Nat → List Ed} {N : Nat} {s : Int} {L : List Int} (h : FarI E N s L) : L.length ≤ N := by
  rcases h with ⟨_, _, h⟩ | ⟨_, rfl⟩
  · have := h.1; omega
  · simp
theorem FarI.uniq {E : Nat → List Ed} {N : Nat} {s : Int} {L L' : List Int} (h : FarI E N s L) (h' : FarI E N s L') : L = L' := by
  rcases h with ⟨h1, h2, h⟩ | ⟨h1, rfl⟩
  · rcases h' with ⟨_, _, h'⟩ | ⟨h3, _⟩
    · exact h.uniq h'
    · omega
  · rcases h' with ⟨h2, h3, _⟩ | ⟨_, rfl⟩
    · omega
    · rfl
theorem FarI.same {E E' : Nat → List Ed} (h : SameD E E') {N : Nat} {s : Int} {L : List Int} (hL : FarI E N s L) : FarI E' N s L := by
  rcases hL with ⟨h1, h2, h3⟩ | h1
  · exact .inl ⟨h1, h2, h3.same h⟩
  · exact .inr h1
/-- What the iterator's next place is. -/
def NR (E : Nat → List Ed) (N : Nat) (s : Int) (pre : List (Nat × Int)) (x : Nat × Int) : Prop := (0 ≤ s ∧ s < (N : Int)) ∧ x.1 < N ∧ IsD E s.toNat x.1 x.2 ∧ ¬ In1 pre x.1 ∧ ∀ u d, ¬ In1 pre u → IsD E s.toNat u d → x.2 ≤ d
/-- What all that it tells is. -/
def NS (E : Nat → List Ed) (N : Nat) (s : Int) (xs : List (Nat × Int)) : Prop := (0 ≤ s ∧ s < (N : Int) ∧ ∀ u d, Wk E s.toNat u d → In1 xs u) ∨ ((s < 0 ∨ (N : Int) ≤ s) ∧ xs = [])
theorem FarI.at_ {E : Nat → List Ed} {N : Nat} {s : Int} {L : List Int} (h : FarI E N s L) {pre : List (Nat × Int)} {x : Nat × Int} (hx : NR E N s pre x) : L[x.1]? = some x.2 ∧ x.1 < L.length ∧ L.length = N := by
  obtain ⟨⟨h1, h2⟩, h3, h4, _⟩ := hx
  rcases h with ⟨_, _, h⟩ | ⟨h5, _⟩
  · rcases h.2 _ h3 with ⟨d, h6, h7⟩ | ⟨_, h7⟩
    · rw [h6, h4.uniq h7]
      exact ⟨rfl, by rw [h.1]; exact h3, h.1⟩
    · exact (h7 _ h4.1).elim
  · omega
/-- What is told so far; -1 for the rest. -/
def tabL (L : List Int) (pre : List (Nat × Int)) : List Int := (List.range L.length).map fun v => if In1 pre v then L[v]?.getD (-1) else -1
theorem tabL_len (L : List Int) (pre : List (Nat × Int)) : (tabL L pre).length = L.length := by simp [tabL]
theorem tabL_nil (L : List Int) : tabL L [] = List.replicate L.length (-1) := by
  apply List.ext_getElem?
  intro i
  by_cases hi : i < L.length
  · simp [tabL, In1, hi]
  · simp [tabL, hi]
theorem tabL_at {L : List Int} {pre : List (Nat × Int)} {v : Nat} (h : v < L.length) : (tabL L pre)[v]? = some (if In1 pre v then L[v]?.getD (-1) else -1) := by
  simp [tabL, h]
theorem tabL_tell {L : List Int} {pre : List (Nat × Int)} {v : Nat} {d : Int} (h : L[v]? = some d) : (tabL L pre).set v d = tabL L (pre ++ [(v, d)]) := by
  apply List.ext_getElem?
  intro i
  by_cases hi : i < L.length
  · by_cases e : v = i
    · subst e
      rw [List.getElem?_set_self (by rw [tabL_len]; exact hi), tabL_at hi, if_pos (In1.snoc.2 (.inr rfl)), h]
      rfl
    · rw [List.getElem?_set_ne e, tabL_at hi, tabL_at hi]
      by_cases hp : In1 pre i
      · rw [if_pos hp, if_pos (In1.snoc.2 (.inl hp))]
      · rw [if_neg hp, if_neg (fun h => (In1.snoc.1 h).elim hp (fun h => e h.symm))]
  · rw [List.getElem?_eq_none (by simp [tabL_len]; omega), List.getElem?_eq_none (by simp [tabL_len]; omega)]
theorem tabL_done {E : Nat → List Ed} {N : Nat} {s : Int} {L : List Int} (h : FarI E N s L) {xs : List (Nat × Int)} (hS : NS E N s xs) : tabL L xs = L := by
  apply List.ext_getElem?
  intro i
  by_cases hi : i < L.length
  · rw [tabL_at hi]
    by_cases hp : In1 xs i
    · rw [if_pos hp, List.getElem?_eq_getElem hi]
      rfl
    · rw [if_neg hp]
      rcases h with ⟨h1, h2, h⟩ | ⟨h1, rfl⟩
      · rcases h.2 i (by rw [← h.1]; exact hi) with ⟨d, _, h4⟩ | ⟨h3, _⟩
        · rcases hS with ⟨_, _, hS⟩ | ⟨h5, _⟩
          · exact (hp (hS _ _ h4.1)).elim
          · omega
        · exact h3.symm
      · simp at hi
  · rw [List.getElem?_eq_none (by simp [tabL_len]; omega), List.getElem?_eq_none (by omega)]
/-- How far it is to t, off the list. -/
def atL (L : List Int) (t : Int) : Int := if 0 ≤ t ∧ t < (L.length : Int) then L[t.toNat]?.getD (-1) else -1
theorem atL_hit {E : Nat → List Ed} {N : Nat} {s : Int} {L : List Int} (h : FarI E N s L) {pre : List (Nat × Int)} {x : Nat × Int} (hx : NR E N s pre x) {t : Int} (ht : ((x.1 : Nat) : Int) = t) : atL L t = x.2 := by
  obtain ⟨h1, h2, _⟩ := h.at_ hx
  subst ht
  unfold atL
  rw [if_pos (by omega), Int.toNat_natCast, h1]
  rfl
theorem atL_miss {E : Nat → List Ed} {N : Nat} {s : Int} {L : List Int} (h : FarI E N s L) {xs : List (Nat × Int)} (hS : NS E N s xs) {t : Int} (ht : ∀ x ∈ xs, ((x.1 : Nat) : Int) ≠ t) : atL L t = -1 := by
  unfold atL
  split
  · rename_i hr
    have hd := tabL_done h hS
    have hlt : t.toNat < L.length := by omega
    have := tabL_at (pre := xs) hlt
    rw [hd, if_neg] at this
    · rw [this]
      rfl
    · intro hp
      unfold In1 at hp
      obtain ⟨x, hx, he⟩ := List.mem_map.1 hp
      exact ht x hx (by omega)
  · rfl
/-- The places to which it is not farther than most. -/
def aroundL (L : List Int) (most : Int) : List Int := ((List.range L.length).filter fun v => decide (0 ≤ L[v]?.getD (-1) ∧ L[v]?.getD (-1) ≤ most)).map fun v => ((v : Nat) : Int)
end Go.Proofs.Ythljgkaigjokjaa

/- dist.nearest: what it hands back, as an iterator; over a graph, or none. -/
namespace Go.Proofs.Ythljgkaigjokjaa
open Go.RowKit Go.Shelf Grm Lay
theorem SeqSep.mono {α : Type} {F : Fence} {n : Nat} {P : Program} {g : Nat} {lb : Array Value} {encs : α → Array Value} {Wr : Foot} {R R' : List α → α → Prop} {S S' : List α → Prop} {w : World} (h : SeqSep F n P g lb encs Wr R S w) (hR : ∀ pre x, R pre x → R' pre x) (hS : ∀ xs, S xs → S' xs) : SeqSep F n P g lb encs Wr R' S' w := by
  intro lb' J Jx T0 W hbW hJ hJx hY h0 hT0
  refine (h lb' J Jx T0 W hbW hJ hJx (fun pre x T W1 h1 h2 h3 h4 => hY pre x T W1 h1 (hR _ _ h2) h3 h4) h0 hT0).mono ?_
  rintro e w' ⟨hv, T', hT', h⟩
  refine ⟨hv, T', hT', ?_⟩
  rcases h with ⟨xs, hs, hj⟩ | h
  · exact .inl ⟨xs, hS _ hs, hj⟩
  · exact .inr h
theorem nearest_any (N : Nat) (s : Int) (F : Nat) (p : Value) (w : World) : Calls Try.prog 59 #[.int .i64 (N : Nat), .int .i64 s, .func (.func F) #[p] #[]] w fun e w' =>
    e = .returned (.func (.func 74) #[] #[ptr w.heap.size, ptr (w.heap.size + 1), ptr (w.heap.size + 2)]) ∧ w' = ((w.alloc (.cells #[.int .i64 (N : Nat)] 3)).alloc (.cells #[.int .i64 s] 3)).alloc (.cells #[.func (.func F) #[p] #[]] 31) := by
  go_enter Try.func59, Try.ntmps59
  go_wp2
  go_ret
  exact ⟨rfl, rfl⟩
/-- A graph in memory, all of it below block B; or none. -/
def GV (w : World) (B : Nat) (p : Value) (N : Nat) (l : List Ar) : Prop := (p = .pointer none ∧ N = 0 ∧ l = []) ∨ ∃ K M g, p = ptr g ∧ Gra w K M g N l ∧ M ≤ B ∧ Len l
theorem GV.only {S : Nat → Prop} {w w' : World} {B N : Nat} {p : Value} {l : List Ar} (h : GV w B p N l) (ho : Only S w w') (hS : ∀ k, S k → B ≤ k) : GV w' B p N l := by
  rcases h with h | ⟨K, M, g, h1, h2, h3, h4⟩
  · exact .inl h
  · exact .inr ⟨K, M, g, h1, h2.only ho (fun k _ hk hs => by have := hS k hs; omega), h3, h4⟩
theorem GV.under {w w' : World} {B N : Nat} {p : Value} {l : List Ar} (h : GV w B p N l) (hb : Below w.heap.size w w') : GV w' B p N l := h.only (Only.of_below (fun _ => False) hb) (fun _ h => h.elim)
theorem GV.more {w : World} {B B' N : Nat} {p : Value} {l : List Ar} (h : GV w B p N l) (hB : B ≤ B') : GV w B' p N l := by
  rcases h with h | ⟨K, M, g, h1, h2, h3, h4⟩
  · exact .inl h
  · exact .inr ⟨K, M, g, h1, h2, by omega, h4⟩
theorem GV.ok {w : World} {B N : Nat} {p : Value} {l : List Ar} (h : GV w B p N l) : EndsOk N l ∧ Len l ∧ N ≤ 16777216 ∧ l.length ≤ 67108864 := by
  rcases h with ⟨_, rfl, rfl⟩ | ⟨K, M, g, _, h2, _, h4⟩
  · exact ⟨fun x hx => (by cases hx), fun x hx => (by cases hx), by omega, by simp⟩
  · exact ⟨h2.ok.1, h4, h2.ok.2.1, h2.ok.2.2⟩
theorem near_seq_out (m : Nat) {w : World} {bn bs bx N B : Nat} {s : Int} {p : Value} {l : List Ar} (Wr : Foot) (hm : 1 ≤ m) (hn : Row w bn 3 #[.int .i64 (N : Nat)]) (hs : Row w bs 3 #[.int .i64 s]) (hx : Row w bx 31 #[.func (.func 20) #[p] #[]]) (hG : GV w B p N l) (hWr : ∀ k, Wr k → B ≤ k ∧ k < w.heap.size ∧ k ≠ bx) (hB : B ≤ w.heap.size) :
    SeqSep Fence.wide m Try.prog 74 #[ptr bn, ptr bs, ptr bx] (fun x : Nat × Int => #[.int .i64 (x.1 : Nat), .int .i64 x.2]) Wr (NR (outE N l) N s) (NS (outE N l) N s) w := by
  by_cases hp : 0 ≤ s ∧ s < (N : Int)
  · obtain ⟨k, rfl⟩ : ∃ k : Nat, s = k := ⟨s.toNat, by omega⟩
    have hed := eds_out hG.ok.1 hG.ok.2.1
    rcases hG with ⟨_, rfl, _⟩ | ⟨K, M, g, rfl, h2, h3, h4⟩
    · omega
    · refine SeqSep.mono (near_out m Wr hm hn hs hx h2 hed (by omega) (fun k hk => (hWr k hk).2.1) (fun h => (hWr _ h).2.2 rfl) (fun k _ h1 h => by have := hWr k h; omega) (by omega)) (fun pre x h => ?_) (fun xs h => .inl ⟨hp.1, hp.2, h⟩)
      exact ⟨hp, h.1.1.lt hed (by omega), h.1, h.2.1, h.2.2⟩
  · exact SeqSep.mono (near_none m Wr hm hn hs hG.ok.2.2.1 (by omega)) (fun _ _ h => h.elim) (fun xs h => .inr ⟨by omega, h⟩)
theorem near_seq_in (m : Nat) {w : World} {bn bs bx N B : Nat} {s : Int} {p : Value} {l : List Ar} (Wr : Foot) (hm : 1 ≤ m) (hn : Row w bn 3 #[.int .i64 (N : Nat)]) (hs : Row w bs 3 #[.int .i64 s]) (hx : Row w bx 31 #[.func (.func 21) #[p] #[]]) (hG : GV w B p N l) (hWr : ∀ k, Wr k → B ≤ k ∧ k < w.heap.size ∧ k ≠ bx) (hB : B ≤ w.heap.size) :
    SeqSep Fence.wide m Try.prog 74 #[ptr bn, ptr bs, ptr bx] (fun x : Nat × Int => #[.int .i64 (x.1 : Nat), .int .i64 x.2]) Wr (NR (inE N l) N s) (NS (inE N l) N s) w := by
  by_cases hp : 0 ≤ s ∧ s < (N : Int)
  · obtain ⟨k, rfl⟩ : ∃ k : Nat, s = k := ⟨s.toNat, by omega⟩
    have hed := eds_in hG.ok.1 hG.ok.2.1
    rcases hG with ⟨_, rfl, _⟩ | ⟨K, M, g, rfl, h2, h3, h4⟩
    · omega
    · refine SeqSep.mono (near_in m Wr hm hn hs hx h2 hed (by omega) (fun k hk => (hWr k hk).2.1) (fun h => (hWr _ h).2.2 rfl) (fun k _ h1 h => by have := hWr k h; omega) (by omega)) (fun pre x h => ?_) (fun xs h => .inl ⟨hp.1, hp.2, h⟩)
      exact ⟨hp, h.1.1.lt hed (by omega), h.1, h.2.1, h.2.2⟩
  · exact SeqSep.mono (near_none m Wr hm hn hs hG.ok.2.2.1 (by omega)) (fun _ _ h => h.elim) (fun xs h => .inr ⟨by omega, h⟩)
end Go.Proofs.Ythljgkaigjokjaa

