/- left: what the laws' walks need. -/
import Derived.Test.YtdkpdmpghibmmaaGreatLgU
import Derived.Test.YtdkpdmpghibmmaaGreatLgOf
import Derived.Test.YtdkpdmpghibmmaaGreatGhLawA
namespace Go.Proofs.YtdkpdmpghibmmaaGreat
open Go.RowKit Go.Maps Go.Shelf Grm Lay
theorem LSt.put_lost (s : LSt) (u v x m : Int) : (s.put u v x m).lost = s.lost := by
  unfold LSt.put
  split <;> rfl
/-- Put, whatever is asked. -/
theorem put_any {w : World} {l bl bo bi : Nat} {go gi : Int → Option Nat} {s : LSt} (h : Lq w l bl bo bi go gi s) {u v x m : Int} (hwu : (Lit.int .i64 u).wf = true) (hwv : (Lit.int .i64 v).wf = true) :
    Calls Tryz.prog 68 #[ptr l, .int .i64 u, .int .i64 v, .int .i64 x, .int .i64 m] w fun e w' => e = .returned (.bool (s.puts u v x m)) ∧ ∃ go' gi', Lq w' l bl bo bi go' gi' (s.put u v x m) ∧ (∀ k, LB l bl bo bi go' gi' k → LB l bl bo bi go gi k ∨ w.heap.size ≤ k) ∧ Only (fun k => LB l bl bo bi go gi k) w w' := by
  cases hm : s.may u v x m with
  | true => exact put_may h hwu hwv hm
  | false =>
    have hp : s.puts u v x m = false := by unfold LSt.puts; rw [hm]; rfl
    have hp2 : s.put u v x m = s := by unfold LSt.put; rw [hp]; rfl
    rw [hp, hp2]
    refine (put_not h hwu hwv hm).mono fun e w' ⟨h1, h2⟩ => ⟨h1, ?_⟩
    subst h2
    exact ⟨go, gi, h, fun k hk => .inl hk, Only.refl _ _⟩
/-- A law's object: all of it lies behind K; what lies in T is none of it. -/
structure Lz (w : World) (K l bl bo bi : Nat) (T : Nat → Prop) (s : LSt) (W : World) : Prop where
  ex : ∃ go gi, Lq W l bl bo bi go gi s ∧ (∀ k, LB l bl bo bi go gi k → K ≤ k ∧ ¬ T k)
  tlt : ∀ k, T k → k < W.heap.size
  bw : Below w.heap.size w W
  lo : w.heap.size ≤ K
theorem Lz.below {w W W' : World} {K l bl bo bi : Nat} {T : Nat → Prop} {s : LSt} (h : Lz w K l bl bo bi T s W) (hb : Below W.heap.size W W') : Lz w K l bl bo bi T s W' := by
  obtain ⟨⟨go, gi, h1, h2⟩, h3, h4, h5⟩ := h
  exact ⟨⟨go, gi, h1.under hb, h2⟩, fun k hk => Nat.lt_of_lt_of_le (h3 k hk) hb.size, h4.trans (hb.mono h4.size), h5⟩
theorem Lz.more {w W : World} {K l bl bo bi b : Nat} {T : Nat → Prop} {s : LSt} (h : Lz w K l bl bo bi T s W) (O : Obj) (hb : b = W.heap.size) : Lz w K l bl bo bi (fun k => T k ∨ k = b) s (W.alloc O) := by
  obtain ⟨⟨go, gi, h1, h2⟩, h3, h4, h5⟩ := h
  have hA : Below W.heap.size W (W.alloc O) := (Below.refl _ _).alloc (Nat.le_refl _) _
  refine ⟨⟨go, gi, h1.under hA, fun k hk => ⟨(h2 k hk).1, ?_⟩⟩, ?_, h4.trans (hA.mono h4.size), h5⟩
  · rintro (e | e)
    · exact (h2 k hk).2 e
    · have := h1.lt k hk
      omega
  · rintro k (e | e)
    · have := h3 k e; simp; omega
    · simp; omega
/-- What a step that writes only into the object hands on. -/
def LStep (w : World) (K l bl bo bi : Nat) (T : Nat → Prop) (s' : LSt) (W W' : World) : Prop := Lz w K l bl bo bi T s' W' ∧ Only (fun k => K ≤ k ∧ ¬ T k) W W'
theorem lz_put {w W : World} {K l bl bo bi : Nat} {T : Nat → Prop} {s : LSt} (h : Lz w K l bl bo bi T s W) {u v x m : Int} (hwu : (Lit.int .i64 u).wf = true) (hwv : (Lit.int .i64 v).wf = true) :
    Calls Tryz.prog 68 #[ptr l, .int .i64 u, .int .i64 v, .int .i64 x, .int .i64 m] W fun e W' => e = .returned (.bool (s.puts u v x m)) ∧ LStep w K l bl bo bi T (s.put u v x m) W W' := by
  obtain ⟨⟨go, gi, h1, h2⟩, h3, h4, h5⟩ := h
  refine (put_any h1 hwu hwv).mono fun e W' ⟨h6, go', gi', h7, h8, h9⟩ => ⟨h6, ⟨⟨go', gi', h7, fun k hk => ?_⟩, fun k hk => Nat.lt_of_lt_of_le (h3 k hk) h9.size, h4.trans (h9.below (K := w.heap.size) (fun k hk => Nat.le_trans h5 (h2 k hk).1) h4.size), h5⟩, h9.mono fun k hk => .inl (h2 k hk)⟩
  have hlt := h1.lt l (.inl rfl)
  have hKl := (h2 l (.inl rfl)).1
  rcases h8 k hk with e | e
  · exact h2 k e
  · exact ⟨by omega, fun ht => by have := h3 k ht; omega⟩
theorem lz_way {w W : World} {K l bl bo bi : Nat} {T : Nat → Prop} {s : LSt} (h : Lz w K l bl bo bi T s W) {u v : Int} (hwu : (Lit.int .i64 u).wf = true) (hwv : (Lit.int .i64 v).wf = true) :
    Calls Tryz.prog 23 #[ptr l, .int .i64 u, .int .i64 v] W fun e W' => e = .returned (wayT (s.F u v)) ∧ Below W.heap.size W W' := by
  obtain ⟨⟨go, gi, h1, h2⟩, h3, h4, h5⟩ := h
  exact way_any h1 hwu hwv
theorem lz_near {w W : World} {K l bl bo bi : Nat} {T : Nat → Prop} {s : LSt} (h : Lz w K l bl bo bi T s W) (hps : s.Pos) {u v wo most : Int} (hwu : (Lit.int .i64 u).wf = true) (hwv : (Lit.int .i64 v).wf = true) (hwm : most ≤ 9223372036854775807) {b : Bool} (hb : b = true ↔ NearP s u v wo most) :
    Calls Tryz.prog 26 #[ptr l, .int .i64 u, .int .i64 v, .int .i64 wo, .int .i64 most] W fun e W' => e = .returned (.bool b) ∧ Below W.heap.size W W' := by
  obtain ⟨⟨go, gi, h1, h2⟩, h3, h4, h5⟩ := h
  exact near_is h1 hps hwu hwv hwm hb
theorem lz_start {w W : World} {l bl bo bi : Nat} {go gi : Int → Option Nat} {s : LSt} {K : Nat} (h : Lq W l bl bo bi go gi s) (hk : ∀ k, LB l bl bo bi go gi k → K ≤ k) (hK : w.heap.size ≤ K ∧ K ≤ W.heap.size) (hb : Below w.heap.size w W) : Lz w K l bl bo bi (fun k => k < K) s W :=
  ⟨⟨go, gi, h, fun k hk' => ⟨hk k hk', fun e => by have := hk k hk'; omega⟩⟩, fun k hk' => by omega, hb, hK.1⟩
/-- New's state: the ways are those of the arcs that count. -/
theorem newSt_diag {n : Nat} {l : List Ar} (hok : EndsOk n l) (i : Int) : (newSt n l (keptL l)).F i i = none := by
  have h : ∀ ks : List Nat, (∀ k ∈ ks, (l.getD k (0, 0, 0)).1 ≠ (l.getD k (0, 0, 0)).2.1) → ∀ s : LSt, s.F i i = none → (ks.foldl (fun s k => s.lay (l.getD k (0, 0, 0)).1 (l.getD k (0, 0, 0)).2.1 (arcW l k)) s).F i i = none := by
    intro ks
    induction ks with
    | nil => exact fun _ s h => h
    | cons k ks ih =>
      intro hk s hs
      rw [List.foldl_cons]
      refine ih (fun k' hk' => hk k' (List.mem_cons_of_mem _ hk')) _ ?_
      unfold LSt.lay
      dsimp only
      rw [if_neg]
      · exact hs
      · rintro ⟨e1, e2⟩
        exact hk k (List.mem_cons_self ..) (e1.symm.trans e2)
  refine h _ (fun k hk => ?_) _ rfl
  have hkl : k < l.length := by
    unfold keptL at hk
    exact List.mem_range.1 (List.mem_filter.1 hk).1
  have hb := mem_keptL.1 hk
  obtain ⟨h1, h2, _, _⟩ := hok.at_ hkl
  have e : l.getD k (0, 0, 0) = l[k]'hkl := by rw [List.getD_eq_getElem?_getD, List.getElem?_eq_getElem hkl]; rfl
  rw [e, h1, h2]
  intro e2
  have e3 : fromN l k = toN l k := by omega
  unfold bestArc at hb
  rw [if_pos e3] at hb
  cases hb
theorem newSt_holds {n : Nat} {l : List Ar} {ks : List Nat} {v : Int} (h : 0 ≤ v ∧ v < (n : Int)) : (newSt n l ks).holds v = true := by
  unfold LSt.holds
  rw [newSt_lost, List.length_replicate]
  simp only [Bool.and_eq_true, decide_eq_true_eq, Bool.not_eq_true', decide_eq_false_iff_not]
  refine ⟨h.1, h.2, ?_⟩
  rw [List.getElem?_replicate]
  split
  · simp
  · simp
theorem puts_no {s : LSt} {u v x m : Int} {y : Wy} (h : s.F u v = some y) (hle : y.1 ≤ x) : s.puts u v x m = false ∧ s.put u v x m = s := by
  have h1 : s.puts u v x m = false := by
    unfold LSt.puts LSt.as_short
    rw [h]
    simp [hle]
  exact ⟨h1, by unfold LSt.put; rw [h1]; rfl⟩
theorem puts_yes {s : LSt} {u v x m : Int} (hu : s.holds u = true) (hv : s.holds v = true) (huv : u ≠ v) (hx : 0 ≤ x) (hm : 0 ≤ m) (h : s.F u v = none ∨ ∃ y, s.F u v = some y ∧ x < y.1) : s.puts u v x m = true ∧ s.put u v x m = s.lay u v (x, m, -1) := by
  have h1 : s.puts u v x m = true := by
    unfold LSt.puts LSt.may LSt.as_short
    have hx' : ¬ x < 0 := by omega
    have hm' : ¬ m < 0 := by omega
    rcases h with h | ⟨y, h, hy⟩
    · rw [h]
      simp [hu, hv, huv, hx', hm', hx, hm]
    · rw [h]
      simp [hu, hv, huv, hx', hm', hx, hm, hy]
  exact ⟨h1, by unfold LSt.put; rw [h1]; rfl⟩
theorem near_by {s : LSt} {u v wo most : Int} {y : Wy} (hu : s.holds u = true) (hv : s.holds v = true) (h1 : u ≠ wo) (h2 : v ≠ wo) (h : s.F u v = some y) (hle : y.1 ≤ most) (hm : 0 ≤ most) : NearP s u v wo most := by
  have a1 : mayB s wo u = true := by unfold mayB; simp [hu, h1]
  have a2 : mayB s wo v = true := by unfold mayB; simp [hv, h2]
  refine ⟨a1, a2, hm, y.1, hle, ?_⟩
  have := WkL.step (s := s) (wo := wo) u v 0 y .base h a2
  rwa [Int.zero_add] at this
theorem lay_at (s : LSt) (u v : Int) (x : Wy) : (s.lay u v x).F u v = some x := by
  unfold LSt.lay
  simp
theorem holds_lost {s t : LSt} (h : s.lost = t.lost) (v : Int) : s.holds v = t.holds v := by
  unfold LSt.holds
  rw [h]
end Go.Proofs.YtdkpdmpghibmmaaGreat
