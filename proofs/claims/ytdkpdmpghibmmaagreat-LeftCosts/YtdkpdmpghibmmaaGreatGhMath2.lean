/- graph: what each place sees, and which arcs count: pure. -/
import Derived.Test.YtdkpdmpghibmmaaGreatGhMath
namespace Go.Proofs.YtdkpdmpghibmmaaGreat
open Lay

/-- The arcs that count, by their ends. -/
def YL (n : Nat) (l : List Ar) : List Nat := (List.range n).flatMap fun u => (List.range n).filterMap fun v => bestArc l u v
def outs (n : Nat) (l : List Ar) : List Ed := layL (fun e => fromN l e.2.2) n ((YL n l).map (edge_out l))
def ins (n : Nat) (l : List Ar) : List Ed := layL (fun e => toN l e.2.2) n ((YL n l).map (edge_in l))
/-- The edges from v, and to v. -/
def outE (n : Nat) (l : List Ar) (v : Nat) : List Ed := if v < n then (List.range n).filterMap fun u => (bestArc l v u).map (edge_out l) else []
def inE (n : Nat) (l : List Ar) (v : Nat) : List Ed := if v < n then (List.range n).filterMap fun u => (bestArc l u v).map (edge_in l) else []
def keptL (l : List Ar) : List Nat := (List.range l.length).filter fun k => decide (bestArc l (fromN l k) (toN l k) = some k)
theorem filter_flat {β : Type} {f : Nat → List β} {p : β → Nat} (hf : ∀ u, ∀ x ∈ f u, p x = u) (v : Nat) : ∀ n, ((List.range n).flatMap f).filter (fun x => p x == v) = if v < n then f v else [] := by
  intro n
  induction n with
  | zero => simp
  | succ n ih =>
    rw [List.range_succ, List.flatMap_append, List.filter_append, ih]
    simp only [List.flatMap_cons, List.flatMap_nil, List.append_nil]
    by_cases hv : v < n
    · rw [if_pos hv, if_pos (by omega), List.filter_eq_nil_iff.2 (fun x hx => by have := hf n x hx; simp; omega), List.append_nil]
    · rw [if_neg hv, List.nil_append]
      by_cases he : v = n
      · subst he
        rw [if_pos (by omega), List.filter_eq_self.2 (fun x hx => by have := hf v x hx; simpa using this)]
      · rw [if_neg (by omega), List.filter_eq_nil_iff.2 (fun x hx => by have := hf n x hx; simp; omega)]
theorem filter_fm {β : Type} {g : Nat → Option β} {p : β → Nat} (hg : ∀ u x, g u = some x → p x = u) (v : Nat) : ∀ n, ((List.range n).filterMap g).filter (fun x => p x == v) = if v < n then (g v).toList else [] := by
  intro n
  have := filter_flat (f := fun u => (g u).toList) (p := p) (fun u x hx => hg u x (by simpa using hx)) v n
  rw [← this]
  congr 1
  generalize List.range n = vs
  induction vs with
  | nil => rfl
  | cons a t ih =>
    rw [List.flatMap_cons, ← ih]
    cases h : g a with
    | none => rw [List.filterMap_cons_none h]; rfl
    | some b => rw [List.filterMap_cons_some h]; rfl
theorem YL_from (n : Nat) (l : List Ar) (v : Nat) : (YL n l).filter (fun k => fromN l k == v) = if v < n then (List.range n).filterMap fun u => bestArc l v u else [] :=
  filter_flat (f := fun u => (List.range n).filterMap fun v => bestArc l u v) (p := fromN l) (fun u x hx => by
    obtain ⟨a, _, h⟩ := List.mem_filterMap.1 hx
    exact (bestArc_some.1 h).2.2.1) v n
theorem YL_to (n : Nat) (l : List Ar) (v : Nat) : (YL n l).filter (fun k => toN l k == v) = if v < n then (List.range n).filterMap fun u => bestArc l u v else [] := by
  have h1 : ∀ u, ((List.range n).filterMap fun v => bestArc l u v).filter (fun k => toN l k == v) = if v < n then (bestArc l u v).toList else [] := fun u =>
    filter_fm (g := fun v => bestArc l u v) (p := toN l) (fun a x h => (bestArc_some.1 h).2.2.2.1) v n
  unfold YL
  rw [List.filter_flatMap]
  by_cases hv : v < n
  · rw [if_pos hv]
    simp only [h1, if_pos hv]
    generalize List.range n = vs
    induction vs with
    | nil => rfl
    | cons a t ih =>
      rw [List.flatMap_cons, ih]
      cases h : bestArc l a v with
      | none => rw [List.filterMap_cons_none (f := fun u => bestArc l u v) h]; rfl
      | some b => rw [List.filterMap_cons_some (f := fun u => bestArc l u v) h]; rfl
  · rw [if_neg hv]
    simp only [h1, if_neg hv]
    generalize List.range n = vs
    induction vs with
    | nil => rfl
    | cons a t ih => rw [List.flatMap_cons, ih]; rfl
theorem map_filterMap' {α β γ : Type} (f : α → Option β) (g : β → γ) (xs : List α) : (xs.filterMap f).map g = xs.filterMap fun x => (f x).map g := by
  induction xs with
  | nil => rfl
  | cons a t ih =>
    cases h : f a with
    | none => rw [List.filterMap_cons_none h, List.filterMap_cons_none (by rw [h]; rfl), ih]
    | some b => rw [List.filterMap_cons_some h, List.filterMap_cons_some (b := g b) (by rw [h]; rfl), List.map_cons, ih]
theorem outs_filter (n : Nat) (l : List Ar) (v : Nat) : ((YL n l).map (edge_out l)).filter (fun e => fromN l e.2.2 == v) = outE n l v := by
  rw [List.filter_map]
  have : ((fun e : Ed => fromN l e.2.2 == v) ∘ edge_out l) = fun k => fromN l k == v := rfl
  rw [this, YL_from]
  unfold outE
  split
  · rw [map_filterMap']
  · rfl
theorem ins_filter (n : Nat) (l : List Ar) (v : Nat) : ((YL n l).map (edge_in l)).filter (fun e => toN l e.2.2 == v) = inE n l v := by
  rw [List.filter_map]
  have : ((fun e : Ed => toN l e.2.2 == v) ∘ edge_in l) = fun k => toN l k == v := rfl
  rw [this, YL_to]
  unfold inE
  split
  · rw [map_filterMap']
  · rfl
theorem YL_mem {n : Nat} {l : List Ar} (hok : EndsOk n l) {k : Nat} : k ∈ YL n l ↔ bestArc l (fromN l k) (toN l k) = some k := by
  unfold YL
  simp only [List.mem_flatMap, List.mem_range, List.mem_filterMap]
  constructor
  · rintro ⟨u, _, v, _, h⟩
    have := bestArc_some.1 h
    rw [this.2.2.1, this.2.2.2.1]
    exact h
  · intro h
    have hb := bestArc_some.1 h
    have := hok.at_ hb.2.1
    exact ⟨_, this.2.2.1, _, this.2.2.2, h⟩
theorem YL_lt {n : Nat} {l : List Ar} {k : Nat} (h : k ∈ YL n l) : k < l.length := by
  unfold YL at h
  simp only [List.mem_flatMap, List.mem_filterMap] at h
  obtain ⟨u, _, v, _, h⟩ := h
  exact (bestArc_some.1 h).2.1
theorem YL_nodup (n : Nat) (l : List Ar) : (YL n l).Nodup := by
  unfold YL List.Nodup
  rw [List.pairwise_flatMap]
  refine ⟨fun u _ => ?_, ?_⟩
  · rw [List.pairwise_filterMap]
    refine List.Pairwise.imp ?_ (List.pairwise_lt_range (n := n))
    intro v v' hlt b hb b' hb' e
    have h1 := (bestArc_some.1 hb).2.2.2.1
    have h2 := (bestArc_some.1 hb').2.2.2.1
    rw [e] at h1
    omega
  · refine List.Pairwise.imp ?_ (List.pairwise_lt_range (n := n))
    intro u u' hlt x hx y hy e
    obtain ⟨v, _, h1⟩ := List.mem_filterMap.1 hx
    obtain ⟨v', _, h2⟩ := List.mem_filterMap.1 hy
    have h1 := (bestArc_some.1 h1).2.2.1
    have h2 := (bestArc_some.1 h2).2.2.1
    rw [e] at h1
    omega
theorem keptL_sorted (l : List Ar) : (keptL l).Pairwise (· < ·) := List.Pairwise.filter _ List.pairwise_lt_range
theorem mem_keptL {l : List Ar} {k : Nat} : k ∈ keptL l ↔ bestArc l (fromN l k) (toN l k) = some k := by
  unfold keptL
  simp only [List.mem_filter, List.mem_range, decide_eq_true_eq]
  exact ⟨fun h => h.2, fun h => ⟨(bestArc_some.1 h).2.1, h⟩⟩
theorem YL_perm {n : Nat} {l : List Ar} (hok : EndsOk n l) : (YL n l).Perm (keptL l) := by
  rw [List.perm_ext_iff_of_nodup (YL_nodup n l) ((keptL_sorted l).imp (fun h => Nat.ne_of_lt h))]
  intro k
  rw [YL_mem hok, mem_keptL]
theorem keptL_len (l : List Ar) : (keptL l).length ≤ l.length := by
  unfold keptL
  have := List.length_filter_le (fun k => decide (bestArc l (fromN l k) (toN l k) = some k)) (List.range l.length)
  rwa [List.length_range] at this
theorem YL_len {n : Nat} {l : List Ar} (hok : EndsOk n l) : (YL n l).length = (keptL l).length := (YL_perm hok).length_eq
theorem layL_perm {α : Type} (p : α → Nat) {n : Nat} {xs : List α} (h : ∀ x ∈ xs, p x < n) : (layL p n xs).Perm xs := by
  have key : ∀ m, ((List.range m).flatMap fun v => xs.filter fun x => p x == v).Perm (xs.filter fun x => decide (p x < m)) := by
    intro m
    induction m with
    | zero => simp
    | succ m ih =>
      rw [List.range_succ, List.flatMap_append]
      simp only [List.flatMap_cons, List.flatMap_nil, List.append_nil]
      refine (ih.append (List.Perm.refl _)).trans ?_
      clear ih h
      induction xs with
      | nil => simp
      | cons x t iht =>
        by_cases h1 : p x < m
        · have h2 : (p x == m) = false := by simp; omega
          have h3 : p x < m + 1 := by omega
          simp only [List.filter_cons, h1, h2, h3, decide_true, if_true, List.cons_append]
          exact iht.cons x
        · by_cases h2 : p x = m
          · have h3 : p x < m + 1 := by omega
            have h4 : (p x == m) = true := by simpa using h2
            simp only [List.filter_cons, h1, h4, h3, decide_true, decide_false, if_true]
            exact List.perm_middle.trans (iht.cons x)
          · have h3 : ¬ p x < m + 1 := by omega
            have h4 : (p x == m) = false := by simpa using h2
            simp only [List.filter_cons, h1, h4, h3, decide_false]
            exact iht
  have := key n
  rw [List.filter_eq_self.2 (fun x hx => by simpa using h x hx)] at this
  exact this
theorem outs_ok {n : Nat} {l : List Ar} (hok : EndsOk n l) : ∀ e ∈ (YL n l).map (edge_out l), fromN l e.2.2 < n := by
  intro e he
  obtain ⟨k, hk, rfl⟩ := List.mem_map.1 he
  exact (hok.at_ (YL_lt hk)).2.2.1
theorem ins_ok {n : Nat} {l : List Ar} (hok : EndsOk n l) : ∀ e ∈ (YL n l).map (edge_in l), toN l e.2.2 < n := by
  intro e he
  obtain ⟨k, hk, rfl⟩ := List.mem_map.1 he
  exact (hok.at_ (YL_lt hk)).2.2.2
theorem outs_len {n : Nat} {l : List Ar} (hok : EndsOk n l) : (outs n l).length = (keptL l).length := by
  unfold outs
  rw [layL_length _ (outs_ok hok), List.length_map, YL_len hok]
theorem ins_len {n : Nat} {l : List Ar} (hok : EndsOk n l) : (ins n l).length = (keptL l).length := by
  unfold ins
  rw [layL_length _ (ins_ok hok), List.length_map, YL_len hok]
/-- Where the cuts lie. -/
def outC (n : Nat) (l : List Ar) (v : Nat) : Nat := lt (fun e : Ed => fromN l e.2.2) v ((YL n l).map (edge_out l))
def inC (n : Nat) (l : List Ar) (v : Nat) : Nat := lt (fun e : Ed => toN l e.2.2) v ((YL n l).map (edge_in l))
theorem out_seg {n : Nat} {l : List Ar} (hok : EndsOk n l) {v : Nat} (hv : v < n) : outC n l (v + 1) = outC n l v + (outE n l v).length ∧ outC n l v + (outE n l v).length ≤ (outs n l).length ∧ outE n l v = ((outs n l).drop (outC n l v)).take (outE n l v).length := by
  have hc : cnt (fun e : Ed => fromN l e.2.2) v ((YL n l).map (edge_out l)) = (outE n l v).length := by
    unfold cnt
    rw [outs_filter]
  have h1 := lt_succ (fun e : Ed => fromN l e.2.2) v ((YL n l).map (edge_out l))
  have h2 := lt_mono (fun e : Ed => fromN l e.2.2) (show v + 1 ≤ n from hv) ((YL n l).map (edge_out l))
  rw [lt_all _ (outs_ok hok), List.length_map, YL_len hok, ← outs_len hok] at h2
  have h3 := lay_seg (fun e : Ed => fromN l e.2.2) (n := n) (xs := (YL n l).map (edge_out l)) hv
  rw [outs_filter, hc] at h3
  unfold outC
  rw [hc] at h1
  exact ⟨h1, by omega, h3.symm⟩
theorem in_seg {n : Nat} {l : List Ar} (hok : EndsOk n l) {v : Nat} (hv : v < n) : inC n l (v + 1) = inC n l v + (inE n l v).length ∧ inC n l v + (inE n l v).length ≤ (ins n l).length ∧ inE n l v = ((ins n l).drop (inC n l v)).take (inE n l v).length := by
  have hc : cnt (fun e : Ed => toN l e.2.2) v ((YL n l).map (edge_in l)) = (inE n l v).length := by
    unfold cnt
    rw [ins_filter]
  have h1 := lt_succ (fun e : Ed => toN l e.2.2) v ((YL n l).map (edge_in l))
  have h2 := lt_mono (fun e : Ed => toN l e.2.2) (show v + 1 ≤ n from hv) ((YL n l).map (edge_in l))
  rw [lt_all _ (ins_ok hok), List.length_map, YL_len hok, ← ins_len hok] at h2
  have h3 := lay_seg (fun e : Ed => toN l e.2.2) (n := n) (xs := (YL n l).map (edge_in l)) hv
  rw [ins_filter, hc] at h3
  unfold inC
  rw [hc] at h1
  exact ⟨h1, by omega, h3.symm⟩
theorem sum_out {n : Nat} {l : List Ar} (hok : EndsOk n l) {v : Nat} (hv : v ≤ n) : outC n l v = (((List.range v).map fun u => (outE n l u).length).sum) := by
  induction v with
  | zero => simp [outC, lt_zero]
  | succ v ih =>
    rw [(out_seg hok (by omega)).1, ih (by omega), List.range_succ, List.map_append, List.sum_append]
    simp
theorem outC_all {n : Nat} {l : List Ar} (hok : EndsOk n l) : outC n l n = (keptL l).length := by
  unfold outC
  rw [lt_all _ (outs_ok hok), List.length_map, YL_len hok]
/-- Sorted, the arcs' numbers are those that count. -/
theorem kept_sort {n : Nat} {l : List Ar} (hok : EndsOk n l) : ((outs n l).map fun e => ((e.2.2 : Nat) : Int)).mergeSort (fun x y => decide (x ≤ y)) = (keptL l).map fun k => ((k : Nat) : Int) := by
  have hp : ((outs n l).map fun e => ((e.2.2 : Nat) : Int)).Perm ((keptL l).map fun k => ((k : Nat) : Int)) := by
    have h1 : (outs n l).Perm ((YL n l).map (edge_out l)) := layL_perm _ (outs_ok hok)
    have h2 := h1.map fun e => ((e.2.2 : Nat) : Int)
    rw [List.map_map] at h2
    exact h2.trans ((YL_perm hok).map fun k => ((k : Nat) : Int))
  refine List.Perm.eq_of_pairwise (le := fun a b => decide ((a : Int) ≤ b) = true) (fun a b _ _ h1 h2 => ?_) (List.pairwise_mergeSort (fun a b c h1 h2 => ?_) (fun a b => ?_) _) ?_ ((List.mergeSort_perm _ _).trans hp)
  · simp only [decide_eq_true_eq] at h1 h2
    omega
  · simp only [decide_eq_true_eq] at h1 h2 ⊢
    omega
  · simp only [Bool.or_eq_true, decide_eq_true_eq]
    omega
  · rw [List.pairwise_map]
    exact (keptL_sorted l).imp (fun h => by simp; omega)
theorem mem_outE {n : Nat} {l : List Ar} {v : Nat} {e : Ed} : e ∈ outE n l v ↔ v < n ∧ ∃ u k, u < n ∧ bestArc l v u = some k ∧ e = edge_out l k := by
  unfold outE
  split
  · rename_i h
    simp only [List.mem_filterMap, List.mem_range, Option.map_eq_some_iff]
    exact ⟨fun ⟨u, hu, k, hk, e⟩ => ⟨h, u, k, hu, hk, e.symm⟩, fun ⟨_, u, k, hu, hk, e⟩ => ⟨u, hu, k, hk, e.symm⟩⟩
  · rename_i h
    exact ⟨fun q => (by cases q), fun q => absurd q.1 h⟩
theorem mem_inE {n : Nat} {l : List Ar} {v : Nat} {e : Ed} : e ∈ inE n l v ↔ v < n ∧ ∃ u k, u < n ∧ bestArc l u v = some k ∧ e = edge_in l k := by
  unfold inE
  split
  · rename_i h
    simp only [List.mem_filterMap, List.mem_range, Option.map_eq_some_iff]
    exact ⟨fun ⟨u, hu, k, hk, e⟩ => ⟨h, u, k, hu, hk, e.symm⟩, fun ⟨_, u, k, hu, hk, e⟩ => ⟨u, hu, k, hk, e.symm⟩⟩
  · rename_i h
    exact ⟨fun q => (by cases q), fun q => absurd q.1 h⟩
end Go.Proofs.YtdkpdmpghibmmaaGreat
