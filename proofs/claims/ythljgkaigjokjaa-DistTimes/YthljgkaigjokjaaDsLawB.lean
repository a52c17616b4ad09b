/- DistBy. -/
import Derived.Test.YthljgkaigjokjaaDsLawA
import Derived.Test.YthljgkaigjokjaaGhLawA
import Derived.Test.YthljgkaigjokjaaDsM
namespace Go.Proofs.Ythljgkaigjokjaa
open Go.RowKit Go.Shelf Grm Lay
theorem dof_any (n : Int) (a : Option Addr) (l : List Ar) (c : Nat) (w : World) (hA : Arcs w a l) (hF : ∀ y ∈ l, FitA y) : Calls Try.prog 45 #[.int .i64 n, .slice a l.length c] w fun e w' => Below w.heap.size w w' ∧ ∃ a' c', e = .returned (mV (ofN n : Nat) a' (ofL n l).length c') ∧ AV w' w.heap.size (.slice a' (ofL n l).length c') (ofL n l) := by
  obtain ⟨w1, hw1⟩ : ∃ w1, w1 = w.alloc (.cells #[.int .i64 0, .slice none 0 0] 24) := ⟨_, rfl⟩
  have hb1 : Below w.heap.size w w1 := by rw [hw1]; exact (Below.refl _ _).alloc (Nat.le_refl _) _
  have hr1 : Row w1 w.heap.size 24 #[.int .i64 0, .slice none 0 0] := by rw [hw1]; exact Row.fresh w _ _
  have hs1 : w1.heap.size = w.heap.size + 1 := by rw [hw1]; simp
  have HO := Lib.hid (of_map n a l c w1 (hA.under hb1) hF)
  have HW := Lib.hid hw1
  have H1 := Lib.hid (And.intro hb1 (And.intro hr1 hs1))
  clear hA hF hw1 hb1 hr1 hs1
  generalize ofL n l = M at *
  generalize ofN n = N at *
  go_enter Try.func45, Try.ntmps45
  go_wp2_with (first | (go_at_call 28; rw [← HW.out]; refine HO.out.mono ?_; rintro e w2 ⟨hb2, am, cm, rfl, hv2⟩; have hr2 := H1.out.2.1.under hb2 H1.out.2.1.lt; have z0 := hr2.cell 0; have z1 := hr2.cell 1; have m0 := hr2.thaw 0; have m1 := hr2.thaw 1; simp only [List.getElem?_toArray, List.getElem?_cons_zero, List.getElem?_cons_succ] at z0 z1; have H2 := Lib.hid (And.intro hb2 (And.intro hr2 hv2)); clear hb2 hr2 hv2))
  have hq := (H2.out.2.1.put 0 (.int .i64 (N : Nat))).put 1 (.slice am M.length cm)
  have hs := H1.out.2.2
  have hz := H2.out.1.size
  have ho : Only (fun k => k = w.heap.size) w2 ((w2.setCell ⟨w.heap.size, 0, none⟩ (.int .i64 (N : Nat))).setCell ⟨w.heap.size, 1, none⟩ (.slice am M.length cm)) := ((Only.refl (fun k => k = w.heap.size) w2).setCell (p := ⟨w.heap.size, 0, none⟩) (.inl rfl) _).setCell (p := ⟨w.heap.size, 1, none⟩) (.inl rfl) _
  have r0 := hq.cell 0
  have r1 := hq.cell 1
  simp only [List.setIfInBounds_toArray, List.set_cons_zero, List.set_cons_succ, List.getElem?_toArray, List.getElem?_cons_zero, List.getElem?_cons_succ] at r0 r1
  refine bodyPost_ret (v := mV (N : Nat) am M.length cm) (by simp [results, Try.results45, go_sem, r0, r1]) rfl ?_
  have hb2 := H1.out.1.trans (H2.out.1.mono H1.out.1.size)
  exact ⟨hb2.trans (ho.below (K := w.heap.size) (fun k e => by omega) hb2.size), am, cm, rfl, owns_base (owns_only H2.out.2.2 ho (fun k q e => by have := (owns_lt H2.out.2.2 k q).1; omega)) (by omega)⟩
theorem sumL_cons (x : Ar) (l : List Ar) : sumL (x :: l) = x.2.2 + sumL l := by
  show List.foldl _ _ _ = _
  rw [List.foldl_cons, foldl_sum]
  omega
theorem sum_filter {p : Ar → Bool} : ∀ {l : List Ar}, Len l → sumL (l.filter p) ≤ sumL l ∧ ∀ x ∈ l, p x = false → sumL (l.filter p) + x.2.2 ≤ sumL l := by
  intro l
  induction l with
  | nil => intro _; exact ⟨by simp, fun x h => by cases h⟩
  | cons y l ih =>
    intro h
    obtain ⟨h1, h2⟩ := ih (fun x hx => h x (List.mem_cons_of_mem _ hx))
    have hy := h y (List.mem_cons_self)
    rw [sumL_cons]
    by_cases hp : p y = true
    · rw [List.filter_cons_of_pos hp, sumL_cons]
      refine ⟨by omega, fun x hx hn => ?_⟩
      rcases List.mem_cons.1 hx with rfl | hx
      · rw [hp] at hn
        cases hn
      · have := h2 x hx hn
        omega
    · rw [List.filter_cons_of_neg hp]
      refine ⟨by omega, fun x hx hn => ?_⟩
      rcases List.mem_cons.1 hx with rfl | hx
      · omega
      · have := h2 x hx hn
        omega
theorem last_out {l : List Ar} {s v : Nat} {d : Int} (h : Wk (arcE l) s v d) : v = s ∨ ∃ x ∈ l, x.1 = (s : Int) ∧ ∃ u : Nat, x.2.1 = (u : Int) ∧ ∃ d', Wk (arcE (l.filter fun y => decide (y.1 ≠ (s : Int)))) u v d' := by
  induction h with
  | nil => exact .inl rfl
  | snoc hw he hv ih =>
    rename_i u v d e
    obtain ⟨y, hy, hu, rfl⟩ := mem_arcE.1 he
    right
    by_cases hus : u = s
    · subst hus
      exact ⟨y, hy, hu, v, hv, 0, .nil⟩
    · rcases ih with ih | ⟨x, hx, h1, u', h2, d', h3⟩
      · exact (hus ih).elim
      · exact ⟨x, hx, h1, u', h2, _, Wk.snoc (e := (y.2.1, y.2.2, 0)) h3 (mem_arcE.2 ⟨y, List.mem_filter.2 ⟨hy, by simp only [ne_eq, decide_eq_true_eq]; omega⟩, hu, rfl⟩) hv⟩
theorem arcE_more {l l' : List Ar} (h : ∀ x ∈ l, x ∈ l') {s v : Nat} {d : Int} (hw : Wk (arcE l) s v d) : Wk (arcE l') s v d := by
  induction hw with
  | nil => exact .nil
  | snoc _ he hv ih =>
    obtain ⟨y, hy, hu, rfl⟩ := mem_arcE.1 he
    exact Wk.snoc (e := (y.2.1, y.2.2, 0)) ih (mem_arcE.2 ⟨y, h y hy, hu, rfl⟩) hv
theorem sum_nonneg : ∀ {l : List Ar}, Len l → 0 ≤ sumL l := by
  intro l
  induction l with
  | nil => intro _; simp [sumL]
  | cons x l ih =>
    intro h
    have h1 := ih (fun x hx => h x (List.mem_cons_of_mem _ hx))
    have h2 := h x (List.mem_cons_self)
    rw [sumL_cons]
    omega
/-- No walk need be longer than all arcs. -/
theorem wk_sum : ∀ (m : Nat) (l : List Ar), l.length = m → Len l → ∀ (s v : Nat) (d : Int), Wk (arcE l) s v d → ∃ d', Wk (arcE l) s v d' ∧ d' ≤ sumL l := by
  intro m
  induction m using Nat.strongRecOn with
  | _ m ih =>
    intro l hl hL s v d hw
    rcases last_out hw with rfl | ⟨x, hx, h1, u, h2, d1, h3⟩
    · exact ⟨0, .nil, sum_nonneg hL⟩
    · have hlt : (l.filter fun y => decide (y.1 ≠ (s : Int))).length < l.length := by
        rcases Nat.lt_or_ge (l.filter fun y => decide (y.1 ≠ (s : Int))).length l.length with h | h
        · exact h
        · have e := (List.length_filter_eq_length_iff.1 (Nat.le_antisymm (List.length_filter_le _ _) h)) x hx
          simp [h1] at e
      obtain ⟨d2, h4, h5⟩ := ih _ (by omega) _ rfl (fun y hy => hL y (List.mem_filter.1 hy).1) u v d1 h3
      have h6 := (sum_filter (p := fun y => decide (y.1 ≠ (s : Int))) hL).2 x hx (by simp [h1])
      exact ⟨_, Wk.cons (e := (x.2.1, x.2.2, 0)) (mem_arcE.2 ⟨x, hx, h1, rfl⟩) h2 (arcE_more (fun y hy => (List.mem_filter.1 hy).1) h4), by simp only; omega⟩
theorem FarI.of_at {E : Nat → List Ed} {N : Nat} {s t : Int} {L : List Int} (h : FarI E N s L) (h0 : 0 ≤ atL L t) : (0 ≤ t ∧ t < (N : Int)) ∧ IsD E s.toNat t.toNat (atL L t) := by
  unfold atL at h0 ⊢
  split at h0
  · rename_i hr
    rw [if_pos hr]
    have hlt : t.toNat < L.length := by omega
    rw [List.getElem?_eq_getElem hlt] at h0 ⊢
    rcases h with ⟨h1, h2, h⟩ | ⟨_, rfl⟩
    · refine ⟨⟨hr.1, by have := h.1; omega⟩, ?_⟩
      rcases h.2 t.toNat (by rw [← h.1]; exact hlt) with ⟨d', h3, h4⟩ | ⟨h3, _⟩
      · rw [List.getElem?_eq_getElem hlt] at h3
        injection h3 with h3
        rw [h3]
        exact h4
      · rw [List.getElem?_eq_getElem hlt] at h3
        injection h3 with h3
        simp only [Option.getD_some] at h0
        omega
    · simp at hlt
  · omega
theorem FarI.ge {E : Nat → List Ed} {N : Nat} {B s : Int} {L : List Int} (hE : Eds E N B) (h : FarI E N s L) (t : Int) : -1 ≤ atL L t := by
  rcases Int.lt_or_le (atL L t) 0 with h0 | h0
  · unfold atL at h0 ⊢
    split at h0
    · rename_i hr
      rw [if_pos hr]
      have hlt : t.toNat < L.length := by omega
      rw [List.getElem?_eq_getElem hlt] at h0 ⊢
      rcases h with ⟨h1, h2, h⟩ | ⟨_, rfl⟩
      · rcases h.2 t.toNat (by rw [← h.1]; exact hlt) with ⟨d', h3, h4⟩ | ⟨h3, _⟩
        · rw [List.getElem?_eq_getElem hlt] at h3
          injection h3 with h3
          have := h4.1.nonneg hE
          simp only [Option.getD_some] at h0
          omega
        · rw [List.getElem?_eq_getElem hlt] at h3
          injection h3 with h3
          simp only [Option.getD_some]
          omega
      · simp at hlt
    · rename_i hr
      rw [if_neg hr]
      omega
  · omega
theorem far_sum {l : List Ar} {N : Nat} {s : Int} {L : List Int} (hok : EndsOk N l) (hl : Len l) (h : FarI (arcE l) N s L) (t : Int) : atL L t ≤ sumL l := by
  have h1 := sum_nonneg hl
  rcases Int.lt_or_le (atL L t) 0 with h0 | h0
  · omega
  · obtain ⟨_, h2⟩ := h.of_at h0
    obtain ⟨d', h3, h4⟩ := wk_sum _ l rfl hl _ _ _ h2.1
    have := h2.2 _ h3
    omega
theorem far_self {l : List Ar} {N u : Nat} {L : List Int} (hok : EndsOk N l) (hl : Len l) (h : FarI (arcE l) N u L) (hu : u < N) : atL L u = 0 := by
  have h1 := h.wk (eds_arc hok hl) (by omega) (u := u) (d := 0) (by rw [Int.toNat_natCast]; exact .nil)
  omega
theorem far_join {l : List Ar} {N u v x : Nat} {L L' : List Int} (hok : EndsOk N l) (hl : Len l) (h : FarI (arcE l) N u L) (h' : FarI (arcE l) N v L') (hu : u < N) (h0 : 0 ≤ atL L v) (h1 : 0 ≤ atL L' x) : 0 ≤ atL L x ∧ atL L x ≤ atL L v + atL L' x := by
  have a := (h.of_at h0).2.1
  have b := (h'.of_at h1).2.1
  rw [Int.toNat_natCast, Int.toNat_natCast] at a b
  have := h.wk (eds_arc hok hl) (by omega) (u := x) (by rw [Int.toNat_natCast]; exact a.join b)
  exact ⟨this.1, this.2.1⟩
theorem far_edge {l : List Ar} {N u : Nat} {L : List Int} (hok : EndsOk N l) (hl : Len l) (h : FarI (arcE l) N u L) (hu : u < N) {e : Ed} (he : e ∈ outE N l u) : 0 ≤ atL L e.1 ∧ atL L e.1 ≤ e.2.1 := by
  obtain ⟨x, hx, h1, h2, h3, _⟩ := out_arc hok he
  have hE := hok x hx
  obtain ⟨v, hv⟩ : ∃ v : Nat, x.2.1 = v := ⟨x.2.1.toNat, by omega⟩
  have hw : Wk (arcE l) u v (0 + x.2.2) := Wk.snoc (e := (x.2.1, x.2.2, 0)) .nil (mem_arcE.2 ⟨x, hx, h1, rfl⟩) hv
  have := h.wk (eds_arc hok hl) (by omega) (u := v) (by rw [Int.toNat_natCast]; exact hw)
  rw [h2, h3, hv]
  omega
end Go.Proofs.Ythljgkaigjokjaa
