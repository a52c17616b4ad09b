import Derived.Test.YtdkpdmpghibmmaaGreatM7
import Derived.Deep.RegionHeld3
import Derived.Deep.LoopGhost
/- left: Near's closure: may one be at a place? -/
namespace Go.Proofs.YtdkpdmpghibmmaaGreat
open Go.RowKit Go.Maps
attribute [local go_sem ↓] Go.wp_at_zero Go.wp_at_succ
def mayB (s : LSt) (without v : Int) : Bool := !decide (v = without) && s.holds v
set_option maxRecDepth 100000 in
set_option maxHeartbeats 2000000 in
theorem may_any {w : World} {l bl bo bi b1 b2 : Nat} {go gi : Int → Option Nat} {s : LSt} (h : Lq w l bl bo bi go gi s) {v u : Int} (hwv : (Lit.int .i64 v).wf = true) (h1 : w.cell? ⟨b1, 0, none⟩ = some (.int .i64 u)) (h2 : w.cell? ⟨b2, 0, none⟩ = some (ptr l)) :
    Calls Tryz.prog 73 #[.int .i64 v, ptr b1, ptr b2] w fun e w' => e = .returned (.bool (mayB s u v)) ∧ Below w.heap.size w w' := by
  have H := Lib.hid (And.intro h hwv)
  clear h hwv
  by_cases e : v = u
  · have hm : mayB s u v = false := by unfold mayB; simp [e]
    rw [hm]
    have e2 : decide (v = u) = true := by simp [e]
    go_enter Tryz.func73, Tryz.ntmps73
    go_wp2
    go_ret
    exact ⟨rfl, Below.refl _ _⟩
  · have hm : mayB s u v = s.holds v := by unfold mayB; simp [e]
    rw [hm]
    go_enter Tryz.func73, Tryz.ntmps73
    go_wp2_with (go_at_call 74; refine (holds_any H.out.1 H.out.2).mono ?_; rintro e w1 ⟨rfl, rfl⟩)
    go_ret
    exact ⟨by simp [e], Below.refl _ _⟩
end Go.Proofs.YtdkpdmpghibmmaaGreat

/- left: the search of Near, in numbers. -/
namespace Go.Proofs.YtdkpdmpghibmmaaGreat
open Go.Maps Hp
/-- A way from place to place, around one, of so much together. -/
inductive WkL (s : LSt) (wo : Int) (u : Int) : Int → Int → Prop
  | base : WkL s wo u u 0
  | step (p q c : Int) (x : Wy) : WkL s wo u p c → s.F p q = some x → mayB s wo q = true → WkL s wo u q (c + x.1)
def LSt.Pos (s : LSt) : Prop := ∀ i j x, s.F i j = some x → 0 ≤ x.1 ∧ x.1 ≤ 4611686018427387904
def NearP (s : LSt) (u v wo most : Int) : Prop := mayB s wo u = true ∧ mayB s wo v = true ∧ 0 ≤ most ∧ ∃ c, c ≤ most ∧ WkL s wo u v c
theorem WkL.nonneg {s : LSt} {wo u p c : Int} (hp : s.Pos) (h : WkL s wo u p c) : 0 ≤ c := by
  induction h with
  | base => exact Int.le_refl _
  | step p q c x _ hx _ ih => have := (hp p q x hx).1; omega
/-- All that leaves a place was seen, as far as it is near enough. -/
def RelX (s : LSt) (wo v most : Int) (R : List (Int × Int)) (p d : Int) (q : Int) (x : Wy) : Prop := mayB s wo q = true → x.1 ≤ most - d → q ≠ v ∧ ∃ d', (q, d') ∈ R ∧ d' ≤ d + x.1
/-- R2 holds all of R, no farther. -/
def Betters (R R2 : List (Int × Int)) : Prop := ∀ p d, (p, d) ∈ R → ∃ d', (p, d') ∈ R2 ∧ d' ≤ d
theorem Betters.refl (R : List (Int × Int)) : Betters R R := fun p d h => ⟨d, h, Int.le_refl _⟩
theorem Betters.trans {R R2 R3 : List (Int × Int)} (h : Betters R R2) (h2 : Betters R2 R3) : Betters R R3 := fun p d hm => by
  obtain ⟨d1, m1, l1⟩ := h p d hm
  obtain ⟨d2, m2, l2⟩ := h2 p d1 m1
  exact ⟨d2, m2, by omega⟩
theorem RelX.mono {s : LSt} {wo v most : Int} {R R2 : List (Int × Int)} {p d q : Int} {x : Wy} (h : RelX s wo v most R p d q x) (hb : Betters R R2) : RelX s wo v most R2 p d q x := fun h1 h2 => by
  obtain ⟨h3, d', m, l⟩ := h h1 h2
  obtain ⟨d2, m2, l2⟩ := hb q d' m
  exact ⟨h3, d2, m2, by omega⟩
/-- What holds of the front while one searches; 'part' is the place that is being seen, with the keys that are still to come. -/
structure Sch (s : LSt) (wo u v most : Int) (t : Fp) (part : Option (Nat × (Int → Bool))) : Prop where
  snd : ∀ x ∈ t.R, WkL s wo u x.1 x.2 ∧ 0 ≤ x.2 ∧ x.2 ≤ most
  root : ∃ d, (u, d) ∈ t.R ∧ d ≤ 0
  clo : ∀ k (hk : k < t.R.length), t.f k = none → ∀ q x, s.F (t.R[k]'hk).1 q = some x → (∀ k' L, part = some (k', L) → k = k' → L q = false) → RelX s wo v most t.R (t.R[k]'hk).1 (t.R[k]'hk).2 q x
theorem mem_get {R : List (Int × Int)} {k : Nat} (hk : k < R.length) : ((R[k]'hk).1, (R[k]'hk).2) ∈ R := List.getElem_mem hk
/-- The front after a step of reach. -/
theorem reach_betters {N : Nat} {t : Fp} (_hok : FOk N t) (p d : Int) : Betters t.R (t.reach p d).R ∧ ∃ d', (p, d') ∈ (t.reach p d).R ∧ d' ≤ d := by
  unfold Fp.reach
  cases hk : numOf t.R p with
  | none => exact ⟨fun q e hm => ⟨e, List.mem_append_left _ hm, Int.le_refl _⟩, d, List.mem_append_right _ (by simp), Int.le_refl _⟩
  | some k =>
    obtain ⟨hkl, hkp⟩ := numOf_some hk
    have hg : t.R.getD k (0, 0) = t.R[k]'hkl := by rw [List.getD_eq_getElem?_getD, List.getElem?_eq_getElem hkl]; rfl
    dsimp only
    rw [hg]
    split
    · rename_i hle
      exact ⟨Betters.refl _, (t.R[k]'hkl).2, hkp ▸ mem_get hkl, hle⟩
    · rename_i hgt
      refine ⟨fun q e hm => ?_, d, ?_, Int.le_refl _⟩
      · obtain ⟨j, hj, hje⟩ := List.getElem_of_mem hm
        by_cases ej : j = k
        · subst ej
          rw [hje] at hkp hgt
          dsimp only at hkp hgt
          subst hkp
          exact ⟨d, List.mem_iff_getElem.2 ⟨j, by simpa using hj, by simp⟩, by omega⟩
        · exact ⟨e, List.mem_iff_getElem.2 ⟨j, by simpa using hj, by rw [List.getElem_set_ne (Ne.symm ej)]; exact hje⟩, Int.le_refl _⟩
      · exact List.mem_iff_getElem.2 ⟨k, by simpa using hkl, by simp⟩
theorem reach_old {t : Fp} {p d : Int} {k : Nat} (hk : numOf t.R p = some k) (hd : (t.R.getD k (0, 0)).2 ≤ d) : t.reach p d = t := by
  unfold Fp.reach
  rw [hk]
  exact if_pos hd
theorem reach_set {t : Fp} {p d : Int} {k : Nat} (hk : numOf t.R p = some k) (hd : ¬ (t.R.getD k (0, 0)).2 ≤ d) : t.reach p d = ⟨t.room, t.R.set k (p, d), upd t.f k (some d)⟩ := by
  unfold Fp.reach
  rw [hk]
  exact if_neg hd
theorem reach_add {t : Fp} {p d : Int} (hk : numOf t.R p = none) : t.reach p d = ⟨if t.room ≤ t.R.length then min (t.room * 4) 16777216 else t.room, t.R ++ [(p, d)], upd t.f t.R.length (some d)⟩ := by
  unfold Fp.reach
  rw [hk]
theorem getD_at {R : List (Int × Int)} {k : Nat} (hk : k < R.length) : R.getD k (0, 0) = R[k]'hk := by rw [List.getD_eq_getElem?_getD, List.getElem?_eq_getElem hk]; rfl
theorem FOk.reach {N : Nat} {t : Fp} (h : FOk N t) {p d : Int} (hp : 0 ≤ p ∧ p < (N : Int)) : FOk N (t.reach p d) := by
  cases hk : numOf t.R p with
  | none => exact (h.app hp hk).2.2
  | some k =>
    by_cases hd : (t.R.getD k (0, 0)).2 ≤ d
    · rw [reach_old hk hd]; exact h
    · rw [reach_set hk hd]
      obtain ⟨hkl, hkp⟩ := numOf_some hk
      refine ⟨by rw [map_set_same hkl hkp]; exact h.nod, fun x hx => ?_, h.small, by rw [List.length_set]; exact h.len, h.lo, h.hi, fun j e hj => ?_⟩
      · rcases List.mem_or_eq_of_mem_set hx with hx | rfl
        · exact h.rng x hx
        · exact hp
      · by_cases ej : j = k
        · subst ej
          simp only [upd, if_pos] at hj
          injection hj with hj
          exact ⟨by rw [List.length_set]; exact hkl, by simp [hj]⟩
        · simp only [upd, if_neg ej] at hj
          obtain ⟨h1, h2⟩ := h.key j e hj
          exact ⟨by rw [List.length_set]; exact h1, by simp [List.getElem_set_ne (Ne.symm ej), h2]⟩
/-- The entries that stay out of the heap stay as they are. -/
theorem reach_out {N : Nat} {t : Fp} (hok : FOk N t) {p d : Int} {k : Nat} (hk : k < (t.reach p d).R.length) (hf : (t.reach p d).f k = none) : ∃ h : k < t.R.length, (t.reach p d).R[k]'hk = t.R[k]'h ∧ t.f k = none := by
  cases hn : numOf t.R p with
  | none =>
    have e := reach_add (d := d) hn
    have hf2 := hf
    rw [e] at hf2
    by_cases ek : k = t.R.length
    · subst ek
      simp [upd] at hf2
    · simp only [upd, if_neg ek] at hf2
      have hk2 := hk
      rw [e] at hk2
      simp at hk2
      refine ⟨by omega, ?_, hf2⟩
      simp only [e]
      exact List.getElem_append_left (by omega)
  | some j =>
    by_cases hd : (t.R.getD j (0, 0)).2 ≤ d
    · have e := reach_old hn hd
      simp only [e] at hk hf ⊢
      exact ⟨hk, trivial, hf⟩
    · have e := reach_set hn hd
      have hf2 := hf
      rw [e] at hf2
      by_cases ek : k = j
      · subst ek
        simp [upd] at hf2
      · simp only [upd, if_neg ek] at hf2
        have hk2 := hk
        rw [e] at hk2
        simp at hk2
        refine ⟨hk2, ?_, hf2⟩
        simp only [e]
        exact List.getElem_set_ne (Ne.symm ek) _
/-- A reach by a walk keeps all that holds; what is being seen is seen one key further. -/
theorem Sch.reach {s : LSt} {wo u v most : Int} {t : Fp} {N k : Nat} {L : Int → Bool} {q : Int} {x : Wy} (h : Sch s wo u v most t (some (k, L))) (hok : FOk N t) (hps : s.Pos) (hk : k < t.R.length) (_hf : t.f k = none)
    (hx : s.F (t.R[k]'hk).1 q = some x) (hm : mayB s wo q = true) (hle : x.1 ≤ most - (t.R[k]'hk).2) (hv : q ≠ v) :
    Sch s wo u v most (t.reach q ((t.R[k]'hk).2 + x.1)) (some (k, fun i => L i && !decide (i = q))) := by
  obtain ⟨hb, d', hd', hle'⟩ := reach_betters hok q ((t.R[k]'hk).2 + x.1)
  have hx0 := (hps _ _ _ hx).1
  have hkm := h.snd _ (List.getElem_mem hk)
  refine ⟨fun y hy => ?_, ?_, fun j hj hfj r z hz hL => ?_⟩
  · -- all are walks
    have hw : WkL s wo u q ((t.R[k]'hk).2 + x.1) := .step _ q _ x hkm.1 hx hm
    cases hn : numOf t.R q with
    | none =>
      rw [reach_add hn] at hy
      rcases List.mem_append.1 hy with hy | hy
      · exact h.snd y hy
      · simp only [List.mem_singleton] at hy
        subst hy
        exact ⟨hw, by dsimp only; omega, by dsimp only; omega⟩
    | some j =>
      by_cases hd : (t.R.getD j (0, 0)).2 ≤ (t.R[k]'hk).2 + x.1
      · rw [reach_old hn hd] at hy
        exact h.snd y hy
      · rw [reach_set hn hd] at hy
        rcases List.mem_or_eq_of_mem_set hy with hy | hy
        · exact h.snd y hy
        · subst hy
          exact ⟨hw, by dsimp only; omega, by dsimp only; omega⟩
  · obtain ⟨d0, h0, h1⟩ := h.root
    obtain ⟨d2, h2, h3⟩ := hb u d0 h0
    exact ⟨d2, h2, by omega⟩
  · obtain ⟨hj2, hje, hfj2⟩ := reach_out hok hj hfj
    rw [hje] at hz ⊢
    by_cases e : j = k ∧ r = q
    · obtain ⟨rfl, rfl⟩ := e
      have hxe : z = x := by rw [hx] at hz; injection hz with hz; exact hz.symm
      subst hxe
      exact fun _ _ => ⟨hv, d', hd', hle'⟩
    · refine (h.clo j hj2 hfj2 r z hz fun k' L' hp hjk => ?_).mono hb
      injection hp with hp
      injection hp with hp1 hp2
      subst hp1 hp2
      have := hL k _ rfl hjk
      simp only [Bool.and_eq_false_iff, Bool.not_eq_false', decide_eq_true_eq] at this
      exact this.resolve_right fun e2 => e ⟨hjk, e2⟩
/-- A key that is passed over. -/
theorem Sch.skip {s : LSt} {wo u v most : Int} {t : Fp} {k : Nat} {L : Int → Bool} {q : Int} {x : Wy} (h : Sch s wo u v most t (some (k, L))) (hk : k < t.R.length)
    (hx : s.F (t.R[k]'hk).1 q = some x) (hm : mayB s wo q = false ∨ ¬ x.1 ≤ most - (t.R[k]'hk).2) : Sch s wo u v most t (some (k, fun i => L i && !decide (i = q))) := by
  refine ⟨h.snd, h.root, fun j hj hfj r z hz hL => ?_⟩
  by_cases e : j = k ∧ r = q
  · obtain ⟨rfl, rfl⟩ := e
    have hxe : z = x := by rw [hx] at hz; injection hz with hz; exact hz.symm
    subst hxe
    intro h1 h2
    rcases hm with e | e
    · rw [h1] at e; cases e
    · exact absurd h2 e
  · refine h.clo j hj hfj r z hz fun k' L' hp hjk => ?_
    injection hp with hp
    injection hp with hp1 hp2
    subst hp1 hp2
    have := hL k _ rfl hjk
    simp only [Bool.and_eq_false_iff, Bool.not_eq_false', decide_eq_true_eq] at this
    exact this.resolve_right fun e2 => e ⟨hjk, e2⟩
/-- One is popped. -/
theorem Sch.pop {s : LSt} {wo u v most : Int} {t : Fp} {k : Nat} {g : Int → Bool} (h : Sch s wo u v most t none) (hg : ∀ (hk : k < t.R.length) q x, s.F (t.R[k]'hk).1 q = some x → g q = true) : Sch s wo u v most (t.pop k) (some (k, g)) := by
  refine ⟨h.snd, h.root, fun j hj hfj r z hz hL => ?_⟩
  by_cases e : j = k
  · subst e
    have := hL j g rfl rfl
    rw [hg hj r z hz] at this
    cases this
  · refine h.clo j hj ?_ r z hz fun k' L' hp => by cases hp
    simp only [Fp.pop, upd, if_neg e] at hfj
    exact hfj
/-- All keys were seen. -/
theorem Sch.seen {s : LSt} {wo u v most : Int} {t : Fp} {k : Nat} {L : Int → Bool} (h : Sch s wo u v most t (some (k, L))) (hL : ∀ z, L z = false) : Sch s wo u v most t none :=
  ⟨h.snd, h.root, fun j hj hfj r z hz _ => h.clo j hj hfj r z hz fun k' L' hp _ => by injection hp with hp; injection hp with _ hp; subst hp; exact hL r⟩
/-- Nothing is left to pop: one can't get there. -/
theorem Sch.no {s : LSt} {wo u v most : Int} {t : Fp} (h : Sch s wo u v most t none) (hps : s.Pos) (hf : ∀ k, t.f k = none) (huv : u ≠ v) {c : Int} (hc : c ≤ most) : ¬ WkL s wo u v c := by
  have key : ∀ p c, WkL s wo u p c → c ≤ most → (p = v → False) ∧ ∃ d, (p, d) ∈ t.R ∧ d ≤ c := by
    intro p c hw
    induction hw with
    | base => exact fun _ => ⟨huv, h.root⟩
    | step p q c x hw hx hm ih =>
      intro hle
      have hx0 := (hps _ _ _ hx).1
      obtain ⟨_, d, hd, hdc⟩ := ih (by omega)
      obtain ⟨k, hk, hke⟩ := List.getElem_of_mem hd
      have h1 : (t.R[k]'hk).1 = p := by rw [hke]
      have h2 : (t.R[k]'hk).2 = d := by rw [hke]
      have hr := h.clo k hk (hf k) q x (by rw [h1]; exact hx) (fun k' L hp => by cases hp)
      rw [h1, h2] at hr
      obtain ⟨h3, d', h4, h5⟩ := hr hm (by omega)
      exact ⟨h3, d', h4, by omega⟩
  exact fun hw => (key v c hw hc).1 rfl
end Go.Proofs.YtdkpdmpghibmmaaGreat

/- left: the search of Near ends. -/
namespace Go.Proofs.YtdkpdmpghibmmaaGreat
open Go.Maps Hp
def sumN (g : Nat → Nat) : Nat → Nat
  | 0 => 0
  | n + 1 => sumN g n + g n
theorem sumN_congr {g h : Nat → Nat} : ∀ {n : Nat}, (∀ k, k < n → g k = h k) → sumN g n = sumN h n
  | 0, _ => rfl
  | n + 1, e => by
    unfold sumN
    rw [sumN_congr fun k hk => e k (by omega), e n (by omega)]
theorem sumN_less {g h : Nat → Nat} {j m : Nat} : ∀ {n : Nat}, j < n → (∀ k, k < n → k ≠ j → g k = h k) → g j + m ≤ h j → sumN g n + m ≤ sumN h n
  | 0, hj, _, _ => by omega
  | n + 1, hj, e, hl => by
    unfold sumN
    by_cases ej : j = n
    · subst ej
      rw [sumN_congr fun k hk => e k (by omega) (by omega)]
      omega
    · have := sumN_less (n := n) (by omega) (fun k hk => e k (by omega)) hl
      rw [e n (by omega) (Ne.symm ej)]
      omega
def wtF (t : Fp) (k : Nat) : Nat := 2 * ((t.R.getD k (0, 0)).2).toNat + (if (t.f k).isSome then 1 else 0)
def meas (N : Nat) (most : Int) (t : Fp) : Nat := sumN (wtF t) t.R.length + (N - t.R.length) * (2 * most.toNat + 2)
theorem meas_pop {N : Nat} {most : Int} {t : Fp} {k : Nat} (hk : k < t.R.length) {d : Int} (hf : t.f k = some d) : meas N most (t.pop k) < meas N most t := by
  have h := sumN_less (g := wtF (t.pop k)) (h := wtF t) (j := k) (m := 1) (n := t.R.length) hk (fun i hi hne => by simp [wtF, Fp.pop, upd, hne]) (by simp [wtF, Fp.pop, upd, hf])
  unfold meas
  show sumN (wtF (t.pop k)) t.R.length + _ < _
  have e : (t.pop k).R = t.R := rfl
  rw [e]
  omega
theorem meas_reach {N : Nat} {most : Int} {t : Fp} (hok : FOk N t) (hR : ∀ x ∈ t.R, 0 ≤ x.2) {p d : Int} (hp : 0 ≤ p ∧ p < (N : Int)) (hd : 0 ≤ d ∧ d ≤ most) : meas N most (t.reach p d) ≤ meas N most t := by
  cases hn : numOf t.R p with
  | none =>
    have hl := (hok.app (d := d) hp hn).1
    rw [reach_add hn]
    unfold meas
    dsimp only
    rw [List.length_append]
    show sumN _ t.R.length + wtF _ t.R.length + (N - (t.R.length + 1)) * _ ≤ _
    have e1 : sumN (wtF ⟨if t.room ≤ t.R.length then min (t.room * 4) 16777216 else t.room, t.R ++ [(p, d)], upd t.f t.R.length (some d)⟩) t.R.length = sumN (wtF t) t.R.length := by
      refine sumN_congr fun k hk => ?_
      unfold wtF
      dsimp only
      rw [getD_at (by simp; omega), getD_at hk, List.getElem_append_left hk]
      simp [upd, Nat.ne_of_lt hk]
    have e2 : wtF ⟨if t.room ≤ t.R.length then min (t.room * 4) 16777216 else t.room, t.R ++ [(p, d)], upd t.f t.R.length (some d)⟩ t.R.length = 2 * d.toNat + 1 := by
      unfold wtF
      dsimp only
      rw [getD_at (by simp)]
      simp [upd]
    rw [e1, e2]
    have e3 : (N - t.R.length) * (2 * most.toNat + 2) = (N - (t.R.length + 1)) * (2 * most.toNat + 2) + (2 * most.toNat + 2) := by
      rw [show N - t.R.length = (N - (t.R.length + 1)) + 1 by omega, Nat.add_mul, Nat.one_mul]
    rw [e3]
    omega
  | some k =>
    by_cases hd2 : (t.R.getD k (0, 0)).2 ≤ d
    · rw [reach_old hn hd2]
      exact Nat.le_refl _
    · rw [reach_set hn hd2]
      obtain ⟨hk, hkp⟩ := numOf_some hn
      unfold meas
      dsimp only
      rw [List.length_set]
      have h0 := hR _ (List.getElem_mem hk)
      have h := sumN_less (g := wtF ⟨t.room, t.R.set k (p, d), upd t.f k (some d)⟩) (h := wtF t) (j := k) (m := 0) (n := t.R.length) hk (fun i hi hne => by
        unfold wtF
        dsimp only
        rw [getD_at (by simpa using hi), getD_at hi, List.getElem_set_ne (Ne.symm hne)]
        simp [upd, hne]) (by
        unfold wtF
        dsimp only
        rw [getD_at (by simpa using hk), getD_at hk]
        rw [getD_at hk] at hd2
        simp only [List.getElem_set_self, upd, if_pos, Option.isSome_some]
        split <;> omega)
      omega
/-- What the search begins with. -/
theorem sch_start {s : LSt} {wo u v most : Int} (h0 : 0 ≤ most) : Sch s wo u v most ((⟨16, [], fun _ => none⟩ : Fp).reach u 0) none := by
  rw [reach_add (by rw [numOf_none]; simp)]
  refine ⟨fun x hx => ?_, ⟨0, by simp, Int.le_refl _⟩, fun k hk hf => ?_⟩
  · simp only [List.nil_append, List.mem_singleton] at hx
    subst hx
    exact ⟨.base, Int.le_refl _, h0⟩
  · have : k = 0 := by simpa using hk
    subst this
    simp [upd] at hf
end Go.Proofs.YtdkpdmpghibmmaaGreat

/- left: Near, where one may not even begin. -/
namespace Go.Proofs.YtdkpdmpghibmmaaGreat
open Go.RowKit Go.Maps Hp
attribute [local go_sem ↓] Go.wp_at_zero Go.wp_at_succ
/-- The closure, in every world behind. -/
def MayAt (s : LSt) (wo : Int) (b8 b5 : Nat) (w2 : World) : Prop := ∀ (z : Int), (Lit.int .i64 z).wf = true → ∀ W, Below w2.heap.size w2 W → Calls Tryz.prog 73 #[.int .i64 z, ptr b8, ptr b5] W fun e W' => e = .returned (.bool (mayB s wo z)) ∧ Below W.heap.size W W' ∧ Below w2.heap.size w2 W'
theorem mayAt_of {w w2 : World} {l bl bo bi b8 b5 : Nat} {go gi : Int → Option Nat} {s : LSt} (h : Lq w l bl bo bi go gi s) (hb : Below w.heap.size w w2) {wo : Int} (h1 : w2.cell? ⟨b8, 0, none⟩ = some (.int .i64 wo)) (h2 : w2.cell? ⟨b5, 0, none⟩ = some (ptr l)) (l8 : b8 < w2.heap.size) (l5 : b5 < w2.heap.size) : MayAt s wo b8 b5 w2 := by
  intro z hz W hW
  have hb2 : Below w.heap.size w W := hb.trans (hW.mono hb.size)
  refine (may_any (h.under hb2) hz (b1 := b8) (b2 := b5) ?_ ?_).mono fun e W' ⟨h3, h4⟩ => ⟨h3, h4, hW.trans (h4.mono hW.size)⟩
  · rw [hW.cell (p := ⟨b8, 0, none⟩) l8]; exact h1
  · rw [hW.cell (p := ⟨b5, 0, none⟩) l5]; exact h2
set_option maxRecDepth 100000 in
set_option maxHeartbeats 2000000 in
theorem near_not {w : World} {l bl bo bi : Nat} {go gi : Int → Option Nat} {s : LSt} (h : Lq w l bl bo bi go gi s) {u v wo most : Int} (hwu : (Lit.int .i64 u).wf = true) (hwv : (Lit.int .i64 v).wf = true)
    (hn : mayB s wo u = false ∨ mayB s wo v = false ∨ most < 0) :
    Calls Tryz.prog 26 #[ptr l, .int .i64 u, .int .i64 v, .int .i64 wo, .int .i64 most] w fun e w' => e = .returned (.bool false) ∧ Below w.heap.size w w' := by
  obtain ⟨w2, hw2⟩ : ∃ w2, w2 = (w.alloc (.cells #[ptr l] 29)).alloc (.cells #[.int .i64 wo] 3) := ⟨_, rfl⟩
  have hb : Below w.heap.size w w2 := by rw [hw2]; exact ((Below.refl _ _).alloc (Nat.le_refl _) _).alloc (by simp) _
  have hr8 : Row w2 (w.heap.size + 1) 3 #[.int .i64 wo] := by
    rw [hw2]
    have := Row.fresh (w.alloc (.cells #[ptr l] 29)) 3 #[.int .i64 wo]
    rw [World.size_alloc] at this
    exact this
  have hr5 : Row w2 w.heap.size 29 #[ptr l] := by
    rw [hw2]
    exact (Row.fresh w 29 #[ptr l]).under ((Below.refl _ _).alloc (Nat.le_refl _) _) (by simp)
  have k8 := hr8.cell 0
  have k5 := hr5.cell 0
  simp only [List.getElem?_toArray, List.getElem?_cons_zero, List.getElem?_cons_succ] at k5 k8
  have hM := mayAt_of h hb k8 k5 hr8.lt hr5.lt
  have HM := Lib.hid (And.intro hM (And.intro hb (And.intro hwu hwv)))
  have HW := Lib.hid hw2
  clear h hwu hwv hM hb hr8 hr5 k5 k8 hw2
  cases hu : mayB s wo u with
  | false =>
    have HU := Lib.hid hu
    clear hu hn
    go_enter Tryz.func26, Tryz.ntmps26
    go_wp2
    go_step3
    go_wp2_with (go_at_call 73; rw [← HW.out]; refine (HM.out.1 _ HM.out.2.2.1 _ (Below.refl _ _)).mono ?_; rw [HU.out]; rintro e w3 ⟨rfl, hb3, hb4⟩; have H3 := Lib.hid hb4; clear hb3 hb4)
    rw [Exit.noGoto_ret]
    go_ret
    exact ⟨rfl, HM.out.2.1.trans (H3.out.mono HM.out.2.1.size)⟩
  | true =>
    have HU := Lib.hid hu
    clear hu
    cases hv : mayB s wo v with
    | false =>
      have HV := Lib.hid hv
      clear hv hn
      go_enter Tryz.func26, Tryz.ntmps26
      go_wp2
      go_step3
      go_wp2_with (go_at_call 73; rw [← HW.out]; refine (HM.out.1 _ HM.out.2.2.1 _ (Below.refl _ _)).mono ?_; rw [HU.out]; rintro e w3 ⟨rfl, hb3, hb4⟩; have H3 := Lib.hid hb4; clear hb3 hb4)
      go_wp2_with (go_at_call 73; refine (HM.out.1 _ HM.out.2.2.2 _ H3.out).mono ?_; rw [HV.out]; rintro e w4 ⟨rfl, hb3, hb4⟩; have H4 := Lib.hid hb4; clear hb3 hb4)
      rw [Exit.noGoto_ret]
      go_ret
      exact ⟨rfl, HM.out.2.1.trans (H4.out.mono HM.out.2.1.size)⟩
    | true =>
      have HV := Lib.hid hv
      have hm : most < 0 := by simpa [HU.out, hv] using hn
      clear hv hn
      go_enter Tryz.func26, Tryz.ntmps26
      go_wp2
      go_step3
      go_wp2_with (go_at_call 73; rw [← HW.out]; refine (HM.out.1 _ HM.out.2.2.1 _ (Below.refl _ _)).mono ?_; rw [HU.out]; rintro e w3 ⟨rfl, hb3, hb4⟩; have H3 := Lib.hid hb4; clear hb3 hb4)
      go_wp2_with (go_at_call 73; refine (HM.out.1 _ HM.out.2.2.2 _ H3.out).mono ?_; rw [HV.out]; rintro e w4 ⟨rfl, hb3, hb4⟩; have H4 := Lib.hid hb4; clear hb3 hb4)
      rw [Exit.noGoto_ret]
      go_ret
      exact ⟨rfl, HM.out.2.1.trans (H4.out.mono HM.out.2.1.size)⟩
end Go.Proofs.YtdkpdmpghibmmaaGreat

/- left: Near (written by mklgr.py). -/
namespace Go.Proofs.YtdkpdmpghibmmaaGreat
open Go.RowKit Go.Maps Hp
attribute [local go_sem ↓] Go.wp_at_zero Go.wp_at_succ
theorem mayB_lt {s : LSt} {wo z : Int} (h : mayB s wo z = true) : 0 ≤ z ∧ z < (s.lost.length : Int) := by
  unfold mayB LSt.holds at h
  simp only [Bool.and_eq_true, decide_eq_true_eq] at h
  exact ⟨h.2.1, h.2.2.1⟩
/-- Near's world while it searches: the front behind all that was there. -/
structure NrI (w2 : World) (b N : Nat) (s : LSt) (wo u v most : Int) (part : Option (Nat × (Int → Bool))) (n : Nat) (S : Nat → Prop) (t : Fp) (W : World) : Prop where
  fq : Fq W b S N t
  sch : Sch s wo u v most t part
  le : meas N most t ≤ n
  fresh : ∀ k, S k → w2.heap.size ≤ k
  bw : Below w2.heap.size w2 W
theorem NrI.below {w2 W W' : World} {b N n : Nat} {s : LSt} {wo u v most : Int} {part : Option (Nat × (Int → Bool))} {S : Nat → Prop} {t : Fp} (h : NrI w2 b N s wo u v most part n S t W) (hb : Below W.heap.size W W') : NrI w2 b N s wo u v most part n S t W' :=
  ⟨h.fq.under hb, h.sch, h.le, h.fresh, h.bw.trans (hb.mono h.bw.size)⟩
theorem NrI.step {w2 W W' : World} {b N n n' : Nat} {s : LSt} {wo u v most : Int} {part part' : Option (Nat × (Int → Bool))} {S : Nat → Prop} {t t' : Fp} (h : NrI w2 b N s wo u v most part n S t W) (hd : FDid W b N S t' W') (hs : Sch s wo u v most t' part') (hle : meas N most t' ≤ n') : ∃ S', NrI w2 b N s wo u v most part' n' S' t' W' ∧ (∀ k, S' k → S k ∨ W.heap.size ≤ k) := by
  obtain ⟨S', q1, q2, q3⟩ := hd
  refine ⟨S', ⟨q1, hs, hle, fun k hk => ?_, ?_⟩, q2⟩
  · rcases q2 k hk with e | e
    · exact h.fresh k e
    · have := h.bw.size; omega
  · exact h.bw.trans (q3.below (K := w2.heap.size) h.fresh h.bw.size)
theorem NrI.part {w2 W : World} {b N n : Nat} {s : LSt} {wo u v most : Int} {part part' : Option (Nat × (Int → Bool))} {S : Nat → Prop} {t : Fp} (h : NrI w2 b N s wo u v most part n S t W) (hs : Sch s wo u v most t part') : NrI w2 b N s wo u v most part' n S t W := ⟨h.fq, hs, h.le, h.fresh, h.bw⟩
theorem NrI.grown {w2 W W' : World} {b N n r : Nat} {s : LSt} {wo u v most : Int} {part : Option (Nat × (Int → Bool))} {S : Nat → Prop} {t : Fp} (h : NrI w2 b N s wo u v most part n S t W) (hg : W.grownBy W' (some r)) (hr : w2.heap.size ≤ r) (hS : ∀ q, S q → q ≠ r) : NrI w2 b N s wo u v most part n S t W' := by
  have ho : Only (fun q => q = r) W W' := (Only.refl _ W).grown hg (fun k hk => .inl (by injection hk with hk; exact hk.symm))
  exact ⟨h.fq.only ho hS, h.sch, h.le, h.fresh, h.bw.trans (ho.below (K := w2.heap.size) (fun q hq => hq ▸ hr) h.bw.size)⟩
theorem Below.of_grown {w w' : World} (h : w.grownBy w' none) : Below w.heap.size w w' := (Below.refl _ _).grown h (Nat.le_refl _) (fun j hj => by cases hj)
/-- While the ways of a place are gone over. -/
structure InI (w2 : World) (c r b N : Nat) (s : LSt) (wo u v most : Int) (k : Nat) (p d : Int) (m cnt : Nat) (L : Int → Bool) (S : Nat → Prop) (t : Fp) (W : World) : Prop where
  mg : Mg eWay W c r N (s.F p) L cnt
  nr : NrI w2 b N s wo u v most (some (k, L)) m S t W
  at_ : ∃ hk : k < t.R.length, t.R[k]'hk = (p, d)
  out : t.f k = none
  ne : ∀ q, S q → q ≠ r
theorem Mg.only {α : Type} {R : Rd} {E : Elem α R} {w w' : World} {b r N cnt : Nat} {f : Int → Option α} {L : Int → Bool} {S : Nat → Prop} (h : Mg E w b r N f L cnt) (ho : Only S w w') (hb : ¬ S b) (hr : ¬ S r) : Mg E w' b r N f L cnt := by
  obtain ⟨D, left, h1, h2⟩ := h
  have l1 := h1.owns.lt
  have l2 := h1.lt
  obtain ⟨es, clock, since, seen, c0, hb', F, hs, hD, hr', rest⟩ := h1
  exact ⟨D, left, ⟨es, clock, since, seen, c0, (ho.block b l1 hb).trans hb', F, hs, hD, (ho.block r l2 hr).trans hr', rest⟩, h2⟩
theorem InI.pass {w2 wr w10 w11 : World} {c r b N k m cnt cnt' : Nat} {s : LSt} {wo u v most p d z : Int} {x : Wy} {L : Int → Bool} {S : Nat → Prop} {t : Fp} (h : InI w2 c r b N s wo u v most k p d m cnt L S t wr)
    (hm : Mg eWay w10 c r N (s.F p) (fun i => L i && !decide (i = z)) cnt') (h10 : NrI w2 b N s wo u v most (some (k, L)) m S t w10) (hb : Below w10.heap.size w10 w11) (hF : s.F p z = some x) (hn : mayB s wo z = false ∨ ¬ x.1 ≤ most - d) :
    InI w2 c r b N s wo u v most k p d m cnt' (fun i => L i && !decide (i = z)) S t w11 := by
  obtain ⟨hk, hke⟩ := h.at_
  have h11 := h10.below hb
  refine ⟨hm.only (Only.of_below (fun _ => False) hb) (fun h => h) (fun h => h), h11.part (h11.sch.skip hk (q := z) (x := x) (by rw [hke]; exact hF) (by rw [hke]; exact hn)), ⟨hk, hke⟩, h.out, h.ne⟩
theorem InI.go {w2 wr w10 w11 W' : World} {c r b N k m cnt cnt' : Nat} {s : LSt} {wo u v most p d z : Int} {x : Wy} {L : Int → Bool} {S : Nat → Prop} {t : Fp} (h : InI w2 c r b N s wo u v most k p d m cnt L S t wr) (hps : s.Pos)
    (hm : Mg eWay w10 c r N (s.F p) (fun i => L i && !decide (i = z)) cnt') (h10 : NrI w2 b N s wo u v most (some (k, L)) m S t w10) (hb : Below w10.heap.size w10 w11) (hF : s.F p z = some x) (hmay : mayB s wo z = true) (hle : x.1 ≤ most - d) (hv : z ≠ v) (hz : 0 ≤ z ∧ z < (N : Int)) (hc : c < w2.heap.size)
    (hd : FDid w11 b N S (t.reach z (d + x.1)) W') :
    ∃ S', InI w2 c r b N s wo u v most k p d m cnt' (fun i => L i && !decide (i = z)) S' (t.reach z (d + x.1)) W' := by
  obtain ⟨hk, hke⟩ := h.at_
  have h11 := h10.below hb
  have hx0 := (hps _ _ _ hF).1
  have hsnd := h11.sch.snd _ (List.getElem_mem hk)
  have hsc := h11.sch.reach h11.fq.ok hps hk h.out (q := z) (x := x) (by rw [hke]; exact hF) hmay (by rw [hke]; exact hle) hv
  rw [hke] at hsc hsnd
  dsimp only at hsc hsnd
  obtain ⟨S', h12, hS'⟩ := h11.step (n' := m) hd hsc (Nat.le_trans (meas_reach h11.fq.ok (fun y hy => (h11.sch.snd y hy).2.1) hz (by omega)) h11.le)
  have hm11 := hm.only (Only.of_below (fun _ => False) hb) (fun h => h) (fun h => h)
  have hr := hm11.lt
  obtain ⟨S'', q1, q2, q3⟩ := hd
  -- the entry stays
  have hst : (∃ hk2 : k < (t.reach z (d + x.1)).R.length, (t.reach z (d + x.1)).R[k]'hk2 = (p, d)) ∧ (t.reach z (d + x.1)).f k = none := by
    cases hn : numOf t.R z with
    | none =>
      have e := reach_add (d := d + x.1) hn
      simp only [e]
      exact ⟨⟨by simp; omega, by rw [List.getElem_append_left hk]; exact hke⟩, by simp [upd, Nat.ne_of_lt hk, h.out]⟩
    | some j =>
      by_cases hd2 : (t.R.getD j (0, 0)).2 ≤ d + x.1
      · have e := reach_old hn hd2
        simp only [e]
        exact ⟨⟨hk, hke⟩, h.out⟩
      · have hjk : k ≠ j := by
          rintro rfl
          rw [getD_at hk, hke] at hd2
          dsimp only at hd2
          omega
        have e := reach_set hn hd2
        simp only [e]
        exact ⟨⟨by rw [List.length_set]; exact hk, by rw [List.getElem_set_ne (Ne.symm hjk)]; exact hke⟩, by simp [upd, hjk, h.out]⟩
  refine ⟨S', ⟨hm11.only q3 (fun e => by have := h11.fresh _ e; omega) (fun e => h.ne _ e rfl), h12, hst.1, hst.2, fun q hq e => ?_⟩⟩
  rcases hS' q hq with e2 | e2
  · exact h.ne q e2 e
  · omega
set_option maxRecDepth 100000 in
set_option maxHeartbeats 8000000 in
theorem near_main {w : World} {l bl bo bi : Nat} {go gi : Int → Option Nat} {s : LSt} (h : Lq w l bl bo bi go gi s) (hps : s.Pos) {u v wo most : Int} (hwm : most ≤ 9223372036854775807)
    (hu : mayB s wo u = true) (hv : mayB s wo v = true) (hm : 0 ≤ most) :
    Calls Tryz.prog 26 #[ptr l, .int .i64 u, .int .i64 v, .int .i64 wo, .int .i64 most] w fun e w' => ∃ b, e = .returned (.bool b) ∧ (b = true ↔ NearP s u v wo most) ∧ Below w.heap.size w w' := by
  have hru := mayB_lt hu
  have hrv := mayB_lt hv
  have hwu : (Lit.int .i64 u).wf = true := wf_nat hru h.small
  have hwv : (Lit.int .i64 v).wf = true := wf_nat hrv h.small
  obtain ⟨w2, hw2⟩ : ∃ w2, w2 = (w.alloc (.cells #[ptr l] 29)).alloc (.cells #[.int .i64 wo] 3) := ⟨_, rfl⟩
  have hb : Below w.heap.size w w2 := by rw [hw2]; exact ((Below.refl _ _).alloc (Nat.le_refl _) _).alloc (by simp) _
  have hr8 : Row w2 (w.heap.size + 1) 3 #[.int .i64 wo] := by
    rw [hw2]
    have := Row.fresh (w.alloc (.cells #[ptr l] 29)) 3 #[.int .i64 wo]
    rw [World.size_alloc] at this
    exact this
  have hr5 : Row w2 w.heap.size 29 #[ptr l] := by
    rw [hw2]
    exact (Row.fresh w 29 #[ptr l]).under ((Below.refl _ _).alloc (Nat.le_refl _) _) (by simp)
  have k8 := hr8.cell 0
  have k5 := hr5.cell 0
  simp only [List.getElem?_toArray, List.getElem?_cons_zero, List.getElem?_cons_succ] at k5 k8
  have hM := mayAt_of h hb k8 k5 hr8.lt hr5.lt
  have HM := Lib.hid (And.intro hM (And.intro hb (And.intro hwu hwv)))
  have HW := Lib.hid hw2
  have HU := Lib.hid hu
  have HV := Lib.hid hv
  have HL := Lib.hid (And.intro (h.under hb) (And.intro hps (And.intro hr5 hr8.lt)))
  have HR := Lib.hid (And.intro hru hrv)
  have hsm := h.small
  clear h hwu hwv hM hb hr8 hr5 k5 k8 hw2 hu hv hru hrv hps
  go_enter Tryz.func26, Tryz.ntmps26
  go_wp2
  go_step3
  go_wp2_with (go_at_call 73; rw [← HW.out]; refine (HM.out.1 _ HM.out.2.2.1 _ (Below.refl _ _)).mono ?_; rw [HU.out]; rintro e w3 ⟨rfl, hb3, hb4⟩; have H3 := Lib.hid hb4; clear hb3 hb4)
  go_wp2_with (first
    | (go_at_call 73; refine (HM.out.1 _ HM.out.2.2.2 _ H3.out).mono ?_; rw [HV.out]; rintro e w4 ⟨rfl, hb3, hb4⟩; have H4 := Lib.hid hb4; clear hb3 hb4)
    | (go_at_call 75; refine (newFront_any hsm w4).mono ?_; rintro e w5 ⟨b, S0, rfl, q1, q2, q3⟩; have H5 := Lib.hid (And.intro q1 (And.intro q2 q3)); clear q1 q2 q3))
  obtain ⟨t0, ht0⟩ : ∃ t0, t0 = (⟨16, [], fun _ => none⟩ : Fp).reach u 0 := ⟨_, rfl⟩
  have HT := Lib.hid ht0
  go_wp2_with (go_at_call 76; refine (reach_any H5.out.1 HR.out.1).mono ?_; rw [← HT.out]; rintro e w6 ⟨rfl, hd6⟩; have H6 := Lib.hid hd6; clear hd6)
  have h6 : ∃ S1, NrI w2 b s.lost.length s wo u v most none (meas s.lost.length most t0) S1 t0 w6 := by
    obtain ⟨S1, q1, q2, q3⟩ := H6.out
    obtain ⟨p1, p2, p3⟩ := H5.out
    have z4 := H4.out.size
    have z5 := p3.size
    refine ⟨S1, q1, by rw [HT.out]; exact sch_start hm, Nat.le_refl _, fun k hk => ?_, (H4.out.trans (p3.mono z4)).trans (q3.below (K := w2.heap.size) (fun k hk => Nat.le_trans z4 (p2 k hk)) (by omega))⟩
    rcases q2 k hk with e | e
    · exact Nat.le_trans z4 (p2 k e)
    · omega
  have HN := Lib.hid h6
  clear h6 ht0
  by_cases huv : u = v
  · subst huv
    go_wp2
    go_step3
    go_wp2
    go_loopg [13] 0 (fun n fd wr => fd = .bool true ∧ wr = w6)
    case atStart => exact ⟨by simp, rfl⟩
    case round =>
      obtain ⟨rfl, rfl⟩ := hrel
      go_wp2
      rw [Exit.noGoto_ret]
      go_ret
      obtain ⟨S1, h6⟩ := HN.out
      exact ⟨true, rfl, ⟨fun _ => ⟨HU.out, HU.out, hm, 0, hm, .base⟩, fun _ => rfl⟩, HM.out.2.1.trans (h6.bw.mono HM.out.2.1.size)⟩
  · have HUV := Lib.hid huv
    clear huv
    go_wp2
    go_step3
    go_wp2
    go_loopg [13] (meas s.lost.length most t0) (fun n fd wr => fd = .bool false ∧ ∃ S t, NrI w2 b s.lost.length s wo u v most none n S t wr)
    case atStart => exact ⟨by simp [HUV.out], HN.out.elim fun S h => ⟨S, t0, h⟩⟩
    case round =>
      obtain ⟨rfl, S, tq, hN⟩ := hrel
      have HN2 := Lib.hid hN
      clear hN
      go_wp2_with (go_at_call 77; refine (fpop_any HN2.out.fq).mono ?_)
      rintro e w7 (⟨rfl, hno, hd7⟩ | ⟨k, d, p, rfl, hk, ⟨hkl, hke⟩, hd7⟩)
      · have H7 := Lib.hid (And.intro hno hd7)
        clear hno hd7
        unfold told
        go_wp2
        rw [Exit.noGoto_ret]
        go_ret
        have hn2 := HN2.out
        obtain ⟨S7, q1, q2, q3⟩ := H7.out.2
        refine ⟨false, rfl, ⟨(fun e => by cases e), fun ⟨_, _, _, c, hc, hw⟩ => absurd hw (hn2.sch.no HL.out.2.1 H7.out.1 HUV.out hc)⟩, HM.out.2.1.trans ((hn2.bw.trans (q3.below (K := w2.heap.size) hn2.fresh hn2.bw.size)).mono HM.out.2.1.size)⟩
      · have hpr : 0 ≤ p ∧ p < (s.lost.length : Int) := by
          have := HN2.out.fq.ok.rng _ (List.getElem_mem hkl)
          rw [hke] at this
          exact this
        have hdr : 0 ≤ d ∧ d ≤ most := by
          have := (HN2.out.sch.snd _ (List.getElem_mem hkl)).2
          rw [hke] at this
          exact this
        have hwk : WkL s wo u p d := by
          have := (HN2.out.sch.snd _ (List.getElem_mem hkl)).1
          rw [hke] at this
          exact this
        have hmp := meas_pop (N := s.lost.length) (most := most) hkl hk
        have h7 := HN2.out.step (n' := meas s.lost.length most (tq.pop k)) hd7 (HN2.out.sch.pop (k := k) (g := fun q => (s.F p q).isSome) (fun hk2 q x hx => by rw [hke] at hx; dsimp only at hx ⊢; rw [hx]; rfl)) (Nat.le_refl _)
        obtain ⟨S7, h7, _⟩ := h7
        have hlq : Lq w7 l bl bo bi go gi s := HL.out.1.under h7.bw
        obtain ⟨hlk, _⟩ := hlq.outs.two (wf_nat hpr hsm) (wf_nat hpr hsm)
        obtain ⟨_, c1, _⟩ := hlq.heads
        have c5 := (HL.out.2.2.1.under h7.bw HL.out.2.2.1.lt).cell 0
        simp only [List.getElem?_toArray, List.getElem?_cons_zero, List.getElem?_cons_succ] at c5
        have hlt5 : w.heap.size < w7.heap.size := by have := HL.out.2.2.2; have := h7.bw.size; omega
        have hmn : meas s.lost.length most (tq.pop k) < gk := by have := HN2.out.le; omega
        have hrl := Nat.lt_of_lt_of_le (hlq.lt l (.inl rfl)) (Nat.le_refl _)
        have H7 := Lib.hid (And.intro h7 (And.intro hlq (And.intro hke (And.intro hwk hmn))))
        have HP := Lib.hid hpr
        clear hk hd7 h7 hlq hke hmp hwk hmn hpr
        cases hgo : go p with
        | none =>
          rw [hgo] at hlk
          have HG := Lib.hid hgo
          clear hgo
          have hrg := run_range_nilMap (P := Tryz.prog) w7 120 3 47 Tryz.underlying120
          have hnx : ∀ ty, (Instr.next (.pointer (some ⟨w7.heap.size, 0, none⟩)) false ty).run Tryz.prog (w7.alloc (.mapIter none 0 #[] 0)) = _ := fun ty => run_next_nilMap _ ty 0 0 #[]
          unfold told
          go_wp2
          go_loopw [13] (fun fd wr => fd = .bool false ∧ wr = w7.alloc (.mapIter none 0 #[] 0)) (fun _ _ => 0)
          case atStart => exact ⟨rfl, rfl⟩
          case round =>
            obtain ⟨rfl, rfl⟩ := hrel
            go_wp2
            go_roundg (meas s.lost.length most (tq.pop k))
            case measure => exact H7.out.2.2.2.2
            case rel =>
              refine ⟨rfl, S7, tq.pop k, ?_⟩
              have h7 := H7.out.1
              exact (h7.below ((Below.refl _ _).alloc (Nat.le_refl _) _)).part (h7.sch.seen fun q => by rw [H7.out.2.1.outs.none_ p HG.out q]; rfl)
        | some c =>
          rw [hgo] at hlk
          have HG := Lib.hid hgo
          clear hgo
          unfold told
          go_wp2_with (at_range; refine wpList_goOver (E := eWay) rfl _ 120 _ rfl Tryz.underlying120 rfl (H7.out.2.1.outs.sub p c HG.out) ?_; intro w8 c0 hm0 hg0 hs0)
          have h8 : ∃ S t, InI w2 c w7.heap.size b s.lost.length s wo u v most k p d (meas s.lost.length most (tq.pop k)) c0 (fun z => (s.F p z).isSome) S t w8 := by
            have h7 := H7.out.1
            exact ⟨S7, tq.pop k, hm0, h7.below (Below.of_grown hg0), ⟨hkl, H7.out.2.2.1⟩, by simp [Fp.pop, upd], fun q hq e => by have := h7.fq.lt q hq; omega⟩
          have H8 := Lib.hid h8
          have hb8 := Below.of_grown hg0
          have c1 : w8.cell? ⟨l, 1, none⟩ = some (.map (some bo)) := by rw [hb8.cell (p := ⟨l, 1, none⟩) hrl]; exact c1
          have HC := Lib.hid (show c < w2.heap.size from (HL.out.1.outs.sub p c HG.out).lt)
          clear h8 hm0 hg0 hb8 hlk c5
          go_frame
          go_loopw [13] (fun fd wr => fd = .bool false ∧ ∃ L cnt S t, InI w2 c w7.heap.size b s.lost.length s wo u v most k p d (meas s.lost.length most (tq.pop k)) cnt L S t wr) (fun _ wr => wr.rangeLeft c w7.heap.size)
          case atStart => exact ⟨rfl, H8.out.elim fun S h => h.elim fun t h => ⟨_, _, S, t, h⟩⟩
          case round =>
            obtain ⟨rfl, L, cnt, S9, t9, hI⟩ := hrel
            have H9 := Lib.hid hI
            clear hI
            go_wp2_with (at_next; refine wpList_nextOver (E := eWay) rfl _ rfl rfl H9.out.mg ?_ ?_)
            · intro hc0 hl0
              go_wp2
              go_roundg (meas s.lost.length most (tq.pop k))
              case measure => exact H7.out.2.2.2.2
              case rel =>
                have h9 := H9.out.nr
                exact ⟨rfl, S9, t9, h9.part (h9.sch.seen hl0)⟩
            · intro z xa xb xc w10 c1' hz0 hz1 hLz hFz hm1 hlt1 hg1 hs1 hen
              dsimp only [eWay] at hen ⊢
              have h10 := H9.out.nr.grown hg1 H7.out.1.bw.size H9.out.ne
              have hx0 := HL.out.2.1 p z _ hFz
              dsimp only at hx0
              have HZ := Lib.hid (And.intro (wf_nat ⟨hz0, hz1⟩ hsm) (And.intro hz0 hz1))
              have HB10 := Lib.hid (show ∀ O, Below w2.heap.size w2 (w10.alloc O) from fun O => h10.bw.alloc h10.bw.size O)
              have H10 := Lib.hid (And.intro h10 (And.intro hm1 (And.intro hFz hlt1)))
              clear h10 hz0 hz1 hFz hm1 hlt1 hg1
              cases hmz : mayB s wo z with
              | false =>
                have HMZ := Lib.hid hmz
                clear hmz
                go_wp2_with fail
                refine (HM.out.1 z HZ.out.1 _ (HB10.out _)).mono ?_
                rw [HMZ.out]
                rintro e w11 ⟨rfl, hb11, hb12⟩
                have kx := ((Row.fresh w10 47 #[.int .i64 xa, .int .i64 xb, .int .i64 xc]).under hb11 (by simp)).cell 0
                simp only [List.getElem?_toArray, List.getElem?_cons_zero, hs1] at kx
                have H11 := Lib.hid (And.intro (((Below.refl w10.heap.size w10).alloc (Nat.le_refl _) _).trans (hb11.mono (by simp))) hb12)
                clear hb11 hb12
                go_wp2
                have hI := H9.out.pass H10.out.2.1 H10.out.1 H11.out.1 H10.out.2.2.1 (.inl HMZ.out)
                exact ⟨⟨rfl, _, _, _, _, hI⟩, by rw [hI.mg.left_eq, H9.out.mg.left_eq]; exact H10.out.2.2.2⟩
              | true =>
                have HMZ := Lib.hid hmz
                clear hmz
                by_cases hle : most - d < xa
                · have hle2 : decide (most - d < xa) = true := by simp [hle]
                  go_wp2_with fail
                  refine (HM.out.1 z HZ.out.1 _ (HB10.out _)).mono ?_
                  rw [HMZ.out]
                  rintro e w11 ⟨rfl, hb11, hb12⟩
                  have kx := ((Row.fresh w10 47 #[.int .i64 xa, .int .i64 xb, .int .i64 xc]).under hb11 (by simp)).cell 0
                  simp only [List.getElem?_toArray, List.getElem?_cons_zero, hs1] at kx
                  have H11 := Lib.hid (And.intro (((Below.refl w10.heap.size w10).alloc (Nat.le_refl _) _).trans (hb11.mono (by simp))) hb12)
                  clear hb11 hb12
                  go_wp2
                  have hI := H9.out.pass H10.out.2.1 H10.out.1 H11.out.1 H10.out.2.2.1 (.inr (by dsimp only; omega))
                  exact ⟨⟨rfl, _, _, _, _, hI⟩, by rw [hI.mg.left_eq, H9.out.mg.left_eq]; exact H10.out.2.2.2⟩
                · have hle2 : decide (most - d < xa) = false := by simp; omega
                  by_cases hzv : z = v
                  · have hzv2 : (z == v) = true := by simp [hzv]
                    have HZV := Lib.hid hzv
                    clear hzv
                    go_wp2_with fail
                    refine (HM.out.1 z HZ.out.1 _ (HB10.out _)).mono ?_
                    rw [HMZ.out]
                    rintro e w11 ⟨rfl, hb11, hb12⟩
                    have kx := ((Row.fresh w10 47 #[.int .i64 xa, .int .i64 xb, .int .i64 xc]).under hb11 (by simp)).cell 0
                    simp only [List.getElem?_toArray, List.getElem?_cons_zero, hs1] at kx
                    have H11 := Lib.hid (And.intro (((Below.refl w10.heap.size w10).alloc (Nat.le_refl _) _).trans (hb11.mono (by simp))) hb12)
                    clear hb11 hb12
                    go_wp2
                    rw [Exit.noGoto_ret]
                    go_ret
                    refine ⟨true, rfl, ⟨fun _ => ⟨HU.out, HV.out, hm, d + xa, by omega, ?_⟩, fun _ => rfl⟩, HM.out.2.1.trans (H11.out.2.mono HM.out.2.1.size)⟩
                    have hst := WkL.step (s := s) p z d (xa, xb, xc) H7.out.2.2.2.1 H10.out.2.2.1 HMZ.out
                    rw [HZV.out] at hst
                    exact hst
                  · have hzv2 : (z == v) = false := by simp [hzv]
                    have HZV := Lib.hid hzv
                    clear hzv
                    go_wp2_with fail
                    refine (HM.out.1 z HZ.out.1 _ (HB10.out _)).mono ?_
                    rw [HMZ.out]
                    rintro e w11 ⟨rfl, hb11, hb12⟩
                    have kx := ((Row.fresh w10 47 #[.int .i64 xa, .int .i64 xb, .int .i64 xc]).under hb11 (by simp)).cell 0
                    simp only [List.getElem?_toArray, List.getElem?_cons_zero, hs1] at kx
                    have H11 := Lib.hid (And.intro (((Below.refl w10.heap.size w10).alloc (Nat.le_refl _) _).trans (hb11.mono (by simp))) hb12)
                    clear hb11 hb12
                    go_wp2_with (go_at_call 76; refine (reach_any (H10.out.1.below H11.out.1).fq HZ.out.2).mono ?_; rintro e w12 ⟨rfl, hd12⟩; have H12 := Lib.hid (H9.out.go HL.out.2.1 H10.out.2.1 H10.out.1 H11.out.1 H10.out.2.2.1 HMZ.out (by dsimp only; omega) HZV.out HZ.out.2 HC.out hd12); clear hd12)
                    obtain ⟨S12, hI⟩ := H12.out
                    exact ⟨⟨rfl, _, _, _, _, hI⟩, by rw [hI.mg.left_eq, H9.out.mg.left_eq]; exact H10.out.2.2.2⟩
theorem near_any {w : World} {l bl bo bi : Nat} {go gi : Int → Option Nat} {s : LSt} (h : Lq w l bl bo bi go gi s) (hps : s.Pos) {u v wo most : Int} (hwu : (Lit.int .i64 u).wf = true) (hwv : (Lit.int .i64 v).wf = true) (hwm : most ≤ 9223372036854775807) :
    Calls Tryz.prog 26 #[ptr l, .int .i64 u, .int .i64 v, .int .i64 wo, .int .i64 most] w fun e w' => ∃ b, e = .returned (.bool b) ∧ (b = true ↔ NearP s u v wo most) ∧ Below w.heap.size w w' := by
  by_cases hn : mayB s wo u = false ∨ mayB s wo v = false ∨ most < 0
  · refine (near_not h hwu hwv hn).mono fun e w' ⟨h1, h2⟩ => ⟨false, h1, ⟨fun e => (by cases e), fun ⟨h3, h4, h5, _⟩ => ?_⟩, h2⟩
    rcases hn with hn | hn | hn
    · rw [hn] at h3; cases h3
    · rw [hn] at h4; cases h4
    · omega
  · have hu : mayB s wo u = true := by
      cases h1 : mayB s wo u
      · exact absurd (.inl h1) hn
      · rfl
    have hv : mayB s wo v = true := by
      cases h1 : mayB s wo v
      · exact absurd (.inr (.inl h1)) hn
      · rfl
    exact near_main h hps hwm hu hv (by
      rcases Int.lt_or_le most 0 with h1 | h1
      · exact absurd (.inr (.inr h1)) hn
      · exact h1)
end Go.Proofs.YtdkpdmpghibmmaaGreat

