import Derived.Test.YtdkpdmpghibmmaaGreatM5
import Derived.Maps.RangeWalk
/- left: going over a map as a function of its keys. -/
namespace Go.Proofs.YtdkpdmpghibmmaaGreat
open Go.RowKit Go.Maps
/-- Block r goes over the map in block b; L: is the entry at a key still to come? cnt: how many are. -/
def Mg {α : Type} {R : Rd} (E : Elem α R) (w : World) (b r N : Nat) (f : Int → Option α) (L : Int → Bool) (cnt : Nat) : Prop :=
  ∃ (D : Dt) (left : Lit → Bool), w.ranges Tryz.prog 3 R b r (Maps.size D) D left cnt ∧ ((∀ kl, Maps.has D kl = true → ∃ z, kl = keyL z) ∧ ∀ z, (f z = none → Maps.has D (keyL z) = false) ∧ ∀ x, f z = some x → (0 ≤ z ∧ z < (N : Int)) ∧ Maps.has D (keyL z) = true ∧ ∀ y, D.atKey (keyL z) y = E.dat x) ∧ (∀ z, left (keyL z) = L z) ∧ ∀ z, L z = true → (f z).isSome = true
section
variable {α : Type} {R : Rd} {E : Elem α R} {w : World} {b r N cnt : Nat} {f : Int → Option α} {L : Int → Bool}
theorem Mg.mp (h : Mg E w b r N f L cnt) : Mp E w b N f := by
  obtain ⟨D, left, h1, h2, _⟩ := h
  exact ⟨D, h1.owns, h2⟩
theorem Mg.left_eq (h : Mg E w b r N f L cnt) : w.rangeLeft b r = cnt := by
  obtain ⟨D, left, h1, _⟩ := h
  exact h1.left_eq
theorem Mg.kept {w' : World} {row : Option Nat} (h : Mg E w b r N f L cnt) (hg : w.grownBy w' row) (hb : some b ≠ row) (hr : some r ≠ row) : Mg E w' b r N f L cnt := by
  obtain ⟨D, left, h1, h2⟩ := h
  exact ⟨D, left, h1.kept hg hb hr, h2⟩
theorem Mg.ne (h : Mg E w b r N f L cnt) : r ≠ b := by
  obtain ⟨D, left, h1, _⟩ := h
  exact h1.ne
theorem Mg.lt (h : Mg E w b r N f L cnt) : r < w.heap.size := by
  obtain ⟨D, left, h1, _⟩ := h
  exact h1.lt
/-- 'range m'. -/
theorem wpList_goOver {ops : Array Oper} {rest : List Oper} {o : Oper} {a : Act} {Q : Exit → Act → World → Prop} (hg : o.guard = none) (m : Operand) (t e : TypeId) (hop : o.op = Op.range t m) (ht : Tryz.prog.underlying t = some (.map 3 e))
    (hm : a.eval m = .map (some b)) (h : Mp E w b N f)
    (hK : ∀ w' cnt, Mg E w' b w.heap.size N f (fun z => (f z).isSome) cnt → w.grownBy w' none → w'.heap.size = w.heap.size + 1 → wpList Tryz.prog ops Q rest (a.put o.dst (.pointer (some ⟨w.heap.size, 0, none⟩))) w') : wpList Tryz.prog ops Q (o :: rest) a w := by
  obtain ⟨D, h1, h2, h3⟩ := h
  refine wpList_range_own _ hg m t hop 3 e intK ht R b _ D hm h1 fun w' hr hgr hs => hK w' _ ⟨D, Maps.has D, hr, ⟨h2, h3⟩, fun z => ?_, fun z hz => hz⟩ hgr hs
  cases hf : f z with
  | none => dsimp only; rw [hf]; exact (h3 z).1 hf
  | some x => dsimp only; rw [hf]; exact ((h3 z).2 x hf).2.1
/-- The step. -/
theorem wpList_nextOver {ops : Array Oper} {rest : List Oper} {o : Oper} {a : Act} {Q : Exit → Act → World → Prop} (hg : o.guard = none) (it : Operand) (hop : o.op = Op.next it false) (hit : a.eval it = .pointer (some ⟨r, 0, none⟩)) (h : Mg E w b r N f L cnt)
    (hDone : cnt = 0 → (∀ z, L z = false) → wpList Tryz.prog ops Q rest (a.put o.dst (.tuple #[.bool false])) w)
    (hMore : ∀ (z : Int) (x : α) (w' : World) (cnt' : Nat), (0 ≤ z ∧ z < (N : Int)) → L z = true → f z = some x → Mg E w' b r N f (fun i => L i && !decide (i = z)) cnt' → cnt' < cnt → w.grownBy w' (some r) → w'.heap.size = w.heap.size →
      (Instr.entry (.pointer (some ⟨r, 0, none⟩))).run Tryz.prog w' = .ok (.tuple #[.int .i64 z, E.val x]) w' → wpList Tryz.prog ops Q rest (a.put o.dst (.tuple #[.bool true, .int .i64 z, E.val x])) w') : wpList Tryz.prog ops Q (o :: rest) a w := by
  obtain ⟨D, left, h1, ⟨h2, h3⟩, h4, h5⟩ := h
  refine wpList_next_ranges _ hg it hop 3 intK R (Value.int .i64) (fun v : Value => v) (fun key kl hkey => ?_) (fun v y hv => ⟨v, rfl⟩) b r _ D left cnt hit h1 (fun h0 hl => hDone h0 fun z => by rw [← h4]; exact hl _) fun z c kl y w' cnt' hkey hlk hv hat hrg hlt hgr hsz hen => ?_
  · obtain ⟨x, rfl, _⟩ := Maps.keyOf_int_inv Tryz.underlying3 hkey
    exact ⟨x, rfl⟩
  · obtain ⟨z', ez, rfl, _⟩ := Maps.keyOf_int_inv Tryz.underlying3 hkey
    cases ez
    have hL : L z = true := by rw [← h4]; exact hlk
    have hs := h5 z hL
    cases hf : f z with
    | none => rw [hf] at hs; cases hs
    | some x =>
      obtain ⟨hr, _, h6⟩ := (h3 z).2 x hf
      have hy : y.1 = E.dat x := by rw [← hat .nil]; exact h6 .nil
      have hc : c = E.val x := E.inv c x y.2 (by rw [hv, ← hy])
      subst hc
      refine hMore z x w' cnt' hr hL hf ⟨D, _, hrg, ⟨h2, h3⟩, fun i => ?_, fun i hi => ?_⟩ hlt hgr hsz hen
      · rw [h4]
        simp [Lit.sameKey]
      · simp only [Bool.and_eq_true] at hi
        exact h5 i hi.1
end
end Go.Proofs.YtdkpdmpghibmmaaGreat

/- left.common: how many keys two maps share. -/
namespace Go.Proofs.YtdkpdmpghibmmaaGreat
open Go.RowKit Go.Maps
/-- How many numbers below N there are of a kind. -/
def cnt (p : Int → Bool) (N : Nat) : Nat := ((List.range N).filter fun i => p (i : Nat)).length
theorem cnt_le (p : Int → Bool) (N : Nat) : cnt p N ≤ N := by
  unfold cnt
  simpa using List.length_filter_le (fun i : Nat => p (i : Nat)) (List.range N)
theorem cnt_congr {p q : Int → Bool} {N : Nat} (h : ∀ z, 0 ≤ z → z < (N : Int) → p z = q z) : cnt p N = cnt q N := by
  unfold cnt
  congr 1
  refine List.filter_congr fun i hi => ?_
  have := List.mem_range.1 hi
  exact h i (by omega) (by omega)
theorem cnt_succ (p : Int → Bool) (N : Nat) : cnt p (N + 1) = cnt p N + (if p (N : Nat) then 1 else 0) := by
  unfold cnt
  rw [List.range_succ, List.filter_append, List.length_append]
  congr 1
  by_cases h : p (N : Nat) = true
  · simp [h]
  · simp [h]
theorem cnt_step {p q : Int → Bool} {z : Int} (h0 : 0 ≤ z) (hp : p z = false) (hq : q z = true) (h : ∀ i, i ≠ z → q i = p i) : ∀ N : Nat, z < (N : Int) → cnt q N = cnt p N + 1 := by
  intro N
  induction N with
  | zero => intro hz; omega
  | succ N ih =>
    intro hz
    rw [cnt_succ, cnt_succ]
    by_cases e : z = (N : Int)
    · subst e
      rw [hp, hq]
      have : cnt q N = cnt p N := cnt_congr fun i _ hi => h i (by omega)
      rw [this]
      rfl
    · rw [ih (by omega), h N (fun e2 => e e2.symm)]
      omega
def shareL {α β : Type} (f : Int → Option α) (g : Int → Option β) (L : Int → Bool) (i : Int) : Bool := (f i).isSome && (!L i && (g i).isSome)
/-- How many keys two maps share. -/
def share {α β : Type} (f : Int → Option α) (g : Int → Option β) (N : Nat) : Nat := cnt (fun i => (f i).isSome && (g i).isSome) N
theorem share_start {α β : Type} (f : Int → Option α) (g : Int → Option β) (N : Nat) : cnt (shareL f g fun i => (f i).isSome) N = 0 := by
  unfold cnt shareL
  rw [List.length_eq_zero_iff, List.filter_eq_nil_iff]
  intro i _
  dsimp only
  generalize (f (i : Nat)).isSome = c
  generalize (g (i : Nat)).isSome = d
  cases c <;> cases d <;> decide
theorem share_end {α β : Type} {f : Int → Option α} {g : Int → Option β} {L : Int → Bool} {N : Nat} (h : ∀ z, L z = false) : cnt (shareL f g L) N = share f g N := cnt_congr fun i _ _ => by unfold shareL; rw [h]; simp
theorem share_hit {α β : Type} {f : Int → Option α} {g : Int → Option β} {L : Int → Bool} {N : Nat} {z : Int} {x : α} (hz : 0 ≤ z ∧ z < (N : Int)) (hL : L z = true) (hf : f z = some x) (hg : (g z).isSome = true) : cnt (shareL f g fun i => L i && !decide (i = z)) N = cnt (shareL f g L) N + 1 := by
  refine cnt_step hz.1 ?_ ?_ (fun i hi => ?_) N hz.2
  · unfold shareL; rw [hL]; simp
  · unfold shareL; rw [hf, hg]; simp
  · unfold shareL; simp [hi]
theorem share_miss {α β : Type} {f : Int → Option α} {g : Int → Option β} {L : Int → Bool} {N : Nat} {z : Int} (hg : (g z).isSome = false) : cnt (shareL f g fun i => L i && !decide (i = z)) N = cnt (shareL f g L) N := cnt_congr fun i _ _ => by
  unfold shareL
  by_cases e : i = z
  · subst e; rw [hg]; simp
  · simp [e]
theorem share_comm {α β : Type} (f : Int → Option α) (g : Int → Option β) (N : Nat) : share f g N = share g f N := cnt_congr fun i _ _ => Bool.and_comm _ _
end Go.Proofs.YtdkpdmpghibmmaaGreat

/- left.common (written by mklfn.py). -/
namespace Go.Proofs.YtdkpdmpghibmmaaGreat
open Go.RowKit Go.Maps
theorem zeroUnit (w : World) : (zeroValue 136).run Tryz.prog w = .ok (.agg #[]) w := by
  have h : Tryz.t136.zero = some (.agg #[]) := by kernel_rfl
  simp [zeroValue, Tryz.zeroValue136, h]
set_option maxRecDepth 100000 in
set_option maxHeartbeats 2000000 in
theorem common_way {w : World} {b1 b2 N : Nat} {f : Int → Option Wy} {g : Int → Option Unit} (h1 : Mp eWay w b1 N f) (h2 : Mp eUnit w b2 N g) (hN : N ≤ 16777216) (hle : cntF f N ≤ cntF g N) :
    Calls Tryz.prog 119 #[.map (some b1), .map (some b2)] w fun e w' => e = .returned (.int .i64 (share f g N : Nat)) ∧ Below w.heap.size w w' := by
  have l1 := h1.len Tryz.underlying120 3
  have l2 := h2.len Tryz.underlying131 3
  have d1 : decide (cntF g N < cntF f N) = false := by simp; omega
  have d2 : ¬ cntF g N < cntF f N := by omega
  have H := Lib.hid (And.intro h1 (And.intro h2 hN))
  have hlt := h1.lt
  have hlt2 := h2.lt
  clear h1 h2 hN hle
  go_enter Tryz.func119, Tryz.ntmps119
  go_wp2_with (at_range; refine wpList_goOver (E := eWay) rfl _ 120 _ rfl Tryz.underlying120 rfl H.out.1 ?_; intro w0 c0 hm0 hg0 hs0)
  go_frame
  have HZ := Lib.hid (share_start f g N)
  go_loopw [5, 6] (fun i _ wr => ∃ (L : Int → Bool) (c : Nat), i = .int .i64 (cnt (shareL f g L) N : Nat) ∧ Mg eWay wr b1 w.heap.size N f L c ∧ Below w.heap.size w wr)
    (fun _ _ wr => wr.rangeLeft b1 w.heap.size)
  case atStart =>
    exact ⟨_, c0, by rw [HZ.out]; rfl, hm0, (Below.refl _ _).grown hg0 (Nat.le_refl _) (fun j hj => by cases hj)⟩
  case round =>
    obtain ⟨L, c, rfl, hmg, hbw⟩ := hrel
    have hi : ((cnt (shareL f g L) N : Nat) : Int) ≤ 16777216 := by have h1 := cnt_le (shareL f g L) N; have h2 := H.out.2.2; omega
    have H2 := Lib.hid (And.intro hmg hbw)
    clear hmg hbw
    go_wp2_with (at_next; refine wpList_nextOver (E := eWay) rfl _ rfl rfl H2.out.1 ?_ ?_)
    · intro hc0 hl0
      go_wp2
      go_ret
      exact ⟨by simp [share_end hl0], H2.out.2⟩
    · intro z xa xb xc w1 c1 hz0 hz1 hL hf hm1 hlt1 hg1 hs1 hen
      have hz := And.intro hz0 hz1
      have hb1 : Below w.heap.size w w1 := H2.out.2.grown hg1 H2.out.2.size (fun j hj => by cases hj; exact Nat.le_refl _)
      have hlk := (H.out.2.1.under hb1).look true Tryz.underlying131 (zeroUnit w1) (wf_nat hz H.out.2.2)
      have H3 := Lib.hid (And.intro hm1 (And.intro hb1 (And.intro hz (And.intro hL (And.intro hf hlt1)))))
      clear hm1 hb1 hz hz0 hz1 hL hf hlt1
      cases hg : g z
      all_goals
        rw [hg] at hlk
        have HG := Lib.hid hg
        clear hg
        dsimp only [valO, eWay, eUnit, w0V] at hlk
        go_wp2
        have hm2 := fun O : Obj => H3.out.1.kept (World.grownBy_alloc w1 O none) (by simp) (by simp)
        refine ⟨⟨_, c1, ?_, hm2 _, H3.out.2.1.alloc H3.out.2.1.size _⟩, by rw [(hm2 _).left_eq, H2.out.1.left_eq]; exact H3.out.2.2.2.2.2⟩
        first
        | (rw [share_miss (by rw [HG.out]; rfl)])
        | (rw [share_hit H3.out.2.2.1 H3.out.2.2.2.1 H3.out.2.2.2.2.1 (by rw [HG.out]; rfl)]; rfl)
set_option maxRecDepth 100000 in
set_option maxHeartbeats 2000000 in
theorem common_unit {w : World} {b1 b2 N : Nat} {f : Int → Option Unit} {g : Int → Option Wy} (h1 : Mp eUnit w b1 N f) (h2 : Mp eWay w b2 N g) (hN : N ≤ 16777216) (hle : cntF f N ≤ cntF g N) :
    Calls Tryz.prog 86 #[.map (some b1), .map (some b2)] w fun e w' => e = .returned (.int .i64 (share f g N : Nat)) ∧ Below w.heap.size w w' := by
  have l1 := h1.len Tryz.underlying131 3
  have l2 := h2.len Tryz.underlying120 3
  have d1 : decide (cntF g N < cntF f N) = false := by simp; omega
  have d2 : ¬ cntF g N < cntF f N := by omega
  have H := Lib.hid (And.intro h1 (And.intro h2 hN))
  have hlt := h1.lt
  have hlt2 := h2.lt
  clear h1 h2 hN hle
  go_enter Tryz.func86, Tryz.ntmps86
  go_wp2_with (at_range; refine wpList_goOver (E := eUnit) rfl _ 131 _ rfl Tryz.underlying131 rfl H.out.1 ?_; intro w0 c0 hm0 hg0 hs0)
  go_frame
  have HZ := Lib.hid (share_start f g N)
  go_loopw [5, 6] (fun i _ wr => ∃ (L : Int → Bool) (c : Nat), i = .int .i64 (cnt (shareL f g L) N : Nat) ∧ Mg eUnit wr b1 w.heap.size N f L c ∧ Below w.heap.size w wr)
    (fun _ _ wr => wr.rangeLeft b1 w.heap.size)
  case atStart =>
    exact ⟨_, c0, by rw [HZ.out]; rfl, hm0, (Below.refl _ _).grown hg0 (Nat.le_refl _) (fun j hj => by cases hj)⟩
  case round =>
    obtain ⟨L, c, rfl, hmg, hbw⟩ := hrel
    have hi : ((cnt (shareL f g L) N : Nat) : Int) ≤ 16777216 := by have h1 := cnt_le (shareL f g L) N; have h2 := H.out.2.2; omega
    have H2 := Lib.hid (And.intro hmg hbw)
    clear hmg hbw
    go_wp2_with (at_next; refine wpList_nextOver (E := eUnit) rfl _ rfl rfl H2.out.1 ?_ ?_)
    · intro hc0 hl0
      go_wp2
      go_ret
      exact ⟨by simp [share_end hl0], H2.out.2⟩
    · intro z xa w1 c1 hz0 hz1 hL hf hm1 hlt1 hg1 hs1 hen
      have hz := And.intro hz0 hz1
      have hb1 : Below w.heap.size w w1 := H2.out.2.grown hg1 H2.out.2.size (fun j hj => by cases hj; exact Nat.le_refl _)
      have hlk := (H.out.2.1.under hb1).look true Tryz.underlying120 (zeroWay w1) (wf_nat hz H.out.2.2)
      have H3 := Lib.hid (And.intro hm1 (And.intro hb1 (And.intro hz (And.intro hL (And.intro hf hlt1)))))
      clear hm1 hb1 hz hz0 hz1 hL hf hlt1
      cases hg : g z
      all_goals
        rw [hg] at hlk
        have HG := Lib.hid hg
        clear hg
        dsimp only [valO, eWay, eUnit, w0V] at hlk
        go_wp2
        have hm2 := fun O : Obj => H3.out.1.kept (World.grownBy_alloc w1 O none) (by simp) (by simp)
        refine ⟨⟨_, c1, ?_, hm2 _, H3.out.2.1.alloc H3.out.2.1.size _⟩, by rw [(hm2 _).left_eq, H2.out.1.left_eq]; exact H3.out.2.2.2.2.2⟩
        first
        | (rw [share_miss (by rw [HG.out]; rfl)])
        | (rw [share_hit H3.out.2.2.1 H3.out.2.2.2.1 H3.out.2.2.2.2.1 (by rw [HG.out]; rfl)]; rfl)
end Go.Proofs.YtdkpdmpghibmmaaGreat

/- left.common of any two maps that are there. -/
namespace Go.Proofs.YtdkpdmpghibmmaaGreat
open Go.RowKit Go.Maps
set_option maxRecDepth 100000 in
set_option maxHeartbeats 2000000 in
theorem common_any {w : World} {b1 b2 N : Nat} {f : Int → Option Unit} {g : Int → Option Wy} (h1 : Mp eUnit w b1 N f) (h2 : Mp eWay w b2 N g) (hN : N ≤ 16777216) :
    Calls Tryz.prog 86 #[.map (some b1), .map (some b2)] w fun e w' => e = .returned (.int .i64 (share f g N : Nat)) ∧ Below w.heap.size w w' := by
  by_cases hle : cntF f N ≤ cntF g N
  · exact common_unit h1 h2 hN hle
  · have l1 := h1.len Tryz.underlying131 3
    have l2 := h2.len Tryz.underlying120 3
    have d1 : decide (cntF g N < cntF f N) = true := by simp; omega
    have d2 : cntF g N < cntF f N := by omega
    have hc := common_way h2 h1 hN (by omega)
    have HC := Lib.hid hc
    clear h1 h2 hN hle hc
    go_enter Tryz.func86, Tryz.ntmps86
    go_wp2_with (go_at_call 119; refine HC.out.mono ?_; rintro e w1 ⟨rfl, hb⟩)
    go_ret
    exact ⟨by simp [share_comm f g], hb⟩
end Go.Proofs.YtdkpdmpghibmmaaGreat

