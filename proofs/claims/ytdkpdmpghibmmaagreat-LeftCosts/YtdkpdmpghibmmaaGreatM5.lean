import Derived.Test.YtdkpdmpghibmmaaGreatM4
import Derived.Deep.RegionHeld3
import Derived.Deep.DrawnRows
/- left: what is left, behind a pointer; holds, Way. -/
namespace Go.Proofs.YtdkpdmpghibmmaaGreat
open Go.RowKit Go.Maps
/-- What is left: how many were lost of each place (-1: it is taken), and the ways. -/
structure LSt where
  lost : List Int
  F : Int → Int → Option Wy
def LSt.holds (s : LSt) (v : Int) : Bool := decide (0 ≤ v) && (decide (v < (s.lost.length : Int)) && !decide (s.lost[v.toNat]? = some (-1)))
def LSt.ins (s : LSt) : Int → Int → Option Unit := fun i j => (s.F j i).map fun _ => ()
def intsV (l : List Int) : Array Value := (l.map (Value.int .i64 ·)).toArray
/-- The object in block l: its numbers in bl, its maps in bo and bi. -/
structure Lq (w : World) (l bl bo bi : Nat) (go gi : Int → Option Nat) (s : LSt) : Prop where
  hd : Row w l 100 #[.slice (some ⟨bl, 0, none⟩) s.lost.length s.lost.length, .map (some bo), .map (some bi)]
  lost : Row w bl 3 (intsV s.lost)
  outs : Side eWay w bo s.lost.length go s.F
  ins : Side eUnit w bi s.lost.length gi s.ins
  small : s.lost.length ≤ 16777216
  low : ∀ x ∈ s.lost, -1 ≤ x ∧ x ≤ 1099511627776
  sep : l ≠ bl ∧ (∀ k, SideB bo go k → k ≠ l ∧ k ≠ bl) ∧ (∀ k, SideB bi gi k → k ≠ l ∧ k ≠ bl) ∧ ∀ k, SideB bo go k → ¬ SideB bi gi k
/-- The blocks of it. -/
def LB (l bl bo bi : Nat) (go gi : Int → Option Nat) (k : Nat) : Prop := k = l ∨ k = bl ∨ SideB bo go k ∨ SideB bi gi k
theorem Lq.only {w w' : World} {S : Nat → Prop} {l bl bo bi : Nat} {go gi : Int → Option Nat} {s : LSt} (h : Lq w l bl bo bi go gi s) (ho : Only S w w') (hS : ∀ k, LB l bl bo bi go gi k → ¬ S k) : Lq w' l bl bo bi go gi s :=
  ⟨h.hd.only ho (hS _ (.inl rfl)), h.lost.only ho (hS _ (.inr (.inl rfl))), h.outs.only ho (fun k hk => hS k (.inr (.inr (.inl hk)))), h.ins.only ho (fun k hk => hS k (.inr (.inr (.inr hk)))), h.small, h.low, h.sep⟩
theorem Lq.under {w w' : World} {l bl bo bi : Nat} {go gi : Int → Option Nat} {s : LSt} (h : Lq w l bl bo bi go gi s) (hb : Below w.heap.size w w') : Lq w' l bl bo bi go gi s := h.only (Only.of_below (fun _ => False) hb) (fun _ _ h => h)
theorem Lq.lt {w : World} {l bl bo bi : Nat} {go gi : Int → Option Nat} {s : LSt} (h : Lq w l bl bo bi go gi s) : ∀ k, LB l bl bo bi go gi k → k < w.heap.size := by
  rintro k (rfl | rfl | hk | hk)
  · exact h.hd.lt
  · exact h.lost.lt
  · exact h.outs.lt k hk
  · exact h.ins.lt k hk
theorem Lq.heads {w : World} {l bl bo bi : Nat} {go gi : Int → Option Nat} {s : LSt} (h : Lq w l bl bo bi go gi s) : w.cell? ⟨l, 0, none⟩ = some (.slice (some ⟨bl, 0, none⟩) s.lost.length s.lost.length) ∧ w.cell? ⟨l, 1, none⟩ = some (.map (some bo)) ∧ w.cell? ⟨l, 2, none⟩ = some (.map (some bi)) :=
  ⟨h.hd.cell 0, h.hd.cell 1, h.hd.cell 2⟩
theorem Lq.num {w : World} {l bl bo bi : Nat} {go gi : Int → Option Nat} {s : LSt} (h : Lq w l bl bo bi go gi s) {k : Nat} {x : Int} (hx : s.lost[k]? = some x) : w.cell? ⟨bl, k, none⟩ = some (.int .i64 x) := by
  rw [h.lost.cell k]
  simp [intsV, hx]
set_option maxRecDepth 100000 in
set_option maxHeartbeats 1000000 in
theorem holds_any {w : World} {l bl bo bi : Nat} {go gi : Int → Option Nat} {s : LSt} (h : Lq w l bl bo bi go gi s) {v : Int} (hwv : (Lit.int .i64 v).wf = true) :
    Calls Tryz.prog 74 #[ptr l, .int .i64 v] w fun e w' => e = .returned (.bool (s.holds v)) ∧ w' = w := by
  obtain ⟨r0, _, _⟩ := h.heads
  have hsm := h.small
  by_cases h0 : v < 0
  · have hr : s.holds v = false := by unfold LSt.holds; rw [decide_eq_false (by omega : ¬ 0 ≤ v)]; rfl
    rw [hr]
    have h1 : decide (0 ≤ v) = false := by simp; omega
    clear h hr hwv
    go_enter Tryz.func74, Tryz.ntmps74
    go_wp2
    go_ret
    exact ⟨by simp, rfl⟩
  · by_cases h1 : v < (s.lost.length : Int)
    · obtain ⟨k, rfl⟩ : ∃ k : Nat, v = (k : Int) := ⟨v.toNat, by omega⟩
      have hk : k < s.lost.length := by omega
      obtain ⟨x, hx⟩ : ∃ x, s.lost[k]? = some x := ⟨_, List.getElem?_eq_getElem hk⟩
      have c0 := h.num hx
      have h2 : decide ((k : Int) < (s.lost.length : Int)) = true := by simp; omega
      have hr : s.holds k = !decide (x = -1) := by
        unfold LSt.holds
        rw [decide_eq_true (by omega : (0 : Int) ≤ k), h2]
        simp [hx]
      rw [hr]
      have H := Lib.hid hx
      clear h hr hwv hx
      by_cases e : x = -1
      all_goals
        go_enter Tryz.func74, Tryz.ntmps74
        go_wp2
        go_ret
        exact ⟨by simp [e], rfl⟩
    · have h2 : decide (v < (s.lost.length : Int)) = false := by simp; omega
      have hr : s.holds v = false := by unfold LSt.holds; rw [h2]; simp
      rw [hr]
      have h3 : decide (0 ≤ v) = true := by simp; omega
      clear h hr hwv
      go_enter Tryz.func74, Tryz.ntmps74
      go_wp2
      go_ret
      exact ⟨by simp, rfl⟩
end Go.Proofs.YtdkpdmpghibmmaaGreat

/- left: lay. -/
namespace Go.Proofs.YtdkpdmpghibmmaaGreat
open Go.RowKit Go.Maps
attribute [local go_sem ↓] Go.wp_at_zero Go.wp_at_succ
def LSt.lay (s : LSt) (u v : Int) (x : Wy) : LSt := ⟨s.lost, fun i j => if i = u ∧ j = v then some x else s.F i j⟩
theorem LSt.lay_ins (s : LSt) (u v : Int) (x : Wy) (i j : Int) : (if i = v ∧ j = u then some () else s.ins i j) = (s.lay u v x).ins i j := by
  unfold LSt.ins LSt.lay
  dsimp only
  by_cases e : i = v ∧ j = u
  · rw [if_pos e, if_pos ⟨e.2, e.1⟩]
    rfl
  · rw [if_neg e, if_neg (fun e2 => e ⟨e2.2, e2.1⟩)]
/-- Both maps were laid into, one behind the other. -/
theorem Lq.laid {w w1 w2 w3 : World} {l bl bo bi : Nat} {go gi go' gi' : Int → Option Nat} {s s' : LSt} (h : Lq w l bl bo bi go gi s) (hlen : s'.lost = s.lost)
    (hw : Below w.heap.size w w1) (ho1 : Side eWay w2 bo s.lost.length go' s'.F) (hb1 : ∀ k, SideB bo go' k → SideB bo go k ∨ w1.heap.size ≤ k) (hO1 : Only (fun k => SideB bo go k) w1 w2)
    (hi1 : Side eUnit w3 bi s.lost.length gi' s'.ins) (hb2 : ∀ k, SideB bi gi' k → SideB bi gi k ∨ w2.heap.size ≤ k) (hO2 : Only (fun k => SideB bi gi k) w2 w3) :
    Lq w3 l bl bo bi go' gi' s' ∧ (∀ k, LB l bl bo bi go' gi' k → LB l bl bo bi go gi k ∨ w.heap.size ≤ k) ∧ Only (fun k => LB l bl bo bi go gi k) w w3 := by
  obtain ⟨s1, s2, s3, s4⟩ := h.sep
  have hlt := h.lt
  have z1 := hw.size
  have z2 := hO1.size
  have z3 := hO2.size
  have hO : Only (fun k => SideB bo go k ∨ SideB bi gi k) w w3 := ((Only.of_below (fun k => SideB bo go k) hw).trans hO1 (fun i hi => .inl hi)).mono (fun k hk => .inl (.inl hk)) |>.trans hO2 (fun i hi => .inl (.inr hi))
  have hne : ∀ k, (k = l ∨ k = bl) → ¬ (SideB bo go k ∨ SideB bi gi k) := by
    rintro k hk (hh | hh)
    · have := s2 k hh
      rcases hk with e | e
      · exact this.1 e
      · exact this.2 e
    · have := s3 k hh
      rcases hk with e | e
      · exact this.1 e
      · exact this.2 e
  have hl1 := hlt l (.inl rfl)
  have hl2 := hlt bl (.inr (.inl rfl))
  have hA : ∀ k, SideB bo go' k → SideB bo go k ∨ (w.heap.size ≤ k ∧ w1.heap.size ≤ k ∧ k < w2.heap.size) := fun k hk => by
    rcases hb1 k hk with e | e
    · exact .inl e
    · have := ho1.lt k hk
      exact .inr ⟨by omega, e, this⟩
  have hB : ∀ k, SideB bi gi' k → SideB bi gi k ∨ (w.heap.size ≤ k ∧ w2.heap.size ≤ k) := fun k hk => by
    rcases hb2 k hk with e | e
    · exact .inl e
    · exact .inr ⟨by omega, e⟩
  have hltO : ∀ k, SideB bo go k → k < w.heap.size := fun k hk => hlt k (.inr (.inr (.inl hk)))
  have hltI : ∀ k, SideB bi gi k → k < w.heap.size := fun k hk => hlt k (.inr (.inr (.inr hk)))
  refine ⟨⟨?_, ?_, ?_, ?_, ?_, ?_, s1, ?_, ?_, ?_⟩, ?_, hO.mono fun k hk => .inl (.inr (.inr hk))⟩
  · rw [hlen]
    exact h.hd.only hO (hne l (.inl rfl))
  · rw [hlen]
    exact h.lost.only hO (hne bl (.inr rfl))
  · rw [hlen]
    refine ho1.only hO2 fun k hk hk2 => ?_
    rcases hA k hk with e | e
    · exact s4 k e hk2
    · have := hltI k hk2
      omega
  · rw [hlen]
    exact hi1
  · rw [hlen]
    exact h.small
  · rw [hlen]
    exact h.low
  · intro k hk
    rcases hA k hk with e | e
    · exact s2 k e
    · omega
  · intro k hk
    rcases hB k hk with e | e
    · exact s3 k e
    · omega
  · intro k hk hk2
    rcases hA k hk with e | e
    · rcases hB k hk2 with e2 | e2
      · exact s4 k e e2
      · have := hltO k e
        omega
    · rcases hB k hk2 with e2 | e2
      · have := hltI k e2
        omega
      · omega
  · rintro k (hk | hk | hk | hk)
    · exact .inl (.inl hk)
    · exact .inl (.inr (.inl hk))
    · rcases hA k hk with e | e
      · exact .inl (.inr (.inr (.inl e)))
      · exact .inr e.1
    · rcases hB k hk with e | e
      · exact .inl (.inr (.inr (.inr e)))
      · exact .inr e.1
set_option maxRecDepth 100000 in
set_option maxHeartbeats 2000000 in
theorem lay_any {w : World} {l bl bo bi : Nat} {go gi : Int → Option Nat} {s : LSt} (h : Lq w l bl bo bi go gi s) {u v : Int} (hu : 0 ≤ u ∧ u < (s.lost.length : Int)) (hv : 0 ≤ v ∧ v < (s.lost.length : Int)) (x : Wy) :
    Calls Tryz.prog 56 #[ptr l, .int .i64 u, .int .i64 v, .agg #[.int .i64 x.1, .int .i64 x.2.1, .int .i64 x.2.2]] w fun e w' => e = .returned (.tuple #[]) ∧ ∃ go' gi', Lq w' l bl bo bi go' gi' (s.lay u v x) ∧ (∀ k, LB l bl bo bi go' gi' k → LB l bl bo bi go gi k ∨ w.heap.size ≤ k) ∧ Only (fun k => LB l bl bo bi go gi k) w w' := by
  have hb1 : Below w.heap.size w (w.alloc (.cells #[.int .i64 x.1, .int .i64 x.2.1, .int .i64 x.2.2] 47)) := (Below.refl _ _).alloc (Nat.le_refl _) _
  have h1 := h.under hb1
  obtain ⟨_, r1, r2⟩ := h1.heads
  have hr := Row.fresh w 47 #[.int .i64 x.1, .int .i64 x.2.1, .int .i64 x.2.2]
  have k0 := hr.cell 0
  have k1 := hr.cell 1
  have k2 := hr.cell 2
  simp only [List.getElem?_toArray, List.getElem?_cons_zero, List.getElem?_cons_succ] at k0 k1 k2
  obtain ⟨w1, hw1⟩ : ∃ w1, w1 = (w.alloc (.cells #[.int .i64 x.1, .int .i64 x.2.1, .int .i64 x.2.2] 47)).drew := ⟨_, rfl⟩
  have hb2 : Below w.heap.size w w1 := by rw [hw1]; exact hb1.drew
  have hr2 : Row w1 w.heap.size 47 #[.int .i64 x.1, .int .i64 x.2.1, .int .i64 x.2.2] := by rw [hw1]; exact hr
  have hz1 : w.heap.size < w1.heap.size := hr2.lt
  have h2 := h.under hb2
  have H := Lib.hid (And.intro h (And.intro h2 (And.intro hb2 (And.intro hr2 (And.intro hu hv)))))
  have HW := Lib.hid hw1
  clear h h1 hb1 hu hv hr h2 hb2 hr2 hw1
  go_enter Tryz.func56, Tryz.ntmps56
  go_wp2
  go_region_held3 (fun W => W.cell? ⟨l, 1, none⟩ = some (.map (some bo)) ∧ W.cell? ⟨w.heap.size, 0, none⟩ = some (.int .i64 x.1) ∧ W.cell? ⟨w.heap.size, 1, none⟩ = some (.int .i64 x.2.1) ∧ W.cell? ⟨w.heap.size, 2, none⟩ = some (.int .i64 x.2.2)) (go_keep)
    (first | (go_at_call 103; rw [← HW.out]; refine (join_way H.out.2.1.outs H.out.2.2.2.2.1 H.out.2.2.2.2.2 H.out.1.small x).mono ?_; rintro e w2 ⟨rfl, g1, hs1, hn1, hO1⟩; have hl2 := H.out.2.1.hd.only hO1 (fun e => (H.out.1.sep.2.1 _ e).1 rfl); have hr3 := H.out.2.2.2.1.only hO1 (fun e => by have := H.out.1.outs.lt _ e; omega); have q1 := hl2.cell 1; have q2 := hl2.cell 2; have p0 := hr3.cell 0; have p1 := hr3.cell 1; have p2 := hr3.cell 2; simp only [List.getElem?_toArray, List.getElem?_cons_zero, List.getElem?_cons_succ] at q1 q2 p0 p1 p2; have hi2 : Side eUnit w2 bi s.lost.length gi s.ins := H.out.2.1.ins.only hO1 (fun k hk hk2 => H.out.1.sep.2.2.2 k hk2 hk); have HJ := Lib.hid (And.intro hs1 (And.intro hn1 (And.intro hO1 hi2))); clear hs1 hn1 hO1 hi2 hl2 hr3))
  go_wp2_with (go_at_call 104; refine (join_unit HJ.out.2.2.2 H.out.2.2.2.2.2 H.out.2.2.2.2.1 H.out.1.small ()).mono ?_; rintro e w3 ⟨rfl, g2, hs2, hn2, hO2⟩; have HK := Lib.hid (And.intro hs2 (And.intro hn2 hO2)); clear hs2 hn2 hO2)
  go_end0
  obtain ⟨a1, a2, a3⟩ := H.out.1.laid (s' := s.lay u v x) rfl H.out.2.2.1 HJ.out.1 HJ.out.2.1 HJ.out.2.2.1 (HK.out.1.congr (s.lay_ins u v x)) HK.out.2.1 HK.out.2.2
  exact ⟨rfl, g1, g2, a1, a2, a3⟩
end Go.Proofs.YtdkpdmpghibmmaaGreat

/- left: Way. -/
namespace Go.Proofs.YtdkpdmpghibmmaaGreat
open Go.RowKit Go.Maps
def w0V : Value := .agg #[.int .i64 0, .int .i64 0, .int .i64 0]
theorem zeroWay (w : World) : (zeroValue 47).run Tryz.prog w = .ok w0V w := by
  have h : Tryz.t47.zero = some w0V := by kernel_rfl
  simp [zeroValue, Tryz.zeroValue47, h]
def wayT : Option Wy → Value
  | some x => .tuple #[.agg #[.int .i64 x.1, .int .i64 x.2.1, .int .i64 x.2.2], .bool true]
  | none => .tuple #[w0V, .bool false]
theorem way_nil (u v : Int) (w : World) : Calls Tryz.prog 23 #[.pointer none, .int .i64 u, .int .i64 v] w fun e w' => e = .returned (wayT none) ∧ Below w.heap.size w w' := by
  go_enter Tryz.func23, Tryz.ntmps23
  go_wp2
  exact bodyPost_ret (v := wayT none) (by simp [results, Tryz.results23, go_sem, wayT, w0V]) rfl ⟨rfl, (Below.refl _ _).alloc (Nat.le_refl _) _⟩
/-- The two look-ups of a way. -/
theorem Side.two {w : World} {b N : Nat} {g : Int → Option Nat} {F : Int → Int → Option Wy} (h : Side eWay w b N g F) {u v : Int} (hwu : (Lit.int .i64 u).wf = true) (hwv : (Lit.int .i64 v).wf = true) :
    (Instr.lookup 97 (.map (some b)) (.int .i64 u) false).run Tryz.prog w = .ok (.map (g u)) w ∧ (Instr.lookup 120 (.map (g u)) (.int .i64 v) true).run Tryz.prog w = .ok (wayT (F u v)) w := by
  refine ⟨h.look Tryz.underlying97 (zeroRefW _) hwu, ?_⟩
  cases hg : g u with
  | none =>
    rw [h.none_ u hg v]
    exact Maps.look_nil true intK Tryz.underlying120 (zeroWay w) (key_int hwv)
  | some c =>
    have h1 := (h.sub u c hg).look true Tryz.underlying120 (zeroWay w) hwv
    cases hF : F u v with
    | none => rw [hF] at h1; exact h1
    | some x => rw [hF] at h1; exact h1
set_option maxRecDepth 100000 in
set_option maxHeartbeats 2000000 in
theorem way_any {w : World} {l bl bo bi : Nat} {go gi : Int → Option Nat} {s : LSt} (h : Lq w l bl bo bi go gi s) {u v : Int} (hwu : (Lit.int .i64 u).wf = true) (hwv : (Lit.int .i64 v).wf = true) :
    Calls Tryz.prog 23 #[ptr l, .int .i64 u, .int .i64 v] w fun e w' => e = .returned (wayT (s.F u v)) ∧ Below w.heap.size w w' := by
  have h1 := h.under ((Below.refl _ _).alloc (Nat.le_refl _) (.cells #[.int .i64 0, .int .i64 0, .int .i64 0] 47))
  obtain ⟨_, r1, _⟩ := h1.heads
  obtain ⟨hl, hl2⟩ := h1.outs.two hwu hwv
  cases hF : s.F u v
  all_goals
    rw [hF] at hl2
    unfold wayT w0V at hl2
    clear h h1 hwu hwv hF
    go_enter Tryz.func23, Tryz.ntmps23
    go_wp2
    refine bodyPost_ret (v := wayT _) (by simp [results, Tryz.results23, go_sem, wayT, w0V]) rfl ⟨rfl, ?_⟩
    exact ((Below.refl _ _).alloc (Nat.le_refl _) _).alloc (by simp) _
end Go.Proofs.YtdkpdmpghibmmaaGreat

/- left: Put. -/
namespace Go.Proofs.YtdkpdmpghibmmaaGreat
open Go.RowKit Go.Maps
theorem LSt.holds_in {s : LSt} {v : Int} (h : s.holds v = true) : 0 ≤ v ∧ v < (s.lost.length : Int) := by
  unfold LSt.holds at h
  simp only [Bool.and_eq_true, decide_eq_true_eq] at h
  exact ⟨h.1, h.2.1⟩
/-- Whether a way may be laid at all. -/
def LSt.may (s : LSt) (u v x m : Int) : Bool := s.holds u && (s.holds v && (!decide (u = v) && (!decide (x < 0) && !decide (m < 0))))
/-- Whether there is a way that is as short. -/
def LSt.as_short (s : LSt) (u v x : Int) : Bool := match s.F u v with | some y => decide (y.1 ≤ x) | none => false
def LSt.puts (s : LSt) (u v x m : Int) : Bool := s.may u v x m && !s.as_short u v x
def LSt.put (s : LSt) (u v x m : Int) : LSt := if s.puts u v x m then s.lay u v (x, m, -1) else s
set_option maxRecDepth 100000 in
set_option maxHeartbeats 4000000 in
theorem put_not {w : World} {l bl bo bi : Nat} {go gi : Int → Option Nat} {s : LSt} (h : Lq w l bl bo bi go gi s) {u v x m : Int} (hwu : (Lit.int .i64 u).wf = true) (hwv : (Lit.int .i64 v).wf = true) (hm : s.may u v x m = false) :
    Calls Tryz.prog 68 #[ptr l, .int .i64 u, .int .i64 v, .int .i64 x, .int .i64 m] w fun e w' => e = .returned (.bool false) ∧ w' = w := by
  have hu := holds_any h hwu
  have hv := holds_any h hwv
  unfold LSt.may at hm
  clear h hwu hwv
  generalize s.holds u = b1 at *
  generalize s.holds v = b2 at *
  have HU := Lib.hid hu
  have HV := Lib.hid hv
  clear hu hv
  cases b1
  · clear hm
    go_enter Tryz.func68, Tryz.ntmps68
    go_wp2_with (go_at_call 74; refine HU.out.mono ?_; rintro e w' ⟨rfl, rfl⟩)
    go_ret
    exact ⟨by simp, rfl⟩
  · cases b2
    · clear hm
      go_enter Tryz.func68, Tryz.ntmps68
      go_wp2_with (go_at_call 74; (first | (with_reducible refine HU.out.mono ?_) | (with_reducible refine HV.out.mono ?_)); rintro e w' ⟨rfl, rfl⟩)
      go_ret
      exact ⟨by simp, rfl⟩
    · by_cases e1 : u = v
      · subst e1
        clear hm
        go_enter Tryz.func68, Tryz.ntmps68
        go_wp2_with (go_at_call 74; refine HU.out.mono ?_; rintro e w' ⟨rfl, rfl⟩)
        go_ret
        exact ⟨by simp, rfl⟩
      · by_cases e2 : x < 0
        · have d2 : decide (x < 0) = true := by simpa using e2
          clear hm
          go_enter Tryz.func68, Tryz.ntmps68
          go_wp2_with (go_at_call 74; (first | (with_reducible refine HU.out.mono ?_) | (with_reducible refine HV.out.mono ?_)); rintro e w' ⟨rfl, rfl⟩)
          go_ret
          exact ⟨by simp, rfl⟩
        · have d2 : decide (x < 0) = false := by simpa using e2
          have d3 : decide (m < 0) = true := by
            rw [d2, decide_eq_false e1] at hm
            simpa using hm
          clear hm
          go_enter Tryz.func68, Tryz.ntmps68
          go_wp2_with (go_at_call 74; (first | (with_reducible refine HU.out.mono ?_) | (with_reducible refine HV.out.mono ?_)); rintro e w' ⟨rfl, rfl⟩)
          go_ret
          exact ⟨by simp, rfl⟩
end Go.Proofs.YtdkpdmpghibmmaaGreat

/- left: Put. -/
namespace Go.Proofs.YtdkpdmpghibmmaaGreat
open Go.RowKit Go.Maps
theorem LSt.may_in {s : LSt} {u v x m : Int} (h : s.may u v x m = true) : s.holds u = true ∧ s.holds v = true ∧ u ≠ v ∧ 0 ≤ x ∧ 0 ≤ m := by
  unfold LSt.may at h
  simp only [Bool.and_eq_true, Bool.not_eq_true', decide_eq_false_iff_not] at h
  obtain ⟨h1, h2, h3, h4, h5⟩ := h
  exact ⟨h1, h2, h3, by omega, by omega⟩
set_option maxRecDepth 100000 in
set_option maxHeartbeats 2000000 in
theorem put_may {w : World} {l bl bo bi : Nat} {go gi : Int → Option Nat} {s : LSt} (h : Lq w l bl bo bi go gi s) {u v x m : Int} (hwu : (Lit.int .i64 u).wf = true) (hwv : (Lit.int .i64 v).wf = true) (hm : s.may u v x m = true) :
    Calls Tryz.prog 68 #[ptr l, .int .i64 u, .int .i64 v, .int .i64 x, .int .i64 m] w fun e w' => e = .returned (.bool (s.puts u v x m)) ∧ ∃ go' gi', Lq w' l bl bo bi go' gi' (s.put u v x m) ∧ (∀ k, LB l bl bo bi go' gi' k → LB l bl bo bi go gi k ∨ w.heap.size ≤ k) ∧ Only (fun k => LB l bl bo bi go gi k) w w' := by
  obtain ⟨m1, m2, m3, m4, m5⟩ := LSt.may_in hm
  have hu := holds_any h hwu
  have hv := holds_any h hwv
  rw [m1] at hu
  rw [m2] at hv
  have hway := way_any h hwu hwv
  have d0 : (decide (u = v)) = false := by simpa using m3
  have d1 : decide (x < 0) = false := by simp; omega
  have d2 : decide (m < 0) = false := by simp; omega
  have H := Lib.hid (And.intro h (And.intro (LSt.holds_in m1) (LSt.holds_in m2)))
  have HU := Lib.hid hu
  have HV := Lib.hid hv
  have HM := Lib.hid hm
  by_cases hs : s.as_short u v x = true
  · have hp : s.puts u v x m = false := by unfold LSt.puts; rw [hs]; simp
    have hp2 : s.put u v x m = s := by unfold LSt.put; rw [hp]; rfl
    rw [hp, hp2]
    unfold LSt.as_short at hs
    cases hF : s.F u v with
    | none => rw [hF] at hs; cases hs
    | some y =>
      rw [hF] at hs hway
      have d3 : decide (y.1 ≤ x) = true := hs
      have HW := Lib.hid hway
      clear h hwu hwv hm m1 m2 m4 m5 hu hv hway hs hp hp2 hF
      go_enter Tryz.func68, Tryz.ntmps68
      go_wp2_with (first
        | (go_at_call 74; (first | (with_reducible refine HU.out.mono ?_) | (with_reducible refine HV.out.mono ?_)); rintro e w' ⟨rfl, rfl⟩)
        | (go_at_call 23; refine HW.out.mono ?_; rintro e w1 ⟨rfl, hb⟩; unfold wayT; have HB := Lib.hid hb; clear hb))
      refine bodyPost_ret (v := .bool false) (by simp [results, Tryz.results68, go_sem]) rfl ⟨rfl, go, gi, ?_, fun k hk => .inl hk, ?_⟩
      · exact H.out.1.under (HB.out.alloc HB.out.size _)
      · exact Only.of_below _ (HB.out.alloc HB.out.size _)
  · have hp : s.puts u v x m = true := by unfold LSt.puts; rw [hm]; simp [hs]
    have hp2 : s.put u v x m = s.lay u v (x, m, -1) := by unfold LSt.put; rw [hp]; rfl
    rw [hp, hp2]
    unfold LSt.as_short at hs
    cases hF : s.F u v
    all_goals
      rw [hF] at hs hway
      (try (rename_i y; have d3 : decide (y.1 ≤ x) = false := (by simpa using hs)))
      have HW := Lib.hid hway
      clear h hwu hwv hm m1 m2 m4 m5 hu hv hway hs hp hp2 hF
      go_enter Tryz.func68, Tryz.ntmps68
      go_wp2_with (first
        | (go_at_call 74; (first | (with_reducible refine HU.out.mono ?_) | (with_reducible refine HV.out.mono ?_)); rintro e w' ⟨rfl, rfl⟩)
        | (go_at_call 23; refine HW.out.mono ?_; rintro e w1 ⟨rfl, hb⟩; unfold wayT; (try unfold w0V); have HB := Lib.hid hb; clear hb)
        | (go_at_call 56; refine (lay_any (H.out.1.under (HB.out.alloc HB.out.size _)) H.out.2.1 H.out.2.2 (x, m, -1)).mono ?_; rintro e w2 ⟨rfl, g1, g2, hl2, hn2, hO2⟩; have HL := Lib.hid (And.intro hl2 (And.intro hn2 hO2)); clear hl2 hn2 hO2))
      refine bodyPost_ret (v := .bool true) (by simp [results, Tryz.results68, go_sem]) rfl ⟨rfl, g1, g2, HL.out.1, fun k hk => ?_, ?_⟩
      · have hz := HB.out.size
        rcases HL.out.2.1 k hk with e | e
        · exact .inl e
        · exact .inr (by simp at e; omega)
      · exact (Only.of_below (fun k => LB l bl bo bi go gi k) (HB.out.alloc HB.out.size _)).trans HL.out.2.2 (fun i hi => .inl hi)
end Go.Proofs.YtdkpdmpghibmmaaGreat

/- left: of nothing (a nil pointer). -/
namespace Go.Proofs.YtdkpdmpghibmmaaGreat
open Go.RowKit Go.Maps
theorem places_nil (w : World) : Calls Tryz.prog 29 #[.pointer none] w fun e w' => e = .returned (.slice none 0 0) ∧ w' = w := by
  go_enter Tryz.func29, Tryz.ntmps29
  go_wp2
  go_ret
  exact ⟨rfl, rfl⟩
theorem holds_nil (v : Int) (w : World) : Calls Tryz.prog 74 #[.pointer none, .int .i64 v] w fun e w' => e = .returned (.bool false) ∧ w' = w := by
  go_enter Tryz.func74, Tryz.ntmps74
  go_wp2
  go_ret
  exact ⟨rfl, rfl⟩
end Go.Proofs.YtdkpdmpghibmmaaGreat

