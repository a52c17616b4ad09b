/- gr.words. -/
import Derived.Test.YtdjfmmfggkkbaaaDoorGrS
import Derived.Laws.OwnMore
import Derived.WalkMore
namespace Go.Proofs.YtdjfmmfggkkbaaaDoor
open Go.RowKit Go.Shelf Grm
attribute [local go_sem] Oper.semAt_some
def full (x : Tx) : Bool := !x.isEmpty
def wordsL (m : Tx) : List Tx := (cut 32 m).filter full
def five (pre : List Tx) : List Tx := (pre.filter full).take 5
theorem infoS : (Tryd.prog.info? 9).map (fun i => (i.zero, i.size, i.bytes)) = some (some (.string ⟨#[]⟩), 1, 16) := by kernel_rfl
/-- 'append(v, u)' where there is room. -/
theorem wpListIn_appendFit {F : Fence} {n : Nat} {P : Program} (w : World) {ops : Array Oper} {rest : List Oper} {o : Oper} {a : Act} {Q : Exit → Act → World → Prop}
    (hg : o.guard = none) (s x : Operand) (t : TypeId) (hop : o.op = Op.call { callee := Callee.builtin Builtin.append, args := #[s, x], argTypes := #[t, t] })
    (base : Nat) (e : TypeId) (i : TypeInfo) (h1 : P.underlying t = some (.slice e)) (h2 : P.info? e = some i) (h4 : i.size = 1)
    (g k cap : Nat) (xs : List Value) (hs : a.eval s = .slice (some ⟨g, 0, none⟩) k cap) (hown : w.ownsRow base e 1 (.slice (some ⟨g, 0, none⟩) k cap) k xs) (ad : Addr) (u : Value) (hx : a.eval x = .slice (some ad) 1 1)
    (hc : w.cell? (ad.add 0) = some u) (hu : u.oneCell' = true) (hroom : k + 1 ≤ cap)
    (hK : ∀ w', w'.ownsRow base e 1 (.slice (some ⟨g, 0, none⟩) (k + 1) cap) (k + 1) (xs ++ [u]) → w.grownBy w' (some g) → wpListIn F n P ops Q rest (a.put o.dst (.slice (some ⟨g, 0, none⟩) (k + 1) cap)) w') :
    wpListIn F n P ops Q (o :: rest) a w := by
  refine wpListIn_plain hg fun K hK' => ?_
  obtain ⟨w', hrun, r1, r2⟩ := run_append_fits (P := P) w base t o.type e i 1 h1 h2 h4 g k cap xs hown ad 1 1 [u] rfl (by
    intro j v hv
    match j, hv with
    | 0, hv => injection hv with hv; subst hv; exact hc
    | j + 1, hv => simp at hv) (by intro v hv; simp at hv; subst hv; exact hu) hroom
  unfold Oper.wpIn
  refine ⟨?_, ?_⟩
  · simp [Oper.about, hop, resolve, Target.leads, Sem.run_pure]
  · rw [Oper.semAt_plain F _ _ (by rw [hop]; intro c hc'; cases hc')]
    simp [execOp, hop, resolve, invoke, builtin, hs, hx, hrun, Result.andThen]
    exact hK' _ _ (hK w' r1 r2)
theorem stepR_scope' {P : Program} {b : Frame} {a : Act} {k : List Item} {cs : List Frame} {w : World} {c : Code} :
    step P (lone (b.atR a (.code (.scope c) :: k)) cs w) = .next (lone (b.atR a (.code c :: .inScope c :: k)) cs w) := step_lone_go (by simp [stepG, stepG.exec, Frame.atR])
theorem stepR_inScope' {P : Program} {b : Frame} {a : Act} {k : List Item} {cs : List Frame} {w : World} {c : Code} :
    step P (lone (b.atR a (.inScope c :: k)) cs w) = .next (lone (b.atR a k) cs w) := step_lone_go (by simp [stepG, stepG.exec, Frame.atR])
/-- A scope through which the run goes without a goto. -/
theorem wpIn_scope {F : Fence} {n : Nat} {P : Program} {Q : Exit → Act → World → Prop} {a : Act} {w : World} {c : Code} (h : c.wpIn F n P (Exit.noGoto Q) a w) : (Code.scope c).wpIn F n P Q a w := by
  intro b k cs hro hb hr
  have h0 : (lone (b.atR a (.code (.scope c) :: k)) cs w).fenced P F := fenced_calm hb hr rfl
  obtain ⟨e, a₁, w₁, hq, harr⟩ := h b (.inScope c :: k) cs hro hb hr
  cases e with
  | normal => exact ⟨.normal, a₁, w₁, hq, .head h0 stepR_scope' (StepsIn.trans harr (.one (fenced_calm hb hr rfl) stepR_inScope'))⟩
  | exit id =>
    have hx : exitTo id (.inScope c :: k) = exitTo id k := by simp [exitTo]
    exact ⟨.exit id, a₁, w₁, hq, fun k' hk => .head h0 stepR_scope' (harr.1 k' (by rw [hx]; exact hk)),
      fun hr' hk => let ⟨k₁, h1, h2⟩ := harr.2 hr' (by rw [hx]; exact hk); ⟨k₁, h1, .head h0 stepR_scope' h2⟩⟩
  | goto l => exact hq.elim
  | ret => exact ⟨_, a₁, w₁, hq, .of_steps (.one h0 stepR_scope') harr⟩
  | panic ch => exact ⟨_, a₁, w₁, hq, .of_steps (.one h0 stepR_scope') harr⟩
  | outgrown => exact ⟨_, a₁, w₁, hq, .of_steps (.one h0 stepR_scope') harr⟩
/-- Between two rounds. -/
def WordsI (h b1 : Nat) (w : World) (pre : List Tx) (W : World) : Prop :=
  Boxed W b1 58 (.slice (some ⟨h, 0, none⟩) (five pre).length 5) ∧ W.ownsRow h 9 1 (.slice (some ⟨h, 0, none⟩) (five pre).length 5) (five pre).length ((five pre).map txV) ∧ Below h w W ∧ b1 + 4 ≤ W.heap.size
theorem WordsI.own {h b1 B : Nat} {w : World} (hw : w.heap.size = h) (h1 : h < b1) (hB : b1 < B) : OwnSt B (b1 + 1) (WordsI h b1 w) := by
  rintro s A A' row ⟨k1, k2, k3, k4⟩ hg hr
  refine ⟨k1.kept hg (by intro e; rcases hr _ e.symm with q | ⟨q, _⟩ <;> omega), World.ownsRow.kept k2 hg (.inr (by intro e; rcases hr h e.symm with q | ⟨q, _⟩ <;> omega)), k3.grown hg (by have := k3.size; omega) (fun k e => by rcases hr k e with q | ⟨q, _⟩ <;> omega), Nat.le_trans k4 hg.size⟩
theorem five_skip (pre : List Tx) : five (pre ++ [[]]) = five pre := by simp [five, full]
theorem five_more (pre : List Tx) {x : Tx} (hx : x ≠ []) (h : (five pre).length < 5) : five (pre ++ [x]) = five pre ++ [x] := by
  have hf : full x = true := by cases x <;> simp_all [full]
  simp only [five, List.filter_append, List.filter_cons, hf, if_true, List.filter_nil] at h ⊢
  rw [List.length_take] at h
  rw [List.take_of_length_le (by simp; omega), List.take_of_length_le (by omega)]
theorem five_end {pre l : List Tx} (hp : pre <+: l) (h : 5 ≤ (five pre).length) : five l = five pre := by
  obtain ⟨t, rfl⟩ := hp
  simp only [five, List.filter_append] at h ⊢
  rw [List.length_take] at h
  exact List.take_append_of_le_length (by omega)
theorem five_le (pre : List Tx) : (five pre).length ≤ 5 := by simp [five]; omega
set_option maxRecDepth 100000 in
set_option maxHeartbeats 2000000 in
theorem words_any (m : Tx) (hm : m.length ≤ 140737488351232) (w : World) :
    Calls Tryd.prog 24 #[txV m] w fun e w' => e = .returned (.slice (some ⟨w.heap.size, 0, none⟩) (five (cut 32 m)).length 5) ∧ w'.ownsRow w.heap.size 9 1 (.slice (some ⟨w.heap.size, 0, none⟩) (five (cut 32 m)).length 5) (five (cut 32 m)).length ((five (cut 32 m)).map txV) ∧ Below w.heap.size w w' := by
  obtain ⟨i0, hi, hz0, hz1, hz2⟩ := info_parts infoS
  refine (callsIn_wide (n := 6)).1 ?_
  have hf1 : Fence.wide.fn 35 := trivial
  have hf2 : Fence.wide.fn 49 := trivial
  have HM := Lib.hid hm
  clear hm
  refine callsIn_of_wp_marks Tryd.func24 rfl trivial ?_ rfl
  simp only [Tryd.ntmps24, List.size_toArray, List.length_cons, List.length_nil, Nat.reduceAdd, Nat.reduceSub, Array.replicate_succ, Array.replicate_zero, List.push_toArray, List.append_toArray, List.nil_append, List.cons_append]
  gi_wp2_with (first
    | (gi_at_make; refine wpListIn_make_own _ rfl _ _ 58 rfl w.heap.size 9 i0 (.string ⟨#[]⟩) 1 Tryd.underlying58 hi hz0 hz1 .i64 .i64 (5 : Int) 5 rfl rfl rfl (by rw [hz2]; decide) (by simp only [maxLen]; omega) (Nat.le_refl _) ?_; intro w1 hrow1 hg1; have HR1 := Lib.hid (And.intro hrow1 ((Below.refl w.heap.size w).grown hg1 (Nat.le_refl _) (fun k e => by cases e))); clear hrow1 hg1)
    | (gi_at_call 35; refine (callsIn_wide.2 (splitseq_any m 32 _)).mono ?_; rintro e w' ⟨rfl, rfl⟩)
    | (apply wpIn_scope) | (apply wpIn_label) | gi_in)
  have hrow1 := HR1.out.1
  have hb1 := HR1.out.2
  have hsz1 := hb1.size
  have bO := Boxed.new w1 58 (.slice (some ⟨w.heap.size, 0, none⟩) 0 5)
  have hw1 : w.heap.size < w1.heap.size := by
    rcases hrow1.2 with ⟨hnil, _⟩ | ⟨g', cap, cur, hh, hbase, hb, _⟩
    · cases hnil
    · cases hh; exact (Array.getElem?_eq_some_iff.1 hb).1
  have hs2 : (w1.alloc (.cells #[.slice (some ⟨w.heap.size, 0, none⟩) 0 5] 58)).heap.size = w1.heap.size + 1 := World.size_alloc ..
  have hbx := splitW_box m 32 (w1.alloc (.cells #[.slice (some ⟨w.heap.size, 0, none⟩) 0 5] 58))
  have hss := splitW_size m 32 (w1.alloc (.cells #[.slice (some ⟨w.heap.size, 0, none⟩) 0 5] 58))
  have hsb := splitW_below m 32 (w1.alloc (.cells #[.slice (some ⟨w.heap.size, 0, none⟩) 0 5] 58))
  rw [hs2] at hbx hss hsb
  have hseq := split_seq (6 - 1) (w1.heap.size + 1) (by omega) 32 m HM.out _ hbx.1 hbx.2.1 hbx.2.2
  refine wpIn_rangeFunc_st rfl (by omega) (gf := 49) (lb := #[.pointer (some ⟨w1.heap.size + 1 + 1, 0, none⟩), .pointer (some ⟨w1.heap.size + 1, 0, none⟩), .pointer (some ⟨w1.heap.size + 1 + 2, 0, none⟩)]) ?hg hf2 (enters_of Tryd.func49 (by kernel_rfl) rfl) hseq (by omega) (fun _ => rfl)
    (WordsI w.heap.size w1.heap.size w) (fun c pre W => c = .exit 0 ∧ five (cut 32 m) = five pre ∧ WordsI w.heap.size w1.heap.size w pre W) (WordsI.own rfl hw1 (by omega)) ?hIx ?h0
    (fun x => { tmps := #[txV m, undef, .slice none 0 0, .pointer (some ⟨w1.heap.size, 0, none⟩), txV x, .slice (some ⟨w.heap.size, 0, none⟩) 0 5, txV m, splitV (w1.heap.size + 1), txV x, undef, undef, undef, undef, undef, undef, undef, undef, undef, undef, undef, undef], defers := [] }) ?assign ?body ?done ?stop
  case hg => rfl
  case hIx =>
    rintro c s A A' row ⟨h1, h2, h3⟩ hg hr
    exact ⟨h1, h2, WordsI.own rfl hw1 (by omega) s A A' row h3 hg hr⟩
  case h0 =>
    refine ⟨((bO.alloc _).alloc _).alloc _, (((hrow1.alloc _).alloc _).alloc _).alloc _, ?_, by omega⟩
    exact (((hb1.alloc hsz1 _).alloc (by simp; omega) _).alloc (by simp; omega) _).alloc (by simp; omega) _
  case assign =>
    intro l x W K hK
    gi_wp2
    exact hK
  case body =>
    rintro l pre x W ⟨k1, k2, k3, k4⟩ hR
    have hc := k1.cell
    have hl5 := five_le pre
    rcases x with _ | ⟨y, t⟩
    · have HK := Lib.hid (And.intro k1 (And.intro k2 (And.intro k3 k4)))
      clear k1 k2 k3
      gi_wp2
      refine ⟨?kf, Keep3.refl _ _, ?_⟩
      case kf => first | exact KeepsFrom.refl _ _ | exact (KeepsOthers.refl _).from _
      unfold WordsI
      rw [five_skip]
      exact HK.out
    · rcases Nat.lt_or_ge (five pre).length 5 with hlt | hge
      · have hz : ¬ (4 : Int) < ((five pre).length : Int) := by omega
        have h5 := five_more pre (x := y :: t) (by simp) hlt
        have HK := Lib.hid (And.intro k1 (And.intro k2 (And.intro k3 k4)))
        clear k1 k2 k3
        have HR := Lib.hid hR
        have HZ := Lib.hid (And.intro h5 hl5)
        clear hR h5 hl5
        gi_wp2_with (first | (gi_at_builtin; refine wpListIn_appendFit _ rfl _ _ 58 rfl w.heap.size 9 i0 Tryd.underlying58 hi hz1 w.heap.size (five pre).length 5 ((five pre).map txV) rfl (HK.out.2.1.alloc _) ⟨W.heap.size, 0, none⟩ (txV (y :: t)) rfl (Boxed.new W _ (txV (y :: t))).cell rfl (by omega) ?_; intro w2 hown' hgrow; obtain ⟨hv1, hv2, hr2, hk2, hb2⟩ := HK.out.1.appended (by decide) HK.out.2.1 HK.out.2.2.1.size (by omega) hown' hgrow; have hkeep : Keep3 (w1.heap.size + 1) W (w2.setCell ⟨w1.heap.size, 0, none⟩ (.slice (some ⟨w.heap.size, 0, none⟩) ((five pre).length + 1) 5)) := (fun k h1 h2 => ((grownBy_setCell' w2 _ _).block k (by have := hgrow.size; simp at this; omega) (by intro e; injection e; omega)).trans ((hgrow.block k (by simp; omega) (by intro e; injection e; omega)).trans ((World.grownBy_alloc W _ none).block k (by omega) (by simp)))); have HE := Lib.hid (And.intro hv2 (And.intro hr2 (And.intro hk2 (And.intro hb2 hkeep)))); have hc1 := hv1.cell; have hf1' := hv1.frozen; clear hv1 hv2 hr2 hk2 hb2 hkeep hown' hgrow) | gi_in)
        have he := HE.out
        refine ⟨he.2.2.1.from _, he.2.2.2.2, ?_⟩
        unfold WordsI
        rw [HZ.out.1, List.length_append, List.map_append]
        exact ⟨he.1, he.2.1, HK.out.2.2.1.trans he.2.2.2.1, by have := he.2.2.1.size; have := HK.out.2.2.2; omega⟩
      · have hz : (4 : Int) < ((five pre).length : Int) := by omega
        have hp : pre <+: cut 32 m := (List.prefix_append pre [y :: t]).trans hR
        have h5 := five_end hp hge
        have h6 := five_end (List.prefix_append pre [y :: t]) hge
        have HK := Lib.hid (And.intro k1 (And.intro k2 (And.intro k3 k4)))
        clear k1 k2 k3
        have HZ := Lib.hid (And.intro h5 h6)
        clear h5 h6 hR hp
        gi_wp2
        refine ⟨?kf, rfl, HZ.out.1.trans HZ.out.2.symm, ?_⟩
        case kf => first | exact KeepsFrom.refl _ _ | exact (KeepsOthers.refl _).from _
        unfold WordsI
        rw [HZ.out.2]
        exact HK.out
  case done =>
    rintro D xs W hD rfl ⟨k1, k2, k3, k4⟩ hK
    have hc := k1.cell
    have HK := Lib.hid (And.intro k2 k3)
    have HD := Lib.hid (And.intro hD hK)
    clear k1 k2 k3 hD hK
    gi_wp2
    refine ⟨by simp, .inl ⟨_, _, rfl, run_takeDeferred HD.out.2, ?_⟩⟩
    exact ⟨_, results_tmp rfl _ _ _, rfl, ownsRow_putObj HK.out.1 _ HD.out.2 rfl, HK.out.2.trans (belowK_b (w := w) (Nat.le_refl _) _ D _ _ (by have := HD.out.1; omega) HD.out.2 rfl rfl)⟩
  case stop =>
    rintro D c pre W hD ⟨rfl, h5, k1, k2, k3, k4⟩ hK
    rw [← h5] at k1 k2
    have hc := k1.cell
    have HK := Lib.hid (And.intro k2 k3)
    have HD := Lib.hid (And.intro hD hK)
    clear k1 k2 k3 hD hK h5
    gi_wp2
    refine ⟨by simp, .inl ⟨_, _, rfl, run_takeDeferred HD.out.2, ?_⟩⟩
    exact ⟨_, results_tmp rfl _ _ _, rfl, ownsRow_putObj HK.out.1 _ HD.out.2 rfl, HK.out.2.trans (belowK_b (w := w) (Nat.le_refl _) _ D _ _ (by have := HD.out.1; omega) HD.out.2 rfl rfl)⟩
end Go.Proofs.YtdjfmmfggkkbaaaDoor
