/- The names of a disk's files, by the library's iterator over a map's keys. -/
import Derived.Test.YthheolhghhmdlaaDiskK
import Derived.RangeFuncNested
import Derived.RangeFuncBound
import Derived.RangeFuncBox
import Derived.RangeFuncCalls
import Derived.RangeFuncLeaves
import Derived.RangeFuncStops
import Derived.Shelf.Abstract
import Derived.Shelf.RegionOpen
import Derived.OwnWalkIn
import Derived.TacticsInMore
import Derived.LoopNIn
import Derived.LoopIn
import Derived.Sort.MapsRangeIn
import Derived.Sort.OwnSorted
import Derived.Maps.OwnIn
namespace Go.Proofs.Ythheolhghhmdlaa
open Go.RowKit Dsk
open Go.Shelf Go.Sort
open Go.Maps (Keyed)
attribute [local go_sem] Oper.semAt_some

theorem before_lt : ∀ {a b : Nm}, bytesBefore a b = true → a < b
  | [], [], h => by cases h
  | [], _ :: _, _ => List.nil_lt_cons _ _
  | _ :: _, [], h => by cases h
  | x :: r, y :: s, h => by
    simp only [bytesBefore, Bool.or_eq_true, Bool.and_eq_true, decide_eq_true_eq, beq_iff_eq] at h
    rw [List.cons_lt_cons_iff]
    rcases h with h | ⟨h1, h2⟩
    · exact .inl h
    · exact .inr ⟨h1, before_lt h2⟩
theorem sorted_names {α : Type} {key : α → Nm} {l : List α} (h : Rising key l) {ss : List Nm} (hp : ss.Perm (l.map key)) : ss.mergeSort (fun x y => decide (x ≤ y)) = l.map key := by
  have e : ss.mergeSort leB = (l.map key).mergeSort leB := mergeSort_of_perm hp
  show ss.mergeSort leB = _
  rw [e]
  refine List.mergeSort_of_pairwise ?_
  refine List.pairwise_map.2 (h.imp fun {a b} hab => ?_)
  simp only [leB, decide_eq_true_eq]
  exact List.le_of_lt (before_lt hab)

set_option maxRecDepth 100000 in
set_option maxHeartbeats 1000000 in
/-- The iterator over a map's keys, whatever the rounds do that leave maps and walks alone. -/
theorem keys_round (F : Fence) (n : Nat) (hf : F.fn 55) (hro : F.round = none) (hn : 1 ≤ n) (l Bm b nn : Nat) (D0 : DataW Unit) (J Jx : List Nm → World → Prop)
    (hY : ∀ pre x W, J pre W → pre.length < Maps.size D0 → YieldAt F (n - 1) Try.prog l #[encStr x] W fun e W' => (e = .returned (.bool true) ∧ J (pre ++ [x]) W' ∧ KeepsWalks W W') ∨ (e = .returned (.bool false) ∧ Jx (pre ++ [x]) W'))
    (W : World) (hJ : AbidesFrom W.heap.size J) (hm : W.cell? ⟨Bm, 0, none⟩ = some (.map (some b))) (hown : W.ownsMap Try.prog 9 pE b nn D0) (h0 : J [] W) :
    CallsIn F n Try.prog 55 #[.func (.yield l) #[] #[], .pointer (some ⟨Bm, 0, none⟩)] W fun e W' => (∃ v, e = .returned v) ∧
      ((∃ ss : List Nm, ss.Perm (strKeys D0) ∧ J ss W') ∨ (∃ pre : List Nm, True ∧ Jx pre W')) := by
  refine callsIn_of_wp Try.func55 rfl hf ?_ hro
  simp only [Try.ntmps55, List.size_toArray, List.length_cons, List.length_nil, Nat.reduceAdd, Nat.reduceSub, Array.replicate_succ, Array.replicate_zero, List.push_toArray, List.append_toArray, List.nil_append, List.cons_append]
  gi_wp2_with (first
    | (gi_at_range; refine wpListIn_range_own _ rfl _ 62 rfl 9 67 keyS Try.underlying62 _ b nn _ rfl hown ?_; intro w0 hrg0 hg0 hs0)
    | gi_in)
  go_frame
  gi_loopw [3] (fun _ wr => ∃ (left : Lit → Bool) (cnt : Nat) (ss : List Nm), wr.ranges Try.prog 9 pE b W.heap.size nn D0 left cnt ∧ ss.length + cnt ≤ Maps.size D0 ∧ Collected D0 left ss ∧ J ss wr) (fun _ wr => wr.rangeLeft b W.heap.size)
  case atStart => exact ⟨_, _, [], hrg0, by simp, Collected.start D0, hJ [] W w0 none h0 hg0 (fun r e => by cases e)⟩
  case round =>
    obtain ⟨left, cnt, ss, hrg, hcs, hC, hJs⟩ := hrel
    gi_wp2_with (first
      | (gi_at_next; refine wpListIn_next_ranges _ rfl _ rfl 9 keyS pE encStr ptrOf (fun key kl hk => by obtain ⟨x, hx, _⟩ := Maps.keyOf_str Try.underlying9 hk; exact ⟨x, hx⟩) pE_inv b W.heap.size nn _ _ _ rfl hrg ?_ ?_)
      | gi_in)
    · intro hc0 hl0
      gi_wp2
      go_end0
      exact ⟨⟨_, rfl⟩, .inl ⟨ss, hC.perm hown keyS Try.underlying9 hl0, hJs⟩⟩
    · intro x c kl yd yp w2 cnt2 hkey hlk hv hat hrg2 hlt hg2 hs2 hen
      obtain ⟨x', ex, rfl, _⟩ := Maps.keyOf_str Try.underlying9 hkey
      obtain rfl : x = x' := encStr_inj ex
      have hJ2 : J ss w2 := hJ ss wr w2 (some W.heap.size) hJs hg2 (fun r e => by cases e; exact ⟨Nat.le_refl _, hrg.iter_walk⟩)
      obtain ⟨fn, tmps, assign, body, hy, hR⟩ := hY ss x w2 hJ2 (by omega)
      clear hs2
      gi_wp2
      refine hR.mono ?_
      have hC2 := hC.step hlk hat
      rintro e W3 (⟨rfl, hJ3, hk3⟩ | ⟨rfl, hJx3⟩)
      · gi_wp2
        have hrg3 := hrg2.of_walks hk3
        go_roundw
        case rel => exact ⟨_, cnt2, ss ++ [x], hrg3, by simp; omega, hC2, hJ3⟩
        case measure => rw [hrg3.left_eq, hrg.left_eq]; exact hlt
      · gi_wp2
        refine bodyPost_ret (results_none rfl _ _ _) rfl ?_
        exact ⟨⟨_, rfl⟩, .inr ⟨ss ++ [x], trivial, hJx3⟩⟩
theorem keys_stops (F : Fence) (n : Nat) (hf : F.fn 55) (hro : F.round = none) (hn : 1 ≤ n) (Bm b nn : Nat) (D0 : DataW Unit) (w : World) (hBm : Bm < w.heap.size) (hm : w.cell? ⟨Bm, 0, none⟩ = some (.map (some b))) (hown : w.ownsMap Try.prog 9 pE b nn D0) :
    SeqStopsK F n Try.prog 55 #[.pointer (some ⟨Bm, 0, none⟩)] (fun x : Nm => #[encStr x]) KeepsWalks (fun ss => ss.Perm (strKeys D0)) (fun _ => True) (Maps.size D0) w := fun l J Jx W hW hJ _ hY h0 => by
  have hown' : W.ownsMap Try.prog 9 pE b nn D0 := by
    have hbl := hown.lt
    obtain ⟨es, clock, hb, Ft, hs, hD⟩ := hown
    exact ⟨es, clock, (hW.block b hbl).trans hb, Ft, hs, hD⟩
  exact keys_round F n hf hro hn l Bm b nn D0 J Jx hY W hJ ((hW.cell (p := ⟨Bm, 0, none⟩) hBm).trans hm) hown' h0
set_option maxRecDepth 100000 in
set_option maxHeartbeats 1000000 in
theorem keys_round_nil (F : Fence) (n : Nat) (hf : F.fn 55) (hro : F.round = none) (l Bm : Nat) (J : List Nm → World → Prop) (W : World) (hJ : AbidesFrom W.heap.size J) (hm : W.cell? ⟨Bm, 0, none⟩ = some (.map none)) (h0 : J [] W) :
    CallsIn F n Try.prog 55 #[.func (.yield l) #[] #[], .pointer (some ⟨Bm, 0, none⟩)] W fun e W' => (∃ v, e = .returned v) ∧ J [] W' := by
  refine callsIn_of_wp Try.func55 rfl hf ?_ hro
  simp only [Try.ntmps55, List.size_toArray, List.length_cons, List.length_nil, Nat.reduceAdd, Nat.reduceSub, Array.replicate_succ, Array.replicate_zero, List.push_toArray, List.append_toArray, List.nil_append, List.cons_append]
  have hrg := run_range_nilMap (P := Try.prog) W 62 9 67 Try.underlying62
  have hnx : ∀ ty, (Instr.next (.pointer (some ⟨W.heap.size, 0, none⟩)) false ty).run Try.prog (W.alloc (.mapIter none 0 #[] 0)) = _ := fun ty => run_next_nilMap _ ty 0 0 #[]
  gi_wp2
  refine wpIn_loop_rounds 1 ?_
  rw [roundsIn_succ]
  gi_wp2
  go_end0
  exact ⟨⟨_, rfl⟩, hJ [] W _ none h0 (World.grownBy_alloc W _ none) (fun r e => by cases e)⟩
theorem keys_stops_nil (F : Fence) (n : Nat) (hf : F.fn 55) (hro : F.round = none) (Bm : Nat) (w : World) (hBm : Bm < w.heap.size) (hm : w.cell? ⟨Bm, 0, none⟩ = some (.map none)) (D0 : DataW Unit) (hD : D0 = .map []) :
    SeqStopsK F n Try.prog 55 #[.pointer (some ⟨Bm, 0, none⟩)] (fun x : Nm => #[encStr x]) KeepsWalks (fun ss => ss.Perm (strKeys D0)) (fun _ => True) (Maps.size D0) w := fun l J _ W hW hJ _ _ h0 =>
  (keys_round_nil F n hf hro l Bm J W hJ ((hW.cell (p := ⟨Bm, 0, none⟩) hBm).trans hm) h0).mono fun _ _ ⟨he, hj⟩ => ⟨he, .inl ⟨[], by subst hD; simp [strKeys], hj⟩⟩
theorem keys_any (F : Fence) (n : Nat) (hf : F.fn 48) (hro : F.round = none) (mv : Value) (w : World) (r : Option Nat) (hmv : mv = .map r) :
    CallsIn F n Try.prog 48 #[mv] w fun e w' => e = .returned (.func (.func 55) #[] #[.pointer (some ⟨w.heap.size, 0, none⟩)]) ∧ w' = w.alloc (.cells #[mv] 62) := by
  subst hmv
  refine callsIn_of_wp Try.func48 rfl hf ?_ hro
  simp only [Try.ntmps48, List.size_toArray, List.length_cons, List.length_nil, Nat.reduceAdd, Nat.reduceSub, Array.replicate_succ, Array.replicate_zero, List.push_toArray, List.append_toArray, List.nil_append, List.cons_append]
  gi_wp2
  go_ret
  exact ⟨rfl, rfl⟩
theorem infoS : (Try.prog.info? 9).map (fun i => (i.zero, i.size, i.bytes)) = some (some (.string ⟨#[]⟩), 1, 16) := by kernel_rfl
theorem len_any {w : World} {mv : Value} {L : List Ent} (h : MapV w mv L) (ty : TypeId) : (Builtin.len_ #[62] ty #[mv]).run Try.prog w = .ok (.int .i64 L.length) w := by
  rcases h with ⟨rfl, rfl⟩ | ⟨mb, rfl, ho⟩
  · exact Maps.len_nil Try.underlying62 ty
  · rw [ho.len Try.underlying62 ty]
    simp [Maps.size]
set_option maxRecDepth 100000 in
set_option maxHeartbeats 2000000 in
theorem names_any {w : World} {g : Nat} {S : Nat → Prop} {room : Int} {L : List Ent} {mv : Value} {o : Nat → Nat} {used : Nat} (h : Dk w g S room L mv o used) (hL : L.length ≤ 1000000000) :
    Calls Try.prog 26 #[ptr g] w fun e w' => ∃ v, e = .returned v ∧ w'.ownsRow w.heap.size 9 1 v L.length ((L.map Ent.name).map encStr) ∧ Below w.heap.size w w' := by
  obtain ⟨r, hmv⟩ := h.map.shape
  subst hmv
  have k2 : w.cell? ⟨g, 2, none⟩ = some (.map r) := h.row.cell 2
  have hl := h.lt
  have hlen := fun ty => len_any h.map ty
  obtain ⟨i0, hi, hz0, hz1, hz2⟩ := info_parts infoS
  refine (callsIn_wide (n := 6)).1 ?_
  have hfK : Fence.wide.fn 48 := trivial
  have hf1 : Fence.wide.fn 55 := trivial
  refine callsIn_of_wp_marks Try.func26 rfl trivial ?_ rfl
  simp only [Try.ntmps26, List.size_toArray, List.length_cons, List.length_nil, Nat.reduceAdd, Nat.reduceSub, Array.replicate_succ, Array.replicate_zero, List.push_toArray, List.append_toArray, List.nil_append, List.cons_append]
  have HH := Lib.hid h
  have HL := Lib.hid hL
  clear h hL
  gi_wp2_with (first
    | (gi_at_make; refine wpListIn_make_own _ rfl _ _ 54 rfl w.heap.size 9 i0 (.string ⟨#[]⟩) 1 Try.underlying54 hi hz0 hz1 .i64 .i64 (L.length : Int) L.length rfl rfl rfl (by have := HL.out; rw [hz2]; omega) (by have := HL.out; simp only [maxLen]; omega) (Nat.le_refl _) ?_; intro w1 hrow1 hg1; have hb1 : Below w.heap.size w w1 := (Below.refl _ _).grown hg1 (Nat.le_refl _) (fun k e => by cases e); have k2w : w1.cell? ⟨g, 2, none⟩ = some (.map r) := (hb1.cell (p := ⟨g, 2, none⟩) hl).trans k2; have hl1 : g < w1.heap.size := (by have := hb1.size; omega); have k2x : (w1.alloc (.cells #[.slice (some ⟨w.heap.size, 0, none⟩) 0 L.length] 54)).cell? ⟨g, 2, none⟩ = some (.map r) := (World.cell?_alloc_lt _ _ _ hl1).trans k2w; have HR1 := Lib.hid (And.intro hrow1 hb1); clear hrow1 hg1 hb1)
    | (gi_at_call 48; refine (keys_any Fence.wide _ hfK rfl _ _ r rfl).mono ?_; rintro e w' ⟨rfl, rfl⟩)
    | gi_in)
  have hrow1 := HR1.out.1
  have hb1 := HR1.out.2
  have hsz1 := hb1.size
  have bO := Boxed.new w1 54 (.slice (some ⟨w.heap.size, 0, none⟩) 0 L.length)
  have bM := Boxed.new (w1.alloc (.cells #[.slice (some ⟨w.heap.size, 0, none⟩) 0 L.length] 54)) 62 (.map r)
  rw [World.size_alloc] at bM
  have hB0 : Below w.heap.size w ((w1.alloc (.cells #[.slice (some ⟨w.heap.size, 0, none⟩) 0 L.length] 54)).alloc (.cells #[.map r] 62)) := (hb1.alloc hsz1 _).alloc (by simp; omega) _
  have hseq : SeqStopsK Fence.wide (6 - 1) Try.prog 55 #[.pointer (some ⟨w1.heap.size + 1, 0, none⟩)] (fun x : Nm => #[encStr x]) KeepsWalks (fun ss => ss.Perm (strKeys (DataW.map (L.map Ent.E)))) (fun _ => True) (Maps.size (DataW.map (L.map Ent.E))) ((w1.alloc (.cells #[.slice (some ⟨w.heap.size, 0, none⟩) 0 L.length] 54)).alloc (.cells #[.map r] 62)) := by
    rcases HH.out.map with ⟨hr, hL0⟩ | ⟨mb, hr, ho⟩
    · cases hr
      exact keys_stops_nil Fence.wide _ hf1 rfl _ _ (by simp) bM.cell _ (by rw [hL0]; rfl)
    · cases hr
      exact keys_stops Fence.wide _ hf1 rfl (by omega) _ mb L.length _ _ (by simp) bM.cell (ho.kept (row := none) ⟨hB0.os, hB0.tape, hB0.output, hB0.size, fun k hk _ => hB0.block k hk⟩ (by simp))
  have hN : Maps.size (DataW.map (L.map Ent.E)) = L.length := by simp [Maps.size]
  rw [hN] at hseq
  refine wpIn_rangeFunc_ownG rfl (by omega) (gf := 55) (lb := #[.pointer (some ⟨w1.heap.size + 1, 0, none⟩)]) rfl hf1 (enters_of Try.func55 (by kernel_rfl) rfl) hseq walksK_t walksK_b (Below.refl _ _) (fun _ => rfl)
    (fun (pre : List Nm) (W : World) => (∃ v, Boxed W w1.heap.size 54 v ∧ W.ownsRow w.heap.size 9 1 v pre.length (pre.map encStr) ∧ v ≠ .slice none 0 0) ∧ Below w.heap.size w W)
    (fun _ _ _ => False)
    (OwnFrom.and (Own.from (holdsRow_own w.heap.size w1.heap.size 54 9 1 (fun pre : List Nm => pre.length) (fun pre : List Nm => pre.map encStr) (fun _ v => v ≠ .slice none 0 0)) _) (ownFrom_below (Nat.le_refl _) (by simp; omega)))
    (fun _ _ _ _ _ hs _ _ => hs)
    ⟨⟨_, bO.alloc _, (hrow1.alloc _).alloc _, by simp⟩, hB0⟩
    (fun x => { tmps := #[ptr g, undef, .slice none 0 0, .pointer (some ⟨w1.heap.size, 0, none⟩), encStr x, ptr g, .bool false, ptr g, .pointer (some ⟨g, 0, none⟩), .pointer (some ⟨g, 2, none⟩), .map r, .int .i64 L.length, .slice (some ⟨w.heap.size, 0, none⟩) 0 L.length, ptr g, .pointer (some ⟨g, 0, none⟩), .pointer (some ⟨g, 2, none⟩), .map r, .func (.func 55) #[] #[.pointer (some ⟨w1.heap.size + 1, 0, none⟩)], encStr x, undef, undef, undef, undef, undef, undef, undef], defers := [] }) ?assign ?body ?done ?stop
  case assign =>
    intro l x W K hK
    gi_wp2
    exact hK
  case body =>
    rintro l pre x W ⟨⟨v, hv, hrow, hnn⟩, hB⟩ hlt
    have hc := hv.cell
    have hL9 := HL.out
    have hp1 : pre.length + 1 ≤ maxLen := by simp only [maxLen]; omega
    have hp2 : (pre.length + 1) * 16 ≤ 140737488355328 := by omega
    have hBs := hB.size
    have HP := Lib.hid (And.intro hp1 (And.intro hp2 hL9))
    clear hp1 hp2 hL9
    gi_wp2_with (gi_at_builtin; refine wpListIn_append_own _ rfl _ _ 54 rfl w.heap.size 9 i0 (.string ⟨#[]⟩) 1 16 Try.underlying54 hi hz0 hz1 hz2 rfl (by decide) _ _ _ rfl (hrow.alloc _) ⟨W.heap.size, 0, none⟩ 1 1 [encStr x] rfl rfl (cell_one_new _ _ _) (by simp [Value.oneCell']) HP.out.1 HP.out.2.1 (by simp; omega) ?_; intro v' w2 hown' hgrow hnil'; obtain ⟨g', cap', rfl⟩ := ownsRow_succ hown'; obtain ⟨hv1, hv2, hr2, hk2, hb2⟩ := hv.appended (by decide) hrow hB.size hsz1 hown' hgrow; have hc1 := hv1.cell; have hf1' := hv1.frozen)
    exact ⟨hk2.from _, hk2.walks, ⟨_, hv2, by simpa using hr2, by simp⟩, hB.trans hb2⟩
  case done =>
    rintro D ys W hD hperm ⟨⟨v, hv, hrow, hnn⟩, hB⟩ hK
    rcases hrow.2 with ⟨hnil, _⟩ | ⟨g', cap, cur, rfl, hbase, hb, h1, h2, h3, h4⟩
    · exact absurd hnil hnn
    rw [keys_datum hE] at hperm
    have hyl : ys.length = L.length := by rw [hperm.length_eq]; simp
    have hsort := sorted_names HH.out.rise hperm
    have hgl : g' < W.heap.size := (Array.getElem?_eq_some_iff.1 hb).1
    have hc := hv.cell
    have HC := Lib.hid (callsIn_wide (n := 6 - 1).2 (Try.slices_Sort_string g' 0 cap ys W (holds_of_block hb (by simpa using h4)) hgl (by have := HL.out; omega)))
    have hne : some w1.heap.size ≠ (Value.slice (some ⟨g', 0, none⟩) ys.length cap).ownBlock := hv.not_row (by decide) hrow
    have hD' : D ≠ g' := fun e => by
      rw [e, hb] at hK
      cases hK
    have hBs := hB.size
    have HS : Hid (∀ nn os, ∃ w3, w3 = grow (putRow encStr (Sort.ahead W nn) g' 0 (ys.mergeSort fun x y => decide (x ≤ y)).toArray) os ∧ w3.cell? ⟨w1.heap.size, 0, none⟩ = some (.slice (some ⟨g', 0, none⟩) ys.length cap) ∧ w1.heap.size < w3.heap.size ∧ Hid (w3.ownsRow w.heap.size 9 1 (.slice (some ⟨g', 0, none⟩) ys.length cap) ys.length ((L.map Ent.name).map encStr) ∧ w3.heap[D]? = some (.deferred (some [])) ∧ Below w.heap.size w w3)) := fun nn os => by
      have hg := grownBy_sorted (w := W) (g := g') (n := nn) (os := os) (ys.mergeSort fun x y => decide (x ≤ y)).toArray
      have hv' := hv.kept hg (fun e => hne (by rw [e]; rfl))
      refine ⟨_, rfl, hv'.cell, hv'.lt, ?_, ?_, ?_⟩
      · rw [← hsort]
        exact ownsRow_sorted (by simp) hbase hb h1 h2 h3
      · exact (hg.block D (Array.getElem?_eq_some_iff.1 hK).1 (fun e => hD' (by injection e))).trans hK
      · exact hB.grown hg hBs (fun k e => by cases e; exact hbase)
    have HD := Lib.hid hD
    have HY := Lib.hid hyl
    have hfS : Fence.wide.fn 49 := trivial
    clear hrow hb h1 h2 h3 h4 hperm hsort hne hD' hK hD hyl
    gi_wp2_with (gi_at_call 49; refine HC.out.mono ?_; rintro e w' ⟨rfl, nn, os, hw'⟩; obtain ⟨w3, hw3, hc3, hl3, HF⟩ := HS.out nn os; rw [← hw3] at hw'; subst hw'; clear hw3)
    have hf := HF.out
    refine ⟨by simp, .inl ⟨_, _, rfl, run_takeDeferred hf.2.1, ?_⟩⟩
    have hrowP := ownsRow_putObj hf.1 (.deferred none) hf.2.1 rfl
    rw [HY.out] at hrowP
    exact ⟨_, results_tmp rfl _ _ _, _, rfl, by rw [HY.out]; exact hrowP, hf.2.2.trans (belowK_b (w := w) (Nat.le_refl _) _ D _ _ (by have := HD.out; simp at this; omega) hf.2.1 rfl rfl)⟩
  case stop =>
    rintro D c pre W _ _ h _
    exact h.elim
end Go.Proofs.Ythheolhghhmdlaa
