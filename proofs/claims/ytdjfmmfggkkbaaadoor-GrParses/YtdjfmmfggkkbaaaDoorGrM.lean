/- The document's line: an arc (written by mkgrk.py). -/
import Derived.Test.YtdjfmmfggkkbaaaDoorGrL
namespace Go.Proofs.YtdjfmmfggkkbaaaDoor
open Go.RowKit Go.Shelf Grm

theorem ref_bound (m : Tx) (most : Int) (h : 0 ≤ most) : -1 ≤ refN m most ∧ refN m most ≤ most := by
  unfold refN
  cases hx : numL m most with
  | none => simp; omega
  | some a => have := numL_le hx; simp; omega
/-- Behind the append. -/
theorem line_tail {w we w4 : World} {K n many : Nat} {ad : Option Addr} {cc : Nat} {arcs : List Ar} {x : Ar} {g' cap : Nat} {o : Obj} (hb : Below w.heap.size w we) (hB : Row we w.heap.size 62 #[.int .i64 (n : Nat), .slice ad arcs.length cc, .int .i64 (many : Nat), .bool true]) (hZ : Row we (w.heap.size + 1) 62 #[.int .i64 0, .slice none 0 0, .int .i64 0, .bool false])
    (ha : AV w K (.slice ad arcs.length cc) arcs) (hK : K ≤ w.heap.size) (hown : w4.ownsRow K 50 3 (.slice (some ⟨g', 0, none⟩) (arcs.length + 1) cap) (arcs.length + 1) (acells arcs ++ [.int .i64 x.1, .int .i64 x.2.1, .int .i64 x.2.2])) (hg : (we.alloc o).grownBy w4 (Value.slice ad arcs.length cc).ownBlock) (hat : (Value.slice ad arcs.length cc).ownBlock = some g' ∨ g' = we.heap.size + 1) :
    Row w4 w.heap.size 62 #[.int .i64 (n : Nat), .slice ad arcs.length cc, .int .i64 (many : Nat), .bool true] ∧ Row w4 (w.heap.size + 1) 62 #[.int .i64 0, .slice none 0 0, .int .i64 0, .bool false] ∧
    Only (fun k => (Value.slice ad arcs.length cc).ownBlock = some k) w w4 ∧ AV w4 K (.slice (some ⟨g', 0, none⟩) (arcs.length + 1) cap) (arcs ++ [x]) ∧ g' ≠ w.heap.size ∧ g' ≠ w.heap.size + 1 := by
  have hne : ∀ k, k < we.heap.size → (Value.slice ad arcs.length cc).ownBlock ≠ some k → w4.heap[k]? = we.heap[k]? := fun k hk hn => (hg.block k (by simp; omega) (fun e => hn e.symm)).trans (Below.heap_alloc _ _ _ hk)
  have hno : ∀ k, w.heap.size ≤ k → (Value.slice ad arcs.length cc).ownBlock ≠ some k := fun k hk e => by have := (ha.own k e).2; omega
  have hsz := hZ.lt
  refine ⟨(hne _ hB.lt (hno _ (Nat.le_refl _))).trans hB, (hne _ hZ.lt (hno _ (by omega))).trans hZ, ?_, ?_, ?_, ?_⟩
  · refine ((Only.of_below _ hb).alloc o).grown hg (fun k e => .inl e)
  · unfold AV
    rw [List.length_append, acells_append]
    exact hown
  · rcases hat with q | q
    · intro e; subst e; exact hno _ (Nat.le_refl _) q
    · omega
  · rcases hat with q | q
    · intro e; subst e; exact hno _ (by omega) q
    · omega
theorem av_put {w : World} {K b i : Nat} {v u : Value} {l : List Ar} (h : AV w K v l) (hb : v.ownBlock ≠ some b) : AV (w.setCell ⟨b, i, none⟩ u) K v l :=
  h.kept (row := some b) ⟨rfl, rfl, rfl, by simp [World.setCell], fun k _ hn => Below.heap_setCell _ _ _ _ (fun e => hn (by rw [e]))⟩ (.inr hb)
theorem arc_none_y {n many : Nat} {arcs : List Ar} {y z u : Tx} {N : Int} {f : Ar → Rst} (h : N = refN y (n : Nat)) (h0 : N < 1) (hq : arcs.length ≠ many) : (arcL n arcs true many [y, z, u]).map f = none := by
  cases hx : numL y (n : Nat) with
  | none => simp [arcL, numsL, hx]
  | some a =>
    have : a = 0 := by unfold refN at h; rw [hx] at h; simp at h; omega
    subst this
    cases hy : numL z (n : Nat) <;> cases hu : numL u 2147483648 <;> simp [arcL, numsL, hx, hy, hu]
theorem arc_none_z {n many : Nat} {arcs : List Ar} {y z u : Tx} {M : Int} {f : Ar → Rst} (h : M = refN z (n : Nat)) (h0 : M < 1) (hq : arcs.length ≠ many) : (arcL n arcs true many [y, z, u]).map f = none := by
  cases hx : numL z (n : Nat) with
  | none => cases hy : numL y (n : Nat) <;> simp [arcL, numsL, hx, hy]
  | some a =>
    have : a = 0 := by unfold refN at h; rw [hx] at h; simp at h; omega
    subst this
    cases hy : numL y (n : Nat) <;> cases hu : numL u 2147483648 <;> simp [arcL, numsL, hx, hy, hu]
set_option maxRecDepth 100000 in
set_option maxHeartbeats 4000000 in
theorem line_a_good {w : World} {K : Nat} {ad : Option Addr} {cc : Nat} {st : Rst} (s : Tx) (h9 : s.length ≤ 2000) (ha : AV w K (.slice ad st.arcs.length cc) st.arcs) (hok : st.ok2) (hK : K ≤ w.heap.size) (y z u : Tx) (hyl : y.length ≤ 140737488351232) (hzl : z.length ≤ 140737488351232) (hul : u.length ≤ 140737488351232) (hp : st.begun = true) (hm : (st.arcs.length : Int) < (st.many : Int)) (hws : wordsL s = [[97], y, z, u]) :
    Calls Tryd.prog 27 #[.agg (tC st (.slice ad st.arcs.length cc)), txV s] w (LineP w K (.slice ad st.arcs.length cc) ((arcL st.n st.arcs true st.many [y, z, u]).map fun a => { st with arcs := st.arcs ++ [a] })) := by
  obtain ⟨n, arcs, p, many⟩ := st
  simp only [tC] at *
  subst hp
  have HW := Lib.hid (rwords_any s ((w.alloc (.cells #[.int .i64 (n : Nat), .slice ad arcs.length cc, .int .i64 (many : Nat), .bool true] 62)).alloc (.cells #[.int .i64 0, .slice none 0 0, .int .i64 0, .bool false] 62)) h9)
  rw [hws] at HW
  have hs2 : ((w.alloc (.cells #[.int .i64 (n : Nat), .slice ad arcs.length cc, .int .i64 (many : Nat), .bool true] 62)).alloc (.cells #[.int .i64 0, .slice none 0 0, .int .i64 0, .bool false] 62)).heap.size = w.heap.size + 2 := by simp
  have hb2 : Below w.heap.size w ((w.alloc (.cells #[.int .i64 (n : Nat), .slice ad arcs.length cc, .int .i64 (many : Nat), .bool true] 62)).alloc (.cells #[.int .i64 0, .slice none 0 0, .int .i64 0, .bool false] 62)) := ((Below.refl _ _).alloc (Nat.le_refl _) _).alloc (by simp) _
  have hB2 : Row ((w.alloc (.cells #[.int .i64 (n : Nat), .slice ad arcs.length cc, .int .i64 (many : Nat), .bool true] 62)).alloc (.cells #[.int .i64 0, .slice none 0 0, .int .i64 0, .bool false] 62)) w.heap.size 62 #[.int .i64 (n : Nat), .slice ad arcs.length cc, .int .i64 (many : Nat), .bool true] := (Row.fresh w _ _).past _
  have hZ2 : Row ((w.alloc (.cells #[.int .i64 (n : Nat), .slice ad arcs.length cc, .int .i64 (many : Nat), .bool true] 62)).alloc (.cells #[.int .i64 0, .slice none 0 0, .int .i64 0, .bool false] 62)) (w.heap.size + 1) 62 #[.int .i64 0, .slice none 0 0, .int .i64 0, .bool false] := by
    have := Row.fresh (w.alloc (.cells #[.int .i64 (n : Nat), .slice ad arcs.length cc, .int .i64 (many : Nat), .bool true] 62)) 62 #[.int .i64 0, .slice none 0 0, .int .i64 0, .bool false]
    rwa [World.size_alloc] at this
  have HB2 := Lib.hid (And.intro hb2 (And.intro hB2 (And.intro hZ2 hs2)))
  have HA := Lib.hid ha
  have HOK := Lib.hid hok
  have HKw := Lib.hid hK
  clear hb2 hB2 hZ2 hs2 ha hok hK h9 hws
  go_enter Tryd.func27, Tryd.ntmps27
  go_wp2_with fail
  refine HW.out.mono ?_
  rintro e w1 ⟨⟨wv, rfl, htv⟩, hb1⟩
  have hx := HB2.out
  have hbw : Below w.heap.size w w1 := hx.1.trans (hb1.mono hx.1.size)
  have hB := hx.2.1.under hb1 hx.2.1.lt
  have hZ := hx.2.2.1.under hb1 hx.2.2.1.lt
  have b0 := hB.cell 0
  have b1 := hB.cell 1
  have b2 := hB.cell 2
  have b3 := hB.cell 3
  have z0 := hZ.cell 0
  have z1 := hZ.cell 1
  have z2 := hZ.cell 2
  have z3 := hZ.cell 3
  have y0 := hZ.thaw 0
  have y1 := hZ.thaw 1
  have y2 := hZ.thaw 2
  have y3 := hZ.thaw 3
  have t0 := hB.thaw 0
  have t1 := hB.thaw 1
  have t2 := hB.thaw 2
  have t3 := hB.thaw 3
  simp only [List.getElem?_toArray, List.getElem?_cons_zero, List.getElem?_cons_succ] at b0 b1 b2 b3 z0 z1 z2 z3
  have HZB := Lib.hid (And.intro hbw (And.intro hB hZ))
  have htvH := Lib.hid htv
  clear hx hbw hB hZ hb1
  obtain ⟨wb, wc, hwv, hwl, x0c⟩ := htv.at_ (k := 0) (by simp)
  subst hwv
  simp only [List.getElem_cons_zero] at x0c
  have x1c : w1.cell? ⟨wb, 1, none⟩ = some (txV y) := by
    obtain ⟨wb', wc', hwv, _, q⟩ := htvH.out.at_ (k := 1) (by simp)
    cases hwv
    exact q
  have x2c : w1.cell? ⟨wb, 2, none⟩ = some (txV z) := by
    obtain ⟨wb', wc', hwv, _, q⟩ := htvH.out.at_ (k := 2) (by simp)
    cases hwv
    exact q
  have x3c : w1.cell? ⟨wb, 3, none⟩ = some (txV u) := by
    obtain ⟨wb', wc', hwv, _, q⟩ := htvH.out.at_ (k := 3) (by simp)
    cases hwv
    exact q
  simp only [List.length_cons, List.length_nil, Nat.zero_add, Nat.reduceAdd] at *
  have hn := HOK.out.1.1
  simp only at hn
  have HY := Lib.hid (fun w => rnumber_any y (n : Nat) w hyl)
  have HZn := Lib.hid (fun w => rnumber_any z (n : Nat) w hzl)
  have HUn := Lib.hid (fun w => rnumber_any u 2147483648 w hul)
  have B1 := ref_bound y (n : Nat) (by omega)
  have B2 := ref_bound z (n : Nat) (by omega)
  have B3 := ref_bound u 2147483648 (by omega)
  obtain ⟨N, hN⟩ : ∃ N, N = refN y (n : Nat) := ⟨_, rfl⟩
  obtain ⟨M, hM⟩ : ∃ M, M = refN z (n : Nat) := ⟨_, rfl⟩
  obtain ⟨U, hU⟩ : ∃ U, U = refN u 2147483648 := ⟨_, rfl⟩
  rw [← hN] at HY B1
  rw [← hM] at HZn B2
  rw [← hU] at HUn B3
  have HNM := Lib.hid (And.intro hN (And.intro hM hU))
  have hwN : IntKind.i64.wrap (N - 1) = N - 1 := by rw [IntKind.wrap_i64]; omega
  have hwM : IntKind.i64.wrap (M - 1) = M - 1 := by rw [IntKind.wrap_i64]; omega
  clear htv hyl hzl hul hN hM hU B1 B2 B3
  go_upto_region 12 with (fail)
  go_quiet (first | (go_at_call 17; exact Calls.quiet_of_same (HY.out _)))
  obtain ⟨wd, hwd⟩ : ∃ wd, wd = w1.drewN nq := ⟨_, rfl⟩
  rw [← hwd]
  have x2c : wd.cell? ⟨wb, 2, none⟩ = some (txV z) := by rw [hwd]; exact x2c
  have x3c : wd.cell? ⟨wb, 3, none⟩ = some (txV u) := by rw [hwd]; exact x3c
  have b0 : wd.cell? ⟨w.heap.size, 0, none⟩ = some (.int .i64 (n : Nat)) := by rw [hwd]; exact b0
  have b1 : wd.cell? ⟨w.heap.size, 1, none⟩ = some (.slice ad arcs.length cc) := by rw [hwd]; exact b1
  have HZB := Lib.hid (show Below w.heap.size w wd ∧ Row wd w.heap.size 62 #[.int .i64 (n : Nat), .slice ad arcs.length cc, .int .i64 (many : Nat), .bool true] ∧ Row wd (w.heap.size + 1) 62 #[.int .i64 0, .slice none 0 0, .int .i64 0, .bool false] by rw [hwd]; exact ⟨⟨HZB.out.1.os, HZB.out.1.tape, HZB.out.1.output, HZB.out.1.size, HZB.out.1.block⟩, HZB.out.2.1, HZB.out.2.2⟩)
  clear hwd
  go_upto_region 13 with (fail)
  go_quiet (first | (go_at_call 17; exact Calls.quiet_of_same (HZn.out _)))
  obtain ⟨we, hwd⟩ : ∃ we, we = wd.drewN nq := ⟨_, rfl⟩
  rw [← hwd]
  have x2c : we.cell? ⟨wb, 2, none⟩ = some (txV z) := by rw [hwd]; exact x2c
  have x3c : we.cell? ⟨wb, 3, none⟩ = some (txV u) := by rw [hwd]; exact x3c
  have b0 : we.cell? ⟨w.heap.size, 0, none⟩ = some (.int .i64 (n : Nat)) := by rw [hwd]; exact b0
  have b1 : we.cell? ⟨w.heap.size, 1, none⟩ = some (.slice ad arcs.length cc) := by rw [hwd]; exact b1
  have HZB := Lib.hid (show Below w.heap.size w we ∧ Row we w.heap.size 62 #[.int .i64 (n : Nat), .slice ad arcs.length cc, .int .i64 (many : Nat), .bool true] ∧ Row we (w.heap.size + 1) 62 #[.int .i64 0, .slice none 0 0, .int .i64 0, .bool false] by rw [hwd]; exact ⟨⟨HZB.out.1.os, HZB.out.1.tape, HZB.out.1.output, HZB.out.1.size, HZB.out.1.block⟩, HZB.out.2.1, HZB.out.2.2⟩)
  clear hwd
  go_upto_region 14 with (fail)
  clear y0 y1 y2 y3 t0 t1 t2 t3 z0 z1 z2 z3 b2 b3
  obtain ⟨i0, hi, hz0, hz1, hz2⟩ := info_parts infoA
  have HL := Lib.hid (show arcs.length ≤ 67108864 from Nat.le_trans HOK.out.1.2.2 HOK.out.1.2.1)
  have HAd := Lib.hid (show AV (we.alloc (.cells #[.int .i64 (N - 1), .int .i64 (M - 1), .int .i64 U] 50)) K (.slice ad arcs.length cc) arcs from (HA.out.under HZB.out.1 (Nat.le_refl _)).under ((Below.refl we.heap.size we).alloc (Nat.le_refl _) _) (Nat.le_refl _))
  have HFb := Lib.hid (show (we.alloc (.cells #[.int .i64 (N - 1), .int .i64 (M - 1), .int .i64 U] 50)).heap[we.heap.size]? = some (.cells #[.int .i64 (N - 1), .int .i64 (M - 1), .int .i64 U] 50 (0, 0)) from Row.fresh we _ _)
  have HKs := Lib.hid (show K ≤ (we.alloc (.cells #[.int .i64 (N - 1), .int .i64 (M - 1), .int .i64 U] 50)).heap.size by rw [World.size_alloc]; have := HKw.out; have := HZB.out.1.size; omega)
  go_wp2_with fail
  refine (HUn.out _).mono ?_
  rintro e w9 ⟨rfl, hw9⟩; subst w9
  go_upto_region 16 with (at_builtin; refine wpList_append_lies _ rfl _ _ 23 rfl K 50 i0 (.agg #[.int .i64 0, .int .i64 0, .int .i64 0]) 3 24 Tryd.underlying23 hi hz0 hz1 hz2 rfl (by omega) (.slice ad arcs.length cc) arcs.length (acells arcs) rfl HAd.out ⟨we.heap.size, 0, none⟩ 1 1 [.int .i64 (N - 1), .int .i64 (M - 1), .int .i64 U] rfl rfl (World.news_of_block (cs := #[.int .i64 (N - 1), .int .i64 (M - 1), .int .i64 U]) HFb.out) (by intro u' hu; simp at hu; rcases hu with rfl | rfl | rfl <;> rfl) (by omega) (by show arcs.length + 1 ≤ 9223372036854775807; have := HL.out; omega) (by have := HL.out; omega) HKs.out (we.heap.size + 1) (by simp) ?_; intro g' cap w4 hown hgrow hat hlt; have HT := Lib.hid (line_tail (x := (N - 1, M - 1, U)) HZB.out.1 HZB.out.2.1 HZB.out.2.2 HA.out HKw.out hown hgrow hat); have c1w := HT.out.1.cell 1; have f1w := HT.out.1.thaw 1; simp only [List.getElem?_toArray, List.getElem?_cons_zero, List.getElem?_cons_succ] at c1w; clear hown hgrow hat hlt)
  obtain ⟨w5, hw5⟩ : ∃ w5, w5 = w4.setCell ⟨w.heap.size, 1, none⟩ (.slice (some ⟨g', 0, none⟩) (arcs.length + 1) cap) := ⟨_, rfl⟩
  rw [← hw5]
  have hB3 : Row w5 w.heap.size 62 #[.int .i64 (n : Nat), (.slice (some ⟨g', 0, none⟩) (arcs.length + 1) cap), .int .i64 (many : Nat), .bool true] := by rw [hw5]; exact HT.out.1.put 1 _
  have hZ3 : Row w5 (w.heap.size + 1) 62 #[.int .i64 0, .slice none 0 0, .int .i64 0, .bool false] := by rw [hw5]; exact HT.out.2.1.away (by show w.heap.size + 1 ≠ w.heap.size; omega) _
  have ho5 : Only (fun k => (Value.slice ad arcs.length cc).ownBlock = some k) w w5 := by rw [hw5]; exact HT.out.2.2.1.setCell (.inr (Nat.le_refl _)) _
  have hv5 : AV w5 K (.slice (some ⟨g', 0, none⟩) (arcs.length + 1) cap) (arcs ++ [(N - 1, M - 1, U)]) := by rw [hw5]; exact av_put HT.out.2.2.2.1 (by intro e; injection e with e; exact HT.out.2.2.2.2.1 e)
  have ho6 : Only (fun k => (Value.slice ad arcs.length cc).ownBlock = some k) w (putT w5 (w.heap.size + 1) (.int .i64 (n : Nat)) (.slice (some ⟨g', 0, none⟩) (arcs.length + 1) cap) (.int .i64 (many : Nat)) (.bool true)) := (((ho5.setCell (.inr (by show w.heap.size ≤ w.heap.size + 1; omega)) _).setCell (.inr (by show w.heap.size ≤ w.heap.size + 1; omega)) _).setCell (.inr (by show w.heap.size ≤ w.heap.size + 1; omega)) _).setCell (.inr (by show w.heap.size ≤ w.heap.size + 1; omega)) _
  have hne1 : (Value.slice (some ⟨g', 0, none⟩) (arcs.length + 1) cap).ownBlock ≠ some (w.heap.size + 1) := by intro e; injection e with e; exact HT.out.2.2.2.2.2 e
  have hv6 : AV (putT w5 (w.heap.size + 1) (.int .i64 (n : Nat)) (.slice (some ⟨g', 0, none⟩) (arcs.length + 1) cap) (.int .i64 (many : Nat)) (.bool true)) K (.slice (some ⟨g', 0, none⟩) (arcs.length + 1) cap) (arcs ++ [(N - 1, M - 1, U)]) := av_put (av_put (av_put (av_put hv5 hne1) hne1) hne1) hne1
  have hr := putT_row hZ3 (.int .i64 (n : Nat)) (.slice (some ⟨g', 0, none⟩) (arcs.length + 1) cap) (.int .i64 (many : Nat)) (.bool true)
  have q0 := hr.cell 0
  have q1 := hr.cell 1
  have q2 := hr.cell 2
  have q3 := hr.cell 3
  have b0 := hB3.cell 0
  have b1 := hB3.cell 1
  have b2 := hB3.cell 2
  have b3 := hB3.cell 3
  have z0 := hZ3.cell 0
  have z1 := hZ3.cell 1
  have z2 := hZ3.cell 2
  have z3 := hZ3.cell 3
  have y0 := hZ3.thaw 0
  have y1 := hZ3.thaw 1
  have y2 := hZ3.thaw 2
  have y3 := hZ3.thaw 3
  simp only [List.getElem?_toArray, List.getElem?_cons_zero, List.getElem?_cons_succ] at b0 b1 b2 b3 z0 z1 z2 z3 q0 q1 q2 q3
  have hF := And.intro ho6 hv6
  have HHM := Lib.hid hm
  clear hr hw5 hB3 hZ3 ho5 hv5 ho6 hv6 hne1 c1w f1w x0c x1c x2c x3c hm hwN hwM
  by_cases g1 : 1 ≤ N
  · by_cases g2 : 1 ≤ M
    · by_cases g3 : 0 ≤ U
      · have HFF := Lib.hid hF
        clear hF
        go_wp2
        refine bodyPost_ret (v := .tuple #[.agg #[.int .i64 (n : Nat), .slice (some ⟨g', 0, none⟩) (arcs.length + 1) cap, .int .i64 (many : Nat), .bool true], .bool true]) (by simp [results, Tryd.results27, go_sem, q0, q1, q2, q3]) rfl ?_
        have hF := HFF.out
        obtain ⟨a, ha1, ha2⟩ := ref_some HNM.out.1 (by omega)
        obtain ⟨b, hb1, hb2⟩ := ref_some HNM.out.2.1 (by omega)
        obtain ⟨c, hc1, hc2⟩ := ref_some HNM.out.2.2 g3
        subst ha2 hb2 hc2
        refine ⟨hF.1, .inr ⟨⟨n, arcs ++ [((a : Int) - 1, (b : Int) - 1, (c : Int))], true, many⟩, .slice (some ⟨g', 0, none⟩) (arcs.length + 1) cap, ?_, rfl, hF.2⟩⟩
        have hq : arcs.length ≠ many := by have := HHM.out; omega
        have h1 : ¬ a = 0 := by omega
        have h2 : ¬ b = 0 := by omega
        simp [arcL, numsL, ha1, hb1, hc1, hq, h1, h2]
      · have HFF := Lib.hid hF
        clear hF
        go_wp2
        refine bodyPost_ret (v := .tuple #[.agg #[.int .i64 (n : Nat), .slice (some ⟨g', 0, none⟩) (arcs.length + 1) cap, .int .i64 (many : Nat), .bool true], .bool false]) (by simp [results, Tryd.results27, go_sem, q0, q1, q2, q3]) rfl ?_
        have hF := HFF.out
        refine ⟨hF.1, .inl ⟨?_, _, _, _, _, _, _, rfl⟩⟩
        have := ref_none HNM.out.2.2 (by omega)
        have hq : arcs.length ≠ many := by have := HHM.out; omega
        cases hx : numL y (n : Nat) <;> cases hy : numL z (n : Nat) <;> simp [arcL, numsL, this, hx, hy, hq]
    · have HFF := Lib.hid hF
      clear hF
      go_wp2
      refine bodyPost_ret (v := .tuple #[.agg #[.int .i64 (n : Nat), .slice (some ⟨g', 0, none⟩) (arcs.length + 1) cap, .int .i64 (many : Nat), .bool true], .bool false]) (by simp [results, Tryd.results27, go_sem, q0, q1, q2, q3]) rfl ?_
      have hF := HFF.out
      refine ⟨hF.1, .inl ⟨?_, _, _, _, _, _, _, rfl⟩⟩
      have hq : arcs.length ≠ many := by have := HHM.out; omega
      exact arc_none_z HNM.out.2.1 (by omega) hq
  · have HFF := Lib.hid hF
    clear hF
    go_wp2
    refine bodyPost_ret (v := .tuple #[.agg #[.int .i64 (n : Nat), .slice (some ⟨g', 0, none⟩) (arcs.length + 1) cap, .int .i64 (many : Nat), .bool true], .bool false]) (by simp [results, Tryd.results27, go_sem, q0, q1, q2, q3]) rfl ?_
    have hF := HFF.out
    refine ⟨hF.1, .inl ⟨?_, _, _, _, _, _, _, rfl⟩⟩
    have hq : arcs.length ≠ many := by have := HHM.out; omega
    exact arc_none_y HNM.out.1 (by omega) hq
end Go.Proofs.YtdjfmmfggkkbaaaDoor
