/- The document's line: how many (written by mkgrk.py). -/
import Derived.Test.YtdjfmmfggkkbaaaDoorGrK
namespace Go.Proofs.YtdjfmmfggkkbaaaDoor
open Go.RowKit Go.Shelf Grm

set_option maxRecDepth 100000 in
set_option maxHeartbeats 4000000 in
theorem line_p_good {w : World} {K : Nat} {ad : Option Addr} {cc : Nat} {st : Rst} (s : Tx) (h9 : s.length ≤ 2000) (ha : AV w K (.slice ad st.arcs.length cc) st.arcs) (hok : st.ok2) (hK : K ≤ w.heap.size) (y z : Tx) (hyl : y.length ≤ 140737488351232) (hzl : z.length ≤ 140737488351232) (hp : st.begun = false) (hws : wordsL s = [[112], [115, 112], y, z]) :
    Calls Tryd.prog 27 #[.agg (tC st (.slice ad st.arcs.length cc)), txV s] w (LineP w K (.slice ad st.arcs.length cc) ((headL false [spT, y, z]).map fun p => { st with n := p.1, begun := true, many := p.2 })) := by
  obtain ⟨n, arcs, p, many⟩ := st
  simp only [tC] at *
  subst hp
  have HW := Lib.hid (rwords_any s ((w.alloc (.cells #[.int .i64 (n : Nat), .slice ad arcs.length cc, .int .i64 (many : Nat), .bool false] 62)).alloc (.cells #[.int .i64 0, .slice none 0 0, .int .i64 0, .bool false] 62)) h9)
  rw [hws] at HW
  have hs2 : ((w.alloc (.cells #[.int .i64 (n : Nat), .slice ad arcs.length cc, .int .i64 (many : Nat), .bool false] 62)).alloc (.cells #[.int .i64 0, .slice none 0 0, .int .i64 0, .bool false] 62)).heap.size = w.heap.size + 2 := by simp
  have hb2 : Below w.heap.size w ((w.alloc (.cells #[.int .i64 (n : Nat), .slice ad arcs.length cc, .int .i64 (many : Nat), .bool false] 62)).alloc (.cells #[.int .i64 0, .slice none 0 0, .int .i64 0, .bool false] 62)) := ((Below.refl _ _).alloc (Nat.le_refl _) _).alloc (by simp) _
  have hB2 : Row ((w.alloc (.cells #[.int .i64 (n : Nat), .slice ad arcs.length cc, .int .i64 (many : Nat), .bool false] 62)).alloc (.cells #[.int .i64 0, .slice none 0 0, .int .i64 0, .bool false] 62)) w.heap.size 62 #[.int .i64 (n : Nat), .slice ad arcs.length cc, .int .i64 (many : Nat), .bool false] := (Row.fresh w _ _).past _
  have hZ2 : Row ((w.alloc (.cells #[.int .i64 (n : Nat), .slice ad arcs.length cc, .int .i64 (many : Nat), .bool false] 62)).alloc (.cells #[.int .i64 0, .slice none 0 0, .int .i64 0, .bool false] 62)) (w.heap.size + 1) 62 #[.int .i64 0, .slice none 0 0, .int .i64 0, .bool false] := by
    have := Row.fresh (w.alloc (.cells #[.int .i64 (n : Nat), .slice ad arcs.length cc, .int .i64 (many : Nat), .bool false] 62)) 62 #[.int .i64 0, .slice none 0 0, .int .i64 0, .bool false]
    rwa [World.size_alloc] at this
  have HB2 := Lib.hid (And.intro hb2 (And.intro hB2 (And.intro hZ2 hs2)))
  have HA := Lib.hid ha
  have HOK := Lib.hid hok
  have HKw := Lib.hid hK
  clear hb2 hB2 hZ2 hs2 ha hok hK h9 hws
  go_enter Tryd.func27, Tryd.ntmps27
  go_wp2_with fail
  refine HW.out.mono ?_
  rintro e w1 ⟨⟨wv, rfl, htv⟩, hb1⟩
  have hx := HB2.out
  have hbw : Below w.heap.size w w1 := hx.1.trans (hb1.mono hx.1.size)
  have hB := hx.2.1.under hb1 hx.2.1.lt
  have hZ := hx.2.2.1.under hb1 hx.2.2.1.lt
  have b0 := hB.cell 0
  have b1 := hB.cell 1
  have b2 := hB.cell 2
  have b3 := hB.cell 3
  have z0 := hZ.cell 0
  have z1 := hZ.cell 1
  have z2 := hZ.cell 2
  have z3 := hZ.cell 3
  have y0 := hZ.thaw 0
  have y1 := hZ.thaw 1
  have y2 := hZ.thaw 2
  have y3 := hZ.thaw 3
  have t0 := hB.thaw 0
  have t1 := hB.thaw 1
  have t2 := hB.thaw 2
  have t3 := hB.thaw 3
  simp only [List.getElem?_toArray, List.getElem?_cons_zero, List.getElem?_cons_succ] at b0 b1 b2 b3 z0 z1 z2 z3
  have HZB := Lib.hid (And.intro hbw (And.intro hB hZ))
  have htvH := Lib.hid htv
  clear hx hbw hB hZ hb1
  obtain ⟨wb, wc, hwv, hwl, x0c⟩ := htv.at_ (k := 0) (by simp)
  subst hwv
  simp only [List.getElem_cons_zero] at x0c
  have x1c : w1.cell? ⟨wb, 1, none⟩ = some (txV [115, 112]) := by
    obtain ⟨wb', wc', hwv, _, q⟩ := htvH.out.at_ (k := 1) (by simp)
    cases hwv
    exact q
  have x2c : w1.cell? ⟨wb, 2, none⟩ = some (txV y) := by
    obtain ⟨wb', wc', hwv, _, q⟩ := htvH.out.at_ (k := 2) (by simp)
    cases hwv
    exact q
  have x3c : w1.cell? ⟨wb, 3, none⟩ = some (txV z) := by
    obtain ⟨wb', wc', hwv, _, q⟩ := htvH.out.at_ (k := 3) (by simp)
    cases hwv
    exact q
  simp only [List.length_cons, List.length_nil, Nat.zero_add, Nat.reduceAdd] at *
  have HY := Lib.hid (fun w => rnumber_any y 16777216 w hyl)
  have HZn := Lib.hid (fun w => rnumber_any z 67108864 w hzl)
  obtain ⟨N, hN⟩ : ∃ N, N = refN y 16777216 := ⟨_, rfl⟩
  obtain ⟨M, hM⟩ : ∃ M, M = refN z 67108864 := ⟨_, rfl⟩
  rw [← hN] at HY
  rw [← hM] at HZn
  have HNM := Lib.hid (And.intro hN hM)
  clear htv hyl hzl hN hM
  go_wp2_with fail
  refine (HY.out _).mono ?_
  rintro e w9 ⟨rfl, hw9⟩; subst w9
  go_wp2_with fail
  refine (HZn.out _).mono ?_
  rintro e w9 ⟨rfl, hw9⟩; subst w9
  obtain ⟨w3, hw3⟩ : ∃ w3, w3 = ((w1.setCell ⟨w.heap.size, 0, none⟩ (.int .i64 N)).setCell ⟨w.heap.size, 2, none⟩ (.int .i64 M)).setCell ⟨w.heap.size, 3, none⟩ (.bool true) := ⟨_, rfl⟩
  have hB3 : Row w3 w.heap.size 62 #[.int .i64 N, .slice ad arcs.length cc, .int .i64 M, .bool true] := by rw [hw3]; exact ((HZB.out.2.1.put 0 _).put 2 _).put 3 _
  have hZ3 : Row w3 (w.heap.size + 1) 62 #[.int .i64 0, .slice none 0 0, .int .i64 0, .bool false] := by rw [hw3]; exact ((HZB.out.2.2.away (by show w.heap.size + 1 ≠ w.heap.size; omega) _).away (by show w.heap.size + 1 ≠ w.heap.size; omega) _).away (by show w.heap.size + 1 ≠ w.heap.size; omega) _
  have hb3 : Below w.heap.size w w3 := by rw [hw3]; exact ((HZB.out.1.setCell (Nat.le_refl _) _).setCell (Nat.le_refl _) _).setCell (Nat.le_refl _) _
  have hr := putT_row hZ3 (.int .i64 N) (.slice ad arcs.length cc) (.int .i64 M) (.bool true)
  have hbf := putT_below hb3 (show w.heap.size ≤ w.heap.size + 1 by omega) (.int .i64 N) (.slice ad arcs.length cc) (.int .i64 M) (.bool true)
  have HF := Lib.hid hbf
  have q0 := hr.cell 0
  have q1 := hr.cell 1
  have q2 := hr.cell 2
  have q3 := hr.cell 3
  simp only [List.getElem?_toArray, List.getElem?_cons_zero, List.getElem?_cons_succ] at q0 q1 q2 q3
  have HRES := Lib.hid (And.intro q0 (And.intro q1 (And.intro q2 q3)))
  have HW3 := Lib.hid hw3
  clear q0 q1 q2 q3
  go_upto_region 10 with (fail)
  rw [← HW3.out]
  have b0 := hB3.cell 0
  have b1 := hB3.cell 1
  have b2 := hB3.cell 2
  have b3 := hB3.cell 3
  have z0 := hZ3.cell 0
  have z1 := hZ3.cell 1
  have z2 := hZ3.cell 2
  have z3 := hZ3.cell 3
  have y0 := hZ3.thaw 0
  have y1 := hZ3.thaw 1
  have y2 := hZ3.thaw 2
  have y3 := hZ3.thaw 3
  simp only [List.getElem?_toArray, List.getElem?_cons_zero, List.getElem?_cons_succ] at b0 b1 b2 b3 z0 z1 z2 z3
  obtain ⟨q0, q1, q2, q3⟩ := HRES.out
  have hF := HF.out
  clear hr hbf hw3 hB3 hZ3 hb3 x0c x1c x2c x3c
  by_cases g1 : 0 ≤ N
  · by_cases g2 : 0 ≤ M
    · have HFF := Lib.hid hF
      clear hF
      go_wp2
      refine bodyPost_ret (v := .tuple #[.agg #[.int .i64 N, .slice ad arcs.length cc, .int .i64 M, .bool true], .bool true]) (by simp [results, Tryd.results27, go_sem, q0, q1, q2, q3]) rfl ?_
      have hF := HFF.out
      obtain ⟨a, ha1, ha2⟩ := ref_some HNM.out.1 g1
      obtain ⟨b, hb1, hb2⟩ := ref_some HNM.out.2 g2
      subst ha2 hb2
      refine ⟨Only.of_below _ hF, .inr ⟨⟨a, arcs, true, b⟩, .slice ad arcs.length cc, by simp [headL, numsL, ha1, hb1], rfl, HA.out.under hF (Nat.le_refl _)⟩⟩
    · have HFF := Lib.hid hF
      clear hF
      go_wp2
      refine bodyPost_ret (v := .tuple #[.agg #[.int .i64 N, .slice ad arcs.length cc, .int .i64 M, .bool true], .bool false]) (by simp [results, Tryd.results27, go_sem, q0, q1, q2, q3]) rfl ?_
      have hF := HFF.out
      refine ⟨Only.of_below _ hF, .inl ⟨?_, _, _, _, _, _, _, rfl⟩⟩
      have := ref_none HNM.out.2 (by omega)
      cases hx : numL y 16777216 <;> simp [headL, numsL, this, hx]
  · have HFF := Lib.hid hF
    clear hF
    go_wp2
    refine bodyPost_ret (v := .tuple #[.agg #[.int .i64 N, .slice ad arcs.length cc, .int .i64 M, .bool true], .bool false]) (by simp [results, Tryd.results27, go_sem, q0, q1, q2, q3]) rfl ?_
    have hF := HFF.out
    refine ⟨Only.of_below _ hF, .inl ⟨?_, _, _, _, _, _, _, rfl⟩⟩
    have := ref_none HNM.out.1 (by omega)
    simp [headL, numsL, this]
end Go.Proofs.YtdjfmmfggkkbaaaDoor
