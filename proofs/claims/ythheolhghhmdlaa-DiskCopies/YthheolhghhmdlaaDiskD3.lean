/- The document's disk: Do, of a file that is not there; taken off; of another name. -/
import Derived.Test.YthheolhghhmdlaaDiskD2
namespace Go.Proofs.Ythheolhghhmdlaa
open Go.RowKit Dsk

set_option maxRecDepth 100000 in
theorem rdo_none {w : World} {T : Nat → Prop} {ad : Option Addr} {rs : List Rf} (room : Int) (c : Nat) (x : Ope) (ax : Option Addr) (cx : Nat) (h : Fs3 w T ad rs) (hT : ∀ k, T k → k < w.heap.size) (hr : Rising Rf.name rs) (hs : sizeL (rs.map Rf.fil) + looseL (rs.map Rf.fil) + rs.length ≤ 100000) (hx : RdT byV w T ax x.data) (hx9 : x.data.length ≤ 100000) (hn9 : x.name.length ≤ 140737488351232 ∧ x.to.length ≤ 140737488351232) (hro : 0 ≤ room ∧ room ≤ 1099511627776) (hm : mayBe x = true) (hk : x.kind = 2 ∨ x.kind = 4) (hg : get Rf.name x.name rs = none) : Calls Try.prog 15 #[dV room ad rs.length c, opV x ax cx] w (RDo w T room (doL room (rs.map Rf.fil) x).1 (doL room (rs.map Rf.fil) x).2) := by
  have hdo : doL room (rs.map Rf.fil) x = (rs.map Rf.fil, 4) := by
    unfold doL
    rw [if_neg (by rw [hm]; decide), if_neg (by omega), get_map rf_key, hg]
    rfl
  rw [hdo]
  clear hdo
  obtain ⟨xk, xn, xt, xd⟩ := x
  simp only at *
  have HB0 := Lib.hid (DoB.start w room ad rs.length c ⟨xk, xn, xt, xd⟩ ax cx)
  obtain ⟨w3, hw3⟩ : ∃ w3, w3 = ((w.alloc (.cells #[.int .i64 room, .slice ad rs.length c] 27)).alloc (.cells #[.int .i64 xk, .string ⟨xn.toArray⟩, .string ⟨xt.toArray⟩, .slice ax xd.length cx] 36)).alloc (.cells #[.int .i64 0, .slice none 0 0] 27) := ⟨_, rfl⟩
  have HB3 : Hid (DoB w room ad rs.length c ⟨xk, xn, xt, xd⟩ ax cx w3) := by rw [hw3]; exact HB0.out
  have HW3 := Lib.hid hw3
  have HH := Lib.hid h
  have HT := Lib.hid hT
  have HF3 := Lib.hid (h.kept (kept_below hT HB3.out.back))
  have HR := Lib.hid hr
  have HS := Lib.hid hs
  have HX := Lib.hid hx
  have HX9 := Lib.hid (And.intro hx9 (And.intro hn9 hro))
  have HT3 := Lib.hid (show ∀ k, T k → k < w3.heap.size from fun k hk => by have := hT k hk; have := HB3.out.sz; omega)
  have hmn : named xn = true := by
    simp only [mayBe, Bool.or_eq_true, Bool.and_eq_true, decide_eq_true_eq] at hm
    rcases hm with q | q
    · exact q.2
    · exact q.1.2
  have HN := Lib.hid (rnamed_any xn w3 hn9.1)
  have HNt := Lib.hid (rnamed_any xt w3 hn9.2)
  have hoks := rfind_ok HF3.out xn
  have HOk := Lib.hid hoks
  have HFi := Lib.hid (rfind_any room c xn HF3.out HT3.out (by omega) hr)
  have HFil := Lib.hid (rfind_fil xn rs)
  have HFn := Lib.hid (rfind_name xn rs)
  obtain ⟨fr, hfr⟩ : ∃ fr, fr = rfind xn rs := ⟨_, rfl⟩
  rw [← hfr] at HOk HFi HFil HFn hoks
  obtain ⟨⟨af, cf, ef, _⟩, aw, cw, ew, _⟩ := hoks
  obtain ⟨m1, hm1⟩ : ∃ m, m = fr.fil.firm.length := ⟨_, rfl⟩
  obtain ⟨m2, hm2⟩ : ∃ m, m = fr.fil.ws.length := ⟨_, rfl⟩
  rw [← hm1] at ef
  rw [← hm2] at ew
  have HV : Hid (fV fr = .agg #[.string ⟨xn.toArray⟩, .slice af m1 cf, .slice aw m2 cw]) := by
    show fV fr = _
    rw [fV, ef, ew, HFn.out]
  rw [HV.out] at HFi
  have HEf := Lib.hid ef
  have HEw := Lib.hid ew
  have HM := Lib.hid (And.intro hm1 hm2)
  clear ef ew hm1 hm2 hfr
  have hk1 : ¬ xk < 1 := by omega
  have hk4 : ¬ 4 < xk := by omega
  have hk3 : (xk == 3) = false := by simp; omega
  have hk1' : (xk == 1) = false := by simp; omega
  rw [hg] at HFi
  clear h hT hr hs hx hx9 hn9 hro hw3 HB0 hm
  clear hk hg
  have d0 : w3.cell? ⟨w.heap.size, 0, none⟩ = some (.int .i64 room) := HB3.out.rd.cell 0
  have d1 : w3.cell? ⟨w.heap.size, 1, none⟩ = some (.slice ad rs.length c) := HB3.out.rd.cell 1
  have o0 : w3.cell? ⟨w.heap.size + 1, 0, none⟩ = some (.int .i64 xk) := HB3.out.ro.cell 0
  have o1 : w3.cell? ⟨w.heap.size + 1, 1, none⟩ = some (.string ⟨xn.toArray⟩) := HB3.out.ro.cell 1
  have o2 : w3.cell? ⟨w.heap.size + 1, 2, none⟩ = some (.string ⟨xt.toArray⟩) := HB3.out.ro.cell 2
  have o3 : w3.cell? ⟨w.heap.size + 1, 3, none⟩ = some (.slice ax xd.length cx) := HB3.out.ro.cell 3
  have q0 : w3.cell? ⟨w.heap.size + 1 + 1, 0, none⟩ = some (.int .i64 0) := HB3.out.rr.cell 0
  have q1 : w3.cell? ⟨w.heap.size + 1 + 1, 1, none⟩ = some (.slice none 0 0) := HB3.out.rr.cell 1
  have qf0 := HB3.out.rr.thaw 0
  have qf1 := HB3.out.rr.thaw 1
  have dl := HB3.out.rd.lt
  have ol := HB3.out.ro.lt
  have ql := HB3.out.rr.lt
  rw [HW3.out] at d0 d1 o0 o1 o2 o3 q0 q1 qf0 qf1 dl ol ql
  show Calls Try.prog 15 #[.agg #[.int .i64 room, .slice ad rs.length c], .agg #[.int .i64 xk, .string ⟨xn.toArray⟩, .string ⟨xt.toArray⟩, .slice ax xd.length cx]] w _
  go_enter Try.func15, Try.ntmps15
  go_wp2_with fail
  rw [← HW3.out] at *
  refine HN.out.mono ?_
  rintro e w' ⟨rfl, hw'⟩
  rw [hw']
  clear hw' w'
  rw [hmn]
  go_wp2_with fail
  refine HFi.out.mono ?_
  rintro e w4 ⟨rfl, hb4⟩
  obtain ⟨w5, hw5⟩ : ∃ w5, w5 = w4.alloc (.cells #[.string ⟨xn.toArray⟩, .slice af m1 cf, .slice aw m2 cw] 73) := ⟨_, rfl⟩
  have al5 : Below w4.heap.size w4 w5 := by rw [hw5]; exact (Below.refl _ _).alloc (Nat.le_refl _) _
  have hb5 : Below w3.heap.size w3 w5 := hb4.trans (al5.mono hb4.size)
  have HB5 := Lib.hid (HB3.out.under hb5)
  have HP5 := Lib.hid (show Row w5 w4.heap.size 73 #[.string ⟨xn.toArray⟩, .slice af m1 cf, .slice aw m2 cw] by rw [hw5]; exact Row.fresh w4 _ _)
  have HF5 := Lib.hid (HF3.out.kept (kept_below HT3.out hb5))
  have HOk5 := Lib.hid (HOk.out.kept (kept_below HT3.out hb5))
  have HSW := Lib.hid hb5.size
  have HS4 := Lib.hid (show w3.heap.size ≤ w4.heap.size ∧ w5.heap.size = w4.heap.size + 1 from ⟨hb4.size, by rw [hw5]; simp⟩)
  have HW5 := Lib.hid hw5
  clear d0 d1 o0 o1 o2 o3 q0 q1 qf0 qf1 dl ol ql hb4 al5 hb5
  have d0 : w5.cell? ⟨w.heap.size, 0, none⟩ = some (.int .i64 room) := HB5.out.rd.cell 0
  have d1 : w5.cell? ⟨w.heap.size, 1, none⟩ = some (.slice ad rs.length c) := HB5.out.rd.cell 1
  have o0 : w5.cell? ⟨w.heap.size + 1, 0, none⟩ = some (.int .i64 xk) := HB5.out.ro.cell 0
  have o1 : w5.cell? ⟨w.heap.size + 1, 1, none⟩ = some (.string ⟨xn.toArray⟩) := HB5.out.ro.cell 1
  have o2 : w5.cell? ⟨w.heap.size + 1, 2, none⟩ = some (.string ⟨xt.toArray⟩) := HB5.out.ro.cell 2
  have o3 : w5.cell? ⟨w.heap.size + 1, 3, none⟩ = some (.slice ax xd.length cx) := HB5.out.ro.cell 3
  have q0 : w5.cell? ⟨w.heap.size + 1 + 1, 0, none⟩ = some (.int .i64 0) := HB5.out.rr.cell 0
  have q1 : w5.cell? ⟨w.heap.size + 1 + 1, 1, none⟩ = some (.slice none 0 0) := HB5.out.rr.cell 1
  have qf0 := HB5.out.rr.thaw 0
  have qf1 := HB5.out.rr.thaw 1
  have dl := HB5.out.rd.lt
  have ol := HB5.out.ro.lt
  have ql := HB5.out.rr.lt
  have p0 : w5.cell? ⟨w4.heap.size, 0, none⟩ = some (.string ⟨xn.toArray⟩) := HP5.out.cell 0
  have p1 : w5.cell? ⟨w4.heap.size, 1, none⟩ = some (.slice af m1 cf) := HP5.out.cell 1
  have p2 : w5.cell? ⟨w4.heap.size, 2, none⟩ = some (.slice aw m2 cw) := HP5.out.cell 2
  have pf0 := HP5.out.thaw 0
  have pf2 := HP5.out.thaw 2
  have pl := HP5.out.lt
  rw [hw5] at d0 d1 o0 o1 o2 o3 q0 q1 qf0 qf1 dl ol ql p0 p1 p2 pf0 pf2 pl
  clear hw5
  go_wp2_with fail
  rw [← HW5.out] at *
  have HE := Lib.hid (HB5.out.ret (T := T) (c' := c) rfl HF5.out (fun k hk => ⟨Nat.lt_of_lt_of_le (HT3.out k hk) HSW.out, .inl hk⟩) HT.out)
  go_wp2
  refine bodyPost_ret (v := .tuple #[dV room ad rs.length c, .int .i64 4]) (by simp [results, Try.results15, go_sem, q0, q1]) rfl ?_
  exact ⟨_, rs, rfl, rfl, HE.out⟩
set_option maxRecDepth 100000 in
theorem rdo_none3 {w : World} {T : Nat → Prop} {ad : Option Addr} {rs : List Rf} (room : Int) (c : Nat) (x : Ope) (ax : Option Addr) (cx : Nat) (h : Fs3 w T ad rs) (hT : ∀ k, T k → k < w.heap.size) (hr : Rising Rf.name rs) (hs : sizeL (rs.map Rf.fil) + looseL (rs.map Rf.fil) + rs.length ≤ 100000) (hx : RdT byV w T ax x.data) (hx9 : x.data.length ≤ 100000) (hn9 : x.name.length ≤ 140737488351232 ∧ x.to.length ≤ 140737488351232) (hro : 0 ≤ room ∧ room ≤ 1099511627776) (hm : mayBe x = true) (hk : x.kind = 3) (hg : get Rf.name x.name rs = none) : Calls Try.prog 15 #[dV room ad rs.length c, opV x ax cx] w (RDo w T room (doL room (rs.map Rf.fil) x).1 (doL room (rs.map Rf.fil) x).2) := by
  have hdo : doL room (rs.map Rf.fil) x = (rs.map Rf.fil, 4) := by
    unfold doL
    rw [if_neg (by rw [hm]; decide), if_neg (by omega), get_map rf_key, hg]
    rfl
  rw [hdo]
  clear hdo
  obtain ⟨xk, xn, xt, xd⟩ := x
  simp only at *
  have HB0 := Lib.hid (DoB.start w room ad rs.length c ⟨xk, xn, xt, xd⟩ ax cx)
  obtain ⟨w3, hw3⟩ : ∃ w3, w3 = ((w.alloc (.cells #[.int .i64 room, .slice ad rs.length c] 27)).alloc (.cells #[.int .i64 xk, .string ⟨xn.toArray⟩, .string ⟨xt.toArray⟩, .slice ax xd.length cx] 36)).alloc (.cells #[.int .i64 0, .slice none 0 0] 27) := ⟨_, rfl⟩
  have HB3 : Hid (DoB w room ad rs.length c ⟨xk, xn, xt, xd⟩ ax cx w3) := by rw [hw3]; exact HB0.out
  have HW3 := Lib.hid hw3
  have HH := Lib.hid h
  have HT := Lib.hid hT
  have HF3 := Lib.hid (h.kept (kept_below hT HB3.out.back))
  have HR := Lib.hid hr
  have HS := Lib.hid hs
  have HX := Lib.hid hx
  have HX9 := Lib.hid (And.intro hx9 (And.intro hn9 hro))
  have HT3 := Lib.hid (show ∀ k, T k → k < w3.heap.size from fun k hk => by have := hT k hk; have := HB3.out.sz; omega)
  have hmn : named xn = true ∧ named xt = true := by
    simp only [mayBe, Bool.or_eq_true, Bool.and_eq_true, decide_eq_true_eq] at hm
    rcases hm with q | q
    · omega
    · exact ⟨q.1.2, q.2⟩
  have HN := Lib.hid (rnamed_any xn w3 hn9.1)
  have HNt := Lib.hid (rnamed_any xt w3 hn9.2)
  have hoks := rfind_ok HF3.out xn
  have HOk := Lib.hid hoks
  have HFi := Lib.hid (rfind_any room c xn HF3.out HT3.out (by omega) hr)
  have HFil := Lib.hid (rfind_fil xn rs)
  have HFn := Lib.hid (rfind_name xn rs)
  obtain ⟨fr, hfr⟩ : ∃ fr, fr = rfind xn rs := ⟨_, rfl⟩
  rw [← hfr] at HOk HFi HFil HFn hoks
  obtain ⟨⟨af, cf, ef, _⟩, aw, cw, ew, _⟩ := hoks
  obtain ⟨m1, hm1⟩ : ∃ m, m = fr.fil.firm.length := ⟨_, rfl⟩
  obtain ⟨m2, hm2⟩ : ∃ m, m = fr.fil.ws.length := ⟨_, rfl⟩
  rw [← hm1] at ef
  rw [← hm2] at ew
  have HV : Hid (fV fr = .agg #[.string ⟨xn.toArray⟩, .slice af m1 cf, .slice aw m2 cw]) := by
    show fV fr = _
    rw [fV, ef, ew, HFn.out]
  rw [HV.out] at HFi
  have HEf := Lib.hid ef
  have HEw := Lib.hid ew
  have HM := Lib.hid (And.intro hm1 hm2)
  clear ef ew hm1 hm2 hfr
  rw [hg] at HFi
  clear h hT hr hs hx hx9 hn9 hro hw3 HB0 hm
  have hk1 : ¬ xk < 1 := by omega
  have hk4 : ¬ 4 < xk := by omega
  have hq1 : (xk == 1) = false := by simp; omega
  have hq2 : (xk == 2) = false := by simp; omega
  have hq3 : (xk == 3) = true := by simp; omega
  clear hk
  clear hg
  have d0 : w3.cell? ⟨w.heap.size, 0, none⟩ = some (.int .i64 room) := HB3.out.rd.cell 0
  have d1 : w3.cell? ⟨w.heap.size, 1, none⟩ = some (.slice ad rs.length c) := HB3.out.rd.cell 1
  have o0 : w3.cell? ⟨w.heap.size + 1, 0, none⟩ = some (.int .i64 xk) := HB3.out.ro.cell 0
  have o1 : w3.cell? ⟨w.heap.size + 1, 1, none⟩ = some (.string ⟨xn.toArray⟩) := HB3.out.ro.cell 1
  have o2 : w3.cell? ⟨w.heap.size + 1, 2, none⟩ = some (.string ⟨xt.toArray⟩) := HB3.out.ro.cell 2
  have o3 : w3.cell? ⟨w.heap.size + 1, 3, none⟩ = some (.slice ax xd.length cx) := HB3.out.ro.cell 3
  have q0 : w3.cell? ⟨w.heap.size + 1 + 1, 0, none⟩ = some (.int .i64 0) := HB3.out.rr.cell 0
  have q1 : w3.cell? ⟨w.heap.size + 1 + 1, 1, none⟩ = some (.slice none 0 0) := HB3.out.rr.cell 1
  have qf0 := HB3.out.rr.thaw 0
  have qf1 := HB3.out.rr.thaw 1
  have dl := HB3.out.rd.lt
  have ol := HB3.out.ro.lt
  have ql := HB3.out.rr.lt
  rw [HW3.out] at d0 d1 o0 o1 o2 o3 q0 q1 qf0 qf1 dl ol ql
  show Calls Try.prog 15 #[.agg #[.int .i64 room, .slice ad rs.length c], .agg #[.int .i64 xk, .string ⟨xn.toArray⟩, .string ⟨xt.toArray⟩, .slice ax xd.length cx]] w _
  go_enter Try.func15, Try.ntmps15
  go_wp2_with fail
  rw [← HW3.out] at *
  refine HN.out.mono ?_
  rintro e w' ⟨rfl, hw'⟩
  rw [hw']
  clear hw' w'
  rw [hmn.1]
  go_wp2_with fail
  refine HNt.out.mono ?_
  rintro e w' ⟨rfl, hw'⟩
  rw [hw']
  clear hw' w'
  rw [hmn.2]
  go_wp2_with fail
  refine HFi.out.mono ?_
  rintro e w4 ⟨rfl, hb4⟩
  obtain ⟨w5, hw5⟩ : ∃ w5, w5 = w4.alloc (.cells #[.string ⟨xn.toArray⟩, .slice af m1 cf, .slice aw m2 cw] 73) := ⟨_, rfl⟩
  have al5 : Below w4.heap.size w4 w5 := by rw [hw5]; exact (Below.refl _ _).alloc (Nat.le_refl _) _
  have hb5 : Below w3.heap.size w3 w5 := hb4.trans (al5.mono hb4.size)
  have HB5 := Lib.hid (HB3.out.under hb5)
  have HP5 := Lib.hid (show Row w5 w4.heap.size 73 #[.string ⟨xn.toArray⟩, .slice af m1 cf, .slice aw m2 cw] by rw [hw5]; exact Row.fresh w4 _ _)
  have HF5 := Lib.hid (HF3.out.kept (kept_below HT3.out hb5))
  have HOk5 := Lib.hid (HOk.out.kept (kept_below HT3.out hb5))
  have HSW := Lib.hid hb5.size
  have HS4 := Lib.hid (show w3.heap.size ≤ w4.heap.size ∧ w5.heap.size = w4.heap.size + 1 from ⟨hb4.size, by rw [hw5]; simp⟩)
  have HW5 := Lib.hid hw5
  clear d0 d1 o0 o1 o2 o3 q0 q1 qf0 qf1 dl ol ql hb4 al5 hb5
  have d0 : w5.cell? ⟨w.heap.size, 0, none⟩ = some (.int .i64 room) := HB5.out.rd.cell 0
  have d1 : w5.cell? ⟨w.heap.size, 1, none⟩ = some (.slice ad rs.length c) := HB5.out.rd.cell 1
  have o0 : w5.cell? ⟨w.heap.size + 1, 0, none⟩ = some (.int .i64 xk) := HB5.out.ro.cell 0
  have o1 : w5.cell? ⟨w.heap.size + 1, 1, none⟩ = some (.string ⟨xn.toArray⟩) := HB5.out.ro.cell 1
  have o2 : w5.cell? ⟨w.heap.size + 1, 2, none⟩ = some (.string ⟨xt.toArray⟩) := HB5.out.ro.cell 2
  have o3 : w5.cell? ⟨w.heap.size + 1, 3, none⟩ = some (.slice ax xd.length cx) := HB5.out.ro.cell 3
  have q0 : w5.cell? ⟨w.heap.size + 1 + 1, 0, none⟩ = some (.int .i64 0) := HB5.out.rr.cell 0
  have q1 : w5.cell? ⟨w.heap.size + 1 + 1, 1, none⟩ = some (.slice none 0 0) := HB5.out.rr.cell 1
  have qf0 := HB5.out.rr.thaw 0
  have qf1 := HB5.out.rr.thaw 1
  have dl := HB5.out.rd.lt
  have ol := HB5.out.ro.lt
  have ql := HB5.out.rr.lt
  have p0 : w5.cell? ⟨w4.heap.size, 0, none⟩ = some (.string ⟨xn.toArray⟩) := HP5.out.cell 0
  have p1 : w5.cell? ⟨w4.heap.size, 1, none⟩ = some (.slice af m1 cf) := HP5.out.cell 1
  have p2 : w5.cell? ⟨w4.heap.size, 2, none⟩ = some (.slice aw m2 cw) := HP5.out.cell 2
  have pf0 := HP5.out.thaw 0
  have pf2 := HP5.out.thaw 2
  have pl := HP5.out.lt
  rw [hw5] at d0 d1 o0 o1 o2 o3 q0 q1 qf0 qf1 dl ol ql p0 p1 p2 pf0 pf2 pl
  clear hw5
  go_wp2_with fail
  rw [← HW5.out] at *
  have HE := Lib.hid (HB5.out.ret (T := T) (c' := c) rfl HF5.out (fun k hk => ⟨Nat.lt_of_lt_of_le (HT3.out k hk) HSW.out, .inl hk⟩) HT.out)
  go_wp2
  refine bodyPost_ret (v := .tuple #[dV room ad rs.length c, .int .i64 4]) (by simp [results, Try.results15, go_sem, q0, q1]) rfl ?_
  exact ⟨_, rs, rfl, rfl, HE.out⟩
theorem DoB.only {w wr wy : World} {room : Int} {ad : Option Addr} {n c : Nat} {x : Ope} {ax : Option Addr} {cx : Nat} {S : Nat → Prop} (h : DoB w room ad n c x ax cx wr) (ho : Only S wr wy) (hS : ∀ k, S k → w.heap.size + 3 ≤ k) : DoB w room ad n c x ax cx wy := by
  refine ⟨h.rd.only ho (fun s => by have := hS _ s; omega), h.ro.only ho (fun s => by have := hS _ s; omega), h.rr.only ho (fun s => by have := hS _ s; omega), h.back.trans (ho.below (K := w.heap.size) (fun k s => by have := hS k s; omega) h.back.size), by have := h.sz; have := ho.size; omega⟩
set_option maxRecDepth 100000 in
theorem rdo_remove {w : World} {T : Nat → Prop} {ad : Option Addr} {rs : List Rf} (room : Int) (c : Nat) (x : Ope) (ax : Option Addr) (cx : Nat) (h : Fs3 w T ad rs) (hT : ∀ k, T k → k < w.heap.size) (hr : Rising Rf.name rs) (hs : sizeL (rs.map Rf.fil) + looseL (rs.map Rf.fil) + rs.length ≤ 100000) (hx : RdT byV w T ax x.data) (hx9 : x.data.length ≤ 100000) (hn9 : x.name.length ≤ 140737488351232 ∧ x.to.length ≤ 140737488351232) (hro : 0 ≤ room ∧ room ≤ 1099511627776) (hm : mayBe x = true) (hk : x.kind = 4) (r0 : Rf) (hg : get Rf.name x.name rs = some r0) : Calls Try.prog 15 #[dV room ad rs.length c, opV x ax cx] w (RDo w T room (doL room (rs.map Rf.fil) x).1 (doL room (rs.map Rf.fil) x).2) := by
  have hdo : doL room (rs.map Rf.fil) x = (del Fil.name x.name (rs.map Rf.fil), 0) := by
    unfold doL
    rw [if_neg (by rw [hm]; decide), if_neg (by omega), get_map rf_key, hg]
    simp only [Option.map_some]
    rw [if_neg (by omega), if_neg (by omega)]
  rw [hdo]
  clear hdo
  obtain ⟨xk, xn, xt, xd⟩ := x
  simp only at *
  have HB0 := Lib.hid (DoB.start w room ad rs.length c ⟨xk, xn, xt, xd⟩ ax cx)
  obtain ⟨w3, hw3⟩ : ∃ w3, w3 = ((w.alloc (.cells #[.int .i64 room, .slice ad rs.length c] 27)).alloc (.cells #[.int .i64 xk, .string ⟨xn.toArray⟩, .string ⟨xt.toArray⟩, .slice ax xd.length cx] 36)).alloc (.cells #[.int .i64 0, .slice none 0 0] 27) := ⟨_, rfl⟩
  have HB3 : Hid (DoB w room ad rs.length c ⟨xk, xn, xt, xd⟩ ax cx w3) := by rw [hw3]; exact HB0.out
  have HW3 := Lib.hid hw3
  have HH := Lib.hid h
  have HT := Lib.hid hT
  have HF3 := Lib.hid (h.kept (kept_below hT HB3.out.back))
  have HR := Lib.hid hr
  have HS := Lib.hid hs
  have HX := Lib.hid hx
  have HX9 := Lib.hid (And.intro hx9 (And.intro hn9 hro))
  have HT3 := Lib.hid (show ∀ k, T k → k < w3.heap.size from fun k hk => by have := hT k hk; have := HB3.out.sz; omega)
  have hmn : named xn = true := by
    simp only [mayBe, Bool.or_eq_true, Bool.and_eq_true, decide_eq_true_eq] at hm
    rcases hm with q | q
    · exact q.2
    · exact q.1.2
  have HN := Lib.hid (rnamed_any xn w3 hn9.1)
  have HNt := Lib.hid (rnamed_any xt w3 hn9.2)
  have hoks := rfind_ok HF3.out xn
  have HOk := Lib.hid hoks
  have HFi := Lib.hid (rfind_any room c xn HF3.out HT3.out (by omega) hr)
  have HFil := Lib.hid (rfind_fil xn rs)
  have HFn := Lib.hid (rfind_name xn rs)
  obtain ⟨fr, hfr⟩ : ∃ fr, fr = rfind xn rs := ⟨_, rfl⟩
  rw [← hfr] at HOk HFi HFil HFn hoks
  obtain ⟨⟨af, cf, ef, _⟩, aw, cw, ew, _⟩ := hoks
  obtain ⟨m1, hm1⟩ : ∃ m, m = fr.fil.firm.length := ⟨_, rfl⟩
  obtain ⟨m2, hm2⟩ : ∃ m, m = fr.fil.ws.length := ⟨_, rfl⟩
  rw [← hm1] at ef
  rw [← hm2] at ew
  have HV : Hid (fV fr = .agg #[.string ⟨xn.toArray⟩, .slice af m1 cf, .slice aw m2 cw]) := by
    show fV fr = _
    rw [fV, ef, ew, HFn.out]
  rw [HV.out] at HFi
  have HEf := Lib.hid ef
  have HEw := Lib.hid ew
  have HM := Lib.hid (And.intro hm1 hm2)
  clear ef ew hm1 hm2 hfr
  rw [hg] at HFi
  clear h hT hr hs hx hx9 hn9 hro hw3 HB0 hm
  have hk1 : ¬ xk < 1 := by omega
  have hk4 : ¬ 4 < xk := by omega
  have hq1 : (xk == 1) = false := by simp; omega
  have hq2 : (xk == 2) = false := by simp; omega
  have hq3 : (xk == 3) = false := by simp; omega
  clear hk
  clear hg
  have d0 : w3.cell? ⟨w.heap.size, 0, none⟩ = some (.int .i64 room) := HB3.out.rd.cell 0
  have d1 : w3.cell? ⟨w.heap.size, 1, none⟩ = some (.slice ad rs.length c) := HB3.out.rd.cell 1
  have o0 : w3.cell? ⟨w.heap.size + 1, 0, none⟩ = some (.int .i64 xk) := HB3.out.ro.cell 0
  have o1 : w3.cell? ⟨w.heap.size + 1, 1, none⟩ = some (.string ⟨xn.toArray⟩) := HB3.out.ro.cell 1
  have o2 : w3.cell? ⟨w.heap.size + 1, 2, none⟩ = some (.string ⟨xt.toArray⟩) := HB3.out.ro.cell 2
  have o3 : w3.cell? ⟨w.heap.size + 1, 3, none⟩ = some (.slice ax xd.length cx) := HB3.out.ro.cell 3
  have q0 : w3.cell? ⟨w.heap.size + 1 + 1, 0, none⟩ = some (.int .i64 0) := HB3.out.rr.cell 0
  have q1 : w3.cell? ⟨w.heap.size + 1 + 1, 1, none⟩ = some (.slice none 0 0) := HB3.out.rr.cell 1
  have qf0 := HB3.out.rr.thaw 0
  have qf1 := HB3.out.rr.thaw 1
  have dl := HB3.out.rd.lt
  have ol := HB3.out.ro.lt
  have ql := HB3.out.rr.lt
  rw [HW3.out] at d0 d1 o0 o1 o2 o3 q0 q1 qf0 qf1 dl ol ql
  show Calls Try.prog 15 #[.agg #[.int .i64 room, .slice ad rs.length c], .agg #[.int .i64 xk, .string ⟨xn.toArray⟩, .string ⟨xt.toArray⟩, .slice ax xd.length cx]] w _
  go_enter Try.func15, Try.ntmps15
  go_wp2_with fail
  rw [← HW3.out] at *
  refine HN.out.mono ?_
  rintro e w' ⟨rfl, hw'⟩
  rw [hw']
  clear hw' w'
  rw [hmn]
  go_wp2_with fail
  refine HFi.out.mono ?_
  rintro e w4 ⟨rfl, hb4⟩
  obtain ⟨w5, hw5⟩ : ∃ w5, w5 = w4.alloc (.cells #[.string ⟨xn.toArray⟩, .slice af m1 cf, .slice aw m2 cw] 73) := ⟨_, rfl⟩
  have al5 : Below w4.heap.size w4 w5 := by rw [hw5]; exact (Below.refl _ _).alloc (Nat.le_refl _) _
  have hb5 : Below w3.heap.size w3 w5 := hb4.trans (al5.mono hb4.size)
  have HB5 := Lib.hid (HB3.out.under hb5)
  have HP5 := Lib.hid (show Row w5 w4.heap.size 73 #[.string ⟨xn.toArray⟩, .slice af m1 cf, .slice aw m2 cw] by rw [hw5]; exact Row.fresh w4 _ _)
  have HF5 := Lib.hid (HF3.out.kept (kept_below HT3.out hb5))
  have HOk5 := Lib.hid (HOk.out.kept (kept_below HT3.out hb5))
  have HSW := Lib.hid hb5.size
  have HS4 := Lib.hid (show w3.heap.size ≤ w4.heap.size ∧ w5.heap.size = w4.heap.size + 1 from ⟨hb4.size, by rw [hw5]; simp⟩)
  have HW5 := Lib.hid hw5
  clear d0 d1 o0 o1 o2 o3 q0 q1 qf0 qf1 dl ol ql hb4 al5 hb5
  have d0 : w5.cell? ⟨w.heap.size, 0, none⟩ = some (.int .i64 room) := HB5.out.rd.cell 0
  have d1 : w5.cell? ⟨w.heap.size, 1, none⟩ = some (.slice ad rs.length c) := HB5.out.rd.cell 1
  have o0 : w5.cell? ⟨w.heap.size + 1, 0, none⟩ = some (.int .i64 xk) := HB5.out.ro.cell 0
  have o1 : w5.cell? ⟨w.heap.size + 1, 1, none⟩ = some (.string ⟨xn.toArray⟩) := HB5.out.ro.cell 1
  have o2 : w5.cell? ⟨w.heap.size + 1, 2, none⟩ = some (.string ⟨xt.toArray⟩) := HB5.out.ro.cell 2
  have o3 : w5.cell? ⟨w.heap.size + 1, 3, none⟩ = some (.slice ax xd.length cx) := HB5.out.ro.cell 3
  have q0 : w5.cell? ⟨w.heap.size + 1 + 1, 0, none⟩ = some (.int .i64 0) := HB5.out.rr.cell 0
  have q1 : w5.cell? ⟨w.heap.size + 1 + 1, 1, none⟩ = some (.slice none 0 0) := HB5.out.rr.cell 1
  have qf0 := HB5.out.rr.thaw 0
  have qf1 := HB5.out.rr.thaw 1
  have dl := HB5.out.rd.lt
  have ol := HB5.out.ro.lt
  have ql := HB5.out.rr.lt
  have p0 : w5.cell? ⟨w4.heap.size, 0, none⟩ = some (.string ⟨xn.toArray⟩) := HP5.out.cell 0
  have p1 : w5.cell? ⟨w4.heap.size, 1, none⟩ = some (.slice af m1 cf) := HP5.out.cell 1
  have p2 : w5.cell? ⟨w4.heap.size, 2, none⟩ = some (.slice aw m2 cw) := HP5.out.cell 2
  have pf0 := HP5.out.thaw 0
  have pf2 := HP5.out.thaw 2
  have pl := HP5.out.lt
  rw [hw5] at d0 d1 o0 o1 o2 o3 q0 q1 qf0 qf1 dl ol ql p0 p1 p2 pf0 pf2 pl
  clear hw5
  have HWo := Lib.hid (rwithout_any room c xn HF5.out (fun k hk => Nat.lt_of_lt_of_le (HT3.out k hk) HSW.out) (by have := HS.out; omega))
  go_wp2_with fail
  rw [← HW5.out] at *
  refine HWo.out.mono ?_
  rintro e w6 ⟨v6, rfl, a6, c6, rfl, hf6, hb6⟩
  obtain ⟨m6, hm6⟩ : ∃ m, m = (del Rf.name xn rs).length := ⟨_, rfl⟩
  rw [← hm6]
  obtain ⟨w7, hw7⟩ : ∃ w7, w7 = w6.alloc (.cells #[.int .i64 room, .slice a6 m6 c6] 27) := ⟨_, rfl⟩
  have al7 : Below w6.heap.size w6 w7 := by rw [hw7]; exact (Below.refl _ _).alloc (Nat.le_refl _) _
  have hb7 : Below w5.heap.size w5 w7 := hb6.trans (al7.mono hb6.size)
  have HB7 := Lib.hid (HB5.out.under hb7)
  have HP7 := Lib.hid (HP5.out.under hb7 HP5.out.lt)
  have HQ7 := Lib.hid (show Row w7 w6.heap.size 27 #[.int .i64 room, .slice a6 m6 c6] by rw [hw7]; exact Row.fresh w6 _ _)
  have hT6 : ∀ k, moreT T w5.heap.size w6.heap.size k → k < w6.heap.size := fun k hk => hk.elim (fun q => by have := HT3.out k q; have := HSW.out; have := hb6.size; omega) (fun q => q.2)
  have HF7 := Lib.hid (hf6.kept (kept_below hT6 al7))
  have HT6 := Lib.hid hT6
  have HOk7 := Lib.hid (HOk5.out.kept (kept_below (fun k hk => Nat.lt_of_lt_of_le (HT3.out k hk) HSW.out) hb7))
  have HS7 := Lib.hid (show w5.heap.size ≤ w6.heap.size ∧ w7.heap.size = w6.heap.size + 1 ∧ w.heap.size + 3 ≤ w4.heap.size from ⟨hb6.size, by rw [hw7]; simp, by have := HB3.out.sz; have := HS4.out; omega⟩)
  have HM6 := Lib.hid hm6
  have HW7 := Lib.hid hw7
  clear d0 d1 o0 o1 o2 o3 q0 q1 qf0 qf1 dl ol ql p0 p1 p2 pf0 pf2 pl hf6 hb6 al7 hb7 hT6 hm6
  have d0 : w7.cell? ⟨w.heap.size, 0, none⟩ = some (.int .i64 room) := HB7.out.rd.cell 0
  have d1 : w7.cell? ⟨w.heap.size, 1, none⟩ = some (.slice ad rs.length c) := HB7.out.rd.cell 1
  have o0 : w7.cell? ⟨w.heap.size + 1, 0, none⟩ = some (.int .i64 xk) := HB7.out.ro.cell 0
  have o1 : w7.cell? ⟨w.heap.size + 1, 1, none⟩ = some (.string ⟨xn.toArray⟩) := HB7.out.ro.cell 1
  have o2 : w7.cell? ⟨w.heap.size + 1, 2, none⟩ = some (.string ⟨xt.toArray⟩) := HB7.out.ro.cell 2
  have o3 : w7.cell? ⟨w.heap.size + 1, 3, none⟩ = some (.slice ax xd.length cx) := HB7.out.ro.cell 3
  have q0 : w7.cell? ⟨w.heap.size + 1 + 1, 0, none⟩ = some (.int .i64 0) := HB7.out.rr.cell 0
  have q1 : w7.cell? ⟨w.heap.size + 1 + 1, 1, none⟩ = some (.slice none 0 0) := HB7.out.rr.cell 1
  have qf0 := HB7.out.rr.thaw 0
  have qf1 := HB7.out.rr.thaw 1
  have dl := HB7.out.rd.lt
  have ol := HB7.out.ro.lt
  have ql := HB7.out.rr.lt
  have p0 : w7.cell? ⟨w4.heap.size, 0, none⟩ = some (.string ⟨xn.toArray⟩) := HP7.out.cell 0
  have p1 : w7.cell? ⟨w4.heap.size, 1, none⟩ = some (.slice af m1 cf) := HP7.out.cell 1
  have p2 : w7.cell? ⟨w4.heap.size, 2, none⟩ = some (.slice aw m2 cw) := HP7.out.cell 2
  have pf0 := HP7.out.thaw 0
  have pl := HP7.out.lt
  have s0 : w7.cell? ⟨w6.heap.size, 0, none⟩ = some (.int .i64 room) := HQ7.out.cell 0
  have s1 : w7.cell? ⟨w6.heap.size, 1, none⟩ = some (.slice a6 m6 c6) := HQ7.out.cell 1
  have sl := HQ7.out.lt
  have HE := Lib.hid (HB7.out.ret (T := T) (c' := c6) HM6.out HF7.out (fun k hk => ⟨by have := HT6.out k hk; have := HS7.out; omega, hk.elim .inl (fun q => .inr (by have := HB5.out.sz; omega))⟩) HT.out)
  rw [hw7] at d0 d1 o0 o1 o2 o3 q0 q1 qf0 qf1 dl ol ql s0 s1 sl p0 p1 p2 pf0 pl HE
  clear hw7
  go_wp2
  refine bodyPost_ret (v := .tuple #[dV room a6 m6 c6, .int .i64 0]) (by simp [results, Try.results15, go_sem, q0, q1]) rfl ?_
  exact ⟨_, del Rf.name xn rs, rfl, del_map rf_key _ _, HE.out⟩
set_option maxRecDepth 100000 in
theorem rdo_rename {w : World} {T : Nat → Prop} {ad : Option Addr} {rs : List Rf} (room : Int) (c : Nat) (x : Ope) (ax : Option Addr) (cx : Nat) (h : Fs3 w T ad rs) (hT : ∀ k, T k → k < w.heap.size) (hr : Rising Rf.name rs) (hs : sizeL (rs.map Rf.fil) + looseL (rs.map Rf.fil) + rs.length ≤ 100000) (hx : RdT byV w T ax x.data) (hx9 : x.data.length ≤ 100000) (hn9 : x.name.length ≤ 140737488351232 ∧ x.to.length ≤ 140737488351232) (hro : 0 ≤ room ∧ room ≤ 1099511627776) (hm : mayBe x = true) (hk : x.kind = 3) (r0 : Rf) (hg : get Rf.name x.name rs = some r0) : Calls Try.prog 15 #[dV room ad rs.length c, opV x ax cx] w (RDo w T room (doL room (rs.map Rf.fil) x).1 (doL room (rs.map Rf.fil) x).2) := by
  have hdo : doL room (rs.map Rf.fil) x = (put Fil.name (r0.fil.called x.to) (del Fil.name x.name (rs.map Rf.fil)), 0) := by
    unfold doL
    rw [if_neg (by rw [hm]; decide), if_neg (by omega), get_map rf_key, hg]
    simp only [Option.map_some]
    rw [if_neg (by omega), if_pos hk]
  rw [hdo]
  clear hdo
  have HG : Hid (ofName x.name (rs.map Rf.fil) = r0.fil) := by
    show ofName x.name (rs.map Rf.fil) = r0.fil
    exact ofName_some (by rw [get_map rf_key, hg]; rfl)
  obtain ⟨xk, xn, xt, xd⟩ := x
  simp only at *
  have HB0 := Lib.hid (DoB.start w room ad rs.length c ⟨xk, xn, xt, xd⟩ ax cx)
  obtain ⟨w3, hw3⟩ : ∃ w3, w3 = ((w.alloc (.cells #[.int .i64 room, .slice ad rs.length c] 27)).alloc (.cells #[.int .i64 xk, .string ⟨xn.toArray⟩, .string ⟨xt.toArray⟩, .slice ax xd.length cx] 36)).alloc (.cells #[.int .i64 0, .slice none 0 0] 27) := ⟨_, rfl⟩
  have HB3 : Hid (DoB w room ad rs.length c ⟨xk, xn, xt, xd⟩ ax cx w3) := by rw [hw3]; exact HB0.out
  have HW3 := Lib.hid hw3
  have HH := Lib.hid h
  have HT := Lib.hid hT
  have HF3 := Lib.hid (h.kept (kept_below hT HB3.out.back))
  have HR := Lib.hid hr
  have HS := Lib.hid hs
  have HX := Lib.hid hx
  have HX9 := Lib.hid (And.intro hx9 (And.intro hn9 hro))
  have HT3 := Lib.hid (show ∀ k, T k → k < w3.heap.size from fun k hk => by have := hT k hk; have := HB3.out.sz; omega)
  have hmn : named xn = true ∧ named xt = true := by
    simp only [mayBe, Bool.or_eq_true, Bool.and_eq_true, decide_eq_true_eq] at hm
    rcases hm with q | q
    · omega
    · exact ⟨q.1.2, q.2⟩
  have HN := Lib.hid (rnamed_any xn w3 hn9.1)
  have HNt := Lib.hid (rnamed_any xt w3 hn9.2)
  have hoks := rfind_ok HF3.out xn
  have HOk := Lib.hid hoks
  have HFi := Lib.hid (rfind_any room c xn HF3.out HT3.out (by omega) hr)
  have HFil := Lib.hid (rfind_fil xn rs)
  have HFn := Lib.hid (rfind_name xn rs)
  obtain ⟨fr, hfr⟩ : ∃ fr, fr = rfind xn rs := ⟨_, rfl⟩
  rw [← hfr] at HOk HFi HFil HFn hoks
  obtain ⟨⟨af, cf, ef, _⟩, aw, cw, ew, _⟩ := hoks
  obtain ⟨m1, hm1⟩ : ∃ m, m = fr.fil.firm.length := ⟨_, rfl⟩
  obtain ⟨m2, hm2⟩ : ∃ m, m = fr.fil.ws.length := ⟨_, rfl⟩
  rw [← hm1] at ef
  rw [← hm2] at ew
  have HV : Hid (fV fr = .agg #[.string ⟨xn.toArray⟩, .slice af m1 cf, .slice aw m2 cw]) := by
    show fV fr = _
    rw [fV, ef, ew, HFn.out]
  rw [HV.out] at HFi
  have HEf := Lib.hid ef
  have HEw := Lib.hid ew
  have HM := Lib.hid (And.intro hm1 hm2)
  clear ef ew hm1 hm2 hfr
  rw [hg] at HFi
  clear h hT hr hs hx hx9 hn9 hro hw3 HB0 hm
  have hk1 : ¬ xk < 1 := by omega
  have hk4 : ¬ 4 < xk := by omega
  have hq1 : (xk == 1) = false := by simp; omega
  have hq2 : (xk == 2) = false := by simp; omega
  have hq3 : (xk == 3) = true := by simp; omega
  clear hk
  clear hg
  have d0 : w3.cell? ⟨w.heap.size, 0, none⟩ = some (.int .i64 room) := HB3.out.rd.cell 0
  have d1 : w3.cell? ⟨w.heap.size, 1, none⟩ = some (.slice ad rs.length c) := HB3.out.rd.cell 1
  have o0 : w3.cell? ⟨w.heap.size + 1, 0, none⟩ = some (.int .i64 xk) := HB3.out.ro.cell 0
  have o1 : w3.cell? ⟨w.heap.size + 1, 1, none⟩ = some (.string ⟨xn.toArray⟩) := HB3.out.ro.cell 1
  have o2 : w3.cell? ⟨w.heap.size + 1, 2, none⟩ = some (.string ⟨xt.toArray⟩) := HB3.out.ro.cell 2
  have o3 : w3.cell? ⟨w.heap.size + 1, 3, none⟩ = some (.slice ax xd.length cx) := HB3.out.ro.cell 3
  have q0 : w3.cell? ⟨w.heap.size + 1 + 1, 0, none⟩ = some (.int .i64 0) := HB3.out.rr.cell 0
  have q1 : w3.cell? ⟨w.heap.size + 1 + 1, 1, none⟩ = some (.slice none 0 0) := HB3.out.rr.cell 1
  have qf0 := HB3.out.rr.thaw 0
  have qf1 := HB3.out.rr.thaw 1
  have dl := HB3.out.rd.lt
  have ol := HB3.out.ro.lt
  have ql := HB3.out.rr.lt
  rw [HW3.out] at d0 d1 o0 o1 o2 o3 q0 q1 qf0 qf1 dl ol ql
  show Calls Try.prog 15 #[.agg #[.int .i64 room, .slice ad rs.length c], .agg #[.int .i64 xk, .string ⟨xn.toArray⟩, .string ⟨xt.toArray⟩, .slice ax xd.length cx]] w _
  go_enter Try.func15, Try.ntmps15
  go_wp2_with fail
  rw [← HW3.out] at *
  refine HN.out.mono ?_
  rintro e w' ⟨rfl, hw'⟩
  rw [hw']
  clear hw' w'
  rw [hmn.1]
  go_wp2_with fail
  refine HNt.out.mono ?_
  rintro e w' ⟨rfl, hw'⟩
  rw [hw']
  clear hw' w'
  rw [hmn.2]
  go_wp2_with fail
  refine HFi.out.mono ?_
  rintro e w4 ⟨rfl, hb4⟩
  obtain ⟨w5, hw5⟩ : ∃ w5, w5 = w4.alloc (.cells #[.string ⟨xn.toArray⟩, .slice af m1 cf, .slice aw m2 cw] 73) := ⟨_, rfl⟩
  have al5 : Below w4.heap.size w4 w5 := by rw [hw5]; exact (Below.refl _ _).alloc (Nat.le_refl _) _
  have hb5 : Below w3.heap.size w3 w5 := hb4.trans (al5.mono hb4.size)
  have HB5 := Lib.hid (HB3.out.under hb5)
  have HP5 := Lib.hid (show Row w5 w4.heap.size 73 #[.string ⟨xn.toArray⟩, .slice af m1 cf, .slice aw m2 cw] by rw [hw5]; exact Row.fresh w4 _ _)
  have HF5 := Lib.hid (HF3.out.kept (kept_below HT3.out hb5))
  have HOk5 := Lib.hid (HOk.out.kept (kept_below HT3.out hb5))
  have HSW := Lib.hid hb5.size
  have HS4 := Lib.hid (show w3.heap.size ≤ w4.heap.size ∧ w5.heap.size = w4.heap.size + 1 from ⟨hb4.size, by rw [hw5]; simp⟩)
  have HW5 := Lib.hid hw5
  clear d0 d1 o0 o1 o2 o3 q0 q1 qf0 qf1 dl ol ql hb4 al5 hb5
  have d0 : w5.cell? ⟨w.heap.size, 0, none⟩ = some (.int .i64 room) := HB5.out.rd.cell 0
  have d1 : w5.cell? ⟨w.heap.size, 1, none⟩ = some (.slice ad rs.length c) := HB5.out.rd.cell 1
  have o0 : w5.cell? ⟨w.heap.size + 1, 0, none⟩ = some (.int .i64 xk) := HB5.out.ro.cell 0
  have o1 : w5.cell? ⟨w.heap.size + 1, 1, none⟩ = some (.string ⟨xn.toArray⟩) := HB5.out.ro.cell 1
  have o2 : w5.cell? ⟨w.heap.size + 1, 2, none⟩ = some (.string ⟨xt.toArray⟩) := HB5.out.ro.cell 2
  have o3 : w5.cell? ⟨w.heap.size + 1, 3, none⟩ = some (.slice ax xd.length cx) := HB5.out.ro.cell 3
  have q0 : w5.cell? ⟨w.heap.size + 1 + 1, 0, none⟩ = some (.int .i64 0) := HB5.out.rr.cell 0
  have q1 : w5.cell? ⟨w.heap.size + 1 + 1, 1, none⟩ = some (.slice none 0 0) := HB5.out.rr.cell 1
  have qf0 := HB5.out.rr.thaw 0
  have qf1 := HB5.out.rr.thaw 1
  have dl := HB5.out.rd.lt
  have ol := HB5.out.ro.lt
  have ql := HB5.out.rr.lt
  have p0 : w5.cell? ⟨w4.heap.size, 0, none⟩ = some (.string ⟨xn.toArray⟩) := HP5.out.cell 0
  have p1 : w5.cell? ⟨w4.heap.size, 1, none⟩ = some (.slice af m1 cf) := HP5.out.cell 1
  have p2 : w5.cell? ⟨w4.heap.size, 2, none⟩ = some (.slice aw m2 cw) := HP5.out.cell 2
  have pf0 := HP5.out.thaw 0
  have pf2 := HP5.out.thaw 2
  have pl := HP5.out.lt
  rw [hw5] at d0 d1 o0 o1 o2 o3 q0 q1 qf0 qf1 dl ol ql p0 p1 p2 pf0 pf2 pl
  clear hw5
  have HWo := Lib.hid (rwithout_any room c xn HF5.out (fun k hk => Nat.lt_of_lt_of_le (HT3.out k hk) HSW.out) (by have := HS.out; omega))
  go_wp2_with fail
  rw [← HW5.out] at *
  refine HWo.out.mono ?_
  rintro e w6 ⟨v6, rfl, a6, c6, rfl, hf6, hb6⟩
  obtain ⟨m6, hm6⟩ : ∃ m, m = (del Rf.name xn rs).length := ⟨_, rfl⟩
  rw [← hm6]
  obtain ⟨w7, hw7⟩ : ∃ w7, w7 = w6.alloc (.cells #[.int .i64 room, .slice a6 m6 c6] 27) := ⟨_, rfl⟩
  have al7 : Below w6.heap.size w6 w7 := by rw [hw7]; exact (Below.refl _ _).alloc (Nat.le_refl _) _
  have hb7 : Below w5.heap.size w5 w7 := hb6.trans (al7.mono hb6.size)
  have HB7 := Lib.hid (HB5.out.under hb7)
  have HP7 := Lib.hid (HP5.out.under hb7 HP5.out.lt)
  have HQ7 := Lib.hid (show Row w7 w6.heap.size 27 #[.int .i64 room, .slice a6 m6 c6] by rw [hw7]; exact Row.fresh w6 _ _)
  have hT6 : ∀ k, moreT T w5.heap.size w6.heap.size k → k < w6.heap.size := fun k hk => hk.elim (fun q => by have := HT3.out k q; have := HSW.out; have := hb6.size; omega) (fun q => q.2)
  have HF7 := Lib.hid (hf6.kept (kept_below hT6 al7))
  have HT6 := Lib.hid hT6
  have HOk7 := Lib.hid (HOk5.out.kept (kept_below (fun k hk => Nat.lt_of_lt_of_le (HT3.out k hk) HSW.out) hb7))
  have HS7 := Lib.hid (show w5.heap.size ≤ w6.heap.size ∧ w7.heap.size = w6.heap.size + 1 ∧ w.heap.size + 3 ≤ w4.heap.size from ⟨hb6.size, by rw [hw7]; simp, by have := HB3.out.sz; have := HS4.out; omega⟩)
  have HM6 := Lib.hid hm6
  have HW7 := Lib.hid hw7
  clear d0 d1 o0 o1 o2 o3 q0 q1 qf0 qf1 dl ol ql p0 p1 p2 pf0 pf2 pl hf6 hb6 al7 hb7 hT6 hm6
  have d0 : w7.cell? ⟨w.heap.size, 0, none⟩ = some (.int .i64 room) := HB7.out.rd.cell 0
  have d1 : w7.cell? ⟨w.heap.size, 1, none⟩ = some (.slice ad rs.length c) := HB7.out.rd.cell 1
  have o0 : w7.cell? ⟨w.heap.size + 1, 0, none⟩ = some (.int .i64 xk) := HB7.out.ro.cell 0
  have o1 : w7.cell? ⟨w.heap.size + 1, 1, none⟩ = some (.string ⟨xn.toArray⟩) := HB7.out.ro.cell 1
  have o2 : w7.cell? ⟨w.heap.size + 1, 2, none⟩ = some (.string ⟨xt.toArray⟩) := HB7.out.ro.cell 2
  have o3 : w7.cell? ⟨w.heap.size + 1, 3, none⟩ = some (.slice ax xd.length cx) := HB7.out.ro.cell 3
  have q0 : w7.cell? ⟨w.heap.size + 1 + 1, 0, none⟩ = some (.int .i64 0) := HB7.out.rr.cell 0
  have q1 : w7.cell? ⟨w.heap.size + 1 + 1, 1, none⟩ = some (.slice none 0 0) := HB7.out.rr.cell 1
  have qf0 := HB7.out.rr.thaw 0
  have qf1 := HB7.out.rr.thaw 1
  have dl := HB7.out.rd.lt
  have ol := HB7.out.ro.lt
  have ql := HB7.out.rr.lt
  have p0 : w7.cell? ⟨w4.heap.size, 0, none⟩ = some (.string ⟨xn.toArray⟩) := HP7.out.cell 0
  have p1 : w7.cell? ⟨w4.heap.size, 1, none⟩ = some (.slice af m1 cf) := HP7.out.cell 1
  have p2 : w7.cell? ⟨w4.heap.size, 2, none⟩ = some (.slice aw m2 cw) := HP7.out.cell 2
  have pf0 := HP7.out.thaw 0
  have pl := HP7.out.lt
  have s0 : w7.cell? ⟨w6.heap.size, 0, none⟩ = some (.int .i64 room) := HQ7.out.cell 0
  have s1 : w7.cell? ⟨w6.heap.size, 1, none⟩ = some (.slice a6 m6 c6) := HQ7.out.cell 1
  have sl := HQ7.out.lt
  have hn46 : w6.heap.size ≠ w4.heap.size := by have := HS7.out; have := HS4.out; omega
  have t0 : (w7.setCell ⟨w4.heap.size, 0, none⟩ (.string ⟨xt.toArray⟩)).cell? ⟨w6.heap.size, 0, none⟩ = some (.int .i64 room) := (HQ7.out.away hn46 _).cell 0
  have t1 : (w7.setCell ⟨w4.heap.size, 0, none⟩ (.string ⟨xt.toArray⟩)).cell? ⟨w6.heap.size, 1, none⟩ = some (.slice a6 m6 c6) := (HQ7.out.away hn46 _).cell 1
  have t2 : (w7.setCell ⟨w4.heap.size, 0, none⟩ (.string ⟨xt.toArray⟩)).cell? ⟨w4.heap.size, 0, none⟩ = some (.string ⟨xt.toArray⟩) := (HP7.out.put 0 _).cell 0
  have t3 : (w7.setCell ⟨w4.heap.size, 0, none⟩ (.string ⟨xt.toArray⟩)).cell? ⟨w4.heap.size, 1, none⟩ = some (.slice af m1 cf) := (HP7.out.put 0 _).cell 1
  have t4 : (w7.setCell ⟨w4.heap.size, 0, none⟩ (.string ⟨xt.toArray⟩)).cell? ⟨w4.heap.size, 2, none⟩ = some (.slice aw m2 cw) := (HP7.out.put 0 _).cell 2
  have t5 : w6.heap.size < (w7.setCell ⟨w4.heap.size, 0, none⟩ (.string ⟨xt.toArray⟩)).heap.size := (HQ7.out.away hn46 _).lt
  have t6 : w4.heap.size < (w7.setCell ⟨w4.heap.size, 0, none⟩ (.string ⟨xt.toArray⟩)).heap.size := (HP7.out.put 0 _).lt
  rw [hw7] at d0 d1 o0 o1 o2 o3 q0 q1 qf0 qf1 dl ol ql s0 s1 sl p0 p1 p2 pf0 pl t0 t1 t2 t3 t4 t5 t6
  clear hw7 hn46
  go_wp2_with fail
  rw [← HW7.out] at *
  obtain ⟨w8, hw8⟩ : ∃ w8, w8 = w7.setCell ⟨w4.heap.size, 0, none⟩ (.string ⟨xt.toArray⟩) := ⟨_, rfl⟩
  rw [← hw8]
  have ho8 : Only (fun k => k = w4.heap.size) w7 w8 := by rw [hw8]; exact (Only.refl (fun k => k = w4.heap.size) w7).setCell (p := ⟨w4.heap.size, 0, none⟩) (.inl rfl) _
  have hsz := HS7.out
  have hs4 := HS4.out
  have hT1 : ∀ k, moreT T w5.heap.size w6.heap.size k → k ≠ w4.heap.size := fun k hk e => by
    rcases hk with q | q
    · have := HT.out k q; have := HB3.out.sz; omega
    · omega
  have hk8 : Kept (moreT T w5.heap.size w6.heap.size) w7 w8 := ⟨fun k hk => ho8.block k (by have := HT6.out k hk; omega) (hT1 k hk), ho8.size⟩
  have HB8 := Lib.hid (HB7.out.only ho8 (fun k hk => by omega))
  have HWi := Lib.hid (rwith_any room c6 ⟨fr.fv, fr.wv, fr.fil.called xt⟩ (HF7.out.kept hk8) ((HOk7.out.mono fun k hk => .inl hk).kept hk8) (fun k hk => by have := HT6.out k hk; have := ho8.size; omega) (by have := HS.out; have := del_length (key := Rf.name) xn rs; omega))
  rw [show fV ⟨fr.fv, fr.wv, fr.fil.called xt⟩ = Value.agg #[.string ⟨xt.toArray⟩, .slice af m1 cf, .slice aw m2 cw] by rw [← HEf.out, ← HEw.out]; rfl, ← HM6.out] at HWi
  refine HWi.out.mono ?_
  rintro e w9 ⟨v9, rfl, a9, c9, rfl, hf9, hb9⟩
  obtain ⟨rs9, hrs9⟩ : ∃ rs9, rs9 = put Rf.name ⟨fr.fv, fr.wv, fr.fil.called xt⟩ (del Rf.name xn rs) := ⟨_, rfl⟩
  rw [← hrs9] at hf9 ⊢
  have HB9 := Lib.hid (HB8.out.under hb9)
  have HE := Lib.hid (HB9.out.ret (T := T) (c' := c9) rfl hf9 (fun k hk => by
    have h1 := hb9.size
    have h2 := ho8.size
    rcases hk with q | q
    · have h3 := HT6.out k q
      rcases q with q | q
      · exact ⟨by omega, .inl q⟩
      · exact ⟨by omega, .inr (by have := HB5.out.sz; omega)⟩
    · exact ⟨q.2, .inr (by have := HB5.out.sz; omega)⟩) HT.out)
  have HRs := Lib.hid (show rs9.map Rf.fil = put Fil.name (Fil.called fr.fil xt) (del Fil.name xn (rs.map Rf.fil)) by rw [hrs9, put_map rf_key, del_map rf_key])
  clear d0 d1 o0 o1 o2 o3 q0 q1 qf0 qf1 dl ol ql s0 s1 sl p0 p1 p2 pf0 pl hf9 hb9 hk8 ho8 hw8 hT1 hsz hs4 hrs9 t0 t1 t2 t3 t4 t5 t6
  have d0 : w9.cell? ⟨w.heap.size, 0, none⟩ = some (.int .i64 room) := HB9.out.rd.cell 0
  have d1 : w9.cell? ⟨w.heap.size, 1, none⟩ = some (.slice ad rs.length c) := HB9.out.rd.cell 1
  have o0 : w9.cell? ⟨w.heap.size + 1, 0, none⟩ = some (.int .i64 xk) := HB9.out.ro.cell 0
  have o1 : w9.cell? ⟨w.heap.size + 1, 1, none⟩ = some (.string ⟨xn.toArray⟩) := HB9.out.ro.cell 1
  have o2 : w9.cell? ⟨w.heap.size + 1, 2, none⟩ = some (.string ⟨xt.toArray⟩) := HB9.out.ro.cell 2
  have o3 : w9.cell? ⟨w.heap.size + 1, 3, none⟩ = some (.slice ax xd.length cx) := HB9.out.ro.cell 3
  have q0 : w9.cell? ⟨w.heap.size + 1 + 1, 0, none⟩ = some (.int .i64 0) := HB9.out.rr.cell 0
  have q1 : w9.cell? ⟨w.heap.size + 1 + 1, 1, none⟩ = some (.slice none 0 0) := HB9.out.rr.cell 1
  have qf0 := HB9.out.rr.thaw 0
  have qf1 := HB9.out.rr.thaw 1
  have dl := HB9.out.rd.lt
  have ol := HB9.out.ro.lt
  have ql := HB9.out.rr.lt
  go_wp2
  refine bodyPost_ret (v := .tuple #[dV room a9 rs9.length c9, .int .i64 0]) (by simp [results, Try.results15, go_sem, q0, q1]) rfl ?_
  exact ⟨_, rs9, rfl, by rw [HRs.out, HFil.out, HG.out], HE.out⟩
end Go.Proofs.Ythheolhghhmdlaa
