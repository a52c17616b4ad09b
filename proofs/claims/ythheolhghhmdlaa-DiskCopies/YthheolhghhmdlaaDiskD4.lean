/- The document's disk: Do, a write. -/
import Derived.Test.YthheolhghhmdlaaDiskD3
namespace Go.Proofs.Ythheolhghhmdlaa
open Go.RowKit Dsk

set_option maxRecDepth 100000 in
theorem rdo_full {w : World} {T : Nat → Prop} {ad : Option Addr} {rs : List Rf} (room : Int) (c : Nat) (x : Ope) (ax : Option Addr) (cx : Nat) (h : Fs3 w T ad rs) (hT : ∀ k, T k → k < w.heap.size) (hr : Rising Rf.name rs) (hs : sizeL (rs.map Rf.fil) + looseL (rs.map Rf.fil) + rs.length ≤ 100000) (hx : RdT byV w T ax x.data) (hx9 : x.data.length ≤ 100000) (hn9 : x.name.length ≤ 140737488351232 ∧ x.to.length ≤ 140737488351232) (hro : 0 ≤ room ∧ room ≤ 1099511627776) (hm : mayBe x = true) (hk : x.kind = 1) (hfu : (sizeL (rs.map Rf.fil) : Int) + x.data.length > room) : Calls Try.prog 15 #[dV room ad rs.length c, opV x ax cx] w (RDo w T room (doL room (rs.map Rf.fil) x).1 (doL room (rs.map Rf.fil) x).2) := by
  have hdo : doL room (rs.map Rf.fil) x = (rs.map Rf.fil, 11) := by
    unfold doL
    rw [if_neg (by rw [hm]; decide), if_pos hk, if_pos hfu]
  rw [hdo]
  clear hdo
  obtain ⟨xk, xn, xt, xd⟩ := x
  simp only at *
  have HB0 := Lib.hid (DoB.start w room ad rs.length c ⟨xk, xn, xt, xd⟩ ax cx)
  obtain ⟨w3, hw3⟩ : ∃ w3, w3 = ((w.alloc (.cells #[.int .i64 room, .slice ad rs.length c] 27)).alloc (.cells #[.int .i64 xk, .string ⟨xn.toArray⟩, .string ⟨xt.toArray⟩, .slice ax xd.length cx] 36)).alloc (.cells #[.int .i64 0, .slice none 0 0] 27) := ⟨_, rfl⟩
  have HB3 : Hid (DoB w room ad rs.length c ⟨xk, xn, xt, xd⟩ ax cx w3) := by rw [hw3]; exact HB0.out
  have HW3 := Lib.hid hw3
  have HH := Lib.hid h
  have HT := Lib.hid hT
  have HF3 := Lib.hid (h.kept (kept_below hT HB3.out.back))
  have HR := Lib.hid hr
  have HS := Lib.hid hs
  have HX := Lib.hid hx
  have HX9 := Lib.hid (And.intro hx9 (And.intro hn9 hro))
  have HT3 := Lib.hid (show ∀ k, T k → k < w3.heap.size from fun k hk => by have := hT k hk; have := HB3.out.sz; omega)
  have hmn : named xn = true := by
    simp only [mayBe, Bool.or_eq_true, Bool.and_eq_true, decide_eq_true_eq] at hm
    rcases hm with q | q
    · exact q.2
    · exact q.1.2
  have HN := Lib.hid (rnamed_any xn w3 hn9.1)
  have HNt := Lib.hid (rnamed_any xt w3 hn9.2)
  have hoks := rfind_ok HF3.out xn
  have HOk := Lib.hid hoks
  have HFi := Lib.hid (rfind_any room c xn HF3.out HT3.out (by omega) hr)
  have HFil := Lib.hid (rfind_fil xn rs)
  have HFn := Lib.hid (rfind_name xn rs)
  obtain ⟨fr, hfr⟩ : ∃ fr, fr = rfind xn rs := ⟨_, rfl⟩
  rw [← hfr] at HOk HFi HFil HFn hoks
  obtain ⟨⟨af, cf, ef, _⟩, aw, cw, ew, _⟩ := hoks
  obtain ⟨m1, hm1⟩ : ∃ m, m = fr.fil.firm.length := ⟨_, rfl⟩
  obtain ⟨m2, hm2⟩ : ∃ m, m = fr.fil.ws.length := ⟨_, rfl⟩
  rw [← hm1] at ef
  rw [← hm2] at ew
  have HV : Hid (fV fr = .agg #[.string ⟨xn.toArray⟩, .slice af m1 cf, .slice aw m2 cw]) := by
    show fV fr = _
    rw [fV, ef, ew, HFn.out]
  rw [HV.out] at HFi
  have HEf := Lib.hid ef
  have HEw := Lib.hid ew
  have HM := Lib.hid (And.intro hm1 hm2)
  clear ef ew hm1 hm2 hfr
  clear h hT hr hs hx hx9 hn9 hro hw3 HB0 hm
  have hk1 : ¬ xk < 1 := by omega
  have hk4 : ¬ 4 < xk := by omega
  have hq1 : (xk == 1) = true := by simp; omega
  have hq2 : (xk == 2) = false := by simp; omega
  have hq3 : (xk == 3) = false := by simp; omega
  clear hk
  have hxI : (xd.length : Int) ≤ 100000 := by have := HX9.out; omega
  have hzI : ((sizeL (rs.map Rf.fil) : Nat) : Int) ≤ 100000 := by have := HS.out; omega
  have hfu' : room < ((sizeL (rs.map Rf.fil) : Nat) : Int) + (xd.length : Int) := hfu
  clear hfu
  generalize hzz : sizeL (rs.map Rf.fil) = z at *
  have hwr : IntKind.i64.wrap ((z : Int) + (xd.length : Int)) = (z : Int) + (xd.length : Int) := by rw [IntKind.wrap_i64]; omega
  have d0 : w3.cell? ⟨w.heap.size, 0, none⟩ = some (.int .i64 room) := HB3.out.rd.cell 0
  have d1 : w3.cell? ⟨w.heap.size, 1, none⟩ = some (.slice ad rs.length c) := HB3.out.rd.cell 1
  have o0 : w3.cell? ⟨w.heap.size + 1, 0, none⟩ = some (.int .i64 xk) := HB3.out.ro.cell 0
  have o1 : w3.cell? ⟨w.heap.size + 1, 1, none⟩ = some (.string ⟨xn.toArray⟩) := HB3.out.ro.cell 1
  have o2 : w3.cell? ⟨w.heap.size + 1, 2, none⟩ = some (.string ⟨xt.toArray⟩) := HB3.out.ro.cell 2
  have o3 : w3.cell? ⟨w.heap.size + 1, 3, none⟩ = some (.slice ax xd.length cx) := HB3.out.ro.cell 3
  have q0 : w3.cell? ⟨w.heap.size + 1 + 1, 0, none⟩ = some (.int .i64 0) := HB3.out.rr.cell 0
  have q1 : w3.cell? ⟨w.heap.size + 1 + 1, 1, none⟩ = some (.slice none 0 0) := HB3.out.rr.cell 1
  have qf0 := HB3.out.rr.thaw 0
  have qf1 := HB3.out.rr.thaw 1
  have dl := HB3.out.rd.lt
  have ol := HB3.out.ro.lt
  have ql := HB3.out.rr.lt
  rw [HW3.out] at d0 d1 o0 o1 o2 o3 q0 q1 qf0 qf1 dl ol ql
  show Calls Try.prog 15 #[.agg #[.int .i64 room, .slice ad rs.length c], .agg #[.int .i64 xk, .string ⟨xn.toArray⟩, .string ⟨xt.toArray⟩, .slice ax xd.length cx]] w _
  go_enter Try.func15, Try.ntmps15
  go_wp2_with fail
  rw [← HW3.out] at *
  refine HN.out.mono ?_
  rintro e w' ⟨rfl, hw'⟩
  rw [hw']
  clear hw' w'
  rw [hmn]
  go_wp2_with fail
  refine HFi.out.mono ?_
  rintro e w4 ⟨rfl, hb4⟩
  obtain ⟨w5, hw5⟩ : ∃ w5, w5 = w4.alloc (.cells #[.string ⟨xn.toArray⟩, .slice af m1 cf, .slice aw m2 cw] 73) := ⟨_, rfl⟩
  have al5 : Below w4.heap.size w4 w5 := by rw [hw5]; exact (Below.refl _ _).alloc (Nat.le_refl _) _
  have hb5 : Below w3.heap.size w3 w5 := hb4.trans (al5.mono hb4.size)
  have HB5 := Lib.hid (HB3.out.under hb5)
  have HP5 := Lib.hid (show Row w5 w4.heap.size 73 #[.string ⟨xn.toArray⟩, .slice af m1 cf, .slice aw m2 cw] by rw [hw5]; exact Row.fresh w4 _ _)
  have HF5 := Lib.hid (HF3.out.kept (kept_below HT3.out hb5))
  have HOk5 := Lib.hid (HOk.out.kept (kept_below HT3.out hb5))
  have HSW := Lib.hid hb5.size
  have HS4 := Lib.hid (show w3.heap.size ≤ w4.heap.size ∧ w5.heap.size = w4.heap.size + 1 from ⟨hb4.size, by rw [hw5]; simp⟩)
  have HW5 := Lib.hid hw5
  clear d0 d1 o0 o1 o2 o3 q0 q1 qf0 qf1 dl ol ql hb4 al5 hb5
  have d0 : w5.cell? ⟨w.heap.size, 0, none⟩ = some (.int .i64 room) := HB5.out.rd.cell 0
  have d1 : w5.cell? ⟨w.heap.size, 1, none⟩ = some (.slice ad rs.length c) := HB5.out.rd.cell 1
  have o0 : w5.cell? ⟨w.heap.size + 1, 0, none⟩ = some (.int .i64 xk) := HB5.out.ro.cell 0
  have o1 : w5.cell? ⟨w.heap.size + 1, 1, none⟩ = some (.string ⟨xn.toArray⟩) := HB5.out.ro.cell 1
  have o2 : w5.cell? ⟨w.heap.size + 1, 2, none⟩ = some (.string ⟨xt.toArray⟩) := HB5.out.ro.cell 2
  have o3 : w5.cell? ⟨w.heap.size + 1, 3, none⟩ = some (.slice ax xd.length cx) := HB5.out.ro.cell 3
  have q0 : w5.cell? ⟨w.heap.size + 1 + 1, 0, none⟩ = some (.int .i64 0) := HB5.out.rr.cell 0
  have q1 : w5.cell? ⟨w.heap.size + 1 + 1, 1, none⟩ = some (.slice none 0 0) := HB5.out.rr.cell 1
  have qf0 := HB5.out.rr.thaw 0
  have qf1 := HB5.out.rr.thaw 1
  have dl := HB5.out.rd.lt
  have ol := HB5.out.ro.lt
  have ql := HB5.out.rr.lt
  have p0 : w5.cell? ⟨w4.heap.size, 0, none⟩ = some (.string ⟨xn.toArray⟩) := HP5.out.cell 0
  have p1 : w5.cell? ⟨w4.heap.size, 1, none⟩ = some (.slice af m1 cf) := HP5.out.cell 1
  have p2 : w5.cell? ⟨w4.heap.size, 2, none⟩ = some (.slice aw m2 cw) := HP5.out.cell 2
  have pf0 := HP5.out.thaw 0
  have pf2 := HP5.out.thaw 2
  have pl := HP5.out.lt
  rw [hw5] at d0 d1 o0 o1 o2 o3 q0 q1 qf0 qf1 dl ol ql p0 p1 p2 pf0 pf2 pl
  clear hw5
  have hT5 : ∀ k, T k → k < w5.drew.heap.size := fun k hk => Nat.lt_of_lt_of_le (HT3.out k hk) HSW.out
  have HSi := Lib.hid (rsize_any (w := w5.drew) room c (HF5.out.kept (w' := w5.drew) ⟨fun _ _ => rfl, Nat.le_refl _⟩) hT5 (by have := HS.out; unfold Sm; rw [List.length_map]; omega))
  go_wp2_with fail
  rw [← HW5.out] at *
  refine wp_region_held_drew (S := fun W => W.cell? ⟨w.heap.size, 0, none⟩ = some (.int .i64 room) ∧ W.cell? ⟨w.heap.size, 1, none⟩ = some (.slice ad rs.length c) ∧ W.cell? ⟨w.heap.size + 1, 3, none⟩ = some (.slice ax xd.length cx) ∧ w.heap.size < W.heap.size ∧ w.heap.size + 1 < W.heap.size) (by kernel_rfl) ⟨d0, d1, o3, dl, ol⟩ (fun hHeld => ?_)
  refine wpAnyH_take (i := 0) (oi := ⟨some 46, _, _, _, _, _⟩) (v := ?_) rfl (by kernel_rfl) (by kernel_rfl) (by kernel_rfl) (fun _ _ _ h => h) (Or.inl ⟨by rfl, ?_⟩) hHeld ?_
  rotate_left
  · intro W hSw
    obtain ⟨sd0, sd1, so3, sdl, sol⟩ := hSw
    go_simp
    with_reducible rfl
  simp only [Act.put, List.setIfInBounds_toArray, List.set_cons_zero, List.set_cons_succ]
  refine wpAnyH_take (i := 2) (oi := ⟨some 48, _, _, _, _, _⟩) (v := ?_) rfl (by kernel_rfl) (by kernel_rfl) (by kernel_rfl) (fun _ _ _ h => h) (Or.inl ⟨by rfl, ?_⟩) hHeld ?_
  rotate_left
  · intro W hSw
    obtain ⟨sd0, sd1, so3, sdl, sol⟩ := hSw
    go_simp
    with_reducible rfl
  simp only [Act.put, List.setIfInBounds_toArray, List.set_cons_zero, List.set_cons_succ]
  refine wpAnyH_take (i := 3) (oi := ⟨some 49, _, _, _, _, _⟩) (v := ?_) rfl (by kernel_rfl) (by kernel_rfl) (by kernel_rfl) (fun _ _ _ h => h) (Or.inl ⟨by rfl, ?_⟩) hHeld ?_
  rotate_left
  · intro W hSw
    obtain ⟨sd0, sd1, so3, sdl, sol⟩ := hSw
    go_simp
    with_reducible rfl
  simp only [Act.put, List.setIfInBounds_toArray, List.set_cons_zero, List.set_cons_succ]
  refine wpAnyH_take (i := 4) (oi := ⟨some 50, _, _, _, _, _⟩) (v := ?_) rfl (by kernel_rfl) (by kernel_rfl) (by kernel_rfl) (fun _ _ _ h => h) (Or.inl ⟨by rfl, ?_⟩) hHeld ?_
  rotate_left
  · intro W hSw
    obtain ⟨sd0, sd1, so3, sdl, sol⟩ := hSw
    go_simp
    with_reducible rfl
  simp only [Act.put, List.setIfInBounds_toArray, List.set_cons_zero, List.set_cons_succ]
  refine wpAnyH_take (i := 6) (oi := ⟨some 52, _, _, _, _, _⟩) (v := ?_) rfl (by kernel_rfl) (by kernel_rfl) (by kernel_rfl) (fun _ _ _ h => h) (Or.inl ⟨by rfl, ?_⟩) hHeld ?_
  rotate_left
  · intro W hSw
    obtain ⟨sd0, sd1, so3, sdl, sol⟩ := hSw
    go_simp
    with_reducible rfl
  simp only [Act.put, List.setIfInBounds_toArray, List.set_cons_zero, List.set_cons_succ]
  refine wpAnyH_take (i := 7) (oi := ⟨some 53, _, _, _, _, _⟩) (v := ?_) rfl (by kernel_rfl) (by kernel_rfl) (by kernel_rfl) (fun _ _ _ h => h) (Or.inl ⟨by rfl, ?_⟩) hHeld ?_
  rotate_left
  · intro W hSw
    obtain ⟨sd0, sd1, so3, sdl, sol⟩ := hSw
    go_simp
    with_reducible rfl
  simp only [Act.put, List.setIfInBounds_toArray, List.set_cons_zero, List.set_cons_succ]
  refine wpAnyH_ready (rs := [1]) (by kernel_rfl) (by simp) ?_
  refine AllReadyH.cons (o := ⟨some 47, _, _, _, _, _⟩) rfl (fun K hK => ?_) AllReadyH.nil
  go_simp
  refine HSi.out.mono ?_
  rintro e w6 ⟨rfl, hbd⟩
  have hb6 : Below w5.heap.size w5 w6 := ⟨hbd.os, hbd.tape, hbd.output, hbd.size, hbd.block⟩
  have HB6 := Lib.hid (HB5.out.under hb6)
  refine hK.out _ _ ⟨HB6.out.rd.cell 0, HB6.out.rd.cell 1, HB6.out.ro.cell 3, HB6.out.rd.lt, HB6.out.ro.lt⟩ (fun hHeld => ?_)
  clear hK K
  refine wpAnyH_take (i := 5) (oi := ⟨some 51, _, _, _, _, _⟩) (v := ?_) rfl (by kernel_rfl) (by kernel_rfl) (by kernel_rfl) (fun _ _ _ h => h) (Or.inl ⟨by rfl, ?_⟩) hHeld ?_
  rotate_left
  · intro W hSw
    obtain ⟨sd0, sd1, so3, sdl, sol⟩ := hSw
    go_simp
    with_reducible rfl
  simp only [Act.put, List.setIfInBounds_toArray, List.set_cons_zero, List.set_cons_succ]
  refine wpAnyH_take (i := 8) (oi := ⟨some 54, _, _, _, _, _⟩) (v := ?_) rfl (by kernel_rfl) (by kernel_rfl) (by kernel_rfl) (fun _ _ _ h => h) (Or.inl ⟨by rfl, ?_⟩) hHeld ?_
  rotate_left
  · intro W hSw
    obtain ⟨sd0, sd1, so3, sdl, sol⟩ := hSw
    go_simp
    with_reducible rfl
  simp only [Act.put, List.setIfInBounds_toArray, List.set_cons_zero, List.set_cons_succ]
  refine wpAnyH_done (by kernel_rfl) ?_ _
  clear d0 d1 o0 o1 o2 o3 q0 q1 qf0 qf1 dl ol ql p0 p1 p2 pf0 pf2 pl
  have HF6 := Lib.hid (HF5.out.kept (kept_below (fun k hk => Nat.lt_of_lt_of_le (HT3.out k hk) HSW.out) hb6))
  have HSW6 := Lib.hid (Nat.le_trans HSW.out hb6.size)
  clear hb6 hbd hHeld
  have d0 : w6.cell? ⟨w.heap.size, 0, none⟩ = some (.int .i64 room) := HB6.out.rd.cell 0
  have d1 : w6.cell? ⟨w.heap.size, 1, none⟩ = some (.slice ad rs.length c) := HB6.out.rd.cell 1
  have o0 : w6.cell? ⟨w.heap.size + 1, 0, none⟩ = some (.int .i64 xk) := HB6.out.ro.cell 0
  have o1 : w6.cell? ⟨w.heap.size + 1, 1, none⟩ = some (.string ⟨xn.toArray⟩) := HB6.out.ro.cell 1
  have o2 : w6.cell? ⟨w.heap.size + 1, 2, none⟩ = some (.string ⟨xt.toArray⟩) := HB6.out.ro.cell 2
  have o3 : w6.cell? ⟨w.heap.size + 1, 3, none⟩ = some (.slice ax xd.length cx) := HB6.out.ro.cell 3
  have q0 : w6.cell? ⟨w.heap.size + 1 + 1, 0, none⟩ = some (.int .i64 0) := HB6.out.rr.cell 0
  have q1 : w6.cell? ⟨w.heap.size + 1 + 1, 1, none⟩ = some (.slice none 0 0) := HB6.out.rr.cell 1
  have qf0 := HB6.out.rr.thaw 0
  have qf1 := HB6.out.rr.thaw 1
  have dl := HB6.out.rd.lt
  have ol := HB6.out.ro.lt
  have ql := HB6.out.rr.lt
  have HE := Lib.hid (HB6.out.ret (T := T) (c' := c) rfl HF6.out (fun k hk => ⟨Nat.lt_of_lt_of_le (HT3.out k hk) HSW6.out, .inl hk⟩) HT.out)
  go_wp2
  refine bodyPost_ret (v := .tuple #[dV room ad rs.length c, .int .i64 11]) (by simp [results, Try.results15, go_sem, q0, q1]) rfl ?_
  exact ⟨_, rs, rfl, rfl, HE.out⟩
end Go.Proofs.Ythheolhghhmdlaa
