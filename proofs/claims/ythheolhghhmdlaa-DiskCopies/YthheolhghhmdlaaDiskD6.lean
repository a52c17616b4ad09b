/- The document's disk: Do, a file synced. -/
import Derived.Test.YthheolhghhmdlaaDiskD3
namespace Go.Proofs.Ythheolhghhmdlaa
open Go.RowKit Dsk

set_option maxRecDepth 100000 in
set_option maxHeartbeats 2000000 in
theorem rdo_sync {w : World} {T : Nat → Prop} {ad : Option Addr} {rs : List Rf} (room : Int) (c : Nat) (x : Ope) (ax : Option Addr) (cx : Nat) (h : Fs3 w T ad rs) (hT : ∀ k, T k → k < w.heap.size) (hr : Rising Rf.name rs) (hs : sizeL (rs.map Rf.fil) + looseL (rs.map Rf.fil) + rs.length ≤ 100000) (hx : RdT byV w T ax x.data) (hx9 : x.data.length ≤ 100000) (hn9 : x.name.length ≤ 140737488351232 ∧ x.to.length ≤ 140737488351232) (hro : 0 ≤ room ∧ room ≤ 1099511627776) (hm : mayBe x = true) (hk : x.kind = 2) (r0 : Rf) (hg : get Rf.name x.name rs = some r0) : Calls Try.prog 15 #[dV room ad rs.length c, opV x ax cx] w (RDo w T room (doL room (rs.map Rf.fil) x).1 (doL room (rs.map Rf.fil) x).2) := by
  have hdo : doL room (rs.map Rf.fil) x = (put Fil.name r0.fil.synced (rs.map Rf.fil), 0) := by
    unfold doL
    rw [if_neg (by rw [hm]; decide), if_neg (by omega), get_map rf_key, hg]
    simp only [Option.map_some]
    rw [if_pos hk]
  rw [hdo]
  clear hdo
  have HG : Hid (ofName x.name (rs.map Rf.fil) = r0.fil) := by
    show ofName x.name (rs.map Rf.fil) = r0.fil
    exact ofName_some (by rw [get_map rf_key, hg]; rfl)
  have HSm0 := Lib.hid (show r0.fil.all.length ≤ 100000 ∧ r0.fil.ws.length ≤ 100000 by
    have h1 := sum_mem (fun f : Fil => f.all.length) (List.mem_map_of_mem (f := Rf.fil) (get_some hg).1)
    have h2 := sum_mem (fun f : Fil => f.ws.length) (List.mem_map_of_mem (f := Rf.fil) (get_some hg).1)
    unfold sizeL looseL at hs
    omega)
  obtain ⟨xk, xn, xt, xd⟩ := x
  simp only at *
  have HB0 := Lib.hid (DoB.start w room ad rs.length c ⟨xk, xn, xt, xd⟩ ax cx)
  obtain ⟨w3, hw3⟩ : ∃ w3, w3 = ((w.alloc (.cells #[.int .i64 room, .slice ad rs.length c] 27)).alloc (.cells #[.int .i64 xk, .string ⟨xn.toArray⟩, .string ⟨xt.toArray⟩, .slice ax xd.length cx] 36)).alloc (.cells #[.int .i64 0, .slice none 0 0] 27) := ⟨_, rfl⟩
  have HB3 : Hid (DoB w room ad rs.length c ⟨xk, xn, xt, xd⟩ ax cx w3) := by rw [hw3]; exact HB0.out
  have HW3 := Lib.hid hw3
  have HH := Lib.hid h
  have HT := Lib.hid hT
  have HF3 := Lib.hid (h.kept (kept_below hT HB3.out.back))
  have HR := Lib.hid hr
  have HS := Lib.hid hs
  have HX := Lib.hid hx
  have HX9 := Lib.hid (And.intro hx9 (And.intro hn9 hro))
  have HT3 := Lib.hid (show ∀ k, T k → k < w3.heap.size from fun k hk => by have := hT k hk; have := HB3.out.sz; omega)
  have hmn : named xn = true := by
    simp only [mayBe, Bool.or_eq_true, Bool.and_eq_true, decide_eq_true_eq] at hm
    rcases hm with q | q
    · exact q.2
    · exact q.1.2
  have HN := Lib.hid (rnamed_any xn w3 hn9.1)
  have HNt := Lib.hid (rnamed_any xt w3 hn9.2)
  have hoks := rfind_ok HF3.out xn
  have HOk := Lib.hid hoks
  have HFi := Lib.hid (rfind_any room c xn HF3.out HT3.out (by omega) hr)
  have HFil := Lib.hid (rfind_fil xn rs)
  have HFn := Lib.hid (rfind_name xn rs)
  obtain ⟨fr, hfr⟩ : ∃ fr, fr = rfind xn rs := ⟨_, rfl⟩
  rw [← hfr] at HOk HFi HFil HFn hoks
  obtain ⟨⟨af, cf, ef, _⟩, aw, cw, ew, _⟩ := hoks
  obtain ⟨m1, hm1⟩ : ∃ m, m = fr.fil.firm.length := ⟨_, rfl⟩
  obtain ⟨m2, hm2⟩ : ∃ m, m = fr.fil.ws.length := ⟨_, rfl⟩
  rw [← hm1] at ef
  rw [← hm2] at ew
  have HV : Hid (fV fr = .agg #[.string ⟨xn.toArray⟩, .slice af m1 cf, .slice aw m2 cw]) := by
    show fV fr = _
    rw [fV, ef, ew, HFn.out]
  rw [HV.out] at HFi
  have HEf := Lib.hid ef
  have HEw := Lib.hid ew
  have HM := Lib.hid (And.intro hm1 hm2)
  clear ef ew hm1 hm2 hfr
  rw [hg] at HFi
  clear h hT hr hs hx hx9 hn9 hro hw3 HB0 hm
  have hk1 : ¬ xk < 1 := by omega
  have hk4 : ¬ 4 < xk := by omega
  have hq1 : (xk == 1) = false := by simp; omega
  have hq2 : (xk == 2) = true := by simp; omega
  have hq3 : (xk == 3) = false := by simp; omega
  clear hk
  clear hg
  have d0 : w3.cell? ⟨w.heap.size, 0, none⟩ = some (.int .i64 room) := HB3.out.rd.cell 0
  have d1 : w3.cell? ⟨w.heap.size, 1, none⟩ = some (.slice ad rs.length c) := HB3.out.rd.cell 1
  have o0 : w3.cell? ⟨w.heap.size + 1, 0, none⟩ = some (.int .i64 xk) := HB3.out.ro.cell 0
  have o1 : w3.cell? ⟨w.heap.size + 1, 1, none⟩ = some (.string ⟨xn.toArray⟩) := HB3.out.ro.cell 1
  have o2 : w3.cell? ⟨w.heap.size + 1, 2, none⟩ = some (.string ⟨xt.toArray⟩) := HB3.out.ro.cell 2
  have o3 : w3.cell? ⟨w.heap.size + 1, 3, none⟩ = some (.slice ax xd.length cx) := HB3.out.ro.cell 3
  have q0 : w3.cell? ⟨w.heap.size + 1 + 1, 0, none⟩ = some (.int .i64 0) := HB3.out.rr.cell 0
  have q1 : w3.cell? ⟨w.heap.size + 1 + 1, 1, none⟩ = some (.slice none 0 0) := HB3.out.rr.cell 1
  have qf0 := HB3.out.rr.thaw 0
  have qf1 := HB3.out.rr.thaw 1
  have dl := HB3.out.rd.lt
  have ol := HB3.out.ro.lt
  have ql := HB3.out.rr.lt
  rw [HW3.out] at d0 d1 o0 o1 o2 o3 q0 q1 qf0 qf1 dl ol ql
  show Calls Try.prog 15 #[.agg #[.int .i64 room, .slice ad rs.length c], .agg #[.int .i64 xk, .string ⟨xn.toArray⟩, .string ⟨xt.toArray⟩, .slice ax xd.length cx]] w _
  go_enter Try.func15, Try.ntmps15
  go_wp2_with fail
  rw [← HW3.out] at *
  refine HN.out.mono ?_
  rintro e w' ⟨rfl, hw'⟩
  rw [hw']
  clear hw' w'
  rw [hmn]
  go_wp2_with fail
  refine HFi.out.mono ?_
  rintro e w4 ⟨rfl, hb4⟩
  obtain ⟨w5, hw5⟩ : ∃ w5, w5 = w4.alloc (.cells #[.string ⟨xn.toArray⟩, .slice af m1 cf, .slice aw m2 cw] 73) := ⟨_, rfl⟩
  have al5 : Below w4.heap.size w4 w5 := by rw [hw5]; exact (Below.refl _ _).alloc (Nat.le_refl _) _
  have hb5 : Below w3.heap.size w3 w5 := hb4.trans (al5.mono hb4.size)
  have HB5 := Lib.hid (HB3.out.under hb5)
  have HP5 := Lib.hid (show Row w5 w4.heap.size 73 #[.string ⟨xn.toArray⟩, .slice af m1 cf, .slice aw m2 cw] by rw [hw5]; exact Row.fresh w4 _ _)
  have HF5 := Lib.hid (HF3.out.kept (kept_below HT3.out hb5))
  have HOk5 := Lib.hid (HOk.out.kept (kept_below HT3.out hb5))
  have HSW := Lib.hid hb5.size
  have HS4 := Lib.hid (show w3.heap.size ≤ w4.heap.size ∧ w5.heap.size = w4.heap.size + 1 from ⟨hb4.size, by rw [hw5]; simp⟩)
  have HW5 := Lib.hid hw5
  clear d0 d1 o0 o1 o2 o3 q0 q1 qf0 qf1 dl ol ql hb4 al5 hb5
  have d0 : w5.cell? ⟨w.heap.size, 0, none⟩ = some (.int .i64 room) := HB5.out.rd.cell 0
  have d1 : w5.cell? ⟨w.heap.size, 1, none⟩ = some (.slice ad rs.length c) := HB5.out.rd.cell 1
  have o0 : w5.cell? ⟨w.heap.size + 1, 0, none⟩ = some (.int .i64 xk) := HB5.out.ro.cell 0
  have o1 : w5.cell? ⟨w.heap.size + 1, 1, none⟩ = some (.string ⟨xn.toArray⟩) := HB5.out.ro.cell 1
  have o2 : w5.cell? ⟨w.heap.size + 1, 2, none⟩ = some (.string ⟨xt.toArray⟩) := HB5.out.ro.cell 2
  have o3 : w5.cell? ⟨w.heap.size + 1, 3, none⟩ = some (.slice ax xd.length cx) := HB5.out.ro.cell 3
  have q0 : w5.cell? ⟨w.heap.size + 1 + 1, 0, none⟩ = some (.int .i64 0) := HB5.out.rr.cell 0
  have q1 : w5.cell? ⟨w.heap.size + 1 + 1, 1, none⟩ = some (.slice none 0 0) := HB5.out.rr.cell 1
  have qf0 := HB5.out.rr.thaw 0
  have qf1 := HB5.out.rr.thaw 1
  have dl := HB5.out.rd.lt
  have ol := HB5.out.ro.lt
  have ql := HB5.out.rr.lt
  have p0 : w5.cell? ⟨w4.heap.size, 0, none⟩ = some (.string ⟨xn.toArray⟩) := HP5.out.cell 0
  have p1 : w5.cell? ⟨w4.heap.size, 1, none⟩ = some (.slice af m1 cf) := HP5.out.cell 1
  have p2 : w5.cell? ⟨w4.heap.size, 2, none⟩ = some (.slice aw m2 cw) := HP5.out.cell 2
  have pf0 := HP5.out.thaw 0
  have pf2 := HP5.out.thaw 2
  have pl := HP5.out.lt
  rw [hw5] at d0 d1 o0 o1 o2 o3 q0 q1 qf0 qf1 dl ol ql p0 p1 p2 pf0 pf2 pl
  clear hw5
  have hT5 : ∀ k, T k → k < w5.heap.size := fun k hk => Nat.lt_of_lt_of_le (HT3.out k hk) HSW.out
  have HT5 := Lib.hid hT5
  have hfe : fr.fil = r0.fil := HFil.out.trans HG.out
  have HAll := Lib.hid (rall_any (w := w5.drew) fr (HOk5.out.kept (w' := w5.drew) ⟨fun _ _ => rfl, Nat.le_refl _⟩) hT5 (by rw [hfe]; have := HSm0.out; omega) (by rw [hfe]; have := HSm0.out; omega))
  rw [HV.out] at HAll
  have HFe := Lib.hid hfe
  clear hT5 hfe
  go_wp2_with fail
  rw [← HW5.out] at *
  refine wp_region_held_drew (S := fun W => W.cell? ⟨w.heap.size, 0, none⟩ = some (.int .i64 room) ∧ W.cell? ⟨w.heap.size, 1, none⟩ = some (.slice ad rs.length c) ∧ W.cell? ⟨w4.heap.size, 0, none⟩ = some (.string ⟨xn.toArray⟩) ∧ W.cell? ⟨w4.heap.size, 1, none⟩ = some (.slice af m1 cf) ∧ W.cell? ⟨w4.heap.size, 2, none⟩ = some (.slice aw m2 cw) ∧ w.heap.size < W.heap.size ∧ w4.heap.size < W.heap.size) (by kernel_rfl) ⟨d0, d1, p0, p1, p2, dl, pl⟩ (fun hHeld => ?_)
  refine wpAnyH_take (i := 0) (oi := ⟨some 76, _, _, _, _, _⟩) (v := ?_) rfl (by kernel_rfl) (by kernel_rfl) (by kernel_rfl) (fun _ _ _ h => h) (Or.inl ⟨by rfl, ?_⟩) hHeld ?_
  rotate_left
  · intro W hSw
    obtain ⟨sd0, sd1, sp0, sp1, sp2, sdl, spl⟩ := hSw
    go_simp
    with_reducible rfl
  simp only [Act.put, List.setIfInBounds_toArray, List.set_cons_zero, List.set_cons_succ]
  refine wpAnyH_take (i := 1) (oi := ⟨some 77, _, _, _, _, _⟩) (v := ?_) rfl (by kernel_rfl) (by kernel_rfl) (by kernel_rfl) (fun _ _ _ h => h) (Or.inl ⟨by rfl, ?_⟩) hHeld ?_
  rotate_left
  · intro W hSw
    obtain ⟨sd0, sd1, sp0, sp1, sp2, sdl, spl⟩ := hSw
    go_simp
    with_reducible rfl
  simp only [Act.put, List.setIfInBounds_toArray, List.set_cons_zero, List.set_cons_succ]
  refine wpAnyH_take (i := 2) (oi := ⟨some 78, _, _, _, _, _⟩) (v := ?_) rfl (by kernel_rfl) (by kernel_rfl) (by kernel_rfl) (fun _ _ _ h => h) (Or.inl ⟨by rfl, ?_⟩) hHeld ?_
  rotate_left
  · intro W hSw
    obtain ⟨sd0, sd1, sp0, sp1, sp2, sdl, spl⟩ := hSw
    go_simp
    with_reducible rfl
  simp only [Act.put, List.setIfInBounds_toArray, List.set_cons_zero, List.set_cons_succ]
  refine wpAnyH_take (i := 3) (oi := ⟨some 79, _, _, _, _, _⟩) (v := ?_) rfl (by kernel_rfl) (by kernel_rfl) (by kernel_rfl) (fun _ _ _ h => h) (Or.inl ⟨by rfl, ?_⟩) hHeld ?_
  rotate_left
  · intro W hSw
    obtain ⟨sd0, sd1, sp0, sp1, sp2, sdl, spl⟩ := hSw
    go_simp
    with_reducible rfl
  simp only [Act.put, List.setIfInBounds_toArray, List.set_cons_zero, List.set_cons_succ]
  refine wpAnyH_ready (rs := [4]) (by kernel_rfl) (by simp) ?_
  refine AllReadyH.cons (o := ⟨some 80, _, _, _, _, _⟩) rfl (fun K hK => ?_) AllReadyH.nil
  go_simp
  refine HAll.out.mono ?_
  rintro e w6 ⟨v6, rfl, hO6, hbd⟩
  have hb6 : Below w5.heap.size w5 w6 := ⟨hbd.os, hbd.tape, hbd.output, hbd.size, hbd.block⟩
  have HB6 := Lib.hid (HB5.out.under hb6)
  have hp6 := HP5.out.under hb6 HP5.out.lt
  obtain ⟨a6, c6, hv6, hB6, _⟩ := hO6.shape
  obtain ⟨m6, hm6⟩ : ∃ m, m = fr.fil.all.length := ⟨_, rfl⟩
  rw [← hm6] at hv6
  subst hv6
  have hk6 := kept_below HT5.out hb6
  have hs56 := hb6.size
  have hT1 : ∀ k, moreT T w5.heap.size w6.heap.size k → k < w6.heap.size := fun k hk => hk.elim (fun q => by have := HT5.out k q; omega) (fun q => q.2)
  have hrd6 : RdT byV w6 (moreT T w5.heap.size w6.heap.size) a6 fr.fil.all := by
    rcases hB6 with q | ⟨b, o, rfl, q⟩
    · exact .inl q
    · exact .inr ⟨b, o, rfl, .inr (by have := World.ownsRow.lt hO6 b rfl; exact this), q⟩
  have hok6 : Rf.ok w6 (moreT T w5.heap.size w6.heap.size) ⟨.slice a6 m6 c6, .slice none 0 0, fr.fil.synced⟩ := ⟨⟨a6, c6, by rw [hm6]; rfl, hrd6⟩, none, 0, rfl, .inl rfl⟩
  have HWi := Lib.hid (rwith_any room c ⟨.slice a6 m6 c6, .slice none 0 0, fr.fil.synced⟩ ((HF5.out.kept hk6).mono fun k hk => .inl hk) hok6 hT1 (by have := HS.out; omega))
  rw [show fV ⟨.slice a6 m6 c6, .slice none 0 0, fr.fil.synced⟩ = Value.agg #[.string ⟨xn.toArray⟩, .slice a6 m6 c6, .slice none 0 0] by rw [← HFn.out]; rfl] at HWi
  obtain ⟨rs9, hrs9⟩ : ∃ rs9, rs9 = put Rf.name ⟨.slice a6 m6 c6, .slice none 0 0, fr.fil.synced⟩ rs := ⟨_, rfl⟩
  have HRs9 := Lib.hid (show rs9 = put Rf.name ⟨.slice a6 m6 c6, .slice none 0 0, fr.fil.synced⟩ rs ∧ rs9.map Rf.fil = put Fil.name r0.fil.synced (rs.map Rf.fil) from ⟨hrs9, by rw [hrs9, put_map rf_key, HFe.out]⟩)
  have HT1 := Lib.hid hT1
  have HP6 := Lib.hid hp6
  clear hT1 hok6 hrd6 hk6 hO6 hB6 hrs9 hm6 hp6
  refine hK.out _ _ ⟨HB6.out.rd.cell 0, HB6.out.rd.cell 1, HP6.out.cell 0, HP6.out.cell 1, HP6.out.cell 2, HB6.out.rd.lt, HP6.out.lt⟩ (fun hHeld => ?_)
  clear hK K
  refine wpAnyH_take (i := 5) (oi := ⟨some 81, _, _, _, _, _⟩) (v := ?_) rfl (by kernel_rfl) (by kernel_rfl) (by kernel_rfl) (fun _ _ _ h => h) (Or.inl ⟨by rfl, ?_⟩) hHeld ?_
  rotate_left
  · intro W hSw
    obtain ⟨sd0, sd1, sp0, sp1, sp2, sdl, spl⟩ := hSw
    go_simp
    with_reducible rfl
  simp only [Act.put, List.setIfInBounds_toArray, List.set_cons_zero, List.set_cons_succ]
  refine wpAnyH_ready (rs := [6]) (by kernel_rfl) (by simp) ?_
  refine AllReadyH.cons (o := ⟨some 82, _, _, _, _, _⟩) rfl (fun K hK => ?_) AllReadyH.nil
  go_simp
  refine HWi.out.mono ?_
  rintro e w11 ⟨v11, rfl, a11, c11, rfl, hf11, hb11⟩
  rw [← HRs9.out.1] at hf11 ⊢
  have HB11 := Lib.hid (HB6.out.under hb11)
  have HP11 := Lib.hid (HP6.out.under hb11 HP6.out.lt)
  have HE := Lib.hid (HB11.out.ret (T := T) (c' := c11) rfl hf11 (fun k hk => by
    have h1 := hb11.size
    rcases hk with q | q
    · have h3 := HT1.out k q
      rcases q with q | q
      · exact ⟨by omega, .inl q⟩
      · exact ⟨by omega, .inr (by have := HB5.out.sz; omega)⟩
    · exact ⟨q.2, .inr (by have := HB6.out.sz; omega)⟩) HT.out)
  refine hK.out _ _ ⟨HB11.out.rd.cell 0, HB11.out.rd.cell 1, HP11.out.cell 0, HP11.out.cell 1, HP11.out.cell 2, HB11.out.rd.lt, HP11.out.lt⟩ (fun hHeld2 => ?_)
  clear hK K d0 d1 o0 o1 o2 o3 q0 q1 qf0 qf1 dl ol ql p0 p1 p2 pf0 pf2 pl hf11 hb11 hbd hb6 hHeld
  have q0 : w11.cell? ⟨w.heap.size + 1 + 1, 0, none⟩ = some (.int .i64 0) := HB11.out.rr.cell 0
  have q1 : w11.cell? ⟨w.heap.size + 1 + 1, 1, none⟩ = some (.slice none 0 0) := HB11.out.rr.cell 1
  have qf0 := HB11.out.rr.thaw 0
  have qf1 := HB11.out.rr.thaw 1
  have ql := HB11.out.rr.lt
  have hn4 : w4.heap.size ≠ w.heap.size + 1 + 1 := by have := HB3.out.sz; have := HS4.out; omega
  have hn0 : w.heap.size ≠ w.heap.size + 1 + 1 := by omega
  have HD12 := Lib.hid ((HB11.out.rd.away (a := ⟨w.heap.size + 1 + 1, 0, none⟩) hn0 (.int .i64 room)).away (a := ⟨w.heap.size + 1 + 1, 1, none⟩) hn0 (.slice a11 rs9.length c11))
  have HP12 := Lib.hid ((HP11.out.away (a := ⟨w.heap.size + 1 + 1, 0, none⟩) hn4 (.int .i64 room)).away (a := ⟨w.heap.size + 1 + 1, 1, none⟩) hn4 (.slice a11 rs9.length c11))
  refine wpAnyH_ready (rs := [7]) (by kernel_rfl) (by simp) ?_
  refine AllReadyH.cons (o := ⟨none, _, _, _, _, _⟩) rfl (fun K hK => ?_) AllReadyH.nil
  go_simp
  refine hK.out _ _ ⟨HD12.out.cell 0, HD12.out.cell 1, HP12.out.cell 0, HP12.out.cell 1, HP12.out.cell 2, HD12.out.lt, HP12.out.lt⟩ (fun hHeld => ?_)
  clear hK K
  refine wpAnyH_take (i := 8) (oi := ⟨some 5, _, _, _, _, _⟩) (v := ?_) rfl (by kernel_rfl) (by kernel_rfl) (by kernel_rfl) (fun _ _ _ h => h) (Or.inl ⟨by rfl, ?_⟩) hHeld ?_
  rotate_left
  · intro W hSw
    obtain ⟨sd0, sd1, sp0, sp1, sp2, sdl, spl⟩ := hSw
    go_simp
    with_reducible rfl
  simp only [Act.put, List.setIfInBounds_toArray, List.set_cons_zero, List.set_cons_succ]
  refine wpAnyH_done (by kernel_rfl) ?_ _
  go_wp2
  refine bodyPost_ret (v := .tuple #[dV room a11 rs9.length c11, .int .i64 0]) (by simp [results, Try.results15, go_sem, q0, q1]) rfl ?_
  exact ⟨_, rs9, rfl, HRs9.out.2, HE.out⟩
end Go.Proofs.Ythheolhghhmdlaa
