/- The document's disk: Do, a write that has room. -/
import Derived.Test.YthheolhghhmdlaaDiskD4
namespace Go.Proofs.Ythheolhghhmdlaa
open Go.RowKit Dsk

theorem ownsRow_up {w : World} {K s n : Nat} {t : TypeId} {v : Value} {xs : List Value} (h : w.ownsRow 0 t s v n xs) (hk : ∀ k, v.ownBlock = some k → K ≤ k) : w.ownsRow K t s v n xs := by
  refine ⟨h.1, ?_⟩
  rcases h.2 with h | ⟨g, cap, cur, rfl, h1, h2⟩
  · exact .inl h
  · exact .inr ⟨g, cap, cur, rfl, hk g rfl, h2⟩
theorem row_shape {w : World} {K n : Nat} {t : TypeId} {v : Value} {xs : List Value} (h : w.ownsRow K t 1 v n xs) : ∃ a c, v = .slice a n c := by
  rcases h.2 with ⟨rfl, h0⟩ | ⟨g, cap, cur, rfl, _⟩
  · exact ⟨_, _, by rw [h0]⟩
  · exact ⟨_, _, rfl⟩
set_option maxRecDepth 100000 in
set_option maxHeartbeats 4000000 in
theorem rdo_write {w : World} {T : Nat → Prop} {ad : Option Addr} {rs : List Rf} (room : Int) (c : Nat) (x : Ope) (ax : Option Addr) (cx : Nat) (h : Fs3 w T ad rs) (hT : ∀ k, T k → k < w.heap.size) (hr : Rising Rf.name rs) (hs : sizeL (rs.map Rf.fil) + looseL (rs.map Rf.fil) + rs.length ≤ 100000) (hx : RdT byV w T ax x.data) (hx9 : x.data.length ≤ 100000) (hn9 : x.name.length ≤ 140737488351232 ∧ x.to.length ≤ 140737488351232) (hro : 0 ≤ room ∧ room ≤ 1099511627776) (hm : mayBe x = true) (hk : x.kind = 1) (hfu : ¬ (sizeL (rs.map Rf.fil) : Int) + x.data.length > room) : Calls Try.prog 15 #[dV room ad rs.length c, opV x ax cx] w (RDo w T room (doL room (rs.map Rf.fil) x).1 (doL room (rs.map Rf.fil) x).2) := by
  have hdo : doL room (rs.map Rf.fil) x = (put Fil.name ((ofName x.name (rs.map Rf.fil)).more x.data) (rs.map Rf.fil), 0) := by
    unfold doL
    rw [if_neg (by rw [hm]; decide), if_pos hk, if_neg hfu]
  rw [hdo]
  clear hdo
  obtain ⟨xk, xn, xt, xd⟩ := x
  simp only at *
  have HB0 := Lib.hid (DoB.start w room ad rs.length c ⟨xk, xn, xt, xd⟩ ax cx)
  obtain ⟨w3, hw3⟩ : ∃ w3, w3 = ((w.alloc (.cells #[.int .i64 room, .slice ad rs.length c] 27)).alloc (.cells #[.int .i64 xk, .string ⟨xn.toArray⟩, .string ⟨xt.toArray⟩, .slice ax xd.length cx] 36)).alloc (.cells #[.int .i64 0, .slice none 0 0] 27) := ⟨_, rfl⟩
  have HB3 : Hid (DoB w room ad rs.length c ⟨xk, xn, xt, xd⟩ ax cx w3) := by rw [hw3]; exact HB0.out
  have HW3 := Lib.hid hw3
  have HH := Lib.hid h
  have HT := Lib.hid hT
  have HF3 := Lib.hid (h.kept (kept_below hT HB3.out.back))
  have HR := Lib.hid hr
  have HS := Lib.hid hs
  have HX := Lib.hid hx
  have HX9 := Lib.hid (And.intro hx9 (And.intro hn9 hro))
  have HT3 := Lib.hid (show ∀ k, T k → k < w3.heap.size from fun k hk => by have := hT k hk; have := HB3.out.sz; omega)
  have hmn : named xn = true := by
    simp only [mayBe, Bool.or_eq_true, Bool.and_eq_true, decide_eq_true_eq] at hm
    rcases hm with q | q
    · exact q.2
    · exact q.1.2
  have HN := Lib.hid (rnamed_any xn w3 hn9.1)
  have HNt := Lib.hid (rnamed_any xt w3 hn9.2)
  have hoks := rfind_ok HF3.out xn
  have HOk := Lib.hid hoks
  have HFi := Lib.hid (rfind_any room c xn HF3.out HT3.out (by omega) hr)
  have HFil := Lib.hid (rfind_fil xn rs)
  have HFn := Lib.hid (rfind_name xn rs)
  obtain ⟨fr, hfr⟩ : ∃ fr, fr = rfind xn rs := ⟨_, rfl⟩
  rw [← hfr] at HOk HFi HFil HFn hoks
  obtain ⟨⟨af, cf, ef, _⟩, aw, cw, ew, _⟩ := hoks
  obtain ⟨m1, hm1⟩ : ∃ m, m = fr.fil.firm.length := ⟨_, rfl⟩
  obtain ⟨m2, hm2⟩ : ∃ m, m = fr.fil.ws.length := ⟨_, rfl⟩
  rw [← hm1] at ef
  rw [← hm2] at ew
  have HV : Hid (fV fr = .agg #[.string ⟨xn.toArray⟩, .slice af m1 cf, .slice aw m2 cw]) := by
    show fV fr = _
    rw [fV, ef, ew, HFn.out]
  rw [HV.out] at HFi
  have HEf := Lib.hid ef
  have HEw := Lib.hid ew
  have HM := Lib.hid (And.intro hm1 hm2)
  clear ef ew hm1 hm2 hfr
  clear h hT hr hs hx hx9 hn9 hro hw3 HB0 hm
  have hk1 : ¬ xk < 1 := by omega
  have hk4 : ¬ 4 < xk := by omega
  have hq1 : (xk == 1) = true := by simp; omega
  have hq2 : (xk == 2) = false := by simp; omega
  have hq3 : (xk == 3) = false := by simp; omega
  clear hk
  have hxI : (xd.length : Int) ≤ 100000 := by have := HX9.out; omega
  have hzI : ((sizeL (rs.map Rf.fil) : Nat) : Int) ≤ 100000 := by have := HS.out; omega
  have hfu' : ¬ room < ((sizeL (rs.map Rf.fil) : Nat) : Int) + (xd.length : Int) := hfu
  have HWl := Lib.hid (show fr.fil.ws.length ≤ 100000 by
    have h1 := HS.out
    rw [HFil.out]
    cases hg : get Fil.name xn (rs.map Rf.fil) with
    | none => rw [ofName_none hg]; simp
    | some f =>
      rw [ofName_some hg]
      have h2 := sum_mem (fun f : Fil => f.ws.length) (get_some hg).1
      unfold looseL at h1
      omega)
  clear hfu
  generalize hzz : sizeL (rs.map Rf.fil) = z at *
  have hwr : IntKind.i64.wrap ((z : Int) + (xd.length : Int)) = (z : Int) + (xd.length : Int) := by rw [IntKind.wrap_i64]; omega
  have d0 : w3.cell? ⟨w.heap.size, 0, none⟩ = some (.int .i64 room) := HB3.out.rd.cell 0
  have d1 : w3.cell? ⟨w.heap.size, 1, none⟩ = some (.slice ad rs.length c) := HB3.out.rd.cell 1
  have o0 : w3.cell? ⟨w.heap.size + 1, 0, none⟩ = some (.int .i64 xk) := HB3.out.ro.cell 0
  have o1 : w3.cell? ⟨w.heap.size + 1, 1, none⟩ = some (.string ⟨xn.toArray⟩) := HB3.out.ro.cell 1
  have o2 : w3.cell? ⟨w.heap.size + 1, 2, none⟩ = some (.string ⟨xt.toArray⟩) := HB3.out.ro.cell 2
  have o3 : w3.cell? ⟨w.heap.size + 1, 3, none⟩ = some (.slice ax xd.length cx) := HB3.out.ro.cell 3
  have q0 : w3.cell? ⟨w.heap.size + 1 + 1, 0, none⟩ = some (.int .i64 0) := HB3.out.rr.cell 0
  have q1 : w3.cell? ⟨w.heap.size + 1 + 1, 1, none⟩ = some (.slice none 0 0) := HB3.out.rr.cell 1
  have qf0 := HB3.out.rr.thaw 0
  have qf1 := HB3.out.rr.thaw 1
  have dl := HB3.out.rd.lt
  have ol := HB3.out.ro.lt
  have ql := HB3.out.rr.lt
  rw [HW3.out] at d0 d1 o0 o1 o2 o3 q0 q1 qf0 qf1 dl ol ql
  show Calls Try.prog 15 #[.agg #[.int .i64 room, .slice ad rs.length c], .agg #[.int .i64 xk, .string ⟨xn.toArray⟩, .string ⟨xt.toArray⟩, .slice ax xd.length cx]] w _
  go_enter Try.func15, Try.ntmps15
  go_wp2_with fail
  rw [← HW3.out] at *
  refine HN.out.mono ?_
  rintro e w' ⟨rfl, hw'⟩
  rw [hw']
  clear hw' w'
  rw [hmn]
  go_wp2_with fail
  refine HFi.out.mono ?_
  rintro e w4 ⟨rfl, hb4⟩
  obtain ⟨w5, hw5⟩ : ∃ w5, w5 = w4.alloc (.cells #[.string ⟨xn.toArray⟩, .slice af m1 cf, .slice aw m2 cw] 73) := ⟨_, rfl⟩
  have al5 : Below w4.heap.size w4 w5 := by rw [hw5]; exact (Below.refl _ _).alloc (Nat.le_refl _) _
  have hb5 : Below w3.heap.size w3 w5 := hb4.trans (al5.mono hb4.size)
  have HB5 := Lib.hid (HB3.out.under hb5)
  have HP5 := Lib.hid (show Row w5 w4.heap.size 73 #[.string ⟨xn.toArray⟩, .slice af m1 cf, .slice aw m2 cw] by rw [hw5]; exact Row.fresh w4 _ _)
  have HF5 := Lib.hid (HF3.out.kept (kept_below HT3.out hb5))
  have HOk5 := Lib.hid (HOk.out.kept (kept_below HT3.out hb5))
  have HSW := Lib.hid hb5.size
  have HS4 := Lib.hid (show w3.heap.size ≤ w4.heap.size ∧ w5.heap.size = w4.heap.size + 1 from ⟨hb4.size, by rw [hw5]; simp⟩)
  have HW5 := Lib.hid hw5
  clear d0 d1 o0 o1 o2 o3 q0 q1 qf0 qf1 dl ol ql hb4 al5 hb5
  have d0 : w5.cell? ⟨w.heap.size, 0, none⟩ = some (.int .i64 room) := HB5.out.rd.cell 0
  have d1 : w5.cell? ⟨w.heap.size, 1, none⟩ = some (.slice ad rs.length c) := HB5.out.rd.cell 1
  have o0 : w5.cell? ⟨w.heap.size + 1, 0, none⟩ = some (.int .i64 xk) := HB5.out.ro.cell 0
  have o1 : w5.cell? ⟨w.heap.size + 1, 1, none⟩ = some (.string ⟨xn.toArray⟩) := HB5.out.ro.cell 1
  have o2 : w5.cell? ⟨w.heap.size + 1, 2, none⟩ = some (.string ⟨xt.toArray⟩) := HB5.out.ro.cell 2
  have o3 : w5.cell? ⟨w.heap.size + 1, 3, none⟩ = some (.slice ax xd.length cx) := HB5.out.ro.cell 3
  have q0 : w5.cell? ⟨w.heap.size + 1 + 1, 0, none⟩ = some (.int .i64 0) := HB5.out.rr.cell 0
  have q1 : w5.cell? ⟨w.heap.size + 1 + 1, 1, none⟩ = some (.slice none 0 0) := HB5.out.rr.cell 1
  have qf0 := HB5.out.rr.thaw 0
  have qf1 := HB5.out.rr.thaw 1
  have dl := HB5.out.rd.lt
  have ol := HB5.out.ro.lt
  have ql := HB5.out.rr.lt
  have p0 : w5.cell? ⟨w4.heap.size, 0, none⟩ = some (.string ⟨xn.toArray⟩) := HP5.out.cell 0
  have p1 : w5.cell? ⟨w4.heap.size, 1, none⟩ = some (.slice af m1 cf) := HP5.out.cell 1
  have p2 : w5.cell? ⟨w4.heap.size, 2, none⟩ = some (.slice aw m2 cw) := HP5.out.cell 2
  have pf0 := HP5.out.thaw 0
  have pf2 := HP5.out.thaw 2
  have pl := HP5.out.lt
  rw [hw5] at d0 d1 o0 o1 o2 o3 q0 q1 qf0 qf1 dl ol ql p0 p1 p2 pf0 pf2 pl
  clear hw5
  have hT5 : ∀ k, T k → k < w5.drew.heap.size := fun k hk => Nat.lt_of_lt_of_le (HT3.out k hk) HSW.out
  have HSi := Lib.hid (rsize_any (w := w5.drew) room c (HF5.out.kept (w' := w5.drew) ⟨fun _ _ => rfl, Nat.le_refl _⟩) hT5 (by have := HS.out; unfold Sm; rw [List.length_map]; omega))
  go_wp2_with fail
  rw [← HW5.out] at *
  refine wp_region_held_drew (S := fun W => W.cell? ⟨w.heap.size, 0, none⟩ = some (.int .i64 room) ∧ W.cell? ⟨w.heap.size, 1, none⟩ = some (.slice ad rs.length c) ∧ W.cell? ⟨w.heap.size + 1, 3, none⟩ = some (.slice ax xd.length cx) ∧ w.heap.size < W.heap.size ∧ w.heap.size + 1 < W.heap.size) (by kernel_rfl) ⟨d0, d1, o3, dl, ol⟩ (fun hHeld => ?_)
  refine wpAnyH_take (i := 0) (oi := ⟨some 46, _, _, _, _, _⟩) (v := ?_) rfl (by kernel_rfl) (by kernel_rfl) (by kernel_rfl) (fun _ _ _ h => h) (Or.inl ⟨by rfl, ?_⟩) hHeld ?_
  rotate_left
  · intro W hSw
    obtain ⟨sd0, sd1, so3, sdl, sol⟩ := hSw
    go_simp
    with_reducible rfl
  simp only [Act.put, List.setIfInBounds_toArray, List.set_cons_zero, List.set_cons_succ]
  refine wpAnyH_take (i := 2) (oi := ⟨some 48, _, _, _, _, _⟩) (v := ?_) rfl (by kernel_rfl) (by kernel_rfl) (by kernel_rfl) (fun _ _ _ h => h) (Or.inl ⟨by rfl, ?_⟩) hHeld ?_
  rotate_left
  · intro W hSw
    obtain ⟨sd0, sd1, so3, sdl, sol⟩ := hSw
    go_simp
    with_reducible rfl
  simp only [Act.put, List.setIfInBounds_toArray, List.set_cons_zero, List.set_cons_succ]
  refine wpAnyH_take (i := 3) (oi := ⟨some 49, _, _, _, _, _⟩) (v := ?_) rfl (by kernel_rfl) (by kernel_rfl) (by kernel_rfl) (fun _ _ _ h => h) (Or.inl ⟨by rfl, ?_⟩) hHeld ?_
  rotate_left
  · intro W hSw
    obtain ⟨sd0, sd1, so3, sdl, sol⟩ := hSw
    go_simp
    with_reducible rfl
  simp only [Act.put, List.setIfInBounds_toArray, List.set_cons_zero, List.set_cons_succ]
  refine wpAnyH_take (i := 4) (oi := ⟨some 50, _, _, _, _, _⟩) (v := ?_) rfl (by kernel_rfl) (by kernel_rfl) (by kernel_rfl) (fun _ _ _ h => h) (Or.inl ⟨by rfl, ?_⟩) hHeld ?_
  rotate_left
  · intro W hSw
    obtain ⟨sd0, sd1, so3, sdl, sol⟩ := hSw
    go_simp
    with_reducible rfl
  simp only [Act.put, List.setIfInBounds_toArray, List.set_cons_zero, List.set_cons_succ]
  refine wpAnyH_take (i := 6) (oi := ⟨some 52, _, _, _, _, _⟩) (v := ?_) rfl (by kernel_rfl) (by kernel_rfl) (by kernel_rfl) (fun _ _ _ h => h) (Or.inl ⟨by rfl, ?_⟩) hHeld ?_
  rotate_left
  · intro W hSw
    obtain ⟨sd0, sd1, so3, sdl, sol⟩ := hSw
    go_simp
    with_reducible rfl
  simp only [Act.put, List.setIfInBounds_toArray, List.set_cons_zero, List.set_cons_succ]
  refine wpAnyH_take (i := 7) (oi := ⟨some 53, _, _, _, _, _⟩) (v := ?_) rfl (by kernel_rfl) (by kernel_rfl) (by kernel_rfl) (fun _ _ _ h => h) (Or.inl ⟨by rfl, ?_⟩) hHeld ?_
  rotate_left
  · intro W hSw
    obtain ⟨sd0, sd1, so3, sdl, sol⟩ := hSw
    go_simp
    with_reducible rfl
  simp only [Act.put, List.setIfInBounds_toArray, List.set_cons_zero, List.set_cons_succ]
  refine wpAnyH_ready (rs := [1]) (by kernel_rfl) (by simp) ?_
  refine AllReadyH.cons (o := ⟨some 47, _, _, _, _, _⟩) rfl (fun K hK => ?_) AllReadyH.nil
  go_simp
  refine HSi.out.mono ?_
  rintro e w6 ⟨rfl, hbd⟩
  have hb6 : Below w5.heap.size w5 w6 := ⟨hbd.os, hbd.tape, hbd.output, hbd.size, hbd.block⟩
  have HB6 := Lib.hid (HB5.out.under hb6)
  refine hK.out _ _ ⟨HB6.out.rd.cell 0, HB6.out.rd.cell 1, HB6.out.ro.cell 3, HB6.out.rd.lt, HB6.out.ro.lt⟩ (fun hHeld => ?_)
  clear hK K
  refine wpAnyH_take (i := 5) (oi := ⟨some 51, _, _, _, _, _⟩) (v := ?_) rfl (by kernel_rfl) (by kernel_rfl) (by kernel_rfl) (fun _ _ _ h => h) (Or.inl ⟨by rfl, ?_⟩) hHeld ?_
  rotate_left
  · intro W hSw
    obtain ⟨sd0, sd1, so3, sdl, sol⟩ := hSw
    go_simp
    with_reducible rfl
  simp only [Act.put, List.setIfInBounds_toArray, List.set_cons_zero, List.set_cons_succ]
  refine wpAnyH_take (i := 8) (oi := ⟨some 54, _, _, _, _, _⟩) (v := ?_) rfl (by kernel_rfl) (by kernel_rfl) (by kernel_rfl) (fun _ _ _ h => h) (Or.inl ⟨by rfl, ?_⟩) hHeld ?_
  rotate_left
  · intro W hSw
    obtain ⟨sd0, sd1, so3, sdl, sol⟩ := hSw
    go_simp
    with_reducible rfl
  simp only [Act.put, List.setIfInBounds_toArray, List.set_cons_zero, List.set_cons_succ]
  refine wpAnyH_done (by kernel_rfl) ?_ _
  clear d0 d1 o0 o1 o2 o3 q0 q1 qf0 qf1 dl ol ql p0 p1 p2 pf0 pf2 pl
  have hT5' : ∀ k, T k → k < w5.heap.size := fun k hk => Nat.lt_of_lt_of_le (HT3.out k hk) HSW.out
  have hk56 := kept_below hT5' hb6
  have hk06 : Kept T w w6 := (kept_below HT.out HB5.out.back).trans hk56
  have HF6 := Lib.hid (HF5.out.kept hk56)
  have hok6 := HOk5.out.kept hk56
  have hp6 := HP5.out.under hb6 HP5.out.lt
  have hx6 := HX.out.kept hk06
  have hs56 := hb6.size
  have hs45 := HS4.out
  have hsz0 := HB3.out.sz
  obtain ⟨⟨af', cf', ef', hfi6⟩, aw', cw', ew', hws6⟩ := hok6
  have e1 : (Value.slice aw' fr.fil.ws.length cw') = .slice aw m2 cw := ew'.symm.trans HEw.out
  injection e1 with e1 e2 e3
  subst e1
  subst e3
  obtain ⟨v8, w8, vs8, hrun8, ho8, hg8, hl8, hv8⟩ := run_appendWs 71 cw' hws6 (by have := HWl.out; omega)
  rw [e2] at hrun8 ho8 hl8
  obtain ⟨a8, c8, hv8s⟩ := row_shape ho8
  subst hv8s
  have hb8 : Below w6.heap.size w6 w8 := (Below.refl _ _).grown hg8 (Nat.le_refl _) (fun k e => by cases e)
  have al9 : Below w8.heap.size w8 (w8.alloc (.cells #[.slice ax xd.length cx] 34)) := (Below.refl _ _).alloc (Nat.le_refl _) _
  obtain ⟨v9, w9, hrun9, ho9, hg9, hat9⟩ := run_appendV (w := w8.alloc (.cells #[.slice ax xd.length cx] 34)) 71 (.slice a8 m2 c8) m2 vs8 w8.heap.size (.slice ax xd.length cx) (ownsRow_mono (ownsRow_same ho8 fun k hk => al9.block k (World.ownsRow.lt ho8 k hk).2) (Nat.zero_le _)) (by have := HWl.out; omega) ((Row.fresh w8 _ _).cell 0) rfl
  have hfr8 : ∀ k, (Value.slice a8 m2 c8).ownBlock = some k → w6.heap.size ≤ k := fun k hk => (World.ownsRow.lt ho8 k hk).1
  have hfr9 : ∀ k, v9.ownBlock = some k → w6.heap.size ≤ k := fun k hk => by
    rcases hat9 with q | q
    · exact hfr8 k (q ▸ hk)
    · rw [q] at hk; injection hk with hk; have := hb8.size; simp at hk; omega
  have ho9' := ownsRow_up ho9 hfr9
  obtain ⟨a9, c9, hv9s⟩ := row_shape ho9
  subst hv9s
  have hb9 : Below w6.heap.size w6 w9 := (hb8.trans (al9.mono hb8.size)).grown hg9 (by have := hb8.size; simp; omega) hfr8
  obtain ⟨w10, hw10⟩ : ∃ w10, w10 = w9.setCell ⟨w4.heap.size, 2, none⟩ (.slice a9 (m2 + 1) c9) := ⟨_, rfl⟩
  have hp9 := hp6.under hb9 hp6.lt
  have hp10 : Row w10 w4.heap.size 73 #[.string ⟨xn.toArray⟩, .slice af m1 cf, .slice a9 (m2 + 1) c9] := by rw [hw10]; exact hp9.put 2 _
  have hon10 : Only (fun k => k = w4.heap.size) w6 w10 := by
    rw [hw10]
    exact (Only.of_below (fun k => k = w4.heap.size) hb9).setCell (p := ⟨w4.heap.size, 2, none⟩) (.inl rfl) _
  have hkT : Kept T w6 w10 := ⟨fun k hk => hon10.block k (by have := hT5' k hk; omega) (by have := HT.out k hk; omega), hon10.size⟩
  have hT1 : ∀ k, moreT T w6.heap.size w10.heap.size k → k < w10.heap.size := fun k hk => hk.elim (fun q => by have := hT5' k q; have := hon10.size; omega) (fun q => q.2)
  have hlen9 : (fr.fil.ws ++ [xd]).length = m2 + 1 := by simp [e2]
  have hws10 : WsT w10 (moreT T w6.heap.size w10.heap.size) a9 (fr.fil.ws ++ [xd]) := by
    refine wsT_of_row (w0 := w6) (T := T) (K := w6.heap.size) (n := m2 + 1) (c := c9) (vs := vs8 ++ [.slice ax xd.length cx]) ?_ (by simp [hl8, e2]) ?_ hkT (fun k hk => .inl hk) (fun k h1 h2 => .inr ⟨h1, h2⟩)
    · rw [hlen9, hw10]
      exact ownsRow_same ho9' fun k hk => Below.heap_setCell _ _ _ _ (fun e => by have := hfr9 k hk; have e' : k = w4.heap.size := e; omega)
    · intro i v hv
      rw [List.getElem?_append] at hv
      split at hv
      · rename_i hi
        obtain ⟨l, a', c', q1, q2, q3⟩ := hv8 i v hv
        exact ⟨l, a', c', by rw [List.getElem?_append, if_pos (by rw [hl8] at hi; omega)]; exact q1, q2, q3⟩
      · rename_i hi
        have hi0 : i - vs8.length = 0 := by
          have := (List.getElem?_eq_some_iff.1 hv).1
          simp at this
          omega
        rw [hi0] at hv
        simp at hv
        refine ⟨xd, ax, cx, ?_, hv.symm, hx6⟩
        rw [List.getElem?_append, if_neg (by rw [hl8] at hi; omega), show i - fr.fil.ws.length = 0 by omega]
        rfl
  have hok10 : Rf.ok w10 (moreT T w6.heap.size w10.heap.size) ⟨fr.fv, .slice a9 (m2 + 1) c9, fr.fil.more xd⟩ := ⟨⟨af', cf', ef', (hfi6.kept hkT).mono fun k hk => .inl hk⟩, a9, c9, by rw [show (fr.fil.more xd).ws.length = m2 + 1 from hlen9], hws10⟩
  have HB10 := Lib.hid (HB6.out.only hon10 (fun k hk => by omega))
  have HWi := Lib.hid (rwith_any room c ⟨fr.fv, .slice a9 (m2 + 1) c9, fr.fil.more xd⟩ ((HF6.out.kept hkT).mono fun k hk => .inl hk) hok10 hT1 (by have := HS.out; omega))
  rw [show fV ⟨fr.fv, .slice a9 (m2 + 1) c9, fr.fil.more xd⟩ = Value.agg #[.string ⟨xn.toArray⟩, .slice af m1 cf, .slice a9 (m2 + 1) c9] by rw [← HEf.out, ← HFn.out]; rfl] at HWi
  obtain ⟨rs9, hrs9⟩ : ∃ rs9, rs9 = put Rf.name ⟨fr.fv, .slice a9 (m2 + 1) c9, fr.fil.more xd⟩ rs := ⟨_, rfl⟩
  have HRs9 := Lib.hid (show rs9 = put Rf.name ⟨fr.fv, .slice a9 (m2 + 1) c9, fr.fil.more xd⟩ rs ∧ rs9.map Rf.fil = put Fil.name ((ofName xn (rs.map Rf.fil)).more xd) (rs.map Rf.fil) from ⟨hrs9, by rw [hrs9, put_map rf_key, HFil.out]⟩)
  have HT1 := Lib.hid (show ∀ k, moreT T w6.heap.size w10.heap.size k → k < w10.heap.size from hT1)
  have HP10 := Lib.hid hp10
  have HW10 := Lib.hid hw10
  have HRun8 := Lib.hid hrun8
  have HRun9 := Lib.hid hrun9
  have g2 : w6.cell? ⟨w4.heap.size, 2, none⟩ = some (.slice aw' m2 cw') := hp6.cell 2
  have gl := hp6.lt
  have HB9 := Lib.hid (HB6.out.under hb8)
  have o3 : w8.cell? ⟨w.heap.size + 1, 3, none⟩ = some (.slice ax xd.length cx) := HB9.out.ro.cell 3
  have ol := HB9.out.ro.lt
  have z2 : w9.cell? ⟨w4.heap.size, 2, none⟩ = some (.slice aw' m2 cw') := hp9.cell 2
  have zf := hp9.thaw 2
  have zl := hp9.lt
  clear hT5' hk56 hk06 hp6 hx6 hs56 hs45 hsz0 hfi6 hws6 ef' ew' e2 ho8 hg8 hl8 hv8 hb8 al9 ho9 hg9 hat9 hfr8 hfr9 ho9' hb9 hp9 hp10 hon10 hkT hT1 hlen9 hws10 hok10 hrun8 hrun9 hrs9 hb6 hbd hHeld
  go_wp2_with (first
    | (at_builtin; refine wpList_append2 rfl _ _ _ _ rfl _ _ rfl rfl HRun8.out ?_)
    | (at_builtin; refine wpList_append2 rfl _ _ _ _ rfl _ _ rfl rfl HRun9.out ?_; have t0 : w10.cell? ⟨w4.heap.size, 0, none⟩ = some (.string ⟨xn.toArray⟩) := HP10.out.cell 0; have t1 : w10.cell? ⟨w4.heap.size, 1, none⟩ = some (.slice af m1 cf) := HP10.out.cell 1; have t2 : w10.cell? ⟨w4.heap.size, 2, none⟩ = some (.slice a9 (m2 + 1) c9) := HP10.out.cell 2; have tl := HP10.out.lt; have u0 : w10.cell? ⟨w.heap.size, 0, none⟩ = some (.int .i64 room) := HB10.out.rd.cell 0; have u1 : w10.cell? ⟨w.heap.size, 1, none⟩ = some (.slice ad rs.length c) := HB10.out.rd.cell 1; have ul := HB10.out.rd.lt; rw [hw10] at t0 t1 t2 tl u0 u1 ul))
  rw [← HW10.out]
  refine HWi.out.mono ?_
  rintro e w11 ⟨v11, rfl, a11, c11, rfl, hf11, hb11⟩
  rw [← HRs9.out.1] at hf11 ⊢
  have HB11 := Lib.hid (HB10.out.under hb11)
  have HE := Lib.hid (HB11.out.ret (T := T) (c' := c11) rfl hf11 (fun k hk => by
    have h1 := hb11.size
    rcases hk with q | q
    · have h3 := HT1.out k q
      rcases q with q | q
      · exact ⟨by omega, .inl q⟩
      · exact ⟨by omega, .inr (by have := HB6.out.sz; omega)⟩
    · exact ⟨q.2, .inr (by have := HB10.out.sz; omega)⟩) HT.out)
  clear t0 t1 t2 tl u0 u1 ul g2 gl o3 ol z2 zf zl hf11 hb11
  have d0 : w11.cell? ⟨w.heap.size, 0, none⟩ = some (.int .i64 room) := HB11.out.rd.cell 0
  have d1 : w11.cell? ⟨w.heap.size, 1, none⟩ = some (.slice ad rs.length c) := HB11.out.rd.cell 1
  have o0 : w11.cell? ⟨w.heap.size + 1, 0, none⟩ = some (.int .i64 xk) := HB11.out.ro.cell 0
  have o1 : w11.cell? ⟨w.heap.size + 1, 1, none⟩ = some (.string ⟨xn.toArray⟩) := HB11.out.ro.cell 1
  have o2 : w11.cell? ⟨w.heap.size + 1, 2, none⟩ = some (.string ⟨xt.toArray⟩) := HB11.out.ro.cell 2
  have o3 : w11.cell? ⟨w.heap.size + 1, 3, none⟩ = some (.slice ax xd.length cx) := HB11.out.ro.cell 3
  have q0 : w11.cell? ⟨w.heap.size + 1 + 1, 0, none⟩ = some (.int .i64 0) := HB11.out.rr.cell 0
  have q1 : w11.cell? ⟨w.heap.size + 1 + 1, 1, none⟩ = some (.slice none 0 0) := HB11.out.rr.cell 1
  have qf0 := HB11.out.rr.thaw 0
  have qf1 := HB11.out.rr.thaw 1
  have dl := HB11.out.rd.lt
  have ol := HB11.out.ro.lt
  have ql := HB11.out.rr.lt
  go_wp2
  refine bodyPost_ret (v := .tuple #[dV room a11 rs9.length c11, .int .i64 0]) (by simp [results, Try.results15, go_sem, q0, q1]) rfl ?_
  exact ⟨_, rs9, rfl, HRs9.out.2, HE.out⟩
end Go.Proofs.Ythheolhghhmdlaa
