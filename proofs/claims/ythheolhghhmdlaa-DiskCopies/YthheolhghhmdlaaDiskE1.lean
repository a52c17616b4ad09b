/- The same disk, of the program and of the document. -/
import Derived.Test.YthheolhghhmdlaaDiskD8
namespace Go.Proofs.Ythheolhghhmdlaa
open Go.RowKit Dsk

theorem dq_names {w : World} {g : Nat} {S : Nat → Prop} {room : Int} {fs : List Fil} (h : Dq w g S room fs) (hL : fs.length ≤ 1000000000) : Calls Try.prog 26 #[ptr g] w fun e w' => ∃ a c, e = .returned (.slice a fs.length c) ∧ RdT encStr w' (fun k => w.heap.size ≤ k ∧ k < w'.heap.size) a (fs.map Fil.name) ∧ Below w.heap.size w w' := by
  obtain ⟨L, mv, o, h1, h3⟩ := h
  have e1 : fs.map Fil.name = L.map Ent.name := by rw [← h3, List.map_map]; rfl
  have e2 : fs.length = (L.map Ent.name).length := by rw [← h3]; simp
  refine (names_any h1 (by rw [e2] at hL; simpa using hL)).mono ?_
  rintro e w1 ⟨v, rfl, hv, hb⟩
  rw [show L.length = (L.map Ent.name).length by simp] at hv
  obtain ⟨a, c, rfl, hr⟩ := RdT.of_row hv
  rw [e1, e2]
  exact ⟨a, c, rfl, hr, hb⟩
theorem Dq.drew {w : World} {g : Nat} {S : Nat → Prop} {room : Int} {fs : List Fil} (h : Dq w g S room fs) : Dq w.drew g S room fs := by
  obtain ⟨L, mv, o, h1, h3⟩ := h
  exact ⟨L, mv, o, h1.drew, h3⟩
set_option maxRecDepth 100000 in
set_option maxHeartbeats 2000000 in
theorem lsame_any {w : World} {g : Nat} {S T : Nat → Prop} {room : Int} {fs : List Fil} {a : Option Addr} {rs : List Rf} (c : Nat) (hd : Dq w g S room fs) (h : Fs3 w T a rs) (hT : ∀ k, T k → k < w.heap.size) (hm : rs.map Rf.fil = fs) (hs : sizeL fs + looseL fs + fs.length ≤ 100000) (hn : ∀ f ∈ fs, f.name.length ≤ 1000) :
    Calls Try.prog 18 #[ptr g, dV room a rs.length c] w fun e w' => e = .returned (.bool true) ∧ Below w.heap.size w w' := by
  have hl : rs.length = fs.length := by rw [← hm]; simp
  obtain ⟨w1, hw1⟩ : ∃ w1, w1 = w.alloc (.cells #[.int .i64 room, .slice a rs.length c] 27) := ⟨_, rfl⟩
  have hb1 : Below w.heap.size w w1 := by rw [hw1]; exact (Below.refl _ _).alloc (Nat.le_refl _) _
  have hr1 : Row w1 w.heap.size 27 #[.int .i64 room, .slice a rs.length c] := by rw [hw1]; exact Row.fresh w _ _
  have hT1 : ∀ k, T k → k < w1.heap.size := fun k hk => Nat.lt_of_lt_of_le (hT k hk) hb1.size
  have hf1 := h.kept (kept_below hT hb1)
  have HD1 := Lib.hid (hd.below hb1)
  have HF := Lib.hid (show ∀ W, Below w1.heap.size w1 W → Fs3 W T a rs from fun W hW => hf1.kept (kept_below hT1 hW))
  have HTw := Lib.hid (show ∀ W, Below w1.heap.size w1 W → ∀ k, T k → k < W.heap.size from fun W hW k hk => Nat.lt_of_lt_of_le (hT1 k hk) hW.size)
  have HSt := Lib.hid (show ∀ W, Below w1.heap.size w1 W → W.cell? ⟨w.heap.size, 0, none⟩ = some (.int .i64 room) ∧ W.cell? ⟨w.heap.size, 1, none⟩ = some (.slice a rs.length c) ∧ w.heap.size < W.heap.size from fun W hW => by
    have := hr1.under hW hr1.lt
    exact ⟨this.cell 0, this.cell 1, this.lt⟩)
  have HMp := Lib.hid hm
  have HNm := Lib.hid (show rs.map Rf.name = fs.map Fil.name by rw [← hm, List.map_map]; rfl)
  have HSm := Lib.hid (show Sm (rs.map Rf.fil) by rw [hm]; unfold Sm; omega)
  have HSf := Lib.hid (show Sm fs by unfold Sm; omega)
  have HL9 := Lib.hid (show fs.length ≤ 1000000000 by omega)
  have HL6 := Lib.hid (show rs.length ≤ 1000000 by omega)
  have HB1 := Lib.hid hb1
  have HW1 := Lib.hid hw1
  have HLe := Lib.hid hl
  have HNn := Lib.hid hn
  have hlI : (rs.length : Int) ≤ 100000 := by omega
  have hzI : ((sizeL fs : Nat) : Int) ≤ 100000 := by omega
  have hoI : ((looseL fs : Nat) : Int) ≤ 100000 := by omega
  clear hd h hT hm hs hn hl hb1 hr1 hT1 hf1 hw1
  generalize sizeL fs = zz at *
  generalize looseL fs = oo at *
  go_enter Try.func18, Try.ntmps18
  go_wp2
  rw [← HW1.out]
  refine wp_region_held_drew (S := fun W => W.cell? ⟨w.heap.size, 0, none⟩ = some (.int .i64 room) ∧ W.cell? ⟨w.heap.size, 1, none⟩ = some (.slice a rs.length c) ∧ w.heap.size < W.heap.size) (by kernel_rfl) (HSt.out _ (Below.refl _ _).drew) (fun hHeld => ?_)
  refine wpAnyH_take (i := 0) (oi := ⟨some 8, _, _, _, _, _⟩) (v := ?_) rfl (by kernel_rfl) (by kernel_rfl) (by kernel_rfl) (fun _ _ _ h => h) (Or.inl ⟨by rfl, ?_⟩) hHeld ?_
  rotate_left
  · intro W hSw
    obtain ⟨s0, s1, sl⟩ := hSw
    go_simp
    with_reducible rfl
  simp only [Act.put, List.setIfInBounds_toArray, List.set_cons_zero, List.set_cons_succ]
  refine wpAnyH_take (i := 2) (oi := ⟨some 10, _, _, _, _, _⟩) (v := ?_) rfl (by kernel_rfl) (by kernel_rfl) (by kernel_rfl) (fun _ _ _ h => h) (Or.inl ⟨by rfl, ?_⟩) hHeld ?_
  rotate_left
  · intro W hSw
    obtain ⟨s0, s1, sl⟩ := hSw
    go_simp
    with_reducible rfl
  simp only [Act.put, List.setIfInBounds_toArray, List.set_cons_zero, List.set_cons_succ]
  refine wpAnyH_ready (rs := [1]) (by kernel_rfl) (by simp) ?_
  refine AllReadyH.cons (o := ⟨some 9, _, _, _, _, _⟩) rfl (fun K hK => ?_) AllReadyH.nil
  go_simp
  refine (dq_names (w := w1.drew) HD1.out.drew HL9.out).mono ?_
  rintro e w2 ⟨a2, c2, rfl, hn2, hb2⟩
  have HB := Lib.hid (show Below w1.heap.size w1 w2 from ⟨hb2.os, hb2.tape, hb2.output, hb2.size, hb2.block⟩)
  have HN2 := Lib.hid hn2
  clear hn2 hb2
  refine hK.out _ _ (HSt.out _ HB.out) (fun hHeld => ?_)
  clear hK K 
  refine wpAnyH_ready (rs := [3]) (by kernel_rfl) (by simp) ?_
  refine AllReadyH.cons (o := ⟨some 11, _, _, _, _, _⟩) rfl (fun K hK => ?_) AllReadyH.nil
  go_simp
  refine (rnames_any room c (HF.out _ HB.out) (HTw.out _ HB.out) HL6.out).mono ?_
  rintro e w3 ⟨v3, rfl, hn3, hb3⟩
  have HB2 := Lib.hid (HB.out.trans (hb3.mono HB.out.size))
  rw [HNm.out] at hn3
  obtain ⟨a3, c3, hv3, hr3⟩ := RdT.of_row hn3
  have HSN := Lib.hid (sameNames_any a2 a3 (fs.map Fil.name) c2 c3 (HN2.out.only (Only.of_below (fun _ => False) hb3) (fun _ _ q => q)) hr3 (by rw [List.length_map]; exact HL9.out))
  rw [List.length_map] at HSN hv3
  subst hv3
  clear hn3 hr3 hb3 HB HN2
  have HB := HB2
  clear HB2
  refine hK.out _ _ (HSt.out _ HB.out) (fun hHeld => ?_)
  clear hK K 
  refine wpAnyH_ready (rs := [4]) (by kernel_rfl) (by simp) ?_
  refine AllReadyH.cons (o := ⟨some 12, _, _, _, _, _⟩) rfl (fun K hK => ?_) AllReadyH.nil
  go_simp
  refine (HSN.out).mono ?_
  rintro e w4 ⟨rfl, hb4⟩
  have HB4 := Lib.hid (HB.out.trans (hb4.mono HB.out.size))
  clear hb4 HB
  have HB := HB4
  clear HB4
  refine hK.out _ _ (HSt.out _ HB.out) (fun hHeld => ?_)
  clear hK K 
  refine wpAnyH_take (i := 5) (oi := ⟨some 13, _, _, _, _, _⟩) (v := ?_) rfl (by kernel_rfl) (by kernel_rfl) (by kernel_rfl) (fun _ _ _ h => h) (Or.inl ⟨by rfl, ?_⟩) hHeld ?_
  rotate_left
  · intro W hSw
    obtain ⟨s0, s1, sl⟩ := hSw
    go_simp
    with_reducible rfl
  simp only [Act.put, List.setIfInBounds_toArray, List.set_cons_zero, List.set_cons_succ]
  refine wpAnyH_take (i := 6) (oi := ⟨some 14, _, _, _, _, _⟩) (v := ?_) rfl (by kernel_rfl) (by kernel_rfl) (by kernel_rfl) (fun _ _ _ h => h) (Or.inl ⟨by rfl, ?_⟩) hHeld ?_
  rotate_left
  · intro W hSw
    obtain ⟨s0, s1, sl⟩ := hSw
    go_simp
    with_reducible rfl
  simp only [Act.put, List.setIfInBounds_toArray, List.set_cons_zero, List.set_cons_succ]
  refine wpAnyH_take (i := 7) (oi := ⟨some 15, _, _, _, _, _⟩) (v := ?_) rfl (by kernel_rfl) (by kernel_rfl) (by kernel_rfl) (fun _ _ _ h => h) (Or.inl ⟨by rfl, ?_⟩) hHeld ?_
  rotate_left
  · intro W hSw
    obtain ⟨s0, s1, sl⟩ := hSw
    go_simp
    with_reducible rfl
  simp only [Act.put, List.setIfInBounds_toArray, List.set_cons_zero, List.set_cons_succ]
  refine wpAnyH_take (i := 9) (oi := ⟨some 17, _, _, _, _, _⟩) (v := ?_) rfl (by kernel_rfl) (by kernel_rfl) (by kernel_rfl) (fun _ _ _ h => h) (Or.inl ⟨by rfl, ?_⟩) hHeld ?_
  rotate_left
  · intro W hSw
    obtain ⟨s0, s1, sl⟩ := hSw
    go_simp
    with_reducible rfl
  simp only [Act.put, List.setIfInBounds_toArray, List.set_cons_zero, List.set_cons_succ]
  refine wpAnyH_ready (rs := [8]) (by kernel_rfl) (by simp) ?_
  refine AllReadyH.cons (o := ⟨some 16, _, _, _, _, _⟩) rfl (fun K hK => ?_) AllReadyH.nil
  go_simp
  refine (size_any (HD1.out.below HB.out)).mono ?_
  rintro e w5 ⟨rfl, hw5⟩
  rw [hw5]
  clear hw5 w5
  refine hK.out _ _ (HSt.out _ HB.out) (fun hHeld => ?_)
  clear hK K 
  refine wpAnyH_ready (rs := [10]) (by kernel_rfl) (by simp) ?_
  refine AllReadyH.cons (o := ⟨some 18, _, _, _, _, _⟩) rfl (fun K hK => ?_) AllReadyH.nil
  go_simp
  refine (rsize_any room c (HF.out _ HB.out) (HTw.out _ HB.out) HSm.out).mono ?_
  rintro e w6 ⟨rfl, hb6⟩
  have HB6 := Lib.hid (HB.out.trans (hb6.mono HB.out.size))
  rw [HMp.out]
  clear hb6 HB
  have HB := HB6
  clear HB6
  refine hK.out _ _ (HSt.out _ HB.out) (fun hHeld => ?_)
  clear hK K 
  refine wpAnyH_take (i := 11) (oi := ⟨some 19, _, _, _, _, _⟩) (v := ?_) rfl (by kernel_rfl) (by kernel_rfl) (by kernel_rfl) (fun _ _ _ h => h) (Or.inl ⟨by rfl, ?_⟩) hHeld ?_
  rotate_left
  · intro W hSw
    obtain ⟨s0, s1, sl⟩ := hSw
    go_simp
    with_reducible rfl
  simp only [Act.put, List.setIfInBounds_toArray, List.set_cons_zero, List.set_cons_succ]
  refine wpAnyH_take (i := 12) (oi := ⟨some 20, _, _, _, _, _⟩) (v := ?_) rfl (by kernel_rfl) (by kernel_rfl) (by kernel_rfl) (fun _ _ _ h => h) (Or.inl ⟨by rfl, ?_⟩) hHeld ?_
  rotate_left
  · intro W hSw
    obtain ⟨s0, s1, sl⟩ := hSw
    go_simp
    with_reducible rfl
  simp only [Act.put, List.setIfInBounds_toArray, List.set_cons_zero, List.set_cons_succ]
  refine wpAnyH_take (i := 13) (oi := ⟨some 21, _, _, _, _, _⟩) (v := ?_) rfl (by kernel_rfl) (by kernel_rfl) (by kernel_rfl) (fun _ _ _ h => h) (Or.inl ⟨by rfl, ?_⟩) hHeld ?_
  rotate_left
  · intro W hSw
    obtain ⟨s0, s1, sl⟩ := hSw
    go_simp
    with_reducible rfl
  simp only [Act.put, List.setIfInBounds_toArray, List.set_cons_zero, List.set_cons_succ]
  refine wpAnyH_take (i := 14) (oi := ⟨some 22, _, _, _, _, _⟩) (v := ?_) rfl (by kernel_rfl) (by kernel_rfl) (by kernel_rfl) (fun _ _ _ h => h) (Or.inl ⟨by rfl, ?_⟩) hHeld ?_
  rotate_left
  · intro W hSw
    obtain ⟨s0, s1, sl⟩ := hSw
    go_simp
    with_reducible rfl
  simp only [Act.put, List.setIfInBounds_toArray, List.set_cons_zero, List.set_cons_succ]
  refine wpAnyH_take (i := 16) (oi := ⟨some 24, _, _, _, _, _⟩) (v := ?_) rfl (by kernel_rfl) (by kernel_rfl) (by kernel_rfl) (fun _ _ _ h => h) (Or.inl ⟨by rfl, ?_⟩) hHeld ?_
  rotate_left
  · intro W hSw
    obtain ⟨s0, s1, sl⟩ := hSw
    go_simp
    with_reducible rfl
  simp only [Act.put, List.setIfInBounds_toArray, List.set_cons_zero, List.set_cons_succ]
  refine wpAnyH_ready (rs := [15]) (by kernel_rfl) (by simp) ?_
  refine AllReadyH.cons (o := ⟨some 23, _, _, _, _, _⟩) rfl (fun K hK => ?_) AllReadyH.nil
  go_simp
  refine (loose_any (HD1.out.below HB.out) HSf.out).mono ?_
  rintro e w7 ⟨rfl, hb7⟩
  have HB7 := Lib.hid (HB.out.trans (hb7.mono HB.out.size))
  clear hb7 HB
  have HB := HB7
  clear HB7
  refine hK.out _ _ (HSt.out _ HB.out) (fun hHeld => ?_)
  clear hK K 
  refine wpAnyH_ready (rs := [17]) (by kernel_rfl) (by simp) ?_
  refine AllReadyH.cons (o := ⟨some 25, _, _, _, _, _⟩) rfl (fun K hK => ?_) AllReadyH.nil
  go_simp
  refine (rloose_any room c (HF.out _ HB.out) (HTw.out _ HB.out) HSm.out).mono ?_
  rintro e w8 ⟨rfl, hb8⟩
  have HB8 := Lib.hid (HB.out.trans (hb8.mono HB.out.size))
  rw [HMp.out]
  clear hb8 HB
  have HB := HB8
  clear HB8
  refine hK.out _ _ (HSt.out _ HB.out) (fun hHeld => ?_)
  clear hK K 
  refine wpAnyH_take (i := 18) (oi := ⟨some 26, _, _, _, _, _⟩) (v := ?_) rfl (by kernel_rfl) (by kernel_rfl) (by kernel_rfl) (fun _ _ _ h => h) (Or.inl ⟨by rfl, ?_⟩) hHeld ?_
  rotate_left
  · intro W hSw
    obtain ⟨s0, s1, sl⟩ := hSw
    go_simp
    with_reducible rfl
  simp only [Act.put, List.setIfInBounds_toArray, List.set_cons_zero, List.set_cons_succ]
  refine wpAnyH_take (i := 19) (oi := ⟨some 27, _, _, _, _, _⟩) (v := ?_) rfl (by kernel_rfl) (by kernel_rfl) (by kernel_rfl) (fun _ _ _ h => h) (Or.inl ⟨by rfl, ?_⟩) hHeld ?_
  rotate_left
  · intro W hSw
    obtain ⟨s0, s1, sl⟩ := hSw
    go_simp
    with_reducible rfl
  simp only [Act.put, List.setIfInBounds_toArray, List.set_cons_zero, List.set_cons_succ]
  refine wpAnyH_done (by kernel_rfl) ?_ _
  clear hHeld
  obtain ⟨t0, t1, tl⟩ := HSt.out _ HB.out
  go_wp2
  clear t0 t1 tl
  go_loopw [5, 6, 7] (fun i _ _ wr => ∃ k : Nat, k ≤ rs.length ∧ i = .int .i64 k ∧ Below w1.heap.size w1 wr) (fun i _ _ _ => rs.length - (intOf i).toNat)
  case atStart => exact ⟨0, by omega, rfl, HB.out⟩
  case round =>
    obtain ⟨k, hk, rfl, hb⟩ := hrel
    clear HB
    have HB := Lib.hid hb
    obtain ⟨t0, t1, tl⟩ := HSt.out _ hb
    by_cases hlt : k < rs.length
    · have hlt' : (k : Int) < (rs.length : Int) := by omega
      obtain ⟨b, o, ea, hbl, hTb, c0, c1, c2, hok⟩ := (HF.out _ hb).at_ hlt
      subst ea
      have hmem : (rs[k]'hlt).fil ∈ fs := by rw [← HMp.out]; exact List.mem_map_of_mem (List.getElem_mem hlt)
      have hnl := HNn.out _ hmem
      have hrd : readL fs (rs[k]'hlt).name = ((rs[k]'hlt).fil.all, 0) := readL_some (get_of_mem HD1.out.rising hmem)
      have hsm := sm_at HSm.out (List.getElem_mem hlt)
      have HRd := Lib.hid (read_any (rs[k]'hlt).name (HD1.out.below hb) HSf.out (by have h1 : (rs[k]'hlt).name.length ≤ 1000 := hnl; simp only [maxLen]; omega))
      rw [hrd] at HRd
      have HCel := Lib.hid (show ∀ W, Below wr.heap.size wr W → W.cell? ⟨w.heap.size, 1, none⟩ = some (.slice (some ⟨b, o, none⟩) rs.length c) ∧ w.heap.size < W.heap.size ∧ W.cell? ⟨b, o + k * 3, none⟩ = some (.string ⟨(rs[k]'hlt).name.toArray⟩) ∧ W.cell? ⟨b, o + k * 3 + 1, none⟩ = some (rs[k]'hlt).fv ∧ W.cell? ⟨b, o + k * 3 + 2, none⟩ = some (rs[k]'hlt).wv ∧ b < W.heap.size from fun W hW =>
        ⟨(hW.cell (p := ⟨w.heap.size, 1, none⟩) tl).trans t1, Nat.lt_of_lt_of_le tl hW.size, (hW.cell (p := ⟨b, o + k * 3, none⟩) hbl).trans c0, (hW.cell (p := ⟨b, o + k * 3 + 1, none⟩) hbl).trans c1, (hW.cell (p := ⟨b, o + k * 3 + 2, none⟩) hbl).trans c2, Nat.lt_of_lt_of_le hbl hW.size⟩)
      have HAll := Lib.hid (show ∀ W, Below w1.heap.size w1 W → Calls Try.prog 39 #[fV (rs[k]'hlt)] W fun e w' => ∃ v, e = .returned v ∧ Owns w' W.heap.size v (rs[k]'hlt).fil.all ∧ Below W.heap.size W w' from fun W hW => rall_any (rs[k]'hlt) ((HF.out _ hW).2 _ (List.getElem_mem hlt)) (HTw.out _ hW) hsm.1 hsm.2)
      obtain ⟨⟨af, cf, ef, _⟩, aw, cw, ew, _⟩ := hok
      have HV : Hid (fV (rs[k]'hlt) = .agg #[.string ⟨(rs[k]'hlt).name.toArray⟩, .slice af (rs[k]'hlt).fil.firm.length cf, .slice aw (rs[k]'hlt).fil.ws.length cw]) := by
        show fV _ = _
        rw [fV, ef, ew]
      rw [HV.out] at HAll
      rw [ef, ew] at HCel
      clear hmem hnl hrd hsm hb ef ew c1 c2 HV
      generalize (rs[k]'hlt).fil.firm.length = m1 at *
      generalize (rs[k]'hlt).fil.ws.length = m2 at *
      generalize (rs[k]'hlt).fil.all = bs at *
      generalize (rs[k]'hlt).name = x at *
      go_wp2_with fail
      refine HRd.out.mono ?_
      rintro e w9 ⟨v9, rfl, hO9, hb9⟩
      have HB9 := Lib.hid (HB.out.trans (hb9.mono HB.out.size))
      obtain ⟨a9, c9, hv9, hB9, _⟩ := hO9.shape
      have HO9 := Lib.hid hB9
      obtain ⟨m9, hm9⟩ : ∃ m, m = bs.length := ⟨_, rfl⟩
      have hv9' : v9 = .slice a9 m9 c9 := by rw [hm9]; exact hv9
      clear hv9
      subst hv9'
      obtain ⟨e1, e2, e3, e4, e5, e6⟩ := HCel.out _ hb9
      have HM9 := Lib.hid hm9
      clear hO9 hb9 hB9 hm9 t0 t1 tl c0 hbl
      go_wp2_with fail
      refine (HAll.out _ HB9.out).mono ?_
      rintro e w10 ⟨v10, rfl, hO10, hb10⟩
      have HB10 := Lib.hid (HB9.out.trans (hb10.mono HB9.out.size))
      obtain ⟨a10, c10, hv10, hB10, _⟩ := hO10.shape
      have HSa := Lib.hid (same_any a9 a10 bs bs c9 c10 w10 (HO9.out.under hb10) hB10)
      rw [decide_eq_true rfl, ← HM9.out] at HSa
      rw [← HM9.out] at hv10
      subst hv10
      clear hO10 hb10 hB10 e1 e2 e3 e4 e5 e6
      go_wp2_with fail
      refine HSa.out.mono ?_
      rintro e w11 ⟨rfl, hw11⟩
      subst hw11
      go_wp2
      go_roundw
      case rel =>
        first
          | exact ⟨k + 1, by omega, by go_num, HB10.out⟩
          | exact ⟨_, _, _, ⟨k + 1, by omega, by go_num, HB10.out⟩, rfl, rfl, rfl⟩
      case measure => simp [intOf]; omega
    · have hlt' : ¬ (k : Int) < (rs.length : Int) := by omega
      clear hb
      go_wp2
      go_ret
      exact ⟨rfl, HB1.out.trans (HB.out.mono HB1.out.size)⟩
end Go.Proofs.Ythheolhghhmdlaa
