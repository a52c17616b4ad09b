/- DiskSteps: the walk. -/
import Derived.Test.YthheolhghhmdlaaDiskLawG
import Derived.Deep.CutRange
namespace Go.Proofs.Ythheolhghhmdlaa
open Go.RowKit Dsk

def StE (W : World) (g bt : Nat) (room : Int) (l : List Ope) (k : Nat) (wr : World) : Prop := ∃ T rs a c, St W g bt room (allL room l k) T rs a c wr ∧ rs.map Rf.fil = allL room l k
set_option maxRecDepth 100000 in
set_option maxHeartbeats 2000000 in
theorem steps_small (room : Int) (hr0 : 0 ≤ room) (hr1 : room ≤ 1099511627776) (ad : Option Addr) (l : List Ope) (c : Nat) (name : Nm) (hn9 : name.length ≤ 140737488351232) (W : World) (hO : Ops W (fun k => k < W.heap.size) ad l) (hF : Few l) (hl : l.length ≤ 60) (hz : longL l ≤ 1000) :
    Calls Try.prog 3 #[.int .i64 room, .slice ad l.length c, .string ⟨name.toArray⟩] W fun e w' => e = .returned (.bool true) ∧ Below W.heap.size W w' := by
  have HL := Lib.hid (long_few (c := c) hO (by omega) hF)
  have HO := Lib.hid hO
  have HFw := Lib.hid hF
  have HC := Lib.hid (show cost l ≤ 1000 by have := longL_cost l; omega)
  have hz' : ¬ (1000 : Int) < (longL l : Int) := by omega
  have hlJ : ¬ (60 : Int) < (l.length : Int) := by omega
  have hlI : (l.length : Int) ≤ 60 := by omega
  have HMn := Lib.hid (show name.length ≤ maxLen by simp only [maxLen]; omega)
  clear hO hF hz
  generalize longL l = z at *
  go_enter Try.func3, Try.ntmps3
  go_wp2_with fail
  refine HL.out.mono ?_
  rintro e w1 ⟨rfl, hb1⟩
  have HB1 := Lib.hid hb1
  have HN := Lib.hid (rnew_in room w1 hr0 hr1)
  clear hb1 HL
  go_wp2_with fail
  refine HN.out.mono ?_
  rintro e w1b ⟨rfl, hb1b⟩
  obtain ⟨w2, hw2⟩ : ∃ w2, w2 = w1b.alloc (.cells #[.int .i64 room, .slice none 0 0] 27) := ⟨_, rfl⟩
  have HB1b := Lib.hid (HB1.out.trans (hb1b.mono HB1.out.size))
  have hr2 : Row w2 w1b.heap.size 27 #[.int .i64 room, .slice none 0 0] := by rw [hw2]; exact Row.fresh w1b _ _
  have hb2 : Below w1b.heap.size w1b w2 := by rw [hw2]; exact (Below.refl _ _).alloc (Nat.le_refl _) _
  have hs2 : w2.heap.size = w1b.heap.size + 1 := by rw [hw2]; simp
  have HN2 := Lib.hid (new_any room w2 hr0 hr1)
  have H2 := Lib.hid (And.intro hr2 (And.intro hb2 hs2))
  have HW2 := Lib.hid hw2
  clear hb1b hr2 hb2 hs2 hw2 HN HB1
  go_wp2_with fail
  rw [← HW2.out]
  refine HN2.out.mono ?_
  rintro e w3 ⟨rfl, hd3, hb3⟩
  have HSt0 := Lib.hid (show StE W w2.heap.size w1b.heap.size room l 0 w3 from ⟨_, [], none, 0, St.start HB1b.out rfl H2.out.1 H2.out.2.1 H2.out.2.2 hd3 hb3, rfl⟩)
  clear hd3 hb3 H2 HW2 HN2 HB1b
  generalize w2.heap.size = g at *
  generalize w1b.heap.size = bt at *
  go_wp2
  go_loopw [10, 11, 12, 13, 14, 15, 16, 17] (fun i _ _ _ _ _ _ _ wr => ∃ k : Nat, k ≤ l.length ∧ i = .int .i64 k ∧ StE W g bt room l k wr) (fun i _ _ _ _ _ _ _ _ => l.length - (intOf i).toNat)
  case atStart => exact ⟨0, by omega, rfl, HSt0.out⟩
  case round =>
    obtain ⟨k, hk, rfl, T, rk, ak, ck, hst, hmp⟩ := hrel
    clear HSt0
    have hfit := allL_fits room l k hk
    by_cases hlt : k < l.length
    · have hlt' : (k : Int) < (l.length : Int) := by omega
      obtain ⟨b, o, ax, cx, ea, hTb, hbl, hop, hTx⟩ := HO.out.nth hlt
      subst ea
      have hopr := hop.under hst.md.back
      have hx9 := HFw.out _ (List.getElem_mem hlt)
      have hct := cost_take l k hlt
      have hcl := cost_le l (k + 1)
      have hfit2 := allL_fits room l (k + 1) (by omega)
      have hsu := allL_succ room l k hlt
      have hxd : RdT byV wr T ax (l[k]'hlt).data := rdt_of_op (c := cx) hopr.2.2.2.2 (fun q j hj => hst.arg j (hTx q j hj))
      have hlen : rk.length = (allL room l k).length := by rw [← hmp]; simp
      have HDo := Lib.hid (show ∀ W1, Below wr.heap.size wr W1 → Calls Try.prog 15 #[dV room ak rk.length ck, opV (l[k]'hlt) ax cx] W1 (RDo W1 T room (doL room (rk.map Rf.fil) (l[k]'hlt)).1 (doL room (rk.map Rf.fil) (l[k]'hlt)).2) from fun W1 hW =>
        rdo_any room ck (l[k]'hlt) ax cx (hst.gs.kept (kept_below hst.tl hW)) (fun j hj => Nat.lt_of_lt_of_le (hst.tl j hj) hW.size) ((Rising.map rf_key).1 (by rw [hmp]; exact hfit.2.1)) (by rw [hmp, hlen]; have := HC.out; omega) (hxd.kept (kept_below hst.tl hW)) (by have := HC.out; omega) ⟨hx9.1, hx9.2.1⟩ ⟨hr0, hr1⟩)
      rw [hmp] at HDo
      have HTk := Lib.hid hst.tl
      have HSt9 := Lib.hid hst
      have HFit := Lib.hid (show sizeL (allL room l k) + looseL (allL room l k) + (allL room l k).length ≤ 1000 ∧ sizeL (allL room l (k + 1)) + looseL (allL room l (k + 1)) + (allL room l (k + 1)).length ≤ 1000 ∧ Rising Fil.name (allL room l (k + 1)) ∧ Named (allL room l (k + 1)) ∧ (l[k]'hlt).data.length ≤ 1000 from ⟨by have := HC.out; omega, by have := HC.out; omega, hfit2.2.1, hfit2.2.2, by have := HC.out; omega⟩)
      have HSu := Lib.hid hsu
      have HOp := Lib.hid (show ∀ W1, Below W.heap.size W W1 → OpC W1 b (o + k * 4) ax cx (l[k]'hlt) from fun W1 hW => hop.under hW)
      have HXd := Lib.hid (show RdT byV W (fun k => k < W.heap.size) ax (l[k]'hlt).data from rdt_of_op (c := cx) hop.2.2.2.2 hTx)
      have HSt0 := Lib.hid (show ∀ W1, Below wr.heap.size wr W1 → Row W1 bt 27 #[.int .i64 room, .slice ak rk.length ck] ∧ OpC W1 b (o + k * 4) ax cx (l[k]'hlt) from fun W1 hW => ⟨hst.row.under hW hst.row.lt, hopr.under hW⟩)
      clear hop hopr hx9 hct hcl hfit hfit2 hsu hxd hlen hTx hst hmp
      generalize (l[k]'hlt) = x at *
      obtain ⟨xk, xn, xt, xd⟩ := x
      have HSt := Lib.hid (show ∀ W1, Below wr.heap.size wr W1 → W1.cell? ⟨bt, 0, none⟩ = some (.int .i64 room) ∧ W1.cell? ⟨bt, 1, none⟩ = some (.slice ak rk.length ck) ∧ W1.cell? ⟨b, o + k * 4, none⟩ = some (.int .i64 xk) ∧ W1.cell? ⟨b, o + k * 4 + 1, none⟩ = some (.string ⟨xn.toArray⟩) ∧ W1.cell? ⟨b, o + k * 4 + 2, none⟩ = some (.string ⟨xt.toArray⟩) ∧ W1.cell? ⟨b, o + k * 4 + 3, none⟩ = some (.slice ax xd.length cx) ∧ bt < W1.heap.size ∧ b < W1.heap.size from fun W1 hW => by
        obtain ⟨h1, h2⟩ := HSt0.out W1 hW
        exact ⟨h1.cell 0, h1.cell 1, h2.1, h2.2.1, h2.2.2.1, h2.2.2.2.1, h1.lt, block_lt_of_cell h2.1⟩)
      clear HSt0
      go_upto_region 12 with (fail)
      go_cut [11, 12] from 47 to 100 (fun p e wx => CutDo wr T room (doL room (allL room l k) ⟨xk, xn, xt, xd⟩).1 (doL room (allL room l k) ⟨xk, xn, xt, xd⟩).2 p e wx)
      case first =>
        refine wp_region_held_drew (S := fun W => W.cell? ⟨bt, 0, none⟩ = some (.int .i64 room) ∧ W.cell? ⟨bt, 1, none⟩ = some (.slice ak rk.length ck) ∧ W.cell? ⟨b, o + k * 4, none⟩ = some (.int .i64 xk) ∧ W.cell? ⟨b, o + k * 4 + 1, none⟩ = some (.string ⟨xn.toArray⟩) ∧ W.cell? ⟨b, o + k * 4 + 2, none⟩ = some (.string ⟨xt.toArray⟩) ∧ W.cell? ⟨b, o + k * 4 + 3, none⟩ = some (.slice ax xd.length cx) ∧ bt < W.heap.size ∧ b < W.heap.size) (by kernel_rfl) (HSt.out _ (Below.refl _ _).drew) (fun hHeld => ?_)
        refine wpAnyH_take (i := 0) (oi := ⟨some 54, _, _, _, _, _⟩) (v := ?_) rfl (by kernel_rfl) (by kernel_rfl) (by kernel_rfl) (fun _ _ _ h => h) (Or.inl ⟨by rfl, ?_⟩) hHeld ?_
        rotate_left
        · intro W hSw
          obtain ⟨sd0, sd1, so0, so1, so2, so3, sdl, sol⟩ := hSw
          go_simp
          with_reducible rfl
        simp only [Act.put, List.setIfInBounds_toArray, List.set_cons_zero, List.set_cons_succ]
        refine wpAnyH_take (i := 1) (oi := ⟨some 55, _, _, _, _, _⟩) (v := ?_) rfl (by kernel_rfl) (by kernel_rfl) (by kernel_rfl) (fun _ _ _ h => h) (Or.inl ⟨by rfl, ?_⟩) hHeld ?_
        rotate_left
        · intro W hSw
          obtain ⟨sd0, sd1, so0, so1, so2, so3, sdl, sol⟩ := hSw
          go_simp
          with_reducible rfl
        simp only [Act.put, List.setIfInBounds_toArray, List.set_cons_zero, List.set_cons_succ]
        refine wpAnyH_take (i := 2) (oi := ⟨some 56, _, _, _, _, _⟩) (v := ?_) rfl (by kernel_rfl) (by kernel_rfl) (by kernel_rfl) (fun _ _ _ h => h) (Or.inl ⟨by rfl, ?_⟩) hHeld ?_
        rotate_left
        · intro W hSw
          obtain ⟨sd0, sd1, so0, so1, so2, so3, sdl, sol⟩ := hSw
          go_simp
          with_reducible rfl
        simp only [Act.put, List.setIfInBounds_toArray, List.set_cons_zero, List.set_cons_succ]
        refine wpAnyH_take (i := 3) (oi := ⟨some 57, _, _, _, _, _⟩) (v := ?_) rfl (by kernel_rfl) (by kernel_rfl) (by kernel_rfl) (fun _ _ _ h => h) (Or.inl ⟨by rfl, ?_⟩) hHeld ?_
        rotate_left
        · intro W hSw
          obtain ⟨sd0, sd1, so0, so1, so2, so3, sdl, sol⟩ := hSw
          go_simp
          with_reducible rfl
        simp only [Act.put, List.setIfInBounds_toArray, List.set_cons_zero, List.set_cons_succ]
        refine wpAnyH_take (i := 4) (oi := ⟨some 58, _, _, _, _, _⟩) (v := ?_) rfl (by kernel_rfl) (by kernel_rfl) (by kernel_rfl) (fun _ _ _ h => h) (Or.inl ⟨by rfl, ?_⟩) hHeld ?_
        rotate_left
        · intro W hSw
          obtain ⟨sd0, sd1, so0, so1, so2, so3, sdl, sol⟩ := hSw
          go_simp
          with_reducible rfl
        simp only [Act.put, List.setIfInBounds_toArray, List.set_cons_zero, List.set_cons_succ]
        refine wpAnyH_ready (rs := [5, 9]) (by kernel_rfl) (by simp) ?_
        refine AllReadyH.cons (o := ⟨some 59, _, _, _, _, _⟩) rfl (fun K hK => ?_) (AllReadyH.cons (o := ⟨some 11, _, _, _, _, _⟩) rfl (fun K hK => ?_) AllReadyH.nil)
        · skip
          go_simp
          refine (HDo.out wr.drew (Below.refl _ _).drew).mono ?_
          rintro e w6 ⟨v6, r6, rfl, hr6, a6, c6, rfl, hf6, hb6⟩
          have hb6' : Below wr.heap.size wr w6 := ⟨hb6.os, hb6.tape, hb6.output, hb6.size, hb6.block⟩
          have HC := Lib.hid (cut_after (room := room) (c6 := c6) HTk.out hf6 hb6')
          refine hK.out _ _ (HSt.out _ hb6') (fun hHeld => ?_)
          clear hK K hf6 hb6
          refine wpAnyH_take (i := 6) (oi := ⟨some 53, _, _, _, _, _⟩) (v := ?_) rfl (by kernel_rfl) (by kernel_rfl) (by kernel_rfl) (fun _ _ _ h => h) (Or.inl ⟨by rfl, ?_⟩) hHeld ?_
          rotate_left
          · intro W hSw
            obtain ⟨sd0, sd1, so0, so1, so2, so3, sdl, sol⟩ := hSw
            go_simp
            with_reducible rfl
          simp only [Act.put, List.setIfInBounds_toArray, List.set_cons_zero, List.set_cons_succ]
          refine wpAnyH_take (i := 7) (oi := ⟨some 60, _, _, _, _, _⟩) (v := ?_) rfl (by kernel_rfl) (by kernel_rfl) (by kernel_rfl) (fun _ _ _ h => h) (Or.inl ⟨by rfl, ?_⟩) hHeld ?_
          rotate_left
          · intro W hSw
            obtain ⟨sd0, sd1, so0, so1, so2, so3, sdl, sol⟩ := hSw
            go_simp
            with_reducible rfl
          simp only [Act.put, List.setIfInBounds_toArray, List.set_cons_zero, List.set_cons_succ]
          refine wpAnyH_take (i := 8) (oi := ⟨some 61, _, _, _, _, _⟩) (v := ?_) rfl (by kernel_rfl) (by kernel_rfl) (by kernel_rfl) (fun _ _ _ h => h) (Or.inl ⟨by rfl, ?_⟩) hHeld ?_
          rotate_left
          · intro W hSw
            obtain ⟨sd0, sd1, so0, so1, so2, so3, sdl, sol⟩ := hSw
            go_simp
            with_reducible rfl
          simp only [Act.put, List.setIfInBounds_toArray, List.set_cons_zero, List.set_cons_succ]
          refine wpAnyH_ready (rs := [9]) (by kernel_rfl) (by simp) ?_
          refine AllReadyH.cons (o := ⟨some 11, _, _, _, _, _⟩) rfl (fun K hK => ?_) AllReadyH.nil
          go_simp
          refine hK.out _ _ (HSt.out _ (hb6'.alloc hb6'.size _)) (fun hHeld => ?_)
          clear hK K
          refine wpAnyH_ready (rs := [10]) (by kernel_rfl) (by simp) ?_
          refine AllReadyH.cons (o := ⟨none, _, _, _, _, _⟩) rfl (fun K hK => ?_) AllReadyH.nil
          go_simp
          refine hK.out _ _ (HSt.out _ (hb6'.alloc hb6'.size _)) (fun hHeld => ?_)
          clear hK K
          refine wpAnyH_take (i := 11) (oi := ⟨some 12, _, _, _, _, _⟩) (v := ?_) rfl (by kernel_rfl) (by kernel_rfl) (by kernel_rfl) (fun _ _ _ h => h) (Or.inl ⟨by rfl, ?_⟩) hHeld ?_
          rotate_left
          · intro W hSw
            obtain ⟨sd0, sd1, so0, so1, so2, so3, sdl, sol⟩ := hSw
            go_simp
            with_reducible rfl
          simp only [Act.put, List.setIfInBounds_toArray, List.set_cons_zero, List.set_cons_succ]
          refine wpAnyH_done (by kernel_rfl) ?_ _
          go_wp2_with fail
          go_meet
          exact ⟨_, r6, a6, c6, rfl, rfl, hr6, HC.out⟩
        · skip
          go_simp
          have alB : Below wr.heap.size wr (wr.drew.alloc (.cells #[.int .i64 0, .slice none 0 0] 27)) := (Below.refl wr.heap.size wr).drew.alloc (Nat.le_refl _) _
          refine hK.out _ _ (HSt.out _ alB) (fun hHeld => ?_)
          clear hK K
          refine wpAnyH_ready (rs := [5]) (by kernel_rfl) (by simp) ?_
          refine AllReadyH.cons (o := ⟨some 59, _, _, _, _, _⟩) rfl (fun K hK => ?_) AllReadyH.nil
          go_simp
          refine (HDo.out _ alB).mono ?_
          rintro e w6 ⟨v6, r6, rfl, hr6, a6, c6, rfl, hf6, hb6⟩
          have hb6' : Below wr.heap.size wr w6 := alB.trans (hb6.mono (by simp))
          have hrow := (Row.fresh wr.drew 27 #[.int .i64 0, .slice none 0 0]).under hb6 (by simp)
          have HC := Lib.hid (cut_before (room := room) (c6 := c6) HTk.out hrow (by simpa using hf6) hb6')
          have n0 : w6.cell? ⟨wr.heap.size, 0, none⟩ = some (.int .i64 0) := hrow.cell 0
          have n1 : w6.cell? ⟨wr.heap.size, 1, none⟩ = some (.slice none 0 0) := hrow.cell 1
          have nf0 : w6.frozen? ⟨wr.heap.size, 0, none⟩ = false := hrow.thaw 0
          have nf1 : w6.frozen? ⟨wr.heap.size, 1, none⟩ = false := hrow.thaw 1
          have nl : wr.heap.size < w6.heap.size := hrow.lt
          refine hK.out _ _ (HSt.out _ hb6') (fun hHeld => ?_)
          clear hK K hf6 hb6 hrow
          refine wpAnyH_take (i := 6) (oi := ⟨some 53, _, _, _, _, _⟩) (v := ?_) rfl (by kernel_rfl) (by kernel_rfl) (by kernel_rfl) (fun _ _ _ h => h) (Or.inl ⟨by rfl, ?_⟩) hHeld ?_
          rotate_left
          · intro W hSw
            obtain ⟨sd0, sd1, so0, so1, so2, so3, sdl, sol⟩ := hSw
            go_simp
            with_reducible rfl
          simp only [Act.put, List.setIfInBounds_toArray, List.set_cons_zero, List.set_cons_succ]
          refine wpAnyH_take (i := 7) (oi := ⟨some 60, _, _, _, _, _⟩) (v := ?_) rfl (by kernel_rfl) (by kernel_rfl) (by kernel_rfl) (fun _ _ _ h => h) (Or.inl ⟨by rfl, ?_⟩) hHeld ?_
          rotate_left
          · intro W hSw
            obtain ⟨sd0, sd1, so0, so1, so2, so3, sdl, sol⟩ := hSw
            go_simp
            with_reducible rfl
          simp only [Act.put, List.setIfInBounds_toArray, List.set_cons_zero, List.set_cons_succ]
          refine wpAnyH_take (i := 8) (oi := ⟨some 61, _, _, _, _, _⟩) (v := ?_) rfl (by kernel_rfl) (by kernel_rfl) (by kernel_rfl) (fun _ _ _ h => h) (Or.inl ⟨by rfl, ?_⟩) hHeld ?_
          rotate_left
          · intro W hSw
            obtain ⟨sd0, sd1, so0, so1, so2, so3, sdl, sol⟩ := hSw
            go_simp
            with_reducible rfl
          simp only [Act.put, List.setIfInBounds_toArray, List.set_cons_zero, List.set_cons_succ]
          refine wpAnyH_ready (rs := [10]) (by kernel_rfl) (by simp) ?_
          refine AllReadyH.cons (o := ⟨none, _, _, _, _, _⟩) rfl (fun K hK => ?_) AllReadyH.nil
          go_simp
          refine hK.out _ _ (HSt.out _ ((hb6'.setCell (by show wr.heap.size ≤ wr.heap.size; omega) _).setCell (by show wr.heap.size ≤ wr.heap.size; omega) _)) (fun hHeld => ?_)
          clear hK K
          refine wpAnyH_take (i := 11) (oi := ⟨some 12, _, _, _, _, _⟩) (v := ?_) rfl (by kernel_rfl) (by kernel_rfl) (by kernel_rfl) (fun _ _ _ h => h) (Or.inl ⟨by rfl, ?_⟩) hHeld ?_
          rotate_left
          · intro W hSw
            obtain ⟨sd0, sd1, so0, so1, so2, so3, sdl, sol⟩ := hSw
            go_simp
            with_reducible rfl
          simp only [Act.put, List.setIfInBounds_toArray, List.set_cons_zero, List.set_cons_succ]
          refine wpAnyH_done (by kernel_rfl) ?_ _
          go_wp2_with fail
          go_meet
          exact ⟨_, r6, a6, c6, rfl, rfl, hr6, HC.out⟩
      case rest =>
        obtain ⟨nb, r6, a6, c6, rfl, rfl, hr6, hcf⟩ := hcut
        have hs6 := HSt9.out.cut hcf
        rw [← HSu.out] at hr6
        obtain ⟨er, her⟩ : ∃ er, er = (doL room (allL room l k) ⟨xk, xn, xt, xd⟩).2 := ⟨_, rfl⟩
        rw [← her]
        have e0 : wc.cell? ⟨nb, 0, none⟩ = some (.int .i64 room) := hcf.row.cell 0
        have e1 : wc.cell? ⟨nb, 1, none⟩ = some (.slice a6 r6.length c6) := hcf.row.cell 1
        have el := hcf.row.lt
        have hrb := HSt9.out.row.under hcf.back HSt9.out.row.lt
        have b0 : wc.cell? ⟨bt, 0, none⟩ = some (.int .i64 room) := hrb.cell 0
        have b1 : wc.cell? ⟨bt, 1, none⟩ = some (.slice ak rk.length ck) := hrb.cell 1
        have bf0 := hrb.thaw 0
        have bf1 := hrb.thaw 1
        have bl := hrb.lt
        obtain ⟨wd, hwd⟩ : ∃ wd, wd = (wc.setCell ⟨bt, 0, none⟩ (.int .i64 room)).setCell ⟨bt, 1, none⟩ (.slice a6 r6.length c6) := ⟨_, rfl⟩
        rw [← hwd] at hs6
        obtain ⟨o0, o1, o2, o3, _⟩ := HOp.out wd hs6.md.back
        have ol : b < wd.heap.size := block_lt_of_cell o0
        have HDo6 := Lib.hid (hs6.do ⟨xk, xn, xt, xd⟩ ax cx (by have := HFit.out; unfold Sm; omega) hr0 hr1 (hs6.argR HXd.out) (Nat.le_trans HFit.out.2.2.2.2 (by omega)))
        rw [← her, ← HSu.out] at HDo6
        have HMp := Lib.hid hr6
        have HWd := Lib.hid hwd
        simp only at o0 o1 o2 o3
        rw [hwd] at o0 o1 o2 o3 ol
        clear hs6 hcf hrb hr6 her hwd HDo HTk HSt
        generalize moreT T wr.heap.size wc.heap.size = T6 at *
        go_wp2_with fail
        rw [← HWd.out]
        refine HDo6.out.mono ?_
        rintro e w7 ⟨rfl, hs7⟩
        have HS7 := Lib.hid hs7
        have HF2 := Lib.hid (show Sm (allL room l (k + 1)) by have := HFit.out; unfold Sm; omega)
        have HF3 := Lib.hid (show sizeL (allL room l (k + 1)) + looseL (allL room l (k + 1)) + (allL room l (k + 1)).length ≤ 100000 by have := HFit.out; omega)
        clear hs7 e0 e1 el b0 b1 bf0 bf1 bl o0 o1 o2 o3 ol
        go_wp2_with fail
        refine (HS7.out.read name HF2.out HMn.out).mono ?_
        rintro e w8 ⟨a8, c8, rfl, hB8, hs8, hb8⟩
        have HS8 := Lib.hid hs8
        have HBy8 := Lib.hid hB8
        have f0 : w8.cell? ⟨bt, 0, none⟩ = some (.int .i64 room) := hs8.row.cell 0
        have f1 : w8.cell? ⟨bt, 1, none⟩ = some (.slice a6 r6.length c6) := hs8.row.cell 1
        have fl := hs8.row.lt
        clear hs8 hB8 hb8
        go_wp2_with fail
        refine (HS8.out.rread HMp.out HFit.out.2.2.1 HF3.out name).mono ?_
        rintro e w9 ⟨a9, c9, rfl, hB9, hs9, hb9⟩
        have HS9 := Lib.hid hs9
        have HBy9 := Lib.hid hB9
        have HBy89 := Lib.hid (HBy8.out.under hb9)
        have g0 : w9.cell? ⟨bt, 0, none⟩ = some (.int .i64 room) := hs9.row.cell 0
        have g1 : w9.cell? ⟨bt, 1, none⟩ = some (.slice a6 r6.length c6) := hs9.row.cell 1
        have gl := hs9.row.lt
        clear hs9 hB9 hb9 f0 f1 fl
        generalize hrd : (readL (allL room l (k + 1)) name) = rr at *
        go_wp2_with fail
        refine (HS9.out.same HMp.out HF3.out HFit.out.2.2.2.1).mono ?_
        rintro e w10 ⟨rfl, hs10, hb10⟩
        have HS10 := Lib.hid hs10
        have HSa := Lib.hid (same_any a8 a9 rr.1 rr.1 c8 c9 w10 (HBy89.out.under hb10) (HBy9.out.under hb10))
        rw [decide_eq_true rfl] at HSa
        clear hs10 hb10 g0 g1 gl
        go_wp2_with fail
        refine HSa.out.mono ?_
        rintro e w11 ⟨rfl, hw11⟩
        subst hw11
        have HRel := Lib.hid (show StE W g bt room l (k + 1) w10 from ⟨T6, r6, a6, c6, HS10.out, HMp.out⟩)
        go_wp2
        go_roundw
        case rel =>
          first
            | exact ⟨k + 1, by omega, by go_num, HRel.out⟩
            | exact ⟨_, _, _, _, _, _, _, _, ⟨k + 1, by omega, by go_num, HRel.out⟩, rfl, rfl, rfl, rfl, rfl, rfl, rfl, rfl⟩
        case measure => simp [intOf]; omega
    · have hlt' : ¬ (k : Int) < (l.length : Int) := by omega
      have HK := Lib.hid (known_end hst.md.back)
      clear hst hmp hfit
      go_wp2_with fail
      refine HK.out.mono ?_
      rintro e w9 ⟨rfl, hb9⟩
      have HB9 := Lib.hid hb9
      clear hb9
      go_wp2
      go_ret
      exact ⟨rfl, HB9.out⟩
set_option maxRecDepth 100000 in
theorem steps_out (room : Int) (hro : room < 0 ∨ 1099511627776 < room) (ad : Option Addr) (l : List Ope) (c : Nat) (name : Nm) (W : World) (hO : Ops W (fun k => k < W.heap.size) ad l) (hF : Few l) (hl : l.length ≤ 60) (hz : longL l ≤ 1000) :
    Calls Try.prog 3 #[.int .i64 room, .slice ad l.length c, .string ⟨name.toArray⟩] W fun e w' => e = .returned (.bool true) ∧ Below W.heap.size W w' := by
  have HL := Lib.hid (long_few (c := c) hO (by omega) hF)
  have hz' : ¬ (1000 : Int) < (longL l : Int) := by omega
  have hlJ : ¬ (60 : Int) < (l.length : Int) := by omega
  have hlI : (l.length : Int) ≤ 60 := by omega
  have HRo := Lib.hid hro
  clear hO hF hz hro
  generalize longL l = z at *
  go_enter Try.func3, Try.ntmps3
  go_wp2_with fail
  refine HL.out.mono ?_
  rintro e w1 ⟨rfl, hb1⟩
  have HB1 := Lib.hid hb1
  have HN := Lib.hid (rnew_out room w1 HRo.out)
  clear hb1 HL
  go_wp2_with fail
  refine HN.out.mono ?_
  rintro e w2 ⟨rfl, hb2⟩
  have HB2 := Lib.hid ((HB1.out.trans (hb2.mono HB1.out.size)).alloc (Nat.le_trans HB1.out.size hb2.size) (.cells #[.int .i64 room, .slice none 0 0] 27))
  have HN2 := Lib.hid (new_out room (w2.alloc (.cells #[.int .i64 room, .slice none 0 0] 27)) HRo.out)
  clear hb2
  go_wp2_with fail
  refine HN2.out.mono ?_
  rintro e w3 ⟨rfl, hw3⟩
  have HB3 : Hid (Below W.heap.size W w3) := by rw [hw3]; exact HB2.out
  clear hw3
  have HDn := Lib.hid (do_nil ⟨1, [97], [], []⟩ none 0 w3)
  go_wp2_with fail
  refine HDn.out.mono ?_
  rintro e w4 ⟨rfl, hb4⟩
  have HK := Lib.hid (known_end (HB3.out.trans (hb4.mono HB3.out.size)))
  clear hb4
  go_wp2_with fail
  refine HK.out.mono ?_
  rintro e w9 ⟨rfl, hb9⟩
  have HB9 := Lib.hid hb9
  clear hb9
  go_wp2
  go_ret
  exact ⟨rfl, HB9.out⟩
theorem steps_walk (room : Int) (ad : Option Addr) (l : List Ope) (c : Nat) (name : Nm) (hn9 : name.length ≤ 140737488351232) (W : World) (hO : Ops W (fun k => k < W.heap.size) ad l) (hF : Few l) (hl9 : l.length ≤ 140737488351232) :
    Calls Try.prog 3 #[.int .i64 room, .slice ad l.length c, .string ⟨name.toArray⟩] W fun e w' => e = .returned (.bool true) ∧ Below W.heap.size W w' := by
  by_cases hs : 1000 < longL l ∨ 60 < l.length
  · exact steps_big room ad l c name W hO hF hl9 hs
  · by_cases hro : room < 0 ∨ 1099511627776 < room
    · exact steps_out room hro ad l c name W hO hF (by omega) (by omega)
    · exact steps_small room (by omega) (by omega) ad l c name hn9 W hO hF (by omega) (by omega)
end Go.Proofs.Ythheolhghhmdlaa
