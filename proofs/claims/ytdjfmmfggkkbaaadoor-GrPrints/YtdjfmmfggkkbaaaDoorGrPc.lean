/- The document's Print (written by mkgrpc.py). -/
import Derived.Test.YtdjfmmfggkkbaaaDoorGrPb
namespace Go.Proofs.YtdjfmmfggkkbaaaDoor
open Go.RowKit Go.Shelf Grm

theorem tx_cat (A B : Tx) : (⟨A.toArray⟩ : ByteArray) ++ ⟨B.toArray⟩ = ⟨(A ++ B).toArray⟩ := by apply ByteArray.ext; simp
set_option maxHeartbeats 4000000 in
set_option maxRecDepth 100000 in
theorem rprint_bad (n : Int) (a : Option Addr) (l : List Ar) (c : Nat) (w : World) (hl : Arcs w a l) (hc : checkL n l ≠ 0) :
    Calls Tryd.prog 15 #[mV n a l.length c] w fun e w' => e = .returned (.tuple #[txV [], .int .i64 (checkL n l)]) ∧ Below w.heap.size w w' := by
  have HA := Lib.hid (show Below w.heap.size w (w.alloc (.cells #[.int .i64 n, .slice a l.length c] 25)) from (Below.refl _ _).alloc (Nat.le_refl _) _)
  have HC := Lib.hid (rcheck_any n a l c _ (hl.under HA.out))
  have h0 : ¬ checkL n l = 0 := hc
  clear hl hc
  generalize checkL n l = R at *
  go_enter Tryd.func15, Tryd.ntmps15
  go_wp2_with fail
  refine HC.out.mono ?_
  rintro e w1 ⟨rfl, hb1⟩
  have HB1 := Lib.hid (HA.out.trans (hb1.mono HA.out.size))
  clear hb1
  go_wp2
  go_ret2
  exact ⟨rfl, HB1.out⟩
set_option maxHeartbeats 4000000 in
set_option maxRecDepth 100000 in
theorem rprint_good (n : Nat) (a : Option Addr) (l : List Ar) (c : Nat) (w : World) (hl : Arcs w a l) (hc : checkL (n : Nat) l = 0) :
    Calls Tryd.prog 15 #[mV (n : Nat) a l.length c] w fun e w' => e = .returned (.tuple #[txV (printL (n : Nat) l), .int .i64 0]) ∧ Below w.heap.size w w' := by
  obtain ⟨w1, hw1⟩ : ∃ w1, w1 = w.alloc (.cells #[.int .i64 (n : Nat), .slice a l.length c] 25) := ⟨_, rfl⟩
  have hb1 : Below w.heap.size w w1 := by rw [hw1]; exact (Below.refl _ _).alloc (Nat.le_refl _) _
  have hr1 : Row w1 w.heap.size 25 #[.int .i64 (n : Nat), .slice a l.length c] := by rw [hw1]; exact Row.fresh w _ _
  have HL := Lib.hid (hl.under hb1)
  have HK := Lib.hid (check_ok hc)
  have HCc := Lib.hid (rcheck_any (n : Nat) a l c w1 HL.out)
  rw [hc] at HCc
  have HW := Lib.hid hw1
  have HB1 := Lib.hid hb1
  have HR1 := Lib.hid hr1
  have hz : w.heap.size < w1.heap.size := hr1.lt
  have hn9 := HK.out.2.1
  have hl9 := HK.out.2.2.1
  have i2 : (l.length : Int) ≤ 67108864 := by omega
  clear hl hc hb1 hw1
  have c0 := hr1.cell 0
  have c1 := hr1.cell 1
  simp only [List.getElem?_toArray, List.getElem?_cons_zero, List.getElem?_cons_succ] at c0 c1
  clear hr1
  obtain ⟨D0, hD0⟩ : ∃ D0 : ByteArray, D0 = ⟨(digL n).toArray⟩ := ⟨_, rfl⟩
  obtain ⟨D1, hD1⟩ : ∃ D1 : ByteArray, D1 = ⟨(digL l.length).toArray⟩ := ⟨_, rfl⟩
  have HD0 := Lib.hid (digits_any n (by omega))
  have HD1 := Lib.hid (digits_any l.length (by omega))
  have s0 : D0.size ≤ 19 := by rw [hD0, gr_size]; exact digL_len19 n (by omega)
  have s1 : D1.size ≤ 19 := by rw [hD1, gr_size]; exact digL_len19 l.length (by omega)
  unfold txV at HD0 HD1
  rw [← hD0] at HD0
  rw [← hD1] at HD1
  have HE0 := Lib.hid hD0
  have HE1 := Lib.hid hD1
  have k0 : ¬ 9223372036854775807 < 5 + D0.size := by omega
  have k1 : ¬ 9223372036854775807 < 5 + D0.size + 1 := by omega
  have k2 : ¬ 9223372036854775807 < 5 + D0.size + 1 + D1.size := by omega
  have k3 : ¬ 9223372036854775807 < 5 + D0.size + 1 + D1.size + 1 := by omega
  clear hD0 hD1 s0 s1
  go_enter Tryd.func15, Tryd.ntmps15
  go_wp2_with fail
  rw [← HW.out]
  refine HCc.out.mono ?_
  rintro e w2 ⟨rfl, hb2⟩
  have hr2 := HR1.out.under hb2 HR1.out.lt
  have HB2 := Lib.hid hb2
  have d0 := hr2.cell 0
  have d1 := hr2.cell 1
  simp only [List.getElem?_toArray, List.getElem?_cons_zero, List.getElem?_cons_succ] at d0 d1
  have HR2 := Lib.hid hr2
  have hz2 : w.heap.size < w2.heap.size := hr2.lt
  clear hb2 c0 c1 hr2
  go_upto_region 4 with (fail)
  have HSt := Lib.hid (show ∀ W, Below w2.heap.size w2 W → (W.cell? ⟨w.heap.size, 0, none⟩ = some (.int .i64 (n : Nat)) ∧ W.cell? ⟨w.heap.size, 1, none⟩ = some (.slice a l.length c)) from fun W hW => ⟨(HR2.out.under hW hz2).cell 0, (HR2.out.under hW hz2).cell 1⟩)
  have HBd := Lib.hid (show Below w2.heap.size w2 w2.drew from (Below.refl _ _).drew)
  refine wp_region_held_drew (S := fun W => W.cell? ⟨w.heap.size, 0, none⟩ = some (.int .i64 (n : Nat)) ∧ W.cell? ⟨w.heap.size, 1, none⟩ = some (.slice a l.length c)) (by kernel_rfl) (HSt.out _ HBd.out) (fun hHeld => ?_)
  refine wpAnyH_take (i := 0) (oi := ⟨some 13, _, _, _, _, _⟩) (v := ?_) rfl (by kernel_rfl) (by kernel_rfl) (by kernel_rfl) (fun _ _ _ h => h) (Or.inl ⟨by rfl, ?_⟩) hHeld ?_
  rotate_left
  · intro W hSw
    obtain ⟨s0, s1⟩ := hSw
    go_simp
    with_reducible rfl
  simp only [Act.put, List.setIfInBounds_toArray, List.set_cons_zero, List.set_cons_succ]
  refine wpAnyH_take (i := 1) (oi := ⟨some 14, _, _, _, _, _⟩) (v := ?_) rfl (by kernel_rfl) (by kernel_rfl) (by kernel_rfl) (fun _ _ _ h => h) (Or.inl ⟨by rfl, ?_⟩) hHeld ?_
  rotate_left
  · intro W hSw
    obtain ⟨s0, s1⟩ := hSw
    go_simp
    with_reducible rfl
  simp only [Act.put, List.setIfInBounds_toArray, List.set_cons_zero, List.set_cons_succ]
  refine wpAnyH_take (i := 5) (oi := ⟨some 18, _, _, _, _, _⟩) (v := ?_) rfl (by kernel_rfl) (by kernel_rfl) (by kernel_rfl) (fun _ _ _ h => h) (Or.inl ⟨by rfl, ?_⟩) hHeld ?_
  rotate_left
  · intro W hSw
    obtain ⟨s0, s1⟩ := hSw
    go_simp
    with_reducible rfl
  simp only [Act.put, List.setIfInBounds_toArray, List.set_cons_zero, List.set_cons_succ]
  refine wpAnyH_take (i := 6) (oi := ⟨some 19, _, _, _, _, _⟩) (v := ?_) rfl (by kernel_rfl) (by kernel_rfl) (by kernel_rfl) (fun _ _ _ h => h) (Or.inl ⟨by rfl, ?_⟩) hHeld ?_
  rotate_left
  · intro W hSw
    obtain ⟨s0, s1⟩ := hSw
    go_simp
    with_reducible rfl
  simp only [Act.put, List.setIfInBounds_toArray, List.set_cons_zero, List.set_cons_succ]
  refine wpAnyH_take (i := 7) (oi := ⟨some 20, _, _, _, _, _⟩) (v := ?_) rfl (by kernel_rfl) (by kernel_rfl) (by kernel_rfl) (fun _ _ _ h => h) (Or.inl ⟨by rfl, ?_⟩) hHeld ?_
  rotate_left
  · intro W hSw
    obtain ⟨s0, s1⟩ := hSw
    go_simp
    with_reducible rfl
  simp only [Act.put, List.setIfInBounds_toArray, List.set_cons_zero, List.set_cons_succ]
  refine wpAnyH_ready (rs := [2]) (by kernel_rfl) (by simp) ?_
  refine (AllReadyH.cons (o := ⟨some 15, _, _, _, _, _⟩) rfl (fun K hK => ?_) AllReadyH.nil)
  go_simp
  refine (HD0.out _).mono ?_
  rintro e wa ⟨rfl, hbx⟩
  have HBwa := Lib.hid (HBd.out.trans (hbx.mono HBd.out.size))
  have hSn := HSt.out _ HBwa.out
  clear hbx
  refine hK.out _ _ hSn (fun hHeld2 => ?_)
  clear hK K hHeld hSn
  have hHeld := hHeld2
  clear hHeld2
  refine wpAnyH_take (i := 3) (oi := ⟨some 16, _, _, _, _, _⟩) (v := ?_) rfl (by kernel_rfl) (by kernel_rfl) (by kernel_rfl) (fun _ _ _ h => h) (Or.inl ⟨by rfl, ?_⟩) hHeld ?_
  rotate_left
  · intro W hSw
    obtain ⟨s0, s1⟩ := hSw
    go_simp
    with_reducible rfl
  simp only [Act.put, List.setIfInBounds_toArray, List.set_cons_zero, List.set_cons_succ]
  refine wpAnyH_take (i := 4) (oi := ⟨some 17, _, _, _, _, _⟩) (v := ?_) rfl (by kernel_rfl) (by kernel_rfl) (by kernel_rfl) (fun _ _ _ h => h) (Or.inl ⟨by rfl, ?_⟩) hHeld ?_
  rotate_left
  · intro W hSw
    obtain ⟨s0, s1⟩ := hSw
    go_simp
    with_reducible rfl
  simp only [Act.put, List.setIfInBounds_toArray, List.set_cons_zero, List.set_cons_succ]
  refine wpAnyH_ready (rs := [8]) (by kernel_rfl) (by simp) ?_
  refine (AllReadyH.cons (o := ⟨some 21, _, _, _, _, _⟩) rfl (fun K hK => ?_) AllReadyH.nil)
  go_simp
  refine (HD1.out _).mono ?_
  rintro e wb ⟨rfl, hbx⟩
  have HBwb := Lib.hid (HBwa.out.trans (hbx.mono HBwa.out.size))
  have hSn := HSt.out _ HBwb.out
  clear hbx
  refine hK.out _ _ hSn (fun hHeld2 => ?_)
  clear hK K hHeld hSn
  have hHeld := hHeld2
  clear hHeld2
  refine wpAnyH_take (i := 9) (oi := ⟨some 22, _, _, _, _, _⟩) (v := ?_) rfl (by kernel_rfl) (by kernel_rfl) (by kernel_rfl) (fun _ _ _ h => h) (Or.inl ⟨by rfl, ?_⟩) hHeld ?_
  rotate_left
  · intro W hSw
    obtain ⟨s0, s1⟩ := hSw
    go_simp
    with_reducible rfl
  simp only [Act.put, List.setIfInBounds_toArray, List.set_cons_zero, List.set_cons_succ]
  refine wpAnyH_take (i := 10) (oi := ⟨some 23, _, _, _, _, _⟩) (v := ?_) rfl (by kernel_rfl) (by kernel_rfl) (by kernel_rfl) (fun _ _ _ h => h) (Or.inl ⟨by rfl, ?_⟩) hHeld ?_
  rotate_left
  · intro W hSw
    obtain ⟨s0, s1⟩ := hSw
    go_simp
    with_reducible rfl
  simp only [Act.put, List.setIfInBounds_toArray, List.set_cons_zero, List.set_cons_succ]
  refine wpAnyH_take (i := 11) (oi := ⟨some 5, _, _, _, _, _⟩) (v := ?_) rfl (by kernel_rfl) (by kernel_rfl) (by kernel_rfl) (fun _ _ _ h => h) (Or.inl ⟨by rfl, ?_⟩) hHeld ?_
  rotate_left
  · intro W hSw
    obtain ⟨s0, s1⟩ := hSw
    go_simp
    with_reducible rfl
  simp only [Act.put, List.setIfInBounds_toArray, List.set_cons_zero, List.set_cons_succ]
  refine wpAnyH_done (by kernel_rfl) ?_ _
  have HTt := Lib.hid (show (⟨#[112, 32, 115, 112, 32]⟩ : ByteArray) ++ D0 ++ ⟨#[32]⟩ ++ D1 ++ ⟨#[10]⟩ = ⟨(headT2 (n : Nat) l ++ linesT (l.take 0)).toArray⟩ by
    rw [HE0.out, HE1.out]
    show (⟨([112, 32, 115, 112, 32] : Tx).toArray⟩ : ByteArray) ++ ⟨(digL n).toArray⟩ ++ ⟨([32] : Tx).toArray⟩ ++ ⟨(digL l.length).toArray⟩ ++ ⟨([10] : Tx).toArray⟩ = _
    rw [tx_cat, tx_cat, tx_cat, tx_cat]
    congr 2
    simp [headT2, nsT, nT, linesT])
  have hlens : ∀ k, k ≤ l.length → (⟨(headT2 (n : Nat) l ++ linesT (l.take k)).toArray⟩ : ByteArray).size ≤ 10000000000 := fun k hk => by
    have q1 := headT2_len (n := (n : Nat)) (l := l) (by omega) HK.out.2.1 HK.out.2.2.1
    have q2 := linesT_len (l := l.take k) HK.out.2.1 (fun x hx => HK.out.2.2.2 x (List.mem_of_mem_take hx))
    have q3 : (l.take k).length ≤ l.length := by rw [List.length_take]; omega
    rw [gr_size, List.length_append]
    omega
  have HLen := Lib.hid hlens
  clear hlens k0 k1 k2 k3 d0 d1 hHeld
  generalize (⟨#[112, 32, 115, 112, 32]⟩ : ByteArray) ++ D0 ++ ⟨#[32]⟩ ++ D1 ++ ⟨#[10]⟩ = S0 at *
  go_wp2
  go_loopw [5, 6] (fun s i wr => ∃ (k : Nat) (S : ByteArray), k ≤ l.length ∧ i = .int .i64 k ∧ s = .string S ∧ S = ⟨(headT2 (n : Nat) l ++ linesT (l.take k)).toArray⟩ ∧ Below w2.heap.size w2 wr) (fun _ i _ => l.length - (intOf i).toNat)
  case atStart => exact ⟨0, S0, by omega, rfl, rfl, HTt.out, HBwb.out⟩
  case round =>
    obtain ⟨k, S, hk, rfl, rfl, hS, hbw⟩ := hrel
    have hS9 : S.size ≤ 10000000000 := by rw [hS]; exact HLen.out k hk
    have HS := Lib.hid hS
    have HBw := Lib.hid hbw
    have hrw := HR2.out.under hbw hz2
    have d1 := hrw.cell 1
    simp only [List.getElem?_toArray, List.getElem?_cons_zero, List.getElem?_cons_succ] at d1
    have HBA := Lib.hid (HB2.out.trans (hbw.mono HB2.out.size))
    have hzr : w2.heap.size ≤ wr.heap.size := hbw.size
    clear hS hbw hrw
    by_cases hlt : k < l.length
    · have hlt' : (k : Int) < (l.length : Int) := by omega
      obtain ⟨ba, oa, rfl, x0, x1, x2⟩ := (HL.out.under HBA.out).at_ hlt
      have HSt2 := Lib.hid (linesT_take hlt)
      have HG := Lib.hid (HK.out.2.2.2 _ (List.getElem_mem hlt))
      generalize l[k]'hlt = p at *
      obtain ⟨p0, p1, p2⟩ := p
      simp only at x0 x1 x2
      have hgd := HG.out
      simp only [badA, decide_eq_false_iff_not] at hgd
      obtain ⟨u0, rfl⟩ := Int.eq_ofNat_of_zero_le (a := p0) (by omega)
      obtain ⟨u1, rfl⟩ := Int.eq_ofNat_of_zero_le (a := p1) (by omega)
      obtain ⟨u2, rfl⟩ := Int.eq_ofNat_of_zero_le (a := p2) (by omega)
      have j0 : (u0 : Int) < 16777216 := by omega
      have j1 : (u1 : Int) < 16777216 := by omega
      have j2 : (u2 : Int) ≤ 2147483648 := by omega
      obtain ⟨Da, hDa⟩ : ∃ D : ByteArray, D = ⟨(digL (u0 + 1)).toArray⟩ := ⟨_, rfl⟩
      obtain ⟨Db, hDb⟩ : ∃ D : ByteArray, D = ⟨(digL (u1 + 1)).toArray⟩ := ⟨_, rfl⟩
      obtain ⟨Dc, hDc⟩ : ∃ D : ByteArray, D = ⟨(digL u2).toArray⟩ := ⟨_, rfl⟩
      have HDa0 := digits_any (u0 + 1) (by omega)
      have q0 : ((u0 + 1 : Nat) : Int) = (u0 : Int) + 1 := by omega
      rw [q0] at HDa0
      have HDa := Lib.hid HDa0
      have HDb0 := digits_any (u1 + 1) (by omega)
      have q1 : ((u1 + 1 : Nat) : Int) = (u1 : Int) + 1 := by omega
      rw [q1] at HDb0
      have HDb := Lib.hid HDb0
      clear HDa0 HDb0 q0 q1
      have HDc := Lib.hid (digits_any u2 (by omega))
      have sa : Da.size ≤ 19 := by rw [hDa, gr_size]; exact digL_len19 _ (by omega)
      have sb : Db.size ≤ 19 := by rw [hDb, gr_size]; exact digL_len19 _ (by omega)
      have sc : Dc.size ≤ 19 := by rw [hDc, gr_size]; exact digL_len19 _ (by omega)
      unfold txV at HDa HDb HDc
      rw [← hDa] at HDa
      rw [← hDb] at HDb
      rw [← hDc] at HDc
      have HEa := Lib.hid hDa
      have HEb := Lib.hid hDb
      have HEc := Lib.hid hDc
      have hw0 : IntKind.i64.wrap ((u0 : Int) + 1) = (u0 : Int) + 1 := by rw [IntKind.wrap_i64]; omega
      have hw1 : IntKind.i64.wrap ((u1 : Int) + 1) = (u1 : Int) + 1 := by rw [IntKind.wrap_i64]; omega
      have k0 : ¬ 9223372036854775807 < S.size + 2 := by omega
      have k1 : ¬ 9223372036854775807 < S.size + 2 + Da.size := by omega
      have k2 : ¬ 9223372036854775807 < S.size + 2 + Da.size + 1 := by omega
      have k3 : ¬ 9223372036854775807 < S.size + 2 + Da.size + 1 + Db.size := by omega
      have k4 : ¬ 9223372036854775807 < S.size + 2 + Da.size + 1 + Db.size + 1 := by omega
      have k5 : ¬ 9223372036854775807 < S.size + 2 + Da.size + 1 + Db.size + 1 + Dc.size := by omega
      have k6 : ¬ 9223372036854775807 < S.size + 2 + Da.size + 1 + Db.size + 1 + Dc.size + 1 := by omega
      have HGD := Lib.hid hgd
      clear hgd hDa hDb hDc sa sb sc hS9
      go_upto_region 9 with (fail)
      have hrx := Row.fresh wr 50 #[.int .i64 (u0 : Nat), .int .i64 (u1 : Nat), .int .i64 (u2 : Nat)]
      have HBy := Lib.hid (HBw.out.alloc hzr (.cells #[.int .i64 (u0 : Nat), .int .i64 (u1 : Nat), .int .i64 (u2 : Nat)] 50))
      clear x0 x1 x2
      generalize (wr.alloc (.cells #[.int .i64 (u0 : Nat), .int .i64 (u1 : Nat), .int .i64 (u2 : Nat)] 50)) = w5 at *
      generalize wr.heap.size = bx at *
      have HSx := Lib.hid (show ∀ W, Below w5.heap.size w5 W → (W.cell? ⟨bx, 0, none⟩ = some (.int .i64 (u0 : Nat)) ∧ W.cell? ⟨bx, 1, none⟩ = some (.int .i64 (u1 : Nat)) ∧ W.cell? ⟨bx, 2, none⟩ = some (.int .i64 (u2 : Nat))) from fun W hW => ⟨(hrx.under hW hrx.lt).cell 0, (hrx.under hW hrx.lt).cell 1, (hrx.under hW hrx.lt).cell 2⟩)
      have HBe := Lib.hid (show Below w5.heap.size w5 w5.drew from (Below.refl _ _).drew)
      clear hrx
      refine wp_region_held_drew (S := fun W => W.cell? ⟨bx, 0, none⟩ = some (.int .i64 (u0 : Nat)) ∧ W.cell? ⟨bx, 1, none⟩ = some (.int .i64 (u1 : Nat)) ∧ W.cell? ⟨bx, 2, none⟩ = some (.int .i64 (u2 : Nat))) (by kernel_rfl) (HSx.out _ HBe.out) (fun hHeld => ?_)
      refine wpAnyH_take (i := 0) (oi := ⟨some 36, _, _, _, _, _⟩) (v := ?_) rfl (by kernel_rfl) (by kernel_rfl) (by kernel_rfl) (fun _ _ _ h => h) (Or.inl ⟨by rfl, ?_⟩) hHeld ?_
      rotate_left
      · intro W hSw
        obtain ⟨s0, s1, s2⟩ := hSw
        go_simp
        with_reducible rfl
      simp only [Act.put, List.setIfInBounds_toArray, List.set_cons_zero, List.set_cons_succ]
      refine wpAnyH_take (i := 1) (oi := ⟨some 37, _, _, _, _, _⟩) (v := ?_) rfl (by kernel_rfl) (by kernel_rfl) (by kernel_rfl) (fun _ _ _ h => h) (Or.inl ⟨by rfl, ?_⟩) hHeld ?_
      rotate_left
      · intro W hSw
        obtain ⟨s0, s1, s2⟩ := hSw
        go_simp
        with_reducible rfl
      simp only [Act.put, List.setIfInBounds_toArray, List.set_cons_zero, List.set_cons_succ]
      refine wpAnyH_take (i := 2) (oi := ⟨some 38, _, _, _, _, _⟩) (v := ?_) rfl (by kernel_rfl) (by kernel_rfl) (by kernel_rfl) (fun _ _ _ h => h) (Or.inl ⟨by rfl, ?_⟩) hHeld ?_
      rotate_left
      · intro W hSw
        obtain ⟨s0, s1, s2⟩ := hSw
        go_simp
        with_reducible rfl
      simp only [Act.put, List.setIfInBounds_toArray, List.set_cons_zero, List.set_cons_succ]
      refine wpAnyH_take (i := 3) (oi := ⟨some 39, _, _, _, _, _⟩) (v := ?_) rfl (by kernel_rfl) (by kernel_rfl) (by kernel_rfl) (fun _ _ _ h => h) (Or.inl ⟨by rfl, ?_⟩) hHeld ?_
      rotate_left
      · intro W hSw
        obtain ⟨s0, s1, s2⟩ := hSw
        go_simp
        with_reducible rfl
      simp only [Act.put, List.setIfInBounds_toArray, List.set_cons_zero, List.set_cons_succ]
      refine wpAnyH_take (i := 4) (oi := ⟨some 40, _, _, _, _, _⟩) (v := ?_) rfl (by kernel_rfl) (by kernel_rfl) (by kernel_rfl) (fun _ _ _ h => h) (Or.inl ⟨by rfl, ?_⟩) hHeld ?_
      rotate_left
      · intro W hSw
        obtain ⟨s0, s1, s2⟩ := hSw
        go_simp
        with_reducible rfl
      simp only [Act.put, List.setIfInBounds_toArray, List.set_cons_zero, List.set_cons_succ]
      refine wpAnyH_take (i := 8) (oi := ⟨some 44, _, _, _, _, _⟩) (v := ?_) rfl (by kernel_rfl) (by kernel_rfl) (by kernel_rfl) (fun _ _ _ h => h) (Or.inl ⟨by rfl, ?_⟩) hHeld ?_
      rotate_left
      · intro W hSw
        obtain ⟨s0, s1, s2⟩ := hSw
        go_simp
        with_reducible rfl
      simp only [Act.put, List.setIfInBounds_toArray, List.set_cons_zero, List.set_cons_succ]
      refine wpAnyH_take (i := 9) (oi := ⟨some 45, _, _, _, _, _⟩) (v := ?_) rfl (by kernel_rfl) (by kernel_rfl) (by kernel_rfl) (fun _ _ _ h => h) (Or.inl ⟨by rfl, ?_⟩) hHeld ?_
      rotate_left
      · intro W hSw
        obtain ⟨s0, s1, s2⟩ := hSw
        go_simp
        with_reducible rfl
      simp only [Act.put, List.setIfInBounds_toArray, List.set_cons_zero, List.set_cons_succ]
      refine wpAnyH_take (i := 10) (oi := ⟨some 46, _, _, _, _, _⟩) (v := ?_) rfl (by kernel_rfl) (by kernel_rfl) (by kernel_rfl) (fun _ _ _ h => h) (Or.inl ⟨by rfl, ?_⟩) hHeld ?_
      rotate_left
      · intro W hSw
        obtain ⟨s0, s1, s2⟩ := hSw
        go_simp
        with_reducible rfl
      simp only [Act.put, List.setIfInBounds_toArray, List.set_cons_zero, List.set_cons_succ]
      refine wpAnyH_take (i := 14) (oi := ⟨some 50, _, _, _, _, _⟩) (v := ?_) rfl (by kernel_rfl) (by kernel_rfl) (by kernel_rfl) (fun _ _ _ h => h) (Or.inl ⟨by rfl, ?_⟩) hHeld ?_
      rotate_left
      · intro W hSw
        obtain ⟨s0, s1, s2⟩ := hSw
        go_simp
        with_reducible rfl
      simp only [Act.put, List.setIfInBounds_toArray, List.set_cons_zero, List.set_cons_succ]
      refine wpAnyH_take (i := 15) (oi := ⟨some 51, _, _, _, _, _⟩) (v := ?_) rfl (by kernel_rfl) (by kernel_rfl) (by kernel_rfl) (fun _ _ _ h => h) (Or.inl ⟨by rfl, ?_⟩) hHeld ?_
      rotate_left
      · intro W hSw
        obtain ⟨s0, s1, s2⟩ := hSw
        go_simp
        with_reducible rfl
      simp only [Act.put, List.setIfInBounds_toArray, List.set_cons_zero, List.set_cons_succ]
      refine wpAnyH_ready (rs := [5]) (by kernel_rfl) (by simp) ?_
      refine (AllReadyH.cons (o := ⟨some 41, _, _, _, _, _⟩) rfl (fun K hK => ?_) AllReadyH.nil)
      go_simp
      refine (HDa.out _).mono ?_
      rintro e wc ⟨rfl, hbx⟩
      have HBwc := Lib.hid (HBe.out.trans (hbx.mono HBe.out.size))
      have hSn := HSx.out _ HBwc.out
      clear hbx
      refine hK.out _ _ hSn (fun hHeld2 => ?_)
      clear hK K hHeld hSn
      have hHeld := hHeld2
      clear hHeld2
      refine wpAnyH_take (i := 6) (oi := ⟨some 42, _, _, _, _, _⟩) (v := ?_) rfl (by kernel_rfl) (by kernel_rfl) (by kernel_rfl) (fun _ _ _ h => h) (Or.inl ⟨by rfl, ?_⟩) hHeld ?_
      rotate_left
      · intro W hSw
        obtain ⟨s0, s1, s2⟩ := hSw
        go_simp
        with_reducible rfl
      simp only [Act.put, List.setIfInBounds_toArray, List.set_cons_zero, List.set_cons_succ]
      refine wpAnyH_take (i := 7) (oi := ⟨some 43, _, _, _, _, _⟩) (v := ?_) rfl (by kernel_rfl) (by kernel_rfl) (by kernel_rfl) (fun _ _ _ h => h) (Or.inl ⟨by rfl, ?_⟩) hHeld ?_
      rotate_left
      · intro W hSw
        obtain ⟨s0, s1, s2⟩ := hSw
        go_simp
        with_reducible rfl
      simp only [Act.put, List.setIfInBounds_toArray, List.set_cons_zero, List.set_cons_succ]
      refine wpAnyH_ready (rs := [11]) (by kernel_rfl) (by simp) ?_
      refine (AllReadyH.cons (o := ⟨some 47, _, _, _, _, _⟩) rfl (fun K hK => ?_) AllReadyH.nil)
      go_simp
      refine (HDb.out _).mono ?_
      rintro e wd ⟨rfl, hbx⟩
      have HBwd := Lib.hid (HBwc.out.trans (hbx.mono HBwc.out.size))
      have hSn := HSx.out _ HBwd.out
      clear hbx
      refine hK.out _ _ hSn (fun hHeld2 => ?_)
      clear hK K hHeld hSn
      have hHeld := hHeld2
      clear hHeld2
      refine wpAnyH_take (i := 12) (oi := ⟨some 48, _, _, _, _, _⟩) (v := ?_) rfl (by kernel_rfl) (by kernel_rfl) (by kernel_rfl) (fun _ _ _ h => h) (Or.inl ⟨by rfl, ?_⟩) hHeld ?_
      rotate_left
      · intro W hSw
        obtain ⟨s0, s1, s2⟩ := hSw
        go_simp
        with_reducible rfl
      simp only [Act.put, List.setIfInBounds_toArray, List.set_cons_zero, List.set_cons_succ]
      refine wpAnyH_take (i := 13) (oi := ⟨some 49, _, _, _, _, _⟩) (v := ?_) rfl (by kernel_rfl) (by kernel_rfl) (by kernel_rfl) (fun _ _ _ h => h) (Or.inl ⟨by rfl, ?_⟩) hHeld ?_
      rotate_left
      · intro W hSw
        obtain ⟨s0, s1, s2⟩ := hSw
        go_simp
        with_reducible rfl
      simp only [Act.put, List.setIfInBounds_toArray, List.set_cons_zero, List.set_cons_succ]
      refine wpAnyH_ready (rs := [16]) (by kernel_rfl) (by simp) ?_
      refine (AllReadyH.cons (o := ⟨some 52, _, _, _, _, _⟩) rfl (fun K hK => ?_) AllReadyH.nil)
      go_simp
      refine (HDc.out _).mono ?_
      rintro e we ⟨rfl, hbx⟩
      have HBwe := Lib.hid (HBwd.out.trans (hbx.mono HBwd.out.size))
      have hSn := HSx.out _ HBwe.out
      clear hbx
      refine hK.out _ _ hSn (fun hHeld2 => ?_)
      clear hK K hHeld hSn
      have hHeld := hHeld2
      clear hHeld2
      refine wpAnyH_take (i := 17) (oi := ⟨some 53, _, _, _, _, _⟩) (v := ?_) rfl (by kernel_rfl) (by kernel_rfl) (by kernel_rfl) (fun _ _ _ h => h) (Or.inl ⟨by rfl, ?_⟩) hHeld ?_
      rotate_left
      · intro W hSw
        obtain ⟨s0, s1, s2⟩ := hSw
        go_simp
        with_reducible rfl
      simp only [Act.put, List.setIfInBounds_toArray, List.set_cons_zero, List.set_cons_succ]
      refine wpAnyH_take (i := 18) (oi := ⟨some 54, _, _, _, _, _⟩) (v := ?_) rfl (by kernel_rfl) (by kernel_rfl) (by kernel_rfl) (fun _ _ _ h => h) (Or.inl ⟨by rfl, ?_⟩) hHeld ?_
      rotate_left
      · intro W hSw
        obtain ⟨s0, s1, s2⟩ := hSw
        go_simp
        with_reducible rfl
      simp only [Act.put, List.setIfInBounds_toArray, List.set_cons_zero, List.set_cons_succ]
      refine wpAnyH_take (i := 19) (oi := ⟨some 5, _, _, _, _, _⟩) (v := ?_) rfl (by kernel_rfl) (by kernel_rfl) (by kernel_rfl) (fun _ _ _ h => h) (Or.inl ⟨by rfl, ?_⟩) hHeld ?_
      rotate_left
      · intro W hSw
        obtain ⟨s0, s1, s2⟩ := hSw
        go_simp
        with_reducible rfl
      simp only [Act.put, List.setIfInBounds_toArray, List.set_cons_zero, List.set_cons_succ]
      refine wpAnyH_done (by kernel_rfl) ?_ _
      go_wp2
      refine ⟨⟨k + 1, _, by omega, by go_num, rfl, ?_, HBy.out.trans (HBwe.out.mono HBy.out.size)⟩, by simp [intOf]; omega⟩
      rw [HSt2.out, HS.out, HEa.out, HEb.out, HEc.out]
      show (⟨_⟩ : ByteArray) ++ ⟨([97, 32] : Tx).toArray⟩ ++ ⟨(digL (u0 + 1)).toArray⟩ ++ ⟨([32] : Tx).toArray⟩ ++ ⟨(digL (u1 + 1)).toArray⟩ ++ ⟨([32] : Tx).toArray⟩ ++ ⟨(digL u2).toArray⟩ ++ ⟨([10] : Tx).toArray⟩ = _
      rw [tx_cat, tx_cat, tx_cat, tx_cat, tx_cat, tx_cat, tx_cat]
      congr 2
      have e0 : ((u0 : Int) + 1).toNat = u0 + 1 := by omega
      have e1 : ((u1 : Int) + 1).toNat = u1 + 1 := by omega
      simp [lineT, nsT, nT, e0, e1]
    · obtain rfl : k = l.length := by omega
      have hlt' : ¬ (l.length : Int) < (l.length : Int) := by omega
      have hF := HS.out
      rw [List.take_length] at hF
      subst hF
      go_wp2
      go_ret2
      exact ⟨rfl, HB1.out.trans (HBA.out.mono HB1.out.size)⟩
theorem rprint_any (n : Int) (a : Option Addr) (l : List Ar) (c : Nat) (w : World) (hl : Arcs w a l) :
    Calls Tryd.prog 15 #[mV n a l.length c] w (PrintP w n l) := by
  by_cases hc : checkL n l = 0
  · obtain ⟨k, rfl⟩ := Int.eq_ofNat_of_zero_le (check_ok hc).1
    refine (rprint_good k a l c w hl hc).mono ?_
    rintro e w' ⟨rfl, hb⟩
    exact ⟨by rw [if_pos hc, hc], hb⟩
  · refine (rprint_bad n a l c w hl hc).mono ?_
    rintro e w' ⟨rfl, hb⟩
    exact ⟨by rw [if_neg hc], hb⟩
end Go.Proofs.YtdjfmmfggkkbaaaDoor
