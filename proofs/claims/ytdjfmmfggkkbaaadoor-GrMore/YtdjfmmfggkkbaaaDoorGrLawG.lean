/- GrMore. -/
import Derived.Test.YtdjfmmfggkkbaaaDoorGrBm
namespace Go.Proofs.YtdjfmmfggkkbaaaDoor
open Go.RowKit Go.Shelf Grm

set_option maxRecDepth 100000 in
set_option maxHeartbeats 2000000 in
theorem gmore_big (n : Int) (a : Option Addr) (l : List Ar) (c : Nat) (u0 v0 k0 : Int) (w : World) (hl : Arcs w a l) (ht : TabW w) (hb : checkL n l ≠ 0 ∨ 50 < l.length ∨ n = 0) :
    Calls Tryd.prog 9 #[mV n a l.length c, .int .i64 u0, .int .i64 v0, .int .i64 k0] w fun e w' => e = .returned (.bool true) ∧ Below w.heap.size w w' := by
  obtain ⟨w1, hw1⟩ : ∃ w1, w1 = w.alloc (.cells #[.int .i64 n, .slice a l.length c] 25) := ⟨_, rfl⟩
  have hb1 : Below w.heap.size w w1 := by rw [hw1]; exact (Below.refl _ _).alloc (Nat.le_refl _) _
  have hr1 : Row w1 w.heap.size 25 #[.int .i64 n, .slice a l.length c] := by rw [hw1]; exact Row.fresh w _ _
  have HW := Lib.hid hw1
  have HP := Lib.hid (print_any n a l c w1 (hl.under hb1) ((TabB.of ht).under hb1).1)
  have HB1 := Lib.hid hb1
  have HR1 := Lib.hid hr1
  have c0 := hr1.cell 0
  have c1 := hr1.cell 1
  simp only [List.getElem?_toArray, List.getElem?_cons_zero, List.getElem?_cons_succ] at c0 c1
  unfold PrintP txV at HP
  generalize (if checkL n l = 0 then printL n l else []) = P at *
  generalize (⟨P.toArray⟩ : ByteArray) = D at *
  have hrest : ¬ checkL n l = 0 ∨ (50 : Int) < (l.length : Int) ∨ n = 0 := by omega
  have HH := Lib.hid hrest
  clear hl ht hb1 hw1 hb hr1 hrest
  generalize checkL n l = R at *
  go_enter Tryd.func9, Tryd.ntmps9
  go_wp2_with fail
  rw [← HW.out]
  refine HP.out.mono ?_
  rintro e w2 ⟨rfl, hb2⟩
  have HB2 := Lib.hid (HB1.out.trans (hb2.mono HB1.out.size))
  have hr2 := HR1.out.under hb2 HR1.out.lt
  have d0 := hr2.cell 0
  have d1 := hr2.cell 1
  simp only [List.getElem?_toArray, List.getElem?_cons_zero, List.getElem?_cons_succ] at d0 d1
  clear hb2 c0 c1 hr2
  by_cases h1 : R = 0
  · subst h1
    by_cases h2 : (50 : Int) < (l.length : Int)
    · go_wp2_with fail
      refine (known_any _).mono ?_
      rintro e w3 ⟨rfl, hb3⟩
      have HB3 := Lib.hid (HB2.out.trans (hb3.mono HB2.out.size))
      clear hb3
      go_wp2
      go_ret
      exact ⟨rfl, HB3.out⟩
    · obtain rfl : n = 0 := by rcases HH.out with h | h | h; exact absurd rfl h; exact absurd h h2; exact h
      go_wp2_with fail
      refine (known_any _).mono ?_
      rintro e w3 ⟨rfl, hb3⟩
      have HB3 := Lib.hid (HB2.out.trans (hb3.mono HB2.out.size))
      clear hb3
      go_wp2
      go_ret
      exact ⟨rfl, HB3.out⟩
  · have h4 : (R != 0) = true := by simpa using h1
    go_wp2_with fail
    refine (known_any _).mono ?_
    rintro e w3 ⟨rfl, hb3⟩
    have HB3 := Lib.hid (HB2.out.trans (hb3.mono HB2.out.size))
    clear hb3
    go_wp2
    go_ret
    exact ⟨rfl, HB3.out⟩
set_option maxRecDepth 100000 in
set_option maxHeartbeats 4000000 in
theorem gmore_good (n : Nat) (a : Option Addr) (l : List Ar) (c : Nat) (u0 v0 k0 : Int) (w : World) (hl : Arcs w a l) (ht : TabW w) (h50 : l.length ≤ 50) (hn0 : n ≠ 0) (hc : checkL (n : Nat) l = 0) :
    Calls Tryd.prog 9 #[mV (n : Nat) a l.length c, .int .i64 u0, .int .i64 v0, .int .i64 k0] w fun e w' => e = .returned (.bool true) ∧ Below w.heap.size w w' := by
  obtain ⟨w1, hw1⟩ : ∃ w1, w1 = w.alloc (.cells #[.int .i64 (n : Nat), .slice a l.length c] 25) := ⟨_, rfl⟩
  have hb1 : Below w.heap.size w w1 := by rw [hw1]; exact (Below.refl _ _).alloc (Nat.le_refl _) _
  have hr1 : Row w1 w.heap.size 25 #[.int .i64 (n : Nat), .slice a l.length c] := by rw [hw1]; exact Row.fresh w _ _
  have HW := Lib.hid hw1
  have HL := Lib.hid (hl.under hb1)
  have HP := Lib.hid (print_any (n : Nat) a l c w1 (hl.under hb1) ((TabB.of ht).under hb1).1)
  have HT := Lib.hid ((TabB.of ht).under hb1)
  have HB1 := Lib.hid hb1
  have HR1 := Lib.hid hr1
  have HK := Lib.hid (check_ok hc)
  have HCk := Lib.hid hc
  have c0 := hr1.cell 0
  have c1 := hr1.cell 1
  simp only [List.getElem?_toArray, List.getElem?_cons_zero, List.getElem?_cons_succ] at c0 c1
  unfold PrintP at HP
  rw [if_pos hc, hc] at HP
  obtain ⟨s, hs⟩ : ∃ s, s = printL (n : Nat) l := ⟨_, rfl⟩
  rw [← hs] at HP
  have HS := Lib.hid hs
  obtain ⟨SB, hSB⟩ : ∃ SB : ByteArray, SB = ⟨s.toArray⟩ := ⟨_, rfl⟩
  unfold txV at HP
  rw [← hSB] at HP
  have HSB := Lib.hid hSB
  clear hSB
  have i1 : ¬ (50 : Int) < (l.length : Int) := by omega
  have i2 : ((n : Int) == 0) = false := by
    have : ¬ (n : Int) = 0 := by omega
    simpa using this
  have H50 := Lib.hid (And.intro h50 hn0)
  clear hl ht hb1 hw1 h50 hr1 hs hc hn0
  go_enter Tryd.func9, Tryd.ntmps9
  go_wp2_with fail
  rw [← HW.out]
  refine HP.out.mono ?_
  rintro e w2 ⟨rfl, hb2⟩
  have HB2 := Lib.hid hb2
  have hr2 := HR1.out.under hb2 HR1.out.lt
  have HR2 := Lib.hid hr2
  have d0 := hr2.cell 0
  have d1 := hr2.cell 1
  simp only [List.getElem?_toArray, List.getElem?_cons_zero, List.getElem?_cons_succ] at d0 d1
  have HL2 := Lib.hid (HL.out.under hb2)
  clear hb2 c0 c1 hr2
  go_wp2_with (at_builtin; refine wpList_appendA rfl _ _ rfl w2.heap.size _ [] l a c rfl (AV.nil _ _) rfl HL2.out (by have := H50.out; simp; omega) (Nat.le_refl _) ?_)
  intro v1 w3 hv1 hg1
  obtain ⟨a1, c1, rfl⟩ := hv1.shape
  have hv1' : AV w3 w2.heap.size (.slice a1 l.length c1) l := by simpa using hv1
  have HV1 := Lib.hid hv1'
  have HB3 := Lib.hid ((Below.refl w2.heap.size w2).grown hg1 (Nat.le_refl _) (fun k e => by cases e))
  clear hv1 hg1 hv1' d0 d1
  go_wp2_with (at_builtin; refine wpList_appendA rfl _ _ rfl w2.heap.size _ l [(u0, v0, k0)] (some ⟨w3.heap.size, 0, none⟩) 1 rfl (HV1.out.under ((Below.refl w3.heap.size w3).alloc (Nat.le_refl _) _) (Nat.le_refl _)) rfl ?hsrc (by have := H50.out; simp; omega) ?hk ?_)
  case hsrc =>
    have hr := Row.fresh w3 50 #[.int .i64 u0, .int .i64 v0, .int .i64 k0]
    refine .inr ⟨_, 0, rfl, fun i y hy => ?_⟩
    match i, hy with
    | 0, hy => cases hy; exact ⟨hr.cell 0, hr.cell 1, hr.cell 2⟩
    | i + 1, hy => simp at hy
  case hk => have := HB3.out.size; simp; omega
  obtain ⟨L2, hL2⟩ : ∃ L2, L2 = l ++ [(u0, v0, k0)] := ⟨_, rfl⟩
  rw [← hL2]
  intro v2 w4 hv2 hg2
  obtain ⟨a2, c2, rfl⟩ := hv2.shape
  have HB4 := Lib.hid (((HB3.out.alloc HB3.out.size _).grown hg2 (by have := HB3.out.size; simp; omega) (fun k e => (HV1.out.own k e).1)))
  have HA2 := Lib.hid hv2.arcs
  have HE2 := Lib.hid hL2
  have hlen2 : L2.length = l.length + 1 := by rw [hL2]; simp
  have HLe := Lib.hid hlen2
  have hr4 := HR2.out.under HB4.out HR2.out.lt
  have d0 := hr4.cell 0
  have d1 := hr4.cell 1
  simp only [List.getElem?_toArray, List.getElem?_cons_zero, List.getElem?_cons_succ] at d0 d1
  clear hv2 hg2 hL2 hr4 hlen2
  go_wp2_with fail
  obtain ⟨W5, hW5⟩ : ∃ W5, W5 = w4.alloc (.cells #[.int .i64 (n : Nat), .slice a2 L2.length c2] 25) := ⟨_, rfl⟩
  have hb5 : Below w4.heap.size w4 W5 := by rw [hW5]; exact (Below.refl _ _).alloc (Nat.le_refl _) _
  have hrn : Row W5 w4.heap.size 25 #[.int .i64 (n : Nat), .slice a2 L2.length c2] := by rw [hW5]; exact Row.fresh w4 _ _
  have HB5 := Lib.hid (HB4.out.trans (hb5.mono HB4.out.size))
  have HBw5 := Lib.hid (HB1.out.trans ((HB2.out.trans (HB5.out.mono HB2.out.size)).mono HB1.out.size))
  have HA5 := Lib.hid (HA2.out.under hb5)
  have HRn5 := Lib.hid hrn
  have HRm5 := Lib.hid (HR2.out.under HB5.out HR2.out.lt)
  have HP5 := Lib.hid (print_any (n : Nat) a2 L2 c2 W5 HA5.out (HT.out.under ((HB2.out.trans (HB5.out.mono HB2.out.size)).mono (Nat.le_of_lt HR1.out.lt))).1)
  have HC5 := Lib.hid (fun W (h : Below W5.heap.size W5 W) => check_any (n : Nat) a2 L2 c2 W (HA5.out.under h))
  unfold PrintP at HP5
  rw [← hW5]
  have HW5 := Lib.hid hW5
  clear hb5 hrn hW5 d0 d1
  generalize w4.heap.size = bn at *
  by_cases hR : checkL (n : Nat) L2 = 0
  · rw [if_pos hR, hR] at HP5
    rw [hR] at HC5
    obtain ⟨TB, hTB⟩ : ∃ TB : ByteArray, TB = ⟨(printL (n : Nat) L2).toArray⟩ := ⟨_, rfl⟩
    unfold txV at HP5
    rw [← hTB] at HP5
    have HTB := Lib.hid hTB
    clear hTB
    have HR := Lib.hid hR
    clear hR
    refine HP5.out.mono ?_
    rintro e w6 ⟨rfl, hb6⟩
    have HB6 := Lib.hid hb6
    have hrn6 := HRn5.out.under hb6 HRn5.out.lt
    have n0 := hrn6.cell 0
    have n1 := hrn6.cell 1
    simp only [List.getElem?_toArray, List.getElem?_cons_zero, List.getElem?_cons_succ] at n0 n1
    clear hb6 hrn6
    go_wp2_with fail
    refine (HC5.out _ HB6.out).mono ?_
    rintro e w7 ⟨rfl, hb7⟩
    have HB7 := Lib.hid (HB6.out.trans (hb7.mono HB6.out.size))
    clear hb7 n0 n1
    have hbx := (check_ok HR.out).2.2.2 (u0, v0, k0) (by rw [HE2.out]; simp)
    simp only [badA, decide_eq_false_iff_not] at hbx
    have hn9 := HK.out.2.1
    obtain ⟨u, rfl⟩ := Int.eq_ofNat_of_zero_le (a := u0) (by omega)
    obtain ⟨v, rfl⟩ := Int.eq_ofNat_of_zero_le (a := v0) (by omega)
    obtain ⟨k, rfl⟩ := Int.eq_ofNat_of_zero_le (a := k0) (by omega)
    have j0 : (u : Int) < 16777216 := by omega
    have j1 : (v : Int) < 16777216 := by omega
    have j2 : (k : Int) ≤ 2147483648 := by omega
    obtain ⟨Da, hDa⟩ : ∃ D : ByteArray, D = ⟨(digL (u + 1)).toArray⟩ := ⟨_, rfl⟩
    obtain ⟨Db, hDb⟩ : ∃ D : ByteArray, D = ⟨(digL (v + 1)).toArray⟩ := ⟨_, rfl⟩
    obtain ⟨Dc, hDc⟩ : ∃ D : ByteArray, D = ⟨(digL k).toArray⟩ := ⟨_, rfl⟩
    have HDa0 := digits_any (u + 1) (by omega)
    have q0 : ((u + 1 : Nat) : Int) = (u : Int) + 1 := by omega
    rw [q0] at HDa0
    have HDa := Lib.hid HDa0
    have HDb0 := digits_any (v + 1) (by omega)
    have q1 : ((v + 1 : Nat) : Int) = (v : Int) + 1 := by omega
    rw [q1] at HDb0
    have HDb := Lib.hid HDb0
    have HDc := Lib.hid (digits_any k (by omega))
    have sa : Da.size ≤ 19 := by rw [hDa, gr_size]; exact digL_len19 _ (by omega)
    have sb : Db.size ≤ 19 := by rw [hDb, gr_size]; exact digL_len19 _ (by omega)
    have sc : Dc.size ≤ 19 := by rw [hDc, gr_size]; exact digL_len19 _ (by omega)
    unfold txV at HDa HDb HDc
    rw [← hDa] at HDa
    rw [← hDb] at HDb
    rw [← hDc] at HDc
    have HEa := Lib.hid hDa
    have HEb := Lib.hid hDb
    have HEc := Lib.hid hDc
    have hw0 : IntKind.i64.wrap ((u : Int) + 1) = (u : Int) + 1 := by rw [IntKind.wrap_i64]; omega
    have hw1 : IntKind.i64.wrap ((v : Int) + 1) = (v : Int) + 1 := by rw [IntKind.wrap_i64]; omega
    have k1 : ¬ 9223372036854775807 < 2 + Da.size := by omega
    have k2 : ¬ 9223372036854775807 < 2 + Da.size + 1 := by omega
    have k3 : ¬ 9223372036854775807 < 2 + Da.size + 1 + Db.size := by omega
    have k4 : ¬ 9223372036854775807 < 2 + Da.size + 1 + Db.size + 1 := by omega
    have k5 : ¬ 9223372036854775807 < 2 + Da.size + 1 + Db.size + 1 + Dc.size := by omega
    have k6 : ¬ 9223372036854775807 < 2 + Da.size + 1 + Db.size + 1 + Dc.size + 1 := by omega
    have HBx := Lib.hid hbx
    clear hbx hDa hDb hDc sa sb sc HDa0 HDb0 q0 q1 hn9
    go_wp2_with fail
    refine (HDa.out _).mono ?_
    rintro e w8 ⟨rfl, hb8⟩
    have HB8 := Lib.hid (HB7.out.trans (hb8.mono HB7.out.size))
    clear hb8
    go_wp2_with fail
    refine (HDb.out _).mono ?_
    rintro e w9 ⟨rfl, hb9⟩
    have HB9 := Lib.hid (HB8.out.trans (hb9.mono HB8.out.size))
    clear hb9
    go_wp2_with fail
    refine (HDc.out _).mono ?_
    rintro e wa ⟨rfl, hba⟩
    have HBa := Lib.hid (HB9.out.trans (hba.mono HB9.out.size))
    clear hba
    go_upto_region 14 with (fail)
    have HLb := Lib.hid (show (⟨#[97, 32]⟩ : ByteArray) ++ Da ++ ⟨#[32]⟩ ++ Db ++ ⟨#[32]⟩ ++ Dc ++ ⟨#[10]⟩ = ⟨(lineT ((u : Int), (v : Int), (k : Int))).toArray⟩ by
      rw [HEa.out, HEb.out, HEc.out]
      show (⟨([97, 32] : Tx).toArray⟩ : ByteArray) ++ ⟨(digL (u + 1)).toArray⟩ ++ ⟨([32] : Tx).toArray⟩ ++ ⟨(digL (v + 1)).toArray⟩ ++ ⟨([32] : Tx).toArray⟩ ++ ⟨(digL k).toArray⟩ ++ ⟨([10] : Tx).toArray⟩ = _
      rw [cat_tx, cat_tx, cat_tx, cat_tx, cat_tx, cat_tx]
      congr 2
      have e0 : ((u : Int) + 1).toNat = u + 1 := by omega
      have e1 : ((v : Int) + 1).toNat = v + 1 := by omega
      simp [lineT, nsT, nT, e0, e1])
    generalize (⟨#[97, 32]⟩ : ByteArray) ++ Da ++ ⟨#[32]⟩ ++ Db ++ ⟨#[32]⟩ ++ Dc ++ ⟨#[10]⟩ = LB at *
    clear k1 k2 k3 k4 k5 k6 hw0 hw1
    have HPm := Lib.hid (show printL (n : Nat) L2 = fewT (n : Nat) l ((u : Int), (v : Int), (k : Int)) ++ lineT ((u : Int), (v : Int), (k : Int)) by rw [HE2.out, print_more])
    have HPf := Lib.hid (show parseL (fewT (n : Nat) l ((u : Int), (v : Int), (k : Int))) = .inl (l.length + 2) by have := HR.out; rw [HE2.out] at this; exact parse_few this)
    have HPo := Lib.hid (show parseL (s ++ lineT ((u : Int), (v : Int), (k : Int))) = .inl (l.length + 2) by rw [HS.out]; exact parse_over _ HCk.out)
    have hB62 : (lineT ((u : Int), (v : Int), (k : Int))).length ≤ 62 := lineT_len HK.out.2.1 (by simp only [badA, decide_eq_false_iff_not]; exact HBx.out)
    have hA9 : (fewT (n : Nat) l ((u : Int), (v : Int), (k : Int))).length ≤ 10000 := by
      have q1 := headT2_len (n := (n : Nat)) (l := l ++ [((u : Int), (v : Int), (k : Int))]) (by omega) HK.out.2.1 (by have := H50.out; simp; omega)
      have q2 := linesT_len (l := l) HK.out.2.1 HK.out.2.2.2
      have q3 := H50.out
      rw [fewT, List.length_append]
      omega
    have hS9 : s.length ≤ 10000 := by
      have q1 := headT2_len (n := (n : Nat)) (l := l) (by omega) HK.out.2.1 HK.out.2.2.1
      have q2 := linesT_len (l := l) HK.out.2.1 HK.out.2.2.2
      have q3 := H50.out
      rw [HS.out, printL, List.length_append]
      omega
    generalize lineT ((u : Int), (v : Int), (k : Int)) = B at *
    generalize fewT (n : Nat) l ((u : Int), (v : Int), (k : Int)) = A at *
    have HPA := Lib.hid (fun W => parse_any A (by omega) W)
    have HPO := Lib.hid (fun W => parse_any (s ++ B) (by rw [List.length_append]; omega) W)
    rw [HPf.out] at HPA
    rw [HPo.out] at HPO
    have hcat : SB ++ LB = ⟨(s ++ B).toArray⟩ := by rw [HSB.out, HLb.out, cat_tx]
    have hx1 : TB.extract A.length (A.length + B.length) = LB := by
      rw [HTB.out, HPm.out, HLb.out]
      apply ByteArray.ext
      simp [ByteArray.data_extract, List.extract_eq_take_drop]
    have hx2 : TB.extract 0 A.length = ⟨A.toArray⟩ := by
      rw [HTB.out, HPm.out]
      apply ByteArray.ext
      simp [ByteArray.data_extract]
    have hT : TB.size = A.length + B.length := by rw [HTB.out, HPm.out, gr_size, List.length_append]
    have hLsz : LB.size = B.length := by rw [HLb.out, gr_size]
    have hSsz : SB.size = s.length := by rw [HSB.out, gr_size]
    unfold txV at HPA HPO
    generalize (⟨A.toArray⟩ : ByteArray) = FB at *
    generalize (⟨(s ++ B).toArray⟩ : ByteArray) = GB at *
    generalize A.length = al at *
    generalize B.length = bl at *
    generalize s.length = sl at *
    have k1 : ¬ 9223372036854775807 < sl + bl := by omega
    have b1 : (al : Int) ≤ 10000 := by omega
    have b2 : (bl : Int) ≤ 62 := by omega
    have b3 : ¬ (al : Int) < 0 := by omega
    clear hB62 hA9 hS9 j0 j1 j2
    go_wp2_with fail
    refine (HPA.out _).mono ?_
    rintro e wb ⟨hbz, (⟨k', q, rfl⟩ | ⟨_, _, _, q, _⟩)⟩
    rotate_left
    · cases q
    cases q
    have HBb := Lib.hid (HBa.out.trans (hbz.mono HBa.out.size))
    clear hbz
    go_wp2_with fail
    have hbq : Below wb.heap.size wb (wb.alloc (.cells #[.int .i64 0, .slice none 0 0] 25)) := (Below.refl _ _).alloc (Nat.le_refl _) _
    have HBc := Lib.hid (HBb.out.trans (hbq.mono HBb.out.size))
    clear hbq
    generalize wb.alloc (.cells #[.int .i64 0, .slice none 0 0] 25) = wc at *
    refine (HPO.out _).mono ?_
    rintro e wd ⟨hbz, (⟨k', q, rfl⟩ | ⟨_, _, _, q, _⟩)⟩
    rotate_left
    · cases q
    cases q
    have hbq : Below wd.heap.size wd (wd.alloc (.cells #[.int .i64 0, .slice none 0 0] 25)) := (Below.refl _ _).alloc (Nat.le_refl _) _
    have HBd := Lib.hid (HBc.out.trans ((hbz.trans (hbq.mono hbz.size)).mono HBc.out.size))
    clear hbz hbq
    go_upto_region 18 with (fail)
    generalize wd.alloc (.cells #[.int .i64 0, .slice none 0 0] 25) = we at *
    have hrm := HRm5.out.under HBd.out HRm5.out.lt
    have m0 := hrm.cell 0
    have m1 := hrm.cell 1
    simp only [List.getElem?_toArray, List.getElem?_cons_zero, List.getElem?_cons_succ] at m0 m1
    clear hrm
    go_wp2_with fail
    refine (known_any _).mono ?_
    rintro e wf ⟨rfl, hbf⟩
    have HBf := Lib.hid (HBw5.out.trans ((HBd.out.trans (hbf.mono HBd.out.size)).mono HBw5.out.size))
    clear hbf
    go_wp2
    go_ret
    exact ⟨rfl, HBf.out⟩
  · rw [if_neg hR] at HP5
    have hR' : ¬ checkL (n : Nat) L2 = 0 := hR
    clear hR
    generalize checkL (n : Nat) L2 = R2 at *
    have h4 : (R2 != 0) = true := by simpa using hR'
    have h5 : (R2 == 0) = false := by simpa using hR'
    refine HP5.out.mono ?_
    rintro e w6 ⟨rfl, hb6⟩
    have HB6 := Lib.hid hb6
    have hrn6 := HRn5.out.under hb6 HRn5.out.lt
    have n0 := hrn6.cell 0
    have n1 := hrn6.cell 1
    simp only [List.getElem?_toArray, List.getElem?_cons_zero, List.getElem?_cons_succ] at n0 n1
    clear hb6 hrn6
    go_wp2_with fail
    refine (HC5.out _ HB6.out).mono ?_
    rintro e w7 ⟨rfl, hb7⟩
    have HB7 := Lib.hid (HB6.out.trans (hb7.mono HB6.out.size))
    clear hb7 n0 n1
    go_wp2_with fail
    refine (known_any _).mono ?_
    rintro e wf ⟨rfl, hbf⟩
    have HBf := Lib.hid (HBw5.out.trans ((HB7.out.trans (hbf.mono HB7.out.size)).mono HBw5.out.size))
    clear hbf
    go_wp2
    go_ret
    exact ⟨rfl, HBf.out⟩
/-- GrMore. -/
theorem gmore_walk (n : Int) (a : Option Addr) (l : List Ar) (c : Nat) (u0 v0 k0 : Int) (w : World) (hl : Arcs w a l) (ht : TabW w) :
    Calls Tryd.prog 9 #[mV n a l.length c, .int .i64 u0, .int .i64 v0, .int .i64 k0] w fun e w' => e = .returned (.bool true) ∧ Below w.heap.size w w' := by
  by_cases hb : checkL n l ≠ 0 ∨ 50 < l.length ∨ n = 0
  · exact gmore_big n a l c u0 v0 k0 w hl ht hb
  · have hc : checkL n l = 0 := by
      rcases Int.decEq (checkL n l) 0 with h | h
      · exact absurd (.inl h) hb
      · exact h
    obtain ⟨k, rfl⟩ := Int.eq_ofNat_of_zero_le (check_ok hc).1
    exact gmore_good k a l c u0 v0 k0 w hl ht (by omega) (by omega) hc
end Go.Proofs.YtdjfmmfggkkbaaaDoor
