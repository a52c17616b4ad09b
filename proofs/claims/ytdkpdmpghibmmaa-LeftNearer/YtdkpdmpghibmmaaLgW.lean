/- LeftPuts. -/
import Derived.Test.YtdkpdmpghibmmaaLgV
namespace Go.Proofs.Ytdkpdmpghibmmaa
open Go.RowKit Go.Maps Go.Shelf Grm Lay
attribute [local go_sem ↓] Go.wp_at_zero Go.wp_at_succ
theorem at_pl {x : Int} {N : Nat} (h0 : 0 ≤ x) (hN : 1 ≤ N) : ∃ u : Nat, x.tmod (N : Int) = (u : Int) ∧ u < N := by
  have h1 := Int.emod_nonneg x (show ((N : Nat) : Int) ≠ 0 by omega)
  have h2 := Int.emod_lt_of_pos x (show (0 : Int) < ((N : Nat) : Int) by omega)
  exact ⟨(x % (N : Int)).toNat, by rw [Int.tmod_eq_emod_of_nonneg h0]; omega, by omega⟩
set_option maxRecDepth 100000 in
set_option maxHeartbeats 8000000 in
theorem leftputs_walk (n : Int) (a : Option Addr) (l : List Ar) (c : Nat) (x y d : Int) (w : World) (hA : Arcs w a l) (hF : ∀ y ∈ l, FitA y) (hx : 0 ≤ x ∧ x < 256) (hy : 0 ≤ y ∧ y < 256) (hd : 0 ≤ d ∧ d < 65536) :
    Calls Try.prog 3 #[.int .i64 n, .slice a l.length c, .int .u8 x, .int .u8 y, .int .u16 d] w fun e w' => e = .returned (.bool true) ∧ Below w.heap.size w w' := by
  have HO := Lib.hid (dof_any n a l c w hA hF)
  have hN1 := ofN_le n
  have hck := ofL_check n l
  clear hA hF
  generalize ofL n l = M at *
  generalize ofN n = N at *
  have hok : EndsOk N M := by
    obtain ⟨k, h, _, _, h2, _⟩ := checkL_zero hck
    have : N = k := by omega
    subst this
    exact h2
  obtain ⟨u, hu, hu1⟩ := at_pl (N := N) hx.1 hN1.1
  obtain ⟨v, hv, hv1⟩ := at_pl (N := N) hy.1 hN1.1
  have hxw : IntKind.i64.wrap x = x := by rw [IntKind.wrap_i64]; omega
  have hyw : IntKind.i64.wrap y = y := by rw [IntKind.wrap_i64]; omega
  have hdw : IntKind.i64.wrap d = d := by rw [IntKind.wrap_i64]; omega
  have hn0 : ¬ ((N : Nat) : Int) = 0 := by omega
  have HCk := Lib.hid (And.intro hck (And.intro hok (check_w hck)))
  clear hck hok
  go_enter Try.func3, Try.ntmps3
  go_wp2_with fail
  refine HO.out.mono ?_
  rintro e w2 ⟨hb2, am, cm, rfl, hav⟩
  obtain ⟨w3, hw3⟩ : ∃ w3, w3 = w2.alloc (.cells #[.int .i64 (N : Nat), .slice am M.length cm] 25) := ⟨_, rfl⟩
  have hb3 : Below w2.heap.size w2 w3 := by rw [hw3]; exact (Below.refl _ _).alloc (Nat.le_refl _) _
  have hr3 : Row w3 w2.heap.size 25 #[.int .i64 (N : Nat), .slice am M.length cm] := by rw [hw3]; exact Row.fresh w2 _ _
  have HG := Lib.hid (new_any (n := N) (c := cm) (hav.arcs.under hb3) HCk.out.1)
  have HW3 := Lib.hid hw3
  have H3 := Lib.hid (And.intro hr3 (hb2.trans (hb3.mono hb2.size)))
  have hz3 : w3.heap.size = w2.heap.size + 1 := by rw [hw3]; simp
  clear hb2 hav hw3 hb3 hr3
  go_wp2_with fail
  rw [← HW3.out]
  refine HG.out.mono ?_
  rintro e w4 ⟨g, rfl, hb4, hg4⟩
  have H4 := Lib.hid (And.intro hg4 (And.intro hb4 (H3.out.1.under hb4 H3.out.1.lt)))
  clear hb4 hg4
  go_wp2_with fail
  refine (left_new H4.out.1 (Nat.le_refl _)).mono ?_
  rintro e w5 ⟨lp, bl, bo, bi, go, gi, rfl, hl5, hk5, hb5⟩
  obtain ⟨s0, hs0⟩ : ∃ s0, s0 = newSt N M (keptL M) := ⟨_, rfl⟩
  have hpos : s0.Pos := by rw [hs0]; exact newSt_pos HCk.out.2.2 _
  have hdiag : ∀ i, s0.F i i = none := by rw [hs0]; exact newSt_diag HCk.out.2.1
  have hhold : ∀ i : Nat, i < N → s0.holds i = true := fun i hi => by rw [hs0]; exact newSt_holds ⟨by omega, by omega⟩
  rw [← hs0] at hl5
  have hz4 := H4.out.2.1.size
  have hz5 := hb5.size
  have hbw4 := H3.out.2.trans (H4.out.2.1.mono H3.out.2.size)
  have hlz : Lz w w4.heap.size lp bl bo bi (fun k => k < w4.heap.size) s0 w5 := lz_start hl5 hk5 ⟨hbw4.size, hz5⟩ (hbw4.trans (hb5.mono hbw4.size))
  have hr5 : Row w5 w2.heap.size 25 #[.int .i64 (N : Nat), .slice am M.length cm] := H4.out.2.2.under hb5 H4.out.2.2.lt
  have c5 := hr5.cell 0
  simp only [List.getElem?_toArray, List.getElem?_cons_zero, List.getElem?_cons_succ] at c5
  have hl25 : w2.heap.size < w5.heap.size := hr5.lt
  have hwu : (Lit.int .i64 (u : Nat)).wf = true := wf_nat ⟨by omega, by omega⟩ (show 16777216 ≤ 16777216 by omega)
  have hwv : (Lit.int .i64 (v : Nat)).wf = true := wf_nat ⟨by omega, by omega⟩ (show 16777216 ≤ 16777216 by omega)
  have H5 := Lib.hid (And.intro hlz (And.intro hwu hwv))
  have HS := Lib.hid (And.intro hpos (And.intro hdiag hhold))
  clear hl5 hk5 hb5 hs0 hpos hdiag hhold hlz hr5 hwu hwv hbw4 go gi
  go_wp2_with fail
  by_cases huv : u = v
  · have hu2 : u = v := huv
    clear huv
    subst hu2
    have HF0 := Lib.hid (HS.out.2.1 (u : Nat))
    obtain ⟨s1, hs1⟩ : ∃ s1, s1 = s0 := ⟨_, rfl⟩
    have HP : Hid (s0.puts (u : Nat) (u : Nat) (1 + d) 3 = false ∧ s0.put (u : Nat) (u : Nat) (1 + d) 3 = s1) := Lib.hid (by
      have h1 : s0.puts (u : Nat) (u : Nat) (1 + d) 3 = false := by unfold LSt.puts LSt.may; simp
      exact ⟨h1, by unfold LSt.put; rw [h1, hs1]; rfl⟩)
    have HF1 : Hid (s1.F (u : Nat) (u : Nat) = none) := Lib.hid (by rw [hs1]; exact HF0.out)
    clear hs1
    refine (lz_way H5.out.1 H5.out.2.1 H5.out.2.2).mono ?_
    rw [HF0.out]
    unfold wayT
    (try unfold w0V)
    rintro e x6 ⟨rfl, hb6⟩
    obtain ⟨w7, hw7⟩ : ∃ w7, w7 = x6.alloc (.cells #[.int .i64 0, .int .i64 0, .int .i64 0] 32) := ⟨_, rfl⟩
    obtain ⟨b15, hb15⟩ : ∃ b15, b15 = x6.heap.size := ⟨_, rfl⟩
    have hlz7 : Lz w w4.heap.size lp bl bo bi (fun k => k < w4.heap.size ∨ k = b15) s0 w7 := by rw [hw7]; exact (H5.out.1.below hb6).more _ hb15
    have hrow7 : Row w7 b15 32 #[.int .i64 0, .int .i64 0, .int .i64 0] := by rw [hw7, hb15]; exact Row.fresh x6 _ _
    have hz7 : w7.heap.size = x6.heap.size + 1 := by rw [hw7]; simp
    have hlt7 := hrow7.lt
    have H7 := Lib.hid (And.intro hlz7 (And.intro hrow7 (And.intro (show b15 < w7.heap.size by omega) (Nat.le_trans hz5 hb6.size))))
    have HW7 := Lib.hid hw7
    have HB15 := Lib.hid hb15
    clear hlz7 hrow7 hw7 hb15 hb6 c5 hlt7
    go_wp2_with fail
    (try rw [← HW7.out])
    (try rw [← HB15.out])
    refine (lz_put H7.out.1 H5.out.2.1 H5.out.2.2).mono ?_
    rw [HP.out.1]
    rintro e w8 ⟨rfl, hst⟩
    rw [HP.out.2] at hst
    have hrow8 : Row w8 b15 32 #[.int .i64 0, .int .i64 0, .int .i64 0] := H7.out.2.1.only hst.2 (fun e => e.2 (.inr rfl))
    have a0 := hrow8.cell 0
    have a1 := hrow8.cell 1
    have a2 := hrow8.cell 2
    simp only [List.getElem?_toArray, List.getElem?_cons_zero, List.getElem?_cons_succ] at a0 a1 a2
    have hlt8 := hrow8.lt
    have H8 := Lib.hid (And.intro hst.1 hrow8)
    clear hst hrow8 hz7
    go_wp2_with fail
    refine (lz_way H8.out.1 H5.out.2.1 H5.out.2.2).mono ?_
    rw [HF1.out]
    unfold wayT
    (try unfold w0V)
    rintro e x9 ⟨rfl, hb9⟩
    obtain ⟨w10, hw10⟩ : ∃ w10, w10 = x9.alloc (.cells #[.int .i64 0, .int .i64 0, .int .i64 0] 32) := ⟨_, rfl⟩
    obtain ⟨b19, hb19⟩ : ∃ b19, b19 = x9.heap.size := ⟨_, rfl⟩
    have hlz10 : Lz w w4.heap.size lp bl bo bi (fun k => (k < w4.heap.size ∨ k = b15) ∨ k = b19) s1 w10 := by rw [hw10]; exact (H8.out.1.below hb9).more _ hb19
    have hrow10 : Row w10 b19 32 #[.int .i64 0, .int .i64 0, .int .i64 0] := by rw [hw10, hb19]; exact Row.fresh x9 _ _
    have hold10 : Row w10 b15 32 #[.int .i64 0, .int .i64 0, .int .i64 0] := by rw [hw10]; exact (H8.out.2.under hb9 hlt8).under ((Below.refl _ _).alloc (Nat.le_refl _) _) (Nat.lt_of_lt_of_le hlt8 hb9.size)
    have hold9 := H8.out.2.under hb9 hlt8
    have e0 := hold9.cell 0
    have e1 := hold9.cell 1
    have e2 := hold9.cell 2
    have hlt159 := hold9.lt
    have f0 := hrow10.cell 0
    have f1 := hrow10.cell 1
    have f2 := hrow10.cell 2
    simp only [List.getElem?_toArray, List.getElem?_cons_zero, List.getElem?_cons_succ] at e0 e1 e2 f0 f1 f2
    have hlt10 := hrow10.lt
    have hlt15 := hold10.lt
    have H10 := Lib.hid (And.intro hlz10 (And.intro hrow10 hold10))
    have HW10 := Lib.hid hw10
    have HB19 := Lib.hid hb19
    clear hlz10 hrow10 hold10 hold9 hw10 hb19 hb9 a0 a1 a2 hlt8
    go_wp2_with fail
    (try rw [← HW10.out])
    (try rw [← HB19.out])
    refine (lknown_any w10).mono ?_
    rintro e w20 ⟨rfl, hb20⟩
    have H20 := Lib.hid (H10.out.1.bw.trans (hb20.mono H10.out.1.bw.size))
    clear hb20
    go_wp2
    go_ret
    exact ⟨rfl, H20.out⟩
  · have hnu : ¬ ((u : Nat) : Int) = (v : Nat) := by omega
    have hne1 : (((u : Nat) : Int) != (v : Nat)) = true := bne_iff_ne.2 (by omega)
    have hne2 : (((u : Nat) : Int) == (v : Nat)) = false := beq_eq_false_iff_ne.2 (by omega)
    cases h0 : s0.F (u : Nat) (v : Nat) with
    | none =>
      have HF0 := Lib.hid h0
      clear h0
      have hh := HS.out.2.2
      have hnv : ((u : Nat) : Int) ≠ (v : Nat) := by omega
      obtain ⟨hp1, hp2⟩ := puts_yes (s := s0) (u := (u : Nat)) (v := (v : Nat)) (x := 1 + d) (m := 3) (hh u hu1) (hh v hv1) hnv (by omega) (by omega) (.inl HF0.out)
      obtain ⟨s1, hs1⟩ : ∃ s1, s1 = s0.lay (u : Nat) (v : Nat) (1 + d, 3, -1) := ⟨_, rfl⟩
      rw [← hs1] at hp2
      have hF1 : s1.F (u : Nat) (v : Nat) = some (1 + d, 3, -1) := by rw [hs1]; exact lay_at _ _ _ _
      have hl1 : s1.lost = s0.lost := by rw [hs1]; rfl
      have hps1 : s1.Pos := by rw [hs1]; exact lay_pos HS.out.1 (by dsimp only; omega)
      have HP := Lib.hid (And.intro hp1 hp2)
      have hu0 : s1.holds (u : Nat) = true := by rw [holds_lost hl1]; exact hh u hu1
      have hv0 : s1.holds (v : Nat) = true := by rw [holds_lost hl1]; exact hh v hv1
      have HQ := Lib.hid (And.intro hps1 (near_by (wo := -1) (most := 1 + d) hu0 hv0 (by omega) (by omega) hF1 (by dsimp only; omega) (by omega)))
      have HP4 := Lib.hid (puts_no (x := 1 + d) (m := 4) hF1 (by dsimp only; omega))
      have HP5 := Lib.hid (puts_no (x := 1 + d + 1) (m := 4) hF1 (by dsimp only; omega))
      have HP6 := Lib.hid (puts_yes (s := s1) (u := (u : Nat)) (v := (v : Nat)) (x := (1 + d) - 1) (m := 5) hu0 hv0 hnv (by omega) (by omega) (.inr ⟨_, hF1, by dsimp only; omega⟩)).1
      have HF1 := Lib.hid hF1
      clear hp1 hp2 hu0 hv0 hF1 hl1 hps1 hs1 hh hnv
      refine (lz_way H5.out.1 H5.out.2.1 H5.out.2.2).mono ?_
      rw [HF0.out]
      unfold wayT
      (try unfold w0V)
      rintro e x6 ⟨rfl, hb6⟩
      obtain ⟨w7, hw7⟩ : ∃ w7, w7 = x6.alloc (.cells #[.int .i64 0, .int .i64 0, .int .i64 0] 32) := ⟨_, rfl⟩
      obtain ⟨b15, hb15⟩ : ∃ b15, b15 = x6.heap.size := ⟨_, rfl⟩
      have hlz7 : Lz w w4.heap.size lp bl bo bi (fun k => k < w4.heap.size ∨ k = b15) s0 w7 := by rw [hw7]; exact (H5.out.1.below hb6).more _ hb15
      have hrow7 : Row w7 b15 32 #[.int .i64 0, .int .i64 0, .int .i64 0] := by rw [hw7, hb15]; exact Row.fresh x6 _ _
      have hz7 : w7.heap.size = x6.heap.size + 1 := by rw [hw7]; simp
      have hlt7 := hrow7.lt
      have H7 := Lib.hid (And.intro hlz7 (And.intro hrow7 (And.intro (show b15 < w7.heap.size by omega) (Nat.le_trans hz5 hb6.size))))
      have HW7 := Lib.hid hw7
      have HB15 := Lib.hid hb15
      clear hlz7 hrow7 hw7 hb15 hb6 c5 hlt7
      go_wp2_with fail
      (try rw [← HW7.out])
      (try rw [← HB15.out])
      refine (lz_put H7.out.1 H5.out.2.1 H5.out.2.2).mono ?_
      rw [HP.out.1]
      rintro e w8 ⟨rfl, hst⟩
      rw [HP.out.2] at hst
      have hrow8 : Row w8 b15 32 #[.int .i64 0, .int .i64 0, .int .i64 0] := H7.out.2.1.only hst.2 (fun e => e.2 (.inr rfl))
      have a0 := hrow8.cell 0
      have a1 := hrow8.cell 1
      have a2 := hrow8.cell 2
      simp only [List.getElem?_toArray, List.getElem?_cons_zero, List.getElem?_cons_succ] at a0 a1 a2
      have hlt8 := hrow8.lt
      have H8 := Lib.hid (And.intro hst.1 hrow8)
      clear hst hrow8 hz7
      go_wp2_with fail
      refine (lz_way H8.out.1 H5.out.2.1 H5.out.2.2).mono ?_
      rw [HF1.out]
      unfold wayT
      (try unfold w0V)
      rintro e x9 ⟨rfl, hb9⟩
      obtain ⟨w10, hw10⟩ : ∃ w10, w10 = x9.alloc (.cells #[.int .i64 (1 + d), .int .i64 3, .int .i64 (-1)] 32) := ⟨_, rfl⟩
      obtain ⟨b19, hb19⟩ : ∃ b19, b19 = x9.heap.size := ⟨_, rfl⟩
      have hlz10 : Lz w w4.heap.size lp bl bo bi (fun k => (k < w4.heap.size ∨ k = b15) ∨ k = b19) s1 w10 := by rw [hw10]; exact (H8.out.1.below hb9).more _ hb19
      have hrow10 : Row w10 b19 32 #[.int .i64 (1 + d), .int .i64 3, .int .i64 (-1)] := by rw [hw10, hb19]; exact Row.fresh x9 _ _
      have hold10 : Row w10 b15 32 #[.int .i64 0, .int .i64 0, .int .i64 0] := by rw [hw10]; exact (H8.out.2.under hb9 hlt8).under ((Below.refl _ _).alloc (Nat.le_refl _) _) (Nat.lt_of_lt_of_le hlt8 hb9.size)
      have hold9 := H8.out.2.under hb9 hlt8
      have e0 := hold9.cell 0
      have e1 := hold9.cell 1
      have e2 := hold9.cell 2
      have hlt159 := hold9.lt
      have f0 := hrow10.cell 0
      have f1 := hrow10.cell 1
      have f2 := hrow10.cell 2
      simp only [List.getElem?_toArray, List.getElem?_cons_zero, List.getElem?_cons_succ] at e0 e1 e2 f0 f1 f2
      have hlt10 := hrow10.lt
      have hlt15 := hold10.lt
      have H10 := Lib.hid (And.intro hlz10 (And.intro hrow10 hold10))
      have HW10 := Lib.hid hw10
      have HB19 := Lib.hid hb19
      clear hlz10 hrow10 hold10 hold9 hw10 hb19 hb9 a0 a1 a2 hlt8
      go_wp2_with fail
      (try rw [← HW10.out])
      (try rw [← HB19.out])
      refine (lz_put H10.out.1 H5.out.2.1 H5.out.2.2).mono ?_
      rw [HP4.out.1]
      rintro e w11 ⟨rfl, hst⟩
      rw [HP4.out.2] at hst
      have hrow11 : Row w11 b19 32 #[.int .i64 (1 + d), .int .i64 3, .int .i64 (-1)] := H10.out.2.1.only hst.2 (fun e => e.2 (.inr rfl))
      have g0 := hrow11.cell 0
      simp only [List.getElem?_toArray, List.getElem?_cons_zero] at g0
      have hlt11 := hrow11.lt
      have H11 := Lib.hid (And.intro hst.1 hrow11)
      clear hst hrow11 hlt159 e0 e1 e2 f0 f1 f2
      go_wp2_with fail
      refine (lz_put H11.out.1 H5.out.2.1 H5.out.2.2).mono ?_
      rw [HP5.out.1]
      rintro e w12 ⟨rfl, hst⟩
      rw [HP5.out.2] at hst
      have hrow12 : Row w12 b19 32 #[.int .i64 (1 + d), .int .i64 3, .int .i64 (-1)] := H11.out.2.only hst.2 (fun e => e.2 (.inr rfl))
      have hlt12 := hrow12.lt
      have H12 := Lib.hid (And.intro hst.1 hrow12)
      clear hst hrow12 g0
      go_wp2_with fail
      refine (lz_near H12.out.1 HQ.out.1 (u := (u : Nat)) (v := (v : Nat)) (wo := -1) (most := 1 + d) H5.out.2.1 H5.out.2.2 (by omega) (b := true) ⟨fun _ => HQ.out.2, fun _ => rfl⟩).mono ?_
      rintro e w13 ⟨rfl, hb13⟩
      have hrow13 : Row w13 b19 32 #[.int .i64 (1 + d), .int .i64 3, .int .i64 (-1)] := H12.out.2.under hb13 H12.out.2.lt
      have g0 := hrow13.cell 0
      simp only [List.getElem?_toArray, List.getElem?_cons_zero] at g0
      have hlt13 := hrow13.lt
      have H13 := Lib.hid (H12.out.1.below hb13)
      clear hb13 hrow13
      go_wp2_with fail
      refine (lz_put H13.out H5.out.2.1 H5.out.2.2).mono ?_
      rw [HP6.out]
      rintro e w14 ⟨rfl, hst⟩
      have H14 := Lib.hid hst.1
      clear hst g0
      go_wp2_with fail
      refine (lknown_any w14).mono ?_
      rintro e w20 ⟨rfl, hb20⟩
      have H20 := Lib.hid (H14.out.bw.trans (hb20.mono H14.out.bw.size))
      clear hb20
      go_wp2
      go_ret
      exact ⟨rfl, H20.out⟩
    | some yy =>
      obtain ⟨ya, yb, yc⟩ := yy
      by_cases hc : 1 + d < ya
      · skip
        have hlt : 1 + d < ya := hc
        have HF0 := Lib.hid h0
        clear h0
        have hh := HS.out.2.2
        have hnv : ((u : Nat) : Int) ≠ (v : Nat) := by omega
        obtain ⟨hp1, hp2⟩ := puts_yes (s := s0) (u := (u : Nat)) (v := (v : Nat)) (x := 1 + d) (m := 3) (hh u hu1) (hh v hv1) hnv (by omega) (by omega) (.inr ⟨_, HF0.out, hlt⟩)
        obtain ⟨s1, hs1⟩ : ∃ s1, s1 = s0.lay (u : Nat) (v : Nat) (1 + d, 3, -1) := ⟨_, rfl⟩
        rw [← hs1] at hp2
        have hF1 : s1.F (u : Nat) (v : Nat) = some (1 + d, 3, -1) := by rw [hs1]; exact lay_at _ _ _ _
        have hl1 : s1.lost = s0.lost := by rw [hs1]; rfl
        have hps1 : s1.Pos := by rw [hs1]; exact lay_pos HS.out.1 (by dsimp only; omega)
        have hd1 : decide (1 + d < ya) = true := by simp; omega
        have HP := Lib.hid (And.intro hp1 hp2)
        have hu0 : s1.holds (u : Nat) = true := by rw [holds_lost hl1]; exact hh u hu1
        have hv0 : s1.holds (v : Nat) = true := by rw [holds_lost hl1]; exact hh v hv1
        have HQ := Lib.hid (And.intro hps1 (near_by (wo := -1) (most := 1 + d) hu0 hv0 (by omega) (by omega) hF1 (by dsimp only; omega) (by omega)))
        have HP4 := Lib.hid (puts_no (x := 1 + d) (m := 4) hF1 (by dsimp only; omega))
        have HP5 := Lib.hid (puts_no (x := 1 + d + 1) (m := 4) hF1 (by dsimp only; omega))
        have HP6 := Lib.hid (puts_yes (s := s1) (u := (u : Nat)) (v := (v : Nat)) (x := (1 + d) - 1) (m := 5) hu0 hv0 hnv (by omega) (by omega) (.inr ⟨_, hF1, by dsimp only; omega⟩)).1
        have HF1 := Lib.hid hF1
        clear hp1 hp2 hu0 hv0 hF1 hl1 hps1 hs1 hh hnv
        refine (lz_way H5.out.1 H5.out.2.1 H5.out.2.2).mono ?_
        rw [HF0.out]
        unfold wayT
        (try unfold w0V)
        rintro e x6 ⟨rfl, hb6⟩
        obtain ⟨w7, hw7⟩ : ∃ w7, w7 = x6.alloc (.cells #[.int .i64 ya, .int .i64 yb, .int .i64 yc] 32) := ⟨_, rfl⟩
        obtain ⟨b15, hb15⟩ : ∃ b15, b15 = x6.heap.size := ⟨_, rfl⟩
        have hlz7 : Lz w w4.heap.size lp bl bo bi (fun k => k < w4.heap.size ∨ k = b15) s0 w7 := by rw [hw7]; exact (H5.out.1.below hb6).more _ hb15
        have hrow7 : Row w7 b15 32 #[.int .i64 ya, .int .i64 yb, .int .i64 yc] := by rw [hw7, hb15]; exact Row.fresh x6 _ _
        have hz7 : w7.heap.size = x6.heap.size + 1 := by rw [hw7]; simp
        have hlt7 := hrow7.lt
        have H7 := Lib.hid (And.intro hlz7 (And.intro hrow7 (And.intro (show b15 < w7.heap.size by omega) (Nat.le_trans hz5 hb6.size))))
        have HW7 := Lib.hid hw7
        have HB15 := Lib.hid hb15
        clear hlz7 hrow7 hw7 hb15 hb6 c5 hlt7
        go_wp2_with fail
        (try rw [← HW7.out])
        (try rw [← HB15.out])
        refine (lz_put H7.out.1 H5.out.2.1 H5.out.2.2).mono ?_
        rw [HP.out.1]
        rintro e w8 ⟨rfl, hst⟩
        rw [HP.out.2] at hst
        have hrow8 : Row w8 b15 32 #[.int .i64 ya, .int .i64 yb, .int .i64 yc] := H7.out.2.1.only hst.2 (fun e => e.2 (.inr rfl))
        have a0 := hrow8.cell 0
        have a1 := hrow8.cell 1
        have a2 := hrow8.cell 2
        simp only [List.getElem?_toArray, List.getElem?_cons_zero, List.getElem?_cons_succ] at a0 a1 a2
        have hlt8 := hrow8.lt
        have H8 := Lib.hid (And.intro hst.1 hrow8)
        clear hst hrow8 hz7
        go_wp2_with fail
        refine (lz_way H8.out.1 H5.out.2.1 H5.out.2.2).mono ?_
        rw [HF1.out]
        unfold wayT
        (try unfold w0V)
        rintro e x9 ⟨rfl, hb9⟩
        obtain ⟨w10, hw10⟩ : ∃ w10, w10 = x9.alloc (.cells #[.int .i64 (1 + d), .int .i64 3, .int .i64 (-1)] 32) := ⟨_, rfl⟩
        obtain ⟨b19, hb19⟩ : ∃ b19, b19 = x9.heap.size := ⟨_, rfl⟩
        have hlz10 : Lz w w4.heap.size lp bl bo bi (fun k => (k < w4.heap.size ∨ k = b15) ∨ k = b19) s1 w10 := by rw [hw10]; exact (H8.out.1.below hb9).more _ hb19
        have hrow10 : Row w10 b19 32 #[.int .i64 (1 + d), .int .i64 3, .int .i64 (-1)] := by rw [hw10, hb19]; exact Row.fresh x9 _ _
        have hold10 : Row w10 b15 32 #[.int .i64 ya, .int .i64 yb, .int .i64 yc] := by rw [hw10]; exact (H8.out.2.under hb9 hlt8).under ((Below.refl _ _).alloc (Nat.le_refl _) _) (Nat.lt_of_lt_of_le hlt8 hb9.size)
        have hold9 := H8.out.2.under hb9 hlt8
        have e0 := hold9.cell 0
        have e1 := hold9.cell 1
        have e2 := hold9.cell 2
        have hlt159 := hold9.lt
        have f0 := hrow10.cell 0
        have f1 := hrow10.cell 1
        have f2 := hrow10.cell 2
        simp only [List.getElem?_toArray, List.getElem?_cons_zero, List.getElem?_cons_succ] at e0 e1 e2 f0 f1 f2
        have hlt10 := hrow10.lt
        have hlt15 := hold10.lt
        have H10 := Lib.hid (And.intro hlz10 (And.intro hrow10 hold10))
        have HW10 := Lib.hid hw10
        have HB19 := Lib.hid hb19
        clear hlz10 hrow10 hold10 hold9 hw10 hb19 hb9 a0 a1 a2 hlt8
        go_wp2_with fail
        (try rw [← HW10.out])
        (try rw [← HB19.out])
        refine (lz_put H10.out.1 H5.out.2.1 H5.out.2.2).mono ?_
        rw [HP4.out.1]
        rintro e w11 ⟨rfl, hst⟩
        rw [HP4.out.2] at hst
        have hrow11 : Row w11 b19 32 #[.int .i64 (1 + d), .int .i64 3, .int .i64 (-1)] := H10.out.2.1.only hst.2 (fun e => e.2 (.inr rfl))
        have g0 := hrow11.cell 0
        simp only [List.getElem?_toArray, List.getElem?_cons_zero] at g0
        have hlt11 := hrow11.lt
        have H11 := Lib.hid (And.intro hst.1 hrow11)
        clear hst hrow11 hlt159 e0 e1 e2 f0 f1 f2
        go_wp2_with fail
        refine (lz_put H11.out.1 H5.out.2.1 H5.out.2.2).mono ?_
        rw [HP5.out.1]
        rintro e w12 ⟨rfl, hst⟩
        rw [HP5.out.2] at hst
        have hrow12 : Row w12 b19 32 #[.int .i64 (1 + d), .int .i64 3, .int .i64 (-1)] := H11.out.2.only hst.2 (fun e => e.2 (.inr rfl))
        have hlt12 := hrow12.lt
        have H12 := Lib.hid (And.intro hst.1 hrow12)
        clear hst hrow12 g0
        go_wp2_with fail
        refine (lz_near H12.out.1 HQ.out.1 (u := (u : Nat)) (v := (v : Nat)) (wo := -1) (most := 1 + d) H5.out.2.1 H5.out.2.2 (by omega) (b := true) ⟨fun _ => HQ.out.2, fun _ => rfl⟩).mono ?_
        rintro e w13 ⟨rfl, hb13⟩
        have hrow13 : Row w13 b19 32 #[.int .i64 (1 + d), .int .i64 3, .int .i64 (-1)] := H12.out.2.under hb13 H12.out.2.lt
        have g0 := hrow13.cell 0
        simp only [List.getElem?_toArray, List.getElem?_cons_zero] at g0
        have hlt13 := hrow13.lt
        have H13 := Lib.hid (H12.out.1.below hb13)
        clear hb13 hrow13
        go_wp2_with fail
        refine (lz_put H13.out H5.out.2.1 H5.out.2.2).mono ?_
        rw [HP6.out]
        rintro e w14 ⟨rfl, hst⟩
        have H14 := Lib.hid hst.1
        clear hst g0
        go_wp2_with fail
        refine (lknown_any w14).mono ?_
        rintro e w20 ⟨rfl, hb20⟩
        have H20 := Lib.hid (H14.out.bw.trans (hb20.mono H14.out.bw.size))
        clear hb20
        go_wp2
        go_ret
        exact ⟨rfl, H20.out⟩
      · by_cases hz0 : ya = 0
        · skip
          subst hz0
          have hle : (0 : Int) ≤ 1 + d := by omega
          have hya := (HS.out.1 _ _ _ h0).1
          dsimp only at hya
          have HF0 := Lib.hid h0
          clear h0
          have hh := HS.out.2.2
          have hnv : ((u : Nat) : Int) ≠ (v : Nat) := by omega
          obtain ⟨hp1, hp2⟩ := puts_no (m := 3) HF0.out (show (0 : Int) ≤ 1 + d by omega)
          obtain ⟨s1, hs1⟩ : ∃ s1, s1 = s0 := ⟨_, rfl⟩
          have hp2 : s0.put (u : Nat) (v : Nat) (1 + d) 3 = s1 := by rw [hs1]; exact hp2
          have hF1 : s1.F (u : Nat) (v : Nat) = some (0, yb, yc) := by rw [hs1]; exact HF0.out
          have hl1 : s1.lost = s0.lost := by rw [hs1]
          have hps1 : s1.Pos := by rw [hs1]; exact HS.out.1
          have hd1 : decide (1 + d < (0 : Int)) = false := by simp; omega
          have HP := Lib.hid (And.intro hp1 hp2)
          have hu0 : s1.holds (u : Nat) = true := by rw [holds_lost hl1]; exact hh u hu1
          have hv0 : s1.holds (v : Nat) = true := by rw [holds_lost hl1]; exact hh v hv1
          have HQ := Lib.hid (And.intro hps1 (near_by (wo := -1) (most := 1 + d) hu0 hv0 (by omega) (by omega) hF1 (by dsimp only; omega) (by omega)))
          have HP4 := Lib.hid (puts_no (x := 1 + d) (m := 4) hF1 (by dsimp only; omega))
          have HP5 := Lib.hid (puts_no (x := 1 + d + 1) (m := 4) hF1 (by dsimp only; omega))
          have HF1 := Lib.hid hF1
          clear hp1 hp2 hu0 hv0 hF1 hl1 hps1 hs1 hh hnv
          refine (lz_way H5.out.1 H5.out.2.1 H5.out.2.2).mono ?_
          rw [HF0.out]
          unfold wayT
          (try unfold w0V)
          rintro e x6 ⟨rfl, hb6⟩
          obtain ⟨w7, hw7⟩ : ∃ w7, w7 = x6.alloc (.cells #[.int .i64 0, .int .i64 yb, .int .i64 yc] 32) := ⟨_, rfl⟩
          obtain ⟨b15, hb15⟩ : ∃ b15, b15 = x6.heap.size := ⟨_, rfl⟩
          have hlz7 : Lz w w4.heap.size lp bl bo bi (fun k => k < w4.heap.size ∨ k = b15) s0 w7 := by rw [hw7]; exact (H5.out.1.below hb6).more _ hb15
          have hrow7 : Row w7 b15 32 #[.int .i64 0, .int .i64 yb, .int .i64 yc] := by rw [hw7, hb15]; exact Row.fresh x6 _ _
          have hz7 : w7.heap.size = x6.heap.size + 1 := by rw [hw7]; simp
          have hlt7 := hrow7.lt
          have H7 := Lib.hid (And.intro hlz7 (And.intro hrow7 (And.intro (show b15 < w7.heap.size by omega) (Nat.le_trans hz5 hb6.size))))
          have HW7 := Lib.hid hw7
          have HB15 := Lib.hid hb15
          clear hlz7 hrow7 hw7 hb15 hb6 c5 hlt7
          go_wp2_with fail
          (try rw [← HW7.out])
          (try rw [← HB15.out])
          refine (lz_put H7.out.1 H5.out.2.1 H5.out.2.2).mono ?_
          rw [HP.out.1]
          rintro e w8 ⟨rfl, hst⟩
          rw [HP.out.2] at hst
          have hrow8 : Row w8 b15 32 #[.int .i64 0, .int .i64 yb, .int .i64 yc] := H7.out.2.1.only hst.2 (fun e => e.2 (.inr rfl))
          have a0 := hrow8.cell 0
          have a1 := hrow8.cell 1
          have a2 := hrow8.cell 2
          simp only [List.getElem?_toArray, List.getElem?_cons_zero, List.getElem?_cons_succ] at a0 a1 a2
          have hlt8 := hrow8.lt
          have H8 := Lib.hid (And.intro hst.1 hrow8)
          clear hst hrow8 hz7
          go_wp2_with fail
          refine (lz_way H8.out.1 H5.out.2.1 H5.out.2.2).mono ?_
          rw [HF1.out]
          unfold wayT
          (try unfold w0V)
          rintro e x9 ⟨rfl, hb9⟩
          obtain ⟨w10, hw10⟩ : ∃ w10, w10 = x9.alloc (.cells #[.int .i64 0, .int .i64 yb, .int .i64 yc] 32) := ⟨_, rfl⟩
          obtain ⟨b19, hb19⟩ : ∃ b19, b19 = x9.heap.size := ⟨_, rfl⟩
          have hlz10 : Lz w w4.heap.size lp bl bo bi (fun k => (k < w4.heap.size ∨ k = b15) ∨ k = b19) s1 w10 := by rw [hw10]; exact (H8.out.1.below hb9).more _ hb19
          have hrow10 : Row w10 b19 32 #[.int .i64 0, .int .i64 yb, .int .i64 yc] := by rw [hw10, hb19]; exact Row.fresh x9 _ _
          have hold10 : Row w10 b15 32 #[.int .i64 0, .int .i64 yb, .int .i64 yc] := by rw [hw10]; exact (H8.out.2.under hb9 hlt8).under ((Below.refl _ _).alloc (Nat.le_refl _) _) (Nat.lt_of_lt_of_le hlt8 hb9.size)
          have hold9 := H8.out.2.under hb9 hlt8
          have e0 := hold9.cell 0
          have e1 := hold9.cell 1
          have e2 := hold9.cell 2
          have hlt159 := hold9.lt
          have f0 := hrow10.cell 0
          have f1 := hrow10.cell 1
          have f2 := hrow10.cell 2
          simp only [List.getElem?_toArray, List.getElem?_cons_zero, List.getElem?_cons_succ] at e0 e1 e2 f0 f1 f2
          have hlt10 := hrow10.lt
          have hlt15 := hold10.lt
          have H10 := Lib.hid (And.intro hlz10 (And.intro hrow10 hold10))
          have HW10 := Lib.hid hw10
          have HB19 := Lib.hid hb19
          clear hlz10 hrow10 hold10 hold9 hw10 hb19 hb9 a0 a1 a2 hlt8
          go_wp2_with fail
          (try rw [← HW10.out])
          (try rw [← HB19.out])
          refine (lz_put H10.out.1 H5.out.2.1 H5.out.2.2).mono ?_
          rw [HP4.out.1]
          rintro e w11 ⟨rfl, hst⟩
          rw [HP4.out.2] at hst
          have hrow11 : Row w11 b19 32 #[.int .i64 0, .int .i64 yb, .int .i64 yc] := H10.out.2.1.only hst.2 (fun e => e.2 (.inr rfl))
          have g0 := hrow11.cell 0
          simp only [List.getElem?_toArray, List.getElem?_cons_zero] at g0
          have hlt11 := hrow11.lt
          have H11 := Lib.hid (And.intro hst.1 hrow11)
          clear hst hrow11 hlt159 e0 e1 e2 f0 f1 f2
          go_wp2_with fail
          refine (lz_put H11.out.1 H5.out.2.1 H5.out.2.2).mono ?_
          rw [HP5.out.1]
          rintro e w12 ⟨rfl, hst⟩
          rw [HP5.out.2] at hst
          have hrow12 : Row w12 b19 32 #[.int .i64 0, .int .i64 yb, .int .i64 yc] := H11.out.2.only hst.2 (fun e => e.2 (.inr rfl))
          have hlt12 := hrow12.lt
          have H12 := Lib.hid (And.intro hst.1 hrow12)
          clear hst hrow12 g0
          go_wp2_with fail
          refine (lz_near H12.out.1 HQ.out.1 (u := (u : Nat)) (v := (v : Nat)) (wo := -1) (most := 1 + d) H5.out.2.1 H5.out.2.2 (by omega) (b := true) ⟨fun _ => HQ.out.2, fun _ => rfl⟩).mono ?_
          rintro e w13 ⟨rfl, hb13⟩
          have hrow13 : Row w13 b19 32 #[.int .i64 0, .int .i64 yb, .int .i64 yc] := H12.out.2.under hb13 H12.out.2.lt
          have g0 := hrow13.cell 0
          simp only [List.getElem?_toArray, List.getElem?_cons_zero] at g0
          have hlt13 := hrow13.lt
          have H13 := Lib.hid (H12.out.1.below hb13)
          clear hb13 hrow13
          go_wp2_with fail
          refine (lknown_any w13).mono ?_
          rintro e w20 ⟨rfl, hb20⟩
          have H20 := Lib.hid (H13.out.bw.trans (hb20.mono H13.out.bw.size))
          clear hb20
          go_wp2
          go_ret
          exact ⟨rfl, H20.out⟩
        · skip
          have hle : ya ≤ 1 + d := by omega
          have hya := (HS.out.1 _ _ _ h0).1
          dsimp only at hya
          have HF0 := Lib.hid h0
          clear h0
          have hh := HS.out.2.2
          have hnv : ((u : Nat) : Int) ≠ (v : Nat) := by omega
          obtain ⟨hp1, hp2⟩ := puts_no (m := 3) HF0.out (show ya ≤ 1 + d by omega)
          obtain ⟨s1, hs1⟩ : ∃ s1, s1 = s0 := ⟨_, rfl⟩
          have hp2 : s0.put (u : Nat) (v : Nat) (1 + d) 3 = s1 := by rw [hs1]; exact hp2
          have hF1 : s1.F (u : Nat) (v : Nat) = some (ya, yb, yc) := by rw [hs1]; exact HF0.out
          have hl1 : s1.lost = s0.lost := by rw [hs1]
          have hps1 : s1.Pos := by rw [hs1]; exact HS.out.1
          have hd1 : decide (1 + d < ya) = false := by simp; omega
          have HP := Lib.hid (And.intro hp1 hp2)
          have hu0 : s1.holds (u : Nat) = true := by rw [holds_lost hl1]; exact hh u hu1
          have hv0 : s1.holds (v : Nat) = true := by rw [holds_lost hl1]; exact hh v hv1
          have HQ := Lib.hid (And.intro hps1 (near_by (wo := -1) (most := 1 + d) hu0 hv0 (by omega) (by omega) hF1 (by dsimp only; omega) (by omega)))
          have HP4 := Lib.hid (puts_no (x := 1 + d) (m := 4) hF1 (by dsimp only; omega))
          have HP5 := Lib.hid (puts_no (x := 1 + d + 1) (m := 4) hF1 (by dsimp only; omega))
          have HP6 := Lib.hid (puts_yes (s := s1) (u := (u : Nat)) (v := (v : Nat)) (x := ya - 1) (m := 5) hu0 hv0 hnv (by omega) (by omega) (.inr ⟨_, hF1, by dsimp only; omega⟩)).1
          have HF1 := Lib.hid hF1
          clear hp1 hp2 hu0 hv0 hF1 hl1 hps1 hs1 hh hnv
          refine (lz_way H5.out.1 H5.out.2.1 H5.out.2.2).mono ?_
          rw [HF0.out]
          unfold wayT
          (try unfold w0V)
          rintro e x6 ⟨rfl, hb6⟩
          obtain ⟨w7, hw7⟩ : ∃ w7, w7 = x6.alloc (.cells #[.int .i64 ya, .int .i64 yb, .int .i64 yc] 32) := ⟨_, rfl⟩
          obtain ⟨b15, hb15⟩ : ∃ b15, b15 = x6.heap.size := ⟨_, rfl⟩
          have hlz7 : Lz w w4.heap.size lp bl bo bi (fun k => k < w4.heap.size ∨ k = b15) s0 w7 := by rw [hw7]; exact (H5.out.1.below hb6).more _ hb15
          have hrow7 : Row w7 b15 32 #[.int .i64 ya, .int .i64 yb, .int .i64 yc] := by rw [hw7, hb15]; exact Row.fresh x6 _ _
          have hz7 : w7.heap.size = x6.heap.size + 1 := by rw [hw7]; simp
          have hlt7 := hrow7.lt
          have H7 := Lib.hid (And.intro hlz7 (And.intro hrow7 (And.intro (show b15 < w7.heap.size by omega) (Nat.le_trans hz5 hb6.size))))
          have HW7 := Lib.hid hw7
          have HB15 := Lib.hid hb15
          clear hlz7 hrow7 hw7 hb15 hb6 c5 hlt7
          go_wp2_with fail
          (try rw [← HW7.out])
          (try rw [← HB15.out])
          refine (lz_put H7.out.1 H5.out.2.1 H5.out.2.2).mono ?_
          rw [HP.out.1]
          rintro e w8 ⟨rfl, hst⟩
          rw [HP.out.2] at hst
          have hrow8 : Row w8 b15 32 #[.int .i64 ya, .int .i64 yb, .int .i64 yc] := H7.out.2.1.only hst.2 (fun e => e.2 (.inr rfl))
          have a0 := hrow8.cell 0
          have a1 := hrow8.cell 1
          have a2 := hrow8.cell 2
          simp only [List.getElem?_toArray, List.getElem?_cons_zero, List.getElem?_cons_succ] at a0 a1 a2
          have hlt8 := hrow8.lt
          have H8 := Lib.hid (And.intro hst.1 hrow8)
          clear hst hrow8 hz7
          go_wp2_with fail
          refine (lz_way H8.out.1 H5.out.2.1 H5.out.2.2).mono ?_
          rw [HF1.out]
          unfold wayT
          (try unfold w0V)
          rintro e x9 ⟨rfl, hb9⟩
          obtain ⟨w10, hw10⟩ : ∃ w10, w10 = x9.alloc (.cells #[.int .i64 ya, .int .i64 yb, .int .i64 yc] 32) := ⟨_, rfl⟩
          obtain ⟨b19, hb19⟩ : ∃ b19, b19 = x9.heap.size := ⟨_, rfl⟩
          have hlz10 : Lz w w4.heap.size lp bl bo bi (fun k => (k < w4.heap.size ∨ k = b15) ∨ k = b19) s1 w10 := by rw [hw10]; exact (H8.out.1.below hb9).more _ hb19
          have hrow10 : Row w10 b19 32 #[.int .i64 ya, .int .i64 yb, .int .i64 yc] := by rw [hw10, hb19]; exact Row.fresh x9 _ _
          have hold10 : Row w10 b15 32 #[.int .i64 ya, .int .i64 yb, .int .i64 yc] := by rw [hw10]; exact (H8.out.2.under hb9 hlt8).under ((Below.refl _ _).alloc (Nat.le_refl _) _) (Nat.lt_of_lt_of_le hlt8 hb9.size)
          have hold9 := H8.out.2.under hb9 hlt8
          have e0 := hold9.cell 0
          have e1 := hold9.cell 1
          have e2 := hold9.cell 2
          have hlt159 := hold9.lt
          have f0 := hrow10.cell 0
          have f1 := hrow10.cell 1
          have f2 := hrow10.cell 2
          simp only [List.getElem?_toArray, List.getElem?_cons_zero, List.getElem?_cons_succ] at e0 e1 e2 f0 f1 f2
          have hlt10 := hrow10.lt
          have hlt15 := hold10.lt
          have H10 := Lib.hid (And.intro hlz10 (And.intro hrow10 hold10))
          have HW10 := Lib.hid hw10
          have HB19 := Lib.hid hb19
          clear hlz10 hrow10 hold10 hold9 hw10 hb19 hb9 a0 a1 a2 hlt8
          go_wp2_with fail
          (try rw [← HW10.out])
          (try rw [← HB19.out])
          refine (lz_put H10.out.1 H5.out.2.1 H5.out.2.2).mono ?_
          rw [HP4.out.1]
          rintro e w11 ⟨rfl, hst⟩
          rw [HP4.out.2] at hst
          have hrow11 : Row w11 b19 32 #[.int .i64 ya, .int .i64 yb, .int .i64 yc] := H10.out.2.1.only hst.2 (fun e => e.2 (.inr rfl))
          have g0 := hrow11.cell 0
          simp only [List.getElem?_toArray, List.getElem?_cons_zero] at g0
          have hlt11 := hrow11.lt
          have H11 := Lib.hid (And.intro hst.1 hrow11)
          clear hst hrow11 hlt159 e0 e1 e2 f0 f1 f2
          go_wp2_with fail
          refine (lz_put H11.out.1 H5.out.2.1 H5.out.2.2).mono ?_
          rw [HP5.out.1]
          rintro e w12 ⟨rfl, hst⟩
          rw [HP5.out.2] at hst
          have hrow12 : Row w12 b19 32 #[.int .i64 ya, .int .i64 yb, .int .i64 yc] := H11.out.2.only hst.2 (fun e => e.2 (.inr rfl))
          have hlt12 := hrow12.lt
          have H12 := Lib.hid (And.intro hst.1 hrow12)
          clear hst hrow12 g0
          go_wp2_with fail
          refine (lz_near H12.out.1 HQ.out.1 (u := (u : Nat)) (v := (v : Nat)) (wo := -1) (most := 1 + d) H5.out.2.1 H5.out.2.2 (by omega) (b := true) ⟨fun _ => HQ.out.2, fun _ => rfl⟩).mono ?_
          rintro e w13 ⟨rfl, hb13⟩
          have hrow13 : Row w13 b19 32 #[.int .i64 ya, .int .i64 yb, .int .i64 yc] := H12.out.2.under hb13 H12.out.2.lt
          have g0 := hrow13.cell 0
          simp only [List.getElem?_toArray, List.getElem?_cons_zero] at g0
          have hlt13 := hrow13.lt
          have H13 := Lib.hid (H12.out.1.below hb13)
          clear hb13 hrow13
          go_wp2_with fail
          refine (lz_put H13.out H5.out.2.1 H5.out.2.2).mono ?_
          rw [HP6.out]
          rintro e w14 ⟨rfl, hst⟩
          have H14 := Lib.hid hst.1
          clear hst g0
          go_wp2_with fail
          refine (lknown_any w14).mono ?_
          rintro e w20 ⟨rfl, hb20⟩
          have H20 := Lib.hid (H14.out.bw.trans (hb20.mono H14.out.bw.size))
          clear hb20
          go_wp2
          go_ret
          exact ⟨rfl, H20.out⟩
end Go.Proofs.Ytdkpdmpghibmmaa
