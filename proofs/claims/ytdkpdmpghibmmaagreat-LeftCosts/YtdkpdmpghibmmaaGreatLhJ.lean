/- LeftCosts (written by mklhj.py). -/
import Derived.Test.YtdkpdmpghibmmaaGreatLhI
import Derived.Test.YtdkpdmpghibmmaaGreatLhH
namespace Go.Proofs.YtdkpdmpghibmmaaGreat
open Go.RowKit Go.Maps Go.Shelf Grm Lay
attribute [local go_sem ↓] Go.wp_at_zero Go.wp_at_succ
set_option maxRecDepth 100000 in
set_option maxHeartbeats 8000000 in
theorem leftcosts_walk (n : Int) (a : Option Addr) (l : List Ar) (c : Nat) (x y : Int) (w : World) (hA : Arcs w a l) (hF : ∀ y ∈ l, FitA y) (hx : 0 ≤ x ∧ x < 256) (hy : 0 ≤ y ∧ y < 256) :
    Calls Tryz.prog 6 #[.int .i64 n, .slice a l.length c, .int .u8 x, .int .u8 y] w fun e w' => e = .returned (.bool true) ∧ Below w.heap.size w w' := by
  have HO := Lib.hid (dof_any n a l c w hA hF)
  have hN1 := ofN_le n
  have hck := ofL_check n l
  clear hA hF
  generalize ofL n l = M at *
  generalize ofN n = N at *
  have hok : EndsOk N M := by
    obtain ⟨k, h, _, _, h2, _⟩ := checkL_zero hck
    have : N = k := by omega
    subst this
    exact h2
  obtain ⟨u, hu, hu1⟩ := at_plT (N := N) hx.1 hN1.1
  obtain ⟨v, hv, hv1⟩ := at_plT (N := N) hy.1 hN1.1
  have hxw : IntKind.i64.wrap x = x := by rw [IntKind.wrap_i64]; omega
  have hyw : IntKind.i64.wrap y = y := by rw [IntKind.wrap_i64]; omega
  have hn0 : ¬ ((N : Nat) : Int) = 0 := by omega
  have HCk := Lib.hid (And.intro hck (And.intro hok (check_w hck)))
  clear hck hok
  go_enter Tryz.func6, Tryz.ntmps6
  go_wp2_with fail
  refine HO.out.mono ?_
  rintro e w2 ⟨hb2, am, cm, rfl, hav⟩
  obtain ⟨w3, hw3⟩ : ∃ w3, w3 = w2.alloc (.cells #[.int .i64 (N : Nat), .slice am M.length cm] 24) := ⟨_, rfl⟩
  have hb3 : Below w2.heap.size w2 w3 := by rw [hw3]; exact (Below.refl _ _).alloc (Nat.le_refl _) _
  have hr3 : Row w3 w2.heap.size 24 #[.int .i64 (N : Nat), .slice am M.length cm] := by rw [hw3]; exact Row.fresh w2 _ _
  have HG := Lib.hid (new_any (n := N) (c := cm) (hav.arcs.under hb3) HCk.out.1)
  have HW3 := Lib.hid hw3
  have H3 := Lib.hid (And.intro hr3 (hb2.trans (hb3.mono hb2.size)))
  have hz3 : w3.heap.size = w2.heap.size + 1 := by rw [hw3]; simp
  clear hb2 hav hw3 hb3 hr3
  go_wp2_with fail
  rw [← HW3.out]
  refine HG.out.mono ?_
  rintro e w4 ⟨g, rfl, hb4, hg4⟩
  have H4 := Lib.hid (And.intro hg4 (And.intro hb4 (H3.out.1.under hb4 H3.out.1.lt)))
  clear hb4 hg4
  go_wp2_with fail
  refine (left_new H4.out.1 (Nat.le_refl _)).mono ?_
  rintro e w5 ⟨lp, bl, bo, bi, go, gi, rfl, hl5, hk5, hb5⟩
  obtain ⟨s0, hs0⟩ : ∃ s0, s0 = newSt N M (keptL M) := ⟨_, rfl⟩
  have hfine : Fine s0 N 0 := by rw [hs0]; exact newSt_fine HCk.out.2.1
  have hzero : ∀ i : Nat, s0.lost.getD i 0 = 0 := fun i => by rw [hs0, newSt_lost, List.getD_eq_getElem?_getD, List.getElem?_replicate]; split <;> rfl
  have hhold : ∀ i : Nat, i < N → s0.holds i = true := fun i hi => by rw [hs0]; exact newSt_holds ⟨by omega, by omega⟩
  rw [← hs0] at hl5
  have hz4 := H4.out.2.1.size
  have hz5 := hb5.size
  have hbw4 := H3.out.2.trans (H4.out.2.1.mono H3.out.2.size)
  have hlz : Lz w w4.heap.size lp bl bo bi (fun k => k < w4.heap.size) s0 w5 := lz_start hl5 hk5 ⟨hbw4.size, hz5⟩ (hbw4.trans (hb5.mono hbw4.size))
  have hr5 : Row w5 w2.heap.size 24 #[.int .i64 (N : Nat), .slice am M.length cm] := H4.out.2.2.under hb5 H4.out.2.2.lt
  have c5 := hr5.cell 0
  simp only [List.getElem?_toArray, List.getElem?_cons_zero, List.getElem?_cons_succ] at c5
  have hl25 : w2.heap.size < w5.heap.size := hr5.lt
  have hwu : (Lit.int .i64 (u : Nat)).wf = true := wf_nat ⟨by omega, by omega⟩ (show 16777216 ≤ 16777216 by omega)
  have hwv : (Lit.int .i64 (v : Nat)).wf = true := wf_nat ⟨by omega, by omega⟩ (show 16777216 ≤ 16777216 by omega)
  have H5 := Lib.hid (And.intro hlz (And.intro hr5 (And.intro hfine (And.intro hzero (And.intro hhold (And.intro hwu hwv))))))
  clear hl5 hk5 hb5 hs0 hfine hzero hhold hlz hr5 hbw4 go gi hwu hwv
  obtain ⟨K, hK⟩ : ∃ K, K = w4.heap.size := ⟨_, rfl⟩
  obtain ⟨mb, hmb⟩ : ∃ mb, mb = w2.heap.size := ⟨_, rfl⟩
  obtain ⟨mv, hmv⟩ : ∃ mv : Array Value, mv = #[.int .i64 (N : Nat), .slice am M.length cm] := ⟨_, rfl⟩
  have hmK : mb < K := by omega
  have HL := Lib.hid (show TL w K mb lp bl bo bi N 0 mv s0 w5 from ⟨H5.out.2.2.1, by rw [hK]; exact H5.out.1, by rw [hmb, hmv]; exact H5.out.2.1⟩)
  have HE := Lib.hid (And.intro hmv (And.intro H5.out.2.2.2.1 (And.intro H5.out.2.2.2.2.1 (And.intro H5.out.2.2.2.2.2.1 H5.out.2.2.2.2.2.2))))
  clear hK hmv H5
  rw [← hmb] at c5 ⊢
  clear hmb hl25
  go_wp2_with fail
  -- in
  refine (lz_ins HL.out.lz HE.out.2.2.2.1).mono ?_
  rintro e w6 ⟨hb6, x6, rfl, hx6⟩
  obtain ⟨A, hA⟩ : ∃ A, A = keysOf (s0.ins (u : Nat)) s0.lost.length := ⟨_, rfl⟩
  have hAl : cntF (s0.ins (u : Nat)) s0.lost.length = A.length := by rw [hA, keysOf_length]
  rw [← hA, hAl] at hx6
  obtain ⟨a6, c6, rfl, _, _⟩ := owns_shape hx6
  have H6 := Lib.hid (And.intro (HL.out.below hb6) hx6)
  have HAe := Lib.hid hA
  clear hb6 hx6 hAl c5 hA
  go_wp2_with fail
  -- out
  refine (lz_outs H6.out.1.lz HE.out.2.2.2.1).mono ?_
  rintro e w7 ⟨hb7, x7, rfl, hx7⟩
  obtain ⟨Bk, hB⟩ : ∃ Bk, Bk = keysOf (s0.F (u : Nat)) s0.lost.length := ⟨_, rfl⟩
  have hBl : cntF (s0.F (u : Nat)) s0.lost.length = Bk.length := by rw [hB, keysOf_length]
  rw [← hB, hBl] at hx7
  obtain ⟨a7, c7, rfl, _, _⟩ := owns_shape hx7
  have hx6' := owns_only H6.out.2 (Only.of_below (fun _ => False) hb7) (fun _ _ h => h)
  have hsN : s0.lost.length = N := HL.out.fine.len
  have hA := HAe.out
  have hAN : A.length ≤ 12 := by rw [hA, keysOf_length]; have := cntF_le (s0.ins (u : Nat)) s0.lost.length; omega
  have hBN : Bk.length ≤ 12 := by rw [hB, keysOf_length]; have := cntF_le (s0.F (u : Nat)) s0.lost.length; omega
  have hBn : Bk.Nodup := by rw [hB]; exact (keysOf_sorted _ _).imp (fun {a b} (h : a < b) => by omega)
  have hcost := cost_pairs hsN (HE.out.2.2.1 u hu1) (HE.out.2.1 u)
  rw [hsN] at hA hB
  rw [← hA, ← hB] at hcost
  have H7 := Lib.hid (And.intro (H6.out.1.below hb7) (And.intro hx6' (And.intro hx7 (And.intro hcost hBn))))
  clear hb7 hx7 hBl hx6' hcost hBn hA hB hsN
  go_wp2
  go_loopw [14, 15] (fun pv iv wr => ∃ i : Nat, iv = .int .i64 (i : Nat) ∧ i ≤ A.length ∧ pv = .int .i64 (pairP A Bk i : Nat) ∧ Below w7.heap.size w7 wr) (fun _ iv _ => A.length - (intOf iv).toNat)
  case atStart => exact ⟨0, rfl, Nat.zero_le _, rfl, Below.refl _ _⟩
  case round =>
    obtain ⟨i, rfl, hi, rfl, hbw⟩ := hrel
    have HBw := Lib.hid hbw
    have hpl := pair_le (A := A) H7.out.2.2.2.2 hi
    have hpl2 : pairP A Bk i ≤ 144 := Nat.le_trans hpl (Nat.le_trans (Nat.mul_le_mul hAN hBN) (by decide))
    clear hbw hpl
    by_cases hiA : i < A.length
    · -- the inner loop
      obtain ⟨pa, pac, hsl, _, hpal, hpac⟩ := isv_at H7.out.2.1 hiA
      injection hsl with e1 e2 e3
      subst e1
      have hpaw : wr.cell? ⟨pa, i, none⟩ = some (.int .i64 (A[i]'hiA)) := by rw [HBw.out.cell (p := ⟨pa, i, none⟩) hpal]; exact hpac
      generalize hxa : A[i]'hiA = xa at *
      have HX := Lib.hid (And.intro hxa hpal)
      clear e2 e3 hxa hpac
      go_wp2
      obtain ⟨wq, hwq⟩ : ∃ wq, wq = wr := ⟨_, rfl⟩
      subst hwq
      have hpaq := hpaw
      have hsmall : Bk.length ≤ 12 := hBN
      clear hpaw
      go_loopw [14, 16] (fun pv kv wr2 => ∃ k : Nat, kv = .int .i64 (k : Nat) ∧ k ≤ Bk.length ∧ pv = .int .i64 ((pairP A Bk i + neP Bk xa k : Nat) : Int) ∧ Below wq.heap.size wq wr2) (fun _ kv _ => Bk.length - (intOf kv).toNat)
      case atStart => exact ⟨0, rfl, Nat.zero_le _, by simp [neP], Below.refl _ _⟩
      case round =>
        obtain ⟨k, rfl, hk, rfl, hbq⟩ := hrel
        have HBq := Lib.hid hbq
        have hnp : neP Bk xa k ≤ 12 := by unfold neP; exact Nat.le_trans (List.length_filter_le _ _) (Nat.le_trans (List.length_take_le _ _) (by omega))
        clear hbq
        by_cases hkB : k < Bk.length
        · obtain ⟨pb, pbc, hsl2, _, hpbl, hpbc⟩ := isv_at H7.out.2.2.1 hkB
          injection hsl2 with e1 e2 e3
          subst e1
          have hpas := neP_succ (B := Bk) (a := xa) hkB
          have hbw7 := HBw.out.trans (HBq.out.mono HBw.out.size)
          have c1 : wr.cell? ⟨pa, i, none⟩ = some (.int .i64 xa) := by rw [HBq.out.cell (p := ⟨pa, i, none⟩) (block_lt_of_cell hpaq)]; exact hpaq
          have c2 : wr.cell? ⟨pb, k, none⟩ = some (.int .i64 (Bk[k]'hkB)) := by rw [hbw7.cell (p := ⟨pb, k, none⟩) hpbl]; exact hpbc
          generalize Bk[k]'hkB = xb at *
          have HCell := Lib.hid (show wr.drew.cell? ⟨pa, i, none⟩ = some (.int .i64 xa) ∧ wr.drew.cell? ⟨pb, k, none⟩ = some (.int .i64 xb) from ⟨c1, c2⟩)
          have HPs := Lib.hid hpas
          have hiA2 : ((i : Nat) : Int) < (A.length : Int) := by omega
          have hkB2 : ((k : Nat) : Int) < (Bk.length : Int) := by omega
          clear e2 e3 hpbc hpbl hpas hbw7 c1 c2
          go_wp2
          refine wp_region_held_drew (S := fun W => W.cell? ⟨pa, i, none⟩ = some (.int .i64 xa) ∧ W.cell? ⟨pb, k, none⟩ = some (.int .i64 xb)) (by kernel_rfl) HCell.out (fun hHeld => ?_)
          refine wpAnyH_take (i := 0) (oi := ⟨some 52, _, _, _, _, _⟩) (v := ?_) rfl (by kernel_rfl) (by kernel_rfl) (by kernel_rfl) (fun _ _ _ h => h) (Or.inl ⟨by rfl, ?_⟩) hHeld ?_
          rotate_left
          · intro W hSw
            obtain ⟨s1, s2⟩ := hSw
            go_simp
            with_reducible rfl
          simp only [Act.put, List.setIfInBounds_toArray, List.set_cons_zero, List.set_cons_succ]
          refine wpAnyH_take (i := 1) (oi := ⟨some 53, _, _, _, _, _⟩) (v := ?_) rfl (by kernel_rfl) (by kernel_rfl) (by kernel_rfl) (fun _ _ _ h => h) (Or.inl ⟨by rfl, ?_⟩) hHeld ?_
          rotate_left
          · intro W hSw
            obtain ⟨s1, s2⟩ := hSw
            go_simp
            with_reducible rfl
          simp only [Act.put, List.setIfInBounds_toArray, List.set_cons_zero, List.set_cons_succ]
          refine wpAnyH_take (i := 2) (oi := ⟨some 54, _, _, _, _, _⟩) (v := ?_) rfl (by kernel_rfl) (by kernel_rfl) (by kernel_rfl) (fun _ _ _ h => h) (Or.inl ⟨by rfl, ?_⟩) hHeld ?_
          rotate_left
          · intro W hSw
            obtain ⟨s1, s2⟩ := hSw
            go_simp
            with_reducible rfl
          simp only [Act.put, List.setIfInBounds_toArray, List.set_cons_zero, List.set_cons_succ]
          refine wpAnyH_take (i := 3) (oi := ⟨some 55, _, _, _, _, _⟩) (v := ?_) rfl (by kernel_rfl) (by kernel_rfl) (by kernel_rfl) (fun _ _ _ h => h) (Or.inl ⟨by rfl, ?_⟩) hHeld ?_
          rotate_left
          · intro W hSw
            obtain ⟨s1, s2⟩ := hSw
            go_simp
            with_reducible rfl
          simp only [Act.put, List.setIfInBounds_toArray, List.set_cons_zero, List.set_cons_succ]
          refine wpAnyH_take (i := 4) (oi := ⟨some 56, _, _, _, _, _⟩) (v := ?_) rfl (by kernel_rfl) (by kernel_rfl) (by kernel_rfl) (fun _ _ _ h => h) (Or.inl ⟨by rfl, ?_⟩) hHeld ?_
          rotate_left
          · intro W hSw
            obtain ⟨s1, s2⟩ := hSw
            go_simp
            with_reducible rfl
          simp only [Act.put, List.setIfInBounds_toArray, List.set_cons_zero, List.set_cons_succ]
          refine wpAnyH_take (i := 5) (oi := ⟨some 57, _, _, _, _, _⟩) (v := ?_) rfl (by kernel_rfl) (by kernel_rfl) (by kernel_rfl) (fun _ _ _ h => h) (Or.inl ⟨by rfl, ?_⟩) hHeld ?_
          rotate_left
          · intro W hSw
            obtain ⟨s1, s2⟩ := hSw
            go_simp
            with_reducible rfl
          simp only [Act.put, List.setIfInBounds_toArray, List.set_cons_zero, List.set_cons_succ]
          refine wpAnyH_take (i := 6) (oi := ⟨some 58, _, _, _, _, _⟩) (v := ?_) rfl (by kernel_rfl) (by kernel_rfl) (by kernel_rfl) (fun _ _ _ h => h) (Or.inl ⟨by rfl, ?_⟩) hHeld ?_
          rotate_left
          · intro W hSw
            obtain ⟨s1, s2⟩ := hSw
            go_simp
            with_reducible rfl
          simp only [Act.put, List.setIfInBounds_toArray, List.set_cons_zero, List.set_cons_succ]
          refine wpAnyH_take (i := 7) (oi := ⟨some 59, _, _, _, _, _⟩) (v := ?_) rfl (by kernel_rfl) (by kernel_rfl) (by kernel_rfl) (fun _ _ _ h => h) (Or.inl ⟨by rfl, ?_⟩) hHeld ?_
          rotate_left
          · intro W hSw
            obtain ⟨s1, s2⟩ := hSw
            go_simp
            with_reducible rfl
          simp only [Act.put, List.setIfInBounds_toArray, List.set_cons_zero, List.set_cons_succ]
          refine wpAnyH_take (i := 8) (oi := ⟨some 60, _, _, _, _, _⟩) (v := ?_) rfl (by kernel_rfl) (by kernel_rfl) (by kernel_rfl) (fun _ _ _ h => h) (Or.inl ⟨by rfl, ?_⟩) hHeld ?_
          rotate_left
          · intro W hSw
            obtain ⟨s1, s2⟩ := hSw
            go_simp
            with_reducible rfl
          simp only [Act.put, List.setIfInBounds_toArray, List.set_cons_zero, List.set_cons_succ]
          refine wpAnyH_done (by kernel_rfl) ?_ _
          cases hne : (xb != xa)
          all_goals
            have hne2 : (xa != xb) = (xb != xa) := by
              rw [bne_comm]
            rw [hne] at hne2
            have HNe := Lib.hid hne
            clear hne
            go_wp2
            refine ⟨⟨k + 1, by go_num, by omega, ?_, HBq.out.drew⟩, by simp [intOf]; omega⟩
            rw [HPs.out, HNe.out]
            first
            | (simp; done)
            | (rw [if_pos rfl]; congr 1; omega)
            | (rw [if_neg (by decide)]; congr 1; omega)
            | (simp; omega)
            | (congr 1; simp; done)
            | (congr 1; simp <;> omega)
        · have hkE : k = Bk.length := by omega
          go_wp2
          refine ⟨⟨i + 1, by go_num, hiA, ?_, HBw.out.trans (HBq.out.mono HBw.out.size)⟩, by simp [intOf]; omega⟩
          rw [hkE, neP_all, pairP_succ hiA, HX.out.1]
    · have hiE : i = A.length := by omega
      subst hiE
      have H7b := Lib.hid (H7.out.1.below HBw.out)
      obtain ⟨P, hP⟩ : ∃ P, P = pairP A Bk A.length := ⟨_, rfl⟩
      rw [← hP] at hpl2
      have hco := H7.out.2.2.2.1
      rw [← hP] at hco
      have HCo := Lib.hid hco
      rw [← hP]
      clear hP hco hi hiA
      go_wp2_with fail
      refine (lz_cost H7b.out.lz HE.out.2.2.2.1).mono ?_
      rw [HCo.out]
      rintro e w8 ⟨rfl, hb8⟩
      have H8 := Lib.hid (H7b.out.below hb8)
      have c8 := (H7b.out.below hb8).row.cell 0
      rw [HE.out.1] at c8
      simp only [List.getElem?_toArray, List.getElem?_cons_zero] at c8
      clear hb8
      by_cases huv : u = v
      · have huv2 : (((u : Nat) : Int) == ((v : Nat) : Int)) = true := beq_iff_eq.2 (by omega)
        have huv3 : ((u : Nat) : Int) = (v : Nat) := by omega
        clear huv
        go_wp2_with fail
        refine (lknown_any w8).mono ?_
        rintro e w20 ⟨rfl, hb20⟩
        have H20 := Lib.hid (H8.out.lz.bw.trans (hb20.mono H8.out.lz.bw.size))
        clear hb20
        go_wp2
        go_ret
        exact ⟨rfl, H20.out⟩
      · have huv2 : (((u : Nat) : Int) == ((v : Nat) : Int)) = false := beq_eq_false_iff_ne.2 (by omega)
        have HUV := Lib.hid huv
        clear huv
        cases hF1 : s0.F (u : Nat) (v : Nat) <;> cases hF2 : s0.F (v : Nat) (u : Nat)
        all_goals
          have HF := Lib.hid (And.intro hF1 hF2)
          clear hF1 hF2
          go_wp2_with fail
          refine (lz_way H8.out.lz HE.out.2.2.2.1 HE.out.2.2.2.2).mono ?_
          rw [HF.out.1]
          unfold wayT
          (try unfold w0V)
          rintro e w9 ⟨rfl, hb9⟩
          have H9 := Lib.hid (show ∀ O, TL w K mb lp bl bo bi N 0 mv s0 (w9.alloc O) from fun O => (H8.out.below hb9).below ((Below.refl _ _).alloc (Nat.le_refl _) _))
          clear hb9 c8
          go_wp2_with fail
          refine (lz_way (H9.out _).lz HE.out.2.2.2.2 HE.out.2.2.2.1).mono ?_
          rw [HF.out.2]
          unfold wayT
          (try unfold w0V)
          rintro e w10 ⟨rfl, hb10⟩
          have H10 := Lib.hid (show ∀ O, TL w K mb lp bl bo bi N 0 mv s0 (w10.alloc O) from fun O => ((H9.out _).below hb10).below ((Below.refl _ _).alloc (Nat.le_refl _) _))
          clear hb10
          go_wp2_with fail
          refine (lz_cost (H10.out _).lz HE.out.2.2.2.1).mono ?_
          obtain ⟨cc, hcc⟩ : ∃ cc, cc = s0.cost (u : Nat) := ⟨_, rfl⟩
          rw [← hcc]
          rintro e w11 ⟨rfl, hb11⟩
          have hcb : -24 ≤ cc ∧ cc ≤ 144 := by have := HCo.out; omega
          have H11 := Lib.hid ((H10.out _).below hb11)
          have HCc := Lib.hid hcc
          clear hb11 hcc
          go_wp2_with fail
          refine (lz_take H11.out.lz H11.out.fine (by omega) (HE.out.2.2.1 v hv1)).mono ?_
          rintro e w12 ⟨rfl, hst⟩
          have H12 := Lib.hid (H11.out.take hmK hst)
          clear hst
          obtain ⟨ct1, ct2⟩ := cost_take H11.out.fine (HE.out.2.2.1 u hu1) hv1 HUV.out
          rw [← HCc.out] at ct1 ct2
          have HCt := Lib.hid (And.intro ct1 ct2)
          clear ct1 ct2
          go_wp2_with fail
          refine (lz_cost H12.out.lz HE.out.2.2.2.1).mono ?_
          rintro e w13 ⟨rfl, hb13⟩
          have H13 := Lib.hid (H12.out.below hb13)
          clear hb13
          obtain ⟨c1, hc1⟩ : ∃ c1, c1 = (s0.take (v : Nat)).cost (u : Nat) := ⟨_, rfl⟩
          have hle := HCt.out.2
          rw [← hc1] at hle ⊢
          have HC1 := Lib.hid hc1
          clear hc1
          first
          | (have hec : c1 = cc := HC1.out.trans (HCt.out.1 HF.out.1 HF.out.2)
             clear hle
             subst hec)
          | skip
          go_wp2_with fail
          refine (lknown_any w13).mono ?_
          rintro e w20 ⟨rfl, hb20⟩
          have H20 := Lib.hid (H13.out.lz.bw.trans (hb20.mono H13.out.lz.bw.size))
          clear hb20
          go_wp2
          go_ret
          exact ⟨rfl, H20.out⟩
end Go.Proofs.YtdkpdmpghibmmaaGreat
