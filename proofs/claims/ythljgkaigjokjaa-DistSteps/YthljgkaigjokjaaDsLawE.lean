/- DistSteps (written by mkdle.py). -/
import Derived.Test.YthljgkaigjokjaaDsLawD
import Derived.BigQuiet
namespace Go.Proofs.Ythljgkaigjokjaa
open Go.RowKit Go.Shelf Grm Lay
set_option maxRecDepth 100000 in
set_option maxHeartbeats 8000000 in
theorem dsteps_walk (n : Int) (a : Option Addr) (l : List Ar) (c : Nat) (x : Int) (w : World) (hA : Arcs w a l) (hF : ∀ y ∈ l, FitA y) (hx : 0 ≤ x ∧ x < 256) :
    Calls Try.prog 12 #[.int .i64 n, .slice a l.length c, .int .u8 x] w fun e w' => e = .returned (.bool true) ∧ Below w.heap.size w w' := by
  have HO := Lib.hid (dof_any n a l c w hA hF)
  have hck := ofL_check n l
  have hN1 := ofN_le n
  clear hA hF
  generalize ofL n l = M at *
  generalize ofN n = N at *
  obtain ⟨s, hu, hs1⟩ := at_place (N := N) hx.1 hN1.1
  have hxw : IntKind.i64.wrap x = x := by rw [IntKind.wrap_i64]; omega
  have hn0 : ¬ ((N : Nat) : Int) = 0 := by omega
  have hok : EndsOk N M := by
    obtain ⟨k, h, _, _, h2, _⟩ := checkL_zero hck
    have : N = k := by omega
    subst this
    exact h2
  have hln := len_of hck
  have hmc : M.length ≤ 67108864 := by
    obtain ⟨_, _, _, h, _⟩ := checkL_zero hck
    exact h
  obtain ⟨L, hL⟩ := FarI.ex (eds_arc hok hln) s
  have hself := far_self hok hln hL hs1
  have hfl : FarL (arcE M) N s L := by
    rcases hL with ⟨_, _, h⟩ | ⟨h, _⟩
    · simpa using h
    · omega
  have hsl := sumL_le hln M.length (Nat.le_refl _)
  rw [List.take_length] at hsl
  have HB := Lib.hid (show ∀ (q : Nat) (d : Int), L[q]? = some d → -1 ≤ d ∧ d ≤ 144115188075855872 from fun q d h => by have h1 := far_sum hok hln hL (q : Int); have h2 := hL.ge (eds_arc hok hln) (q : Int); rw [atL_of h] at h1 h2; omega)
  have HFi := Lib.hid (show ∀ v, v < N → ∀ e ∈ inE N M v, _ from fun v hv e he => far_in hok hln hfl hs1 hv he)
  have HMa := Lib.hid (show ∀ v, v < N → 0 ≤ atL L v → madeB L s v (inE N M v) = true from fun v hv h => madeB_all hok hln hfl hs1 hv h)
  have HD := Lib.hid (And.intro hck (And.intro hL (And.intro hfl.1 hself)))
  clear hck hL hok hln hself hfl hsl hmc hx
  go_enter Try.func12, Try.ntmps12
  go_wp2_with (first
  | (go_at_call 45; refine HO.out.mono ?_; rintro e w1 ⟨hb1, am, cm, rfl, hv1⟩; have H1 := Lib.hid (And.intro hb1 hv1); clear hb1 hv1)
  | (go_at_call 18; refine (new_oz H1.out.1 H1.out.2 HD.out.1).mono ?_; rintro e w2 ⟨g, Bd, rfl, HS⟩; have r0 := HS.out.cells.1; have r1 := HS.out.cells.2)
  | (go_at_call 33; refine (dfrom_any HS.out.gv HS.out.hB HD.out.2.1).mono ?_; rintro e w3 ⟨hb, xv, rfl, hx⟩; obtain ⟨ad, cd, rfl, hzs, _, _⟩ := IsV.shape hx; rw [HD.out.2.2.1]; have HZ := Lib.hid hzs; clear hx hzs; have HS2 := Lib.hid (HS.out.next hb); clear HS r0 r1; have r0 := HS2.out.cells.1; have r1 := HS2.out.cells.2; have HS := HS2; clear HS2; clear hb))
  obtain ⟨db, do_, rfl, _⟩ := HZ.out.at_ (k := 0) (by have := HD.out.2.2.1; omega)
  go_loopw [11] (fun vi wr => ∃ i : Nat, vi = .int .i64 (i : Nat) ∧ i ≤ N ∧ Oz w w1.heap.size N M am cm Bd (ptr g) wr ∧ Zs wr (some ⟨db, do_, none⟩) L) (fun i _ => N - (intOf i).toNat)
  case atStart => exact ⟨0, rfl, Nat.zero_le _, HS.out, HZ.out⟩
  case round =>
    obtain ⟨i, rfl, hi, hoz, hzs⟩ := hrel
    have r0' := hoz.cells.1
    by_cases hlt : i < N
    · have hlt' : (i : Int) < (N : Int) := by omega
      have hw1' : IntKind.i64.wrap ((i : Int) + 1) = (i : Int) + 1 := by rw [IntKind.wrap_i64]; omega
      have hvl : i < L.length := by have := HD.out.2.2.1; omega
      obtain ⟨dv, hdv⟩ : ∃ dv, L[i]? = some dv := ⟨_, List.getElem?_eq_getElem hvl⟩
      have hf := HFi.out i hlt
      have hm := HMa.out i hlt
      rw [atL_of hdv] at hm
      obtain ⟨E, hE⟩ : ∃ E, E = inE N M i := ⟨_, rfl⟩
      rw [← hE] at hf hm
      have hEl := inI_len N M (i : Int) (by omega)
      rw [inI_at, ← hE] at hEl
      have HF := Lib.hid hf
      have HM := Lib.hid hm
      have HR := Lib.hid (And.intro hoz (And.intro hzs hE))
      clear hf hm hoz hzs hE HZ HS r0 r1
      by_cases hsi : ((i : Nat) : Int) = (s : Int)
      · have b1 : (((i : Nat) : Int) == (s : Int)) = true := by simpa using hsi
        have hd0 : dv = 0 := by
          have h := HD.out.2.2.2
          have e : i = s := by omega
          rw [← e, atL_of hdv] at h
          exact h
        have MB0 : madeB L s i [] = true := by rw [madeB_nil, atL_of hdv]; simp [hsi, hd0]
        have b2 : (dv == 0) = true := by simpa using hd0
        clear hsi hd0
        go_wp2_with (go_at_call 21; refine (in_gv HR.out.1.gv _).mono ?_; rintro e w4 ⟨hb, xv, rfl, hEv⟩; rw [inI_at, ← HR.out.2.2] at hEv; obtain ⟨ae, ce, rfl, hEs, _, _⟩ := EV.shape hEv; have HEs := Lib.hid hEs; have HS := Lib.hid (HR.out.1.next hb); have HZ5 := Lib.hid (HR.out.2.1.under hb); have zi := HZ5.out.cell hdv; clear hEv hEs hb r0')
        clear zi
        go_loopw [13, 14] (fun vm vj wr => ∃ j : Nat, vj = .int .i64 (j : Nat) ∧ vm = .bool (madeB L s i (E.take j)) ∧ j ≤ E.length ∧ Oz w w1.heap.size N M am cm Bd (ptr g) wr ∧ Zs wr (some ⟨db, do_, none⟩) L ∧ Es wr ae E) (fun _ j _ => E.length - (intOf j).toNat)
        case atStart => exact ⟨0, rfl, by rw [List.take_zero, MB0], Nat.zero_le _, HS.out, HZ5.out, HEs.out⟩
        case round =>
          obtain ⟨j, rfl, rfl, hj, hoz2, hzs2, hes⟩ := hrel
          by_cases hlt2 : j < E.length
          · have hlt2' : (j : Int) < (E.length : Int) := by omega
            have hw2 : IntKind.i64.wrap ((j : Int) + 1) = (j : Int) + 1 := by rw [IntKind.wrap_i64]; omega
            obtain ⟨eb, eo, rfl, e0, e1, e2⟩ := hes.at_ hlt2
            obtain ⟨q, du, dv', hq, hqN, hdu, hdv', hin, hww0, hww⟩ := HF.out _ (List.getElem_mem hlt2)
            have hms := madeB_succ (L := L) (s := s) (v := i) hlt2
            rw [hq, atL_of hdu, atL_of hdv] at hms
            have hde : dv' = dv := by rw [hdv'] at hdv; injection hdv
            rw [hde] at hin
            rw [hq] at e0
            have zq := hzs2.cell hdu
            have zi := hzs2.cell hdv
            have hqN' : (q : Int) < (N : Int) := by omega
            have hdub := HB.out _ _ hdu
            generalize (E[j]'hlt2).2.1 = W at *
            have hwW : IntKind.i64.wrap (du + W) = du + W := by rw [IntKind.wrap_i64]; omega
            obtain ⟨b, hb⟩ : ∃ b, b = madeB L s i (E.take j) := ⟨_, rfl⟩
            rw [← hb] at hms
            rw [← hb]
            have HQ := Lib.hid (And.intro hoz2 (And.intro hzs2 (And.intro hes hms)))
            clear hoz2 hzs2 hes hms hde hdv' hdu hq hdub hww0 hww hj hb
            by_cases hd0 : 0 ≤ du
            · obtain ⟨h1, h2⟩ := hin hd0
              have d1 : decide (0 ≤ du) = true := by simpa using hd0
              have d2 : decide (dv < 0) = false := by simp; omega
              have d3 : decide (du + W < dv) = false := by simp; omega
              have HDd := Lib.hid (And.intro d1 trivial)
              clear hin hd0 h1 h2
              cases b with
              | true =>
                go_wp2
                go_quiet (fail)
                obtain ⟨w6, hw6⟩ : ∃ w6, w6 = wr.drewN nq := ⟨_, rfl⟩
                rw [← hw6]
                have hb6 : Below wr.heap.size wr w6 := by rw [hw6]; exact below_dN (Below.refl _ _) _
                have HQ6 := Lib.hid (And.intro (HQ.out.1.next hb6) (And.intro (HQ.out.2.1.under hb6) (And.intro (HQ.out.2.2.1.under hb6) HQ.out.2.2.2)))
                have zq6 := (hb6.cell (block_lt_of_cell zq)).trans zq
                have zi6 := (hb6.cell (block_lt_of_cell zi)).trans zi
                have e06 := (hb6.cell (block_lt_of_cell e0)).trans e0
                have e16 := (hb6.cell (block_lt_of_cell e1)).trans e1
                clear zq zi e0 e1 e2 HQ hw6 hb6
                go_wp2
                go_quiet (fail)
                obtain ⟨w7, hw7⟩ : ∃ w7, w7 = w6.drewN nq := ⟨_, rfl⟩
                rw [← hw7]
                have hb7 : Below w6.heap.size w6 w7 := by rw [hw7]; exact below_dN (Below.refl _ _) _
                have HQ7 := Lib.hid (And.intro (HQ6.out.1.next hb7) (And.intro (HQ6.out.2.1.under hb7) (And.intro (HQ6.out.2.2.1.under hb7) HQ6.out.2.2.2)))
                clear hw7 hb7 HQ6 zq6 zi6 e06 e16
                go_wp2
                have hm7 := HQ7.out.2.2.2
                refine ⟨⟨j + 1, by go_num, ?_, by omega, HQ7.out.1, HQ7.out.2.1, HQ7.out.2.2.1⟩, by simp [intOf]; omega⟩
                rw [hm7, HDd.out.1]
                rfl
              | false =>
                go_wp2
                go_quiet (fail)
                obtain ⟨w6, hw6⟩ : ∃ w6, w6 = wr.drewN nq := ⟨_, rfl⟩
                rw [← hw6]
                have hb6 : Below wr.heap.size wr w6 := by rw [hw6]; exact below_dN (Below.refl _ _) _
                have HQ6 := Lib.hid (And.intro (HQ.out.1.next hb6) (And.intro (HQ.out.2.1.under hb6) (And.intro (HQ.out.2.2.1.under hb6) HQ.out.2.2.2)))
                have zq6 := (hb6.cell (block_lt_of_cell zq)).trans zq
                have zi6 := (hb6.cell (block_lt_of_cell zi)).trans zi
                have e06 := (hb6.cell (block_lt_of_cell e0)).trans e0
                have e16 := (hb6.cell (block_lt_of_cell e1)).trans e1
                clear zq zi e0 e1 e2 HQ hw6 hb6
                go_wp2
                go_quiet (fail)
                obtain ⟨w7, hw7⟩ : ∃ w7, w7 = w6.drewN nq := ⟨_, rfl⟩
                rw [← hw7]
                have hb7 : Below w6.heap.size w6 w7 := by rw [hw7]; exact below_dN (Below.refl _ _) _
                have HQ7 := Lib.hid (And.intro (HQ6.out.1.next hb7) (And.intro (HQ6.out.2.1.under hb7) (And.intro (HQ6.out.2.2.1.under hb7) HQ6.out.2.2.2)))
                clear hw7 hb7 HQ6 zq6 zi6 e06 e16
                go_wp2
                have hm7 := HQ7.out.2.2.2
                refine ⟨⟨j + 1, by go_num, ?_, by omega, HQ7.out.1, HQ7.out.2.1, HQ7.out.2.2.1⟩, by simp [intOf]; omega⟩
                rw [hm7, HDd.out.1]
                rfl
            · have d1 : decide (0 ≤ du) = false := by simpa using hd0
              have HDd := Lib.hid (And.intro d1 trivial)
              clear hin hd0
              cases b with
              | true =>
                go_wp2
                go_quiet (fail)
                obtain ⟨w6, hw6⟩ : ∃ w6, w6 = wr.drewN nq := ⟨_, rfl⟩
                rw [← hw6]
                have hb6 : Below wr.heap.size wr w6 := by rw [hw6]; exact below_dN (Below.refl _ _) _
                have HQ6 := Lib.hid (And.intro (HQ.out.1.next hb6) (And.intro (HQ.out.2.1.under hb6) (And.intro (HQ.out.2.2.1.under hb6) HQ.out.2.2.2)))
                have zq6 := (hb6.cell (block_lt_of_cell zq)).trans zq
                have zi6 := (hb6.cell (block_lt_of_cell zi)).trans zi
                have e06 := (hb6.cell (block_lt_of_cell e0)).trans e0
                have e16 := (hb6.cell (block_lt_of_cell e1)).trans e1
                clear zq zi e0 e1 e2 HQ hw6 hb6
                go_wp2
                go_quiet (fail)
                obtain ⟨w7, hw7⟩ : ∃ w7, w7 = w6.drewN nq := ⟨_, rfl⟩
                rw [← hw7]
                have hb7 : Below w6.heap.size w6 w7 := by rw [hw7]; exact below_dN (Below.refl _ _) _
                have HQ7 := Lib.hid (And.intro (HQ6.out.1.next hb7) (And.intro (HQ6.out.2.1.under hb7) (And.intro (HQ6.out.2.2.1.under hb7) HQ6.out.2.2.2)))
                clear hw7 hb7 HQ6 zq6 zi6 e06 e16
                go_wp2
                have hm7 := HQ7.out.2.2.2
                refine ⟨⟨j + 1, by go_num, ?_, by omega, HQ7.out.1, HQ7.out.2.1, HQ7.out.2.2.1⟩, by simp [intOf]; omega⟩
                rw [hm7, HDd.out.1]
                rfl
              | false =>
                go_wp2
                go_quiet (fail)
                obtain ⟨w6, hw6⟩ : ∃ w6, w6 = wr.drewN nq := ⟨_, rfl⟩
                rw [← hw6]
                have hb6 : Below wr.heap.size wr w6 := by rw [hw6]; exact below_dN (Below.refl _ _) _
                have HQ6 := Lib.hid (And.intro (HQ.out.1.next hb6) (And.intro (HQ.out.2.1.under hb6) (And.intro (HQ.out.2.2.1.under hb6) HQ.out.2.2.2)))
                have zq6 := (hb6.cell (block_lt_of_cell zq)).trans zq
                have zi6 := (hb6.cell (block_lt_of_cell zi)).trans zi
                have e06 := (hb6.cell (block_lt_of_cell e0)).trans e0
                have e16 := (hb6.cell (block_lt_of_cell e1)).trans e1
                clear zq zi e0 e1 e2 HQ hw6 hb6
                go_wp2
                go_quiet (fail)
                obtain ⟨w7, hw7⟩ : ∃ w7, w7 = w6.drewN nq := ⟨_, rfl⟩
                rw [← hw7]
                have hb7 : Below w6.heap.size w6 w7 := by rw [hw7]; exact below_dN (Below.refl _ _) _
                have HQ7 := Lib.hid (And.intro (HQ6.out.1.next hb7) (And.intro (HQ6.out.2.1.under hb7) (And.intro (HQ6.out.2.2.1.under hb7) HQ6.out.2.2.2)))
                clear hw7 hb7 HQ6 zq6 zi6 e06 e16
                go_wp2
                have hm7 := HQ7.out.2.2.2
                refine ⟨⟨j + 1, by go_num, ?_, by omega, HQ7.out.1, HQ7.out.2.1, HQ7.out.2.2.1⟩, by simp [intOf]; omega⟩
                rw [hm7, HDd.out.1]
                rfl
          · obtain rfl : j = E.length := by omega
            rw [List.take_length] at *
            have zi := hzs2.cell hdv
            have HQ := Lib.hid (And.intro hoz2 hzs2)
            clear hoz2 hzs2 hes hj
            obtain ⟨b, hb⟩ : ∃ b, b = madeB L s i E := ⟨_, rfl⟩
            rw [← hb]
            cases b with
            | true =>
              clear hb
              go_wp2
              exact ⟨⟨i + 1, by go_num, by omega, HQ.out.1, HQ.out.2⟩, by simp [intOf]; omega⟩
            | false =>
              have dn : decide (0 ≤ dv) = false := by
                rcases Int.lt_or_le dv 0 with h | h
                · simpa using h
                · have := HM.out h
                  rw [this] at hb
                  cases hb
              clear hb
              go_wp2
              exact ⟨⟨i + 1, by go_num, by omega, HQ.out.1, HQ.out.2⟩, by simp [intOf]; omega⟩
      · have b1 : (((i : Nat) : Int) == (s : Int)) = false := by simpa using hsi
        have MB0 : madeB L s i [] = false := by rw [madeB_nil]; simp [hsi]
        clear hsi
        go_wp2_with (go_at_call 21; refine (in_gv HR.out.1.gv _).mono ?_; rintro e w4 ⟨hb, xv, rfl, hEv⟩; rw [inI_at, ← HR.out.2.2] at hEv; obtain ⟨ae, ce, rfl, hEs, _, _⟩ := EV.shape hEv; have HEs := Lib.hid hEs; have HS := Lib.hid (HR.out.1.next hb); have HZ5 := Lib.hid (HR.out.2.1.under hb); have zi := HZ5.out.cell hdv; clear hEv hEs hb r0')
        clear zi
        go_loopw [13, 14] (fun vm vj wr => ∃ j : Nat, vj = .int .i64 (j : Nat) ∧ vm = .bool (madeB L s i (E.take j)) ∧ j ≤ E.length ∧ Oz w w1.heap.size N M am cm Bd (ptr g) wr ∧ Zs wr (some ⟨db, do_, none⟩) L ∧ Es wr ae E) (fun _ j _ => E.length - (intOf j).toNat)
        case atStart => exact ⟨0, rfl, by rw [List.take_zero, MB0], Nat.zero_le _, HS.out, HZ5.out, HEs.out⟩
        case round =>
          obtain ⟨j, rfl, rfl, hj, hoz2, hzs2, hes⟩ := hrel
          by_cases hlt2 : j < E.length
          · have hlt2' : (j : Int) < (E.length : Int) := by omega
            have hw2 : IntKind.i64.wrap ((j : Int) + 1) = (j : Int) + 1 := by rw [IntKind.wrap_i64]; omega
            obtain ⟨eb, eo, rfl, e0, e1, e2⟩ := hes.at_ hlt2
            obtain ⟨q, du, dv', hq, hqN, hdu, hdv', hin, hww0, hww⟩ := HF.out _ (List.getElem_mem hlt2)
            have hms := madeB_succ (L := L) (s := s) (v := i) hlt2
            rw [hq, atL_of hdu, atL_of hdv] at hms
            have hde : dv' = dv := by rw [hdv'] at hdv; injection hdv
            rw [hde] at hin
            rw [hq] at e0
            have zq := hzs2.cell hdu
            have zi := hzs2.cell hdv
            have hqN' : (q : Int) < (N : Int) := by omega
            have hdub := HB.out _ _ hdu
            generalize (E[j]'hlt2).2.1 = W at *
            have hwW : IntKind.i64.wrap (du + W) = du + W := by rw [IntKind.wrap_i64]; omega
            obtain ⟨b, hb⟩ : ∃ b, b = madeB L s i (E.take j) := ⟨_, rfl⟩
            rw [← hb] at hms
            rw [← hb]
            have HQ := Lib.hid (And.intro hoz2 (And.intro hzs2 (And.intro hes hms)))
            clear hoz2 hzs2 hes hms hde hdv' hdu hq hdub hww0 hww hj hb
            by_cases hd0 : 0 ≤ du
            · obtain ⟨h1, h2⟩ := hin hd0
              have d1 : decide (0 ≤ du) = true := by simpa using hd0
              have d2 : decide (dv < 0) = false := by simp; omega
              have d3 : decide (du + W < dv) = false := by simp; omega
              have HDd := Lib.hid (And.intro d1 trivial)
              clear hin hd0 h1 h2
              cases b with
              | true =>
                go_wp2
                go_quiet (fail)
                obtain ⟨w6, hw6⟩ : ∃ w6, w6 = wr.drewN nq := ⟨_, rfl⟩
                rw [← hw6]
                have hb6 : Below wr.heap.size wr w6 := by rw [hw6]; exact below_dN (Below.refl _ _) _
                have HQ6 := Lib.hid (And.intro (HQ.out.1.next hb6) (And.intro (HQ.out.2.1.under hb6) (And.intro (HQ.out.2.2.1.under hb6) HQ.out.2.2.2)))
                have zq6 := (hb6.cell (block_lt_of_cell zq)).trans zq
                have zi6 := (hb6.cell (block_lt_of_cell zi)).trans zi
                have e06 := (hb6.cell (block_lt_of_cell e0)).trans e0
                have e16 := (hb6.cell (block_lt_of_cell e1)).trans e1
                clear zq zi e0 e1 e2 HQ hw6 hb6
                go_wp2
                go_quiet (fail)
                obtain ⟨w7, hw7⟩ : ∃ w7, w7 = w6.drewN nq := ⟨_, rfl⟩
                rw [← hw7]
                have hb7 : Below w6.heap.size w6 w7 := by rw [hw7]; exact below_dN (Below.refl _ _) _
                have HQ7 := Lib.hid (And.intro (HQ6.out.1.next hb7) (And.intro (HQ6.out.2.1.under hb7) (And.intro (HQ6.out.2.2.1.under hb7) HQ6.out.2.2.2)))
                clear hw7 hb7 HQ6 zq6 zi6 e06 e16
                go_wp2
                have hm7 := HQ7.out.2.2.2
                refine ⟨⟨j + 1, by go_num, ?_, by omega, HQ7.out.1, HQ7.out.2.1, HQ7.out.2.2.1⟩, by simp [intOf]; omega⟩
                rw [hm7, HDd.out.1]
                rfl
              | false =>
                go_wp2
                go_quiet (fail)
                obtain ⟨w6, hw6⟩ : ∃ w6, w6 = wr.drewN nq := ⟨_, rfl⟩
                rw [← hw6]
                have hb6 : Below wr.heap.size wr w6 := by rw [hw6]; exact below_dN (Below.refl _ _) _
                have HQ6 := Lib.hid (And.intro (HQ.out.1.next hb6) (And.intro (HQ.out.2.1.under hb6) (And.intro (HQ.out.2.2.1.under hb6) HQ.out.2.2.2)))
                have zq6 := (hb6.cell (block_lt_of_cell zq)).trans zq
                have zi6 := (hb6.cell (block_lt_of_cell zi)).trans zi
                have e06 := (hb6.cell (block_lt_of_cell e0)).trans e0
                have e16 := (hb6.cell (block_lt_of_cell e1)).trans e1
                clear zq zi e0 e1 e2 HQ hw6 hb6
                go_wp2
                go_quiet (fail)
                obtain ⟨w7, hw7⟩ : ∃ w7, w7 = w6.drewN nq := ⟨_, rfl⟩
                rw [← hw7]
                have hb7 : Below w6.heap.size w6 w7 := by rw [hw7]; exact below_dN (Below.refl _ _) _
                have HQ7 := Lib.hid (And.intro (HQ6.out.1.next hb7) (And.intro (HQ6.out.2.1.under hb7) (And.intro (HQ6.out.2.2.1.under hb7) HQ6.out.2.2.2)))
                clear hw7 hb7 HQ6 zq6 zi6 e06 e16
                go_wp2
                have hm7 := HQ7.out.2.2.2
                refine ⟨⟨j + 1, by go_num, ?_, by omega, HQ7.out.1, HQ7.out.2.1, HQ7.out.2.2.1⟩, by simp [intOf]; omega⟩
                rw [hm7, HDd.out.1]
                rfl
            · have d1 : decide (0 ≤ du) = false := by simpa using hd0
              have HDd := Lib.hid (And.intro d1 trivial)
              clear hin hd0
              cases b with
              | true =>
                go_wp2
                go_quiet (fail)
                obtain ⟨w6, hw6⟩ : ∃ w6, w6 = wr.drewN nq := ⟨_, rfl⟩
                rw [← hw6]
                have hb6 : Below wr.heap.size wr w6 := by rw [hw6]; exact below_dN (Below.refl _ _) _
                have HQ6 := Lib.hid (And.intro (HQ.out.1.next hb6) (And.intro (HQ.out.2.1.under hb6) (And.intro (HQ.out.2.2.1.under hb6) HQ.out.2.2.2)))
                have zq6 := (hb6.cell (block_lt_of_cell zq)).trans zq
                have zi6 := (hb6.cell (block_lt_of_cell zi)).trans zi
                have e06 := (hb6.cell (block_lt_of_cell e0)).trans e0
                have e16 := (hb6.cell (block_lt_of_cell e1)).trans e1
                clear zq zi e0 e1 e2 HQ hw6 hb6
                go_wp2
                go_quiet (fail)
                obtain ⟨w7, hw7⟩ : ∃ w7, w7 = w6.drewN nq := ⟨_, rfl⟩
                rw [← hw7]
                have hb7 : Below w6.heap.size w6 w7 := by rw [hw7]; exact below_dN (Below.refl _ _) _
                have HQ7 := Lib.hid (And.intro (HQ6.out.1.next hb7) (And.intro (HQ6.out.2.1.under hb7) (And.intro (HQ6.out.2.2.1.under hb7) HQ6.out.2.2.2)))
                clear hw7 hb7 HQ6 zq6 zi6 e06 e16
                go_wp2
                have hm7 := HQ7.out.2.2.2
                refine ⟨⟨j + 1, by go_num, ?_, by omega, HQ7.out.1, HQ7.out.2.1, HQ7.out.2.2.1⟩, by simp [intOf]; omega⟩
                rw [hm7, HDd.out.1]
                rfl
              | false =>
                go_wp2
                go_quiet (fail)
                obtain ⟨w6, hw6⟩ : ∃ w6, w6 = wr.drewN nq := ⟨_, rfl⟩
                rw [← hw6]
                have hb6 : Below wr.heap.size wr w6 := by rw [hw6]; exact below_dN (Below.refl _ _) _
                have HQ6 := Lib.hid (And.intro (HQ.out.1.next hb6) (And.intro (HQ.out.2.1.under hb6) (And.intro (HQ.out.2.2.1.under hb6) HQ.out.2.2.2)))
                have zq6 := (hb6.cell (block_lt_of_cell zq)).trans zq
                have zi6 := (hb6.cell (block_lt_of_cell zi)).trans zi
                have e06 := (hb6.cell (block_lt_of_cell e0)).trans e0
                have e16 := (hb6.cell (block_lt_of_cell e1)).trans e1
                clear zq zi e0 e1 e2 HQ hw6 hb6
                go_wp2
                go_quiet (fail)
                obtain ⟨w7, hw7⟩ : ∃ w7, w7 = w6.drewN nq := ⟨_, rfl⟩
                rw [← hw7]
                have hb7 : Below w6.heap.size w6 w7 := by rw [hw7]; exact below_dN (Below.refl _ _) _
                have HQ7 := Lib.hid (And.intro (HQ6.out.1.next hb7) (And.intro (HQ6.out.2.1.under hb7) (And.intro (HQ6.out.2.2.1.under hb7) HQ6.out.2.2.2)))
                clear hw7 hb7 HQ6 zq6 zi6 e06 e16
                go_wp2
                have hm7 := HQ7.out.2.2.2
                refine ⟨⟨j + 1, by go_num, ?_, by omega, HQ7.out.1, HQ7.out.2.1, HQ7.out.2.2.1⟩, by simp [intOf]; omega⟩
                rw [hm7, HDd.out.1]
                rfl
          · obtain rfl : j = E.length := by omega
            rw [List.take_length] at *
            have zi := hzs2.cell hdv
            have HQ := Lib.hid (And.intro hoz2 hzs2)
            clear hoz2 hzs2 hes hj
            obtain ⟨b, hb⟩ : ∃ b, b = madeB L s i E := ⟨_, rfl⟩
            rw [← hb]
            cases b with
            | true =>
              clear hb
              go_wp2
              exact ⟨⟨i + 1, by go_num, by omega, HQ.out.1, HQ.out.2⟩, by simp [intOf]; omega⟩
            | false =>
              have dn : decide (0 ≤ dv) = false := by
                rcases Int.lt_or_le dv 0 with h | h
                · simpa using h
                · have := HM.out h
                  rw [this] at hb
                  cases hb
              clear hb
              go_wp2
              exact ⟨⟨i + 1, by go_num, by omega, HQ.out.1, HQ.out.2⟩, by simp [intOf]; omega⟩
    · obtain rfl : i = N := by omega
      have HQ := Lib.hid hoz
      clear hoz hzs HZ HS r0 r1
      go_wp2_with (go_at_call 30; refine (dknown_any _).mono ?_; rintro er w5 ⟨rfl, hb⟩; have HN := Lib.hid (HQ.out.next hb); clear hb)
      go_ret
      exact ⟨rfl, HN.out.bw⟩
theorem dsteps_row (n : Int) (a : Option Addr) (l : List Ar) (c : Nat) (x : Int) (w : World) (hA : Arcs w a l) (hF : ∀ y ∈ l, FitA y) (hx : (Lit.int .u8 x).wf = true) :
    Calls Try.prog 12 #[.int .i64 n, .slice a l.length c, .int .u8 x] w fun e w' => e = .returned (.bool true) ∧ Below w.heap.size w w' :=
  dsteps_walk n a l c x w hA hF (u8_of hx)
end Go.Proofs.Ythljgkaigjokjaa
