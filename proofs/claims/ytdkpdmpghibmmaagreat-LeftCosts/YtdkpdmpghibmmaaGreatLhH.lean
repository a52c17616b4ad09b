/- LeftTakes (written by mklhh.py). -/
import Derived.Test.YtdkpdmpghibmmaaGreatM10
namespace Go.Proofs.YtdkpdmpghibmmaaGreat
open Go.RowKit Go.Maps Go.Shelf Grm Lay
attribute [local go_sem ↓] Go.wp_at_zero Go.wp_at_succ
theorem at_plT {x : Int} {N : Nat} (h0 : 0 ≤ x) (hN : 1 ≤ N) : ∃ u : Nat, x.tmod (N : Int) = (u : Int) ∧ u < N := by
  have h1 := Int.emod_nonneg x (show ((N : Nat) : Int) ≠ 0 by omega)
  have h2 := Int.emod_lt_of_pos x (show (0 : Int) < ((N : Nat) : Int) by omega)
  exact ⟨(x % (N : Int)).toNat, by rw [Int.tmod_eq_emod_of_nonneg h0]; omega, by omega⟩
/-- Between the takes of a law. -/
structure TL (w : World) (K mb lp bl bo bi N i : Nat) (mv : Array Value) (s : LSt) (W : World) : Prop where
  fine : Fine s N i
  lz : Lz w K lp bl bo bi (fun k => k < K) s W
  row : Row W mb 24 mv
theorem TL.below {w W W' : World} {K mb lp bl bo bi N i : Nat} {mv : Array Value} {s : LSt} (h : TL w K mb lp bl bo bi N i mv s W) (hb : Below W.heap.size W W') : TL w K mb lp bl bo bi N i mv s W' := ⟨h.fine, h.lz.below hb, h.row.under hb h.row.lt⟩
theorem TL.take {w W W' : World} {K mb lp bl bo bi N i v : Nat} {mv : Array Value} {s : LSt} (h : TL w K mb lp bl bo bi N i mv s W) (hm : mb < K) (hs : LStep w K lp bl bo bi (fun k => k < K) (s.take (v : Nat)) W W') : TL w K mb lp bl bo bi N (i + 1) mv (s.take (v : Nat)) W' :=
  ⟨h.fine.take, hs.1, h.row.only hs.2 (fun e => e.2 hm)⟩
set_option maxRecDepth 100000 in
set_option maxHeartbeats 8000000 in
theorem lefttakes_walk (n : Int) (a : Option Addr) (l : List Ar) (c : Nat) (oa : Option Addr) (ob : List (BitVec 8)) (oc : Nat) (w : World) (hA : Arcs w a l) (hF : ∀ y ∈ l, FitA y) (hB : Bytes w oa ob) (hob : ob.length ≤ 140737488351232) :
    Calls Tryz.prog 5 #[.int .i64 n, .slice a l.length c, .slice oa ob.length oc] w fun e w' => e = .returned (.bool true) ∧ Below w.heap.size w w' := by
  have HO := Lib.hid (dof_any n a l c w hA hF)
  have hN1 := ofN_le n
  have hck := ofL_check n l
  have HBy := Lib.hid hB
  clear hA hF hB
  generalize ofL n l = M at *
  generalize ofN n = N at *
  have hok : EndsOk N M := by
    obtain ⟨k, h, _, _, h2, _⟩ := checkL_zero hck
    have : N = k := by omega
    subst this
    exact h2
  have HCk := Lib.hid (And.intro hck (And.intro hok (check_w hck)))
  clear hck hok
  go_enter Tryz.func5, Tryz.ntmps5
  go_wp2_with fail
  refine HO.out.mono ?_
  rintro e w2 ⟨hb2, am, cm, rfl, hav⟩
  obtain ⟨w3, hw3⟩ : ∃ w3, w3 = w2.alloc (.cells #[.int .i64 (N : Nat), .slice am M.length cm] 24) := ⟨_, rfl⟩
  have hb3 : Below w2.heap.size w2 w3 := by rw [hw3]; exact (Below.refl _ _).alloc (Nat.le_refl _) _
  have hr3 : Row w3 w2.heap.size 24 #[.int .i64 (N : Nat), .slice am M.length cm] := by rw [hw3]; exact Row.fresh w2 _ _
  have HG := Lib.hid (new_any (n := N) (c := cm) (hav.arcs.under hb3) HCk.out.1)
  have HW3 := Lib.hid hw3
  have H3 := Lib.hid (And.intro hr3 (hb2.trans (hb3.mono hb2.size)))
  have hz3 : w3.heap.size = w2.heap.size + 1 := by rw [hw3]; simp
  clear hb2 hav hw3 hb3 hr3
  go_wp2_with fail
  rw [← HW3.out]
  refine HG.out.mono ?_
  rintro e w4 ⟨g, rfl, hb4, hg4⟩
  have H4 := Lib.hid (And.intro hg4 (And.intro hb4 (H3.out.1.under hb4 H3.out.1.lt)))
  clear hb4 hg4
  go_wp2_with fail
  refine (left_new H4.out.1 (Nat.le_refl _)).mono ?_
  rintro e w5 ⟨lp, bl, bo, bi, go, gi, rfl, hl5, hk5, hb5⟩
  obtain ⟨s0, hs0⟩ : ∃ s0, s0 = newSt N M (keptL M) := ⟨_, rfl⟩
  have hfine : Fine s0 N 0 := by rw [hs0]; exact newSt_fine HCk.out.2.1
  rw [← hs0] at hl5
  have hz4 := H4.out.2.1.size
  have hz5 := hb5.size
  have hbw4 := H3.out.2.trans (H4.out.2.1.mono H3.out.2.size)
  have hlz : Lz w w4.heap.size lp bl bo bi (fun k => k < w4.heap.size) s0 w5 := lz_start hl5 hk5 ⟨hbw4.size, hz5⟩ (hbw4.trans (hb5.mono hbw4.size))
  have hr5 : Row w5 w2.heap.size 24 #[.int .i64 (N : Nat), .slice am M.length cm] := H4.out.2.2.under hb5 H4.out.2.2.lt
  have c5 := hr5.cell 0
  simp only [List.getElem?_toArray, List.getElem?_cons_zero, List.getElem?_cons_succ] at c5
  have hl25 : w2.heap.size < w5.heap.size := hr5.lt
  have H5 := Lib.hid (And.intro hlz (And.intro hr5 hfine))
  clear hl5 hk5 hb5 hs0 hfine hlz hr5 hbw4 go gi c5
  obtain ⟨K, hK⟩ : ∃ K, K = w4.heap.size := ⟨_, rfl⟩
  obtain ⟨mb, hmb⟩ : ∃ mb, mb = w2.heap.size := ⟨_, rfl⟩
  obtain ⟨mv, hmv⟩ : ∃ mv : Array Value, mv = #[.int .i64 (N : Nat), .slice am M.length cm] := ⟨_, rfl⟩
  have hmK : mb < K := by omega
  have HL := Lib.hid (show TL w K mb lp bl bo bi N 0 mv s0 w5 from ⟨H5.out.2.2, by rw [hK]; exact H5.out.1, by rw [hmb, hmv]; exact H5.out.2.1⟩)
  have HE := Lib.hid (And.intro hK (And.intro hmb hmv))
  clear hK hmv H5
  rw [← hmb]
  clear hmb
  go_wp2
  go_loopw [9] (fun vi wr => ∃ (i : Nat) (s : LSt), vi = .int .i64 (i : Nat) ∧ i ≤ 30 ∧ TL w K mb lp bl bo bi N i mv s wr) (fun vi _ => 30 - (intOf vi).toNat)
  case atStart => exact ⟨0, s0, rfl, by omega, HL.out⟩
  case round =>
    obtain ⟨i, s, rfl, hi, hT⟩ := hrel
    have HT := Lib.hid hT
    clear hT
    by_cases hi1 : i < ob.length ∧ i < 30
    · obtain ⟨hi1, hi2⟩ := hi1
      have hd1 : decide (((i : Nat) : Int) < (ob.length : Int)) = true := by simp; omega
      have hd2 : decide (((i : Nat) : Int) < 30) = true := by simp; omega
      go_wp2_with fail
      refine (lz_places HT.out.lz).mono ?_
      rintro e w6 ⟨hb6, x, rfl, hx⟩
      obtain ⟨ax, cx, rfl, _, _⟩ := owns_shape hx
      have H6 := Lib.hid (And.intro hx (And.intro hb6 (HT.out.below hb6)))
      clear hx hb6
      by_cases h0 : s.held.length = 0
      · have h0i : ((s.held.length : Nat) : Int) = 0 := by omega
        go_wp2_with fail
        refine (lknown_any w6).mono ?_
        rintro e w20 ⟨rfl, hb20⟩
        have H20 := Lib.hid (H6.out.2.2.lz.bw.trans (hb20.mono H6.out.2.2.lz.bw.size))
        clear hb20
        go_wp2
        go_ret
        exact ⟨rfl, H20.out⟩
      · have h0i : ¬ ((s.held.length : Nat) : Int) = 0 := by omega
        obtain ⟨b, o, rfl, hbl, hcell⟩ := HBy.out.at_ hi1
        have hbw6 := H6.out.2.2.lz.bw
        have hc6 : w6.cell? ⟨b, o + i, none⟩ = some (.int .u8 (B (ob[i]'hi1))) := by rw [hbw6.cell (p := ⟨b, o + i, none⟩) hbl]; exact hcell
        generalize hyy : B (ob[i]'hi1) = y at *
        have hy0 : 0 ≤ y ∧ y < 256 := by rw [← hyy]; exact ⟨B_ge _, B_lt _⟩
        have hyw : IntKind.i64.wrap y = y := by rw [IntKind.wrap_i64]; omega
        obtain ⟨j, hj, hj1⟩ := at_plT (N := s.held.length) hy0.1 (by omega)
        obtain ⟨pb, pc, hsl, _, hpl, hpc⟩ := isv_at H6.out.1 hj1
        injection hsl with e1 e2 e3
        subst e1
        obtain ⟨vn, hvn, hhold⟩ := mem_held (List.getElem_mem hj1)
        rw [hvn] at hpc
        have hvr := LSt.holds_in hhold
        have hlen := H6.out.2.2.fine.len
        have hwv : (Lit.int .i64 (vn : Nat)).wf = true := wf_nat ⟨by omega, by omega⟩ (show 16777216 ≤ 16777216 by omega)
        have HV := Lib.hid (And.intro hhold (And.intro hwv (H6.out.2.2.fine.outs_le (vn : Nat))))
        have hvN : vn < N := by omega
        clear hyy hcell hbw6 e2 e3 hvn hhold hwv hvr hlen
        go_wp2_with fail
        -- Outs
        refine (lz_outs H6.out.2.2.lz HV.out.2.1).mono ?_
        rintro e w7 ⟨hb7, x7, rfl, hx7⟩
        obtain ⟨a7, c7, rfl, _, _⟩ := owns_shape hx7
        obtain ⟨co, hco⟩ : ∃ co, co = cntF (s.F (vn : Nat)) s.lost.length := ⟨_, rfl⟩
        rw [← hco]
        have hle : ¬ s.held.length < co := by rw [hco]; have := HV.out.2.2; omega
        have hle2 : decide (s.held.length < co) = false := by simpa using hle
        have hle3 : ¬ ((s.held.length : Nat) : Int) < ((co : Nat) : Int) := by omega
        have H7 := Lib.hid (H6.out.2.2.below hb7)
        clear hb7 hx7 hco
        go_wp2_with fail
        -- Take
        refine (lz_take H7.out.lz H7.out.fine (by omega) HV.out.1).mono ?_
        rintro e w8 ⟨rfl, hst⟩
        have h8 := H7.out.take hmK hst
        obtain ⟨s1, hs1⟩ : ∃ s1, s1 = s.take (vn : Nat) := ⟨_, rfl⟩
        rw [← hs1] at h8
        have hn1 := take_none s (vn : Nat)
        rw [← hs1] at hn1
        have hh1 : s1.holds (vn : Nat) = false := by rw [hs1, take_holds H7.out.fine]; simp
        have hl1 : s1.held.length + 1 = s.held.length := by rw [hs1]; exact H7.out.fine.held_take HV.out.1
        have hz1 : cntF (s1.F (vn : Nat)) s1.lost.length = 0 := cntF_none hn1.1
        have hz2 : cntF (s1.ins (vn : Nat)) s1.lost.length = 0 := cntF_none (fun k => by unfold LSt.ins; rw [hn1.2 k]; rfl)
        have hz3 : s1.cost (vn : Nat) = 0 := by unfold LSt.cost; rw [hh1]; rfl
        have H8 := Lib.hid h8
        have HZ := Lib.hid (And.intro hh1 (And.intro hz1 (And.intro hz2 (And.intro hz3 (And.intro hn1 hl1)))))
        clear hst h8 hs1 hn1 hh1 hz1 hz2 hz3 hl1
        go_wp2_with fail
        -- Take again
        refine (lz_take_not H8.out.lz HV.out.2.1 HZ.out.1).mono ?_
        rintro e w9 ⟨rfl, hb9⟩
        have H9 := Lib.hid (H8.out.below hb9)
        clear hb9
        go_wp2_with fail
        refine (lz_outs H9.out.lz HV.out.2.1).mono ?_
        rw [HZ.out.2.1]
        rintro e w10 ⟨hb10, x10, rfl, hx10⟩
        obtain ⟨a10, c10, rfl, _, _⟩ := owns_shape hx10
        have H10 := Lib.hid (H9.out.below hb10)
        clear hb10 hx10
        go_wp2_with fail
        refine (lz_ins H10.out.lz HV.out.2.1).mono ?_
        rw [HZ.out.2.2.1]
        rintro e w11 ⟨hb11, x11, rfl, hx11⟩
        obtain ⟨a11, c11, rfl, _, _⟩ := owns_shape hx11
        have H11 := Lib.hid (H10.out.below hb11)
        clear hb11 hx11
        go_wp2_with fail
        refine (lz_cost H11.out.lz HV.out.2.1).mono ?_
        rw [HZ.out.2.2.2.1]
        rintro e w12 ⟨rfl, hb12⟩
        have H12 := Lib.hid (H11.out.below hb12)
        clear hb12
        go_wp2_with fail
        refine (lz_places H12.out.lz).mono ?_
        rintro e w13 ⟨hb13, x13, rfl, hx13⟩
        obtain ⟨a13, c13, rfl, _, _⟩ := owns_shape hx13
        have hl13 : ((s1.held.length : Nat) : Int) = ((s.held.length : Nat) : Int) - 1 := by have := HZ.out.2.2.2.2.2; omega
        have hhl : ((s.held.length : Nat) : Int) ≤ 16777216 := by have h1 := heldK_le s s.lost.length; have h2 := H6.out.2.2.fine.len; have h3 : s.held.length ≤ s.lost.length := h1; omega
        have hbne : (((s1.held.length : Nat) : Int) != ((s.held.length : Nat) : Int) - 1) = false := by rw [hl13]; simp
        have H13 := Lib.hid (H12.out.below hb13)
        have HL13 := Lib.hid hl13
        clear hb13 hx13 hl13
        go_wp2_with fail
        obtain ⟨w14, hw14⟩ : ∃ w14, w14 = w13 := ⟨_, rfl⟩
        subst hw14
        go_loopw [12] (fun ki wr2 => ∃ k : Nat, ki = .int .i64 (k : Nat) ∧ k ≤ N ∧ TL w K mb lp bl bo bi N (i + 1) mv s1 wr2) (fun ki _ => N - (intOf ki).toNat)
        case atStart => exact ⟨0, rfl, Nat.zero_le _, H13.out⟩
        case round =>
          obtain ⟨k, rfl, hkN, hT2⟩ := hrel
          have c0 := hT2.row.cell 0
          rw [HE.out.2.2] at c0
          simp only [List.getElem?_toArray, List.getElem?_cons_zero] at c0
          have HT2 := Lib.hid hT2
          clear hT2
          by_cases hkl : k < N
          · have hwk : (Lit.int .i64 (k : Nat)).wf = true := wf_nat ⟨by omega, by omega⟩ (show 16777216 ≤ 16777216 by omega)
            have HWk := Lib.hid hwk
            clear hwk
            go_wp2_with fail
            refine (lz_way HT2.out.lz HV.out.2.1 HWk.out).mono ?_
            rw [HZ.out.2.2.2.2.1.1]
            unfold wayT w0V
            rintro e w15 ⟨rfl, hb15⟩
            have H15 := Lib.hid (show ∀ O, TL w K mb lp bl bo bi N (i + 1) mv s1 (w15.alloc O) from fun O => (HT2.out.below hb15).below ((Below.refl _ _).alloc (Nat.le_refl _) _))
            clear hb15 c0
            go_wp2_with fail
            refine (lz_way (H15.out _).lz HWk.out HV.out.2.1).mono ?_
            rw [HZ.out.2.2.2.2.1.2]
            unfold wayT w0V
            rintro e w16 ⟨rfl, hb16⟩
            have H16 := Lib.hid (show ∀ O, TL w K mb lp bl bo bi N (i + 1) mv s1 (w16.alloc O) from fun O => ((H15.out _).below hb16).below ((Below.refl _ _).alloc (Nat.le_refl _) _))
            clear hb16
            go_wp2
            exact ⟨⟨k + 1, by go_num, hkl, H16.out _⟩, by simp [intOf]; omega⟩
          · have hkE : ¬ ((k : Nat) : Int) < (N : Nat) := by omega
            go_wp2
            exact ⟨⟨i + 1, s1, by go_num, by omega, HT2.out⟩, by simp [intOf]; omega⟩
    · by_cases hj : i < ob.length
      · have hd1 : decide (((i : Nat) : Int) < (ob.length : Int)) = true := by simp; omega
        have hd2 : decide (((i : Nat) : Int) < 30) = false := by simp; omega
        go_wp2_with fail
        refine (lknown_any wr).mono ?_
        rintro e w20 ⟨rfl, hb20⟩
        have H20 := Lib.hid (HT.out.lz.bw.trans (hb20.mono HT.out.lz.bw.size))
        clear hb20
        go_wp2
        go_ret
        exact ⟨rfl, H20.out⟩
      · have hd1 : decide (((i : Nat) : Int) < (ob.length : Int)) = false := by simp; omega
        go_wp2_with fail
        refine (lknown_any wr).mono ?_
        rintro e w20 ⟨rfl, hb20⟩
        have H20 := Lib.hid (HT.out.lz.bw.trans (hb20.mono HT.out.lz.bw.size))
        clear hb20
        go_wp2
        go_ret
        exact ⟨rfl, H20.out⟩
end Go.Proofs.YtdkpdmpghibmmaaGreat
