/- GraphArcs (written by mkglawc.py). -/
import Derived.Test.YthljgkaigjokjaaGhLawA
import Derived.Test.YthljgkaigjokjaaGhU
namespace Go.Proofs.Ythljgkaigjokjaa
open Go.RowKit Go.Shelf Grm Lay

/-- Edges rise by their other end. -/
theorem outE_rise (n : Nat) (l : List Ar) (v : Nat) (hok : EndsOk n l) : (outE n l v).Pairwise (fun a b => a.1 < b.1) := by
  unfold outE
  split
  · rw [List.pairwise_filterMap]
    refine List.Pairwise.imp ?_ (List.pairwise_lt_range (n := n))
    intro u u' hlt e he e' he'
    obtain ⟨k, hk, rfl⟩ := Option.map_eq_some_iff.1 he
    obtain ⟨k', hk', rfl⟩ := Option.map_eq_some_iff.1 he'
    have h1 := bestArc_some.1 hk
    have h2 := bestArc_some.1 hk'
    have o1 := (hok.at_ h1.2.1).2.1
    have o2 := (hok.at_ h2.2.1).2.1
    unfold edge_out
    rw [List.getElem?_eq_getElem h1.2.1, List.getElem?_eq_getElem h2.2.1]
    simp only [Option.getD_some]
    rw [o1, o2, h1.2.2.2.1, h2.2.2.2.1]
    omega
  · exact List.Pairwise.nil
theorem outI_rise (n : Nat) (l : List Ar) (v : Int) (hok : EndsOk n l) : (outI n l v).Pairwise (fun a b => a.1 < b.1) := by
  unfold outI
  split
  · exact outE_rise n l _ hok
  · exact List.Pairwise.nil
theorem edge_out_at {l : List Ar} {k : Nat} (h : k < l.length) : edge_out l k = ((l[k]'h).2.1, (l[k]'h).2.2, k) := by
  unfold edge_out
  rw [List.getElem?_eq_getElem h]
  rfl
/-- What Best tells of places. -/
theorem best_eq {n : Nat} {l : List Ar} (hok : EndsOk n l) (u v : Nat) (hu : u < n) (hv : v < n) : bestW (v : Int) (outI n l (u : Int)) = (bestArc l u v).map (edge_out l) := by
  have hm : outI n l (u : Int) = outE n l u := by unfold outI; rw [if_pos (by omega)]; simp
  cases hb : bestArc l u v with
  | some k =>
    have h1 := bestArc_some.1 hb
    rw [Option.map_some, bestW_some (outI_rise n l _ hok), hm, mem_outE]
    refine ⟨⟨hu, v, k, hv, hb, rfl⟩, ?_⟩
    rw [edge_out_at h1.2.1]
    show (l[k]'h1.2.1).2.1 = _
    rw [(hok.at_ h1.2.1).2.1, h1.2.2.2.1]
  | none =>
    cases hw : bestW (v : Int) (outI n l (u : Int)) with
    | none => rfl
    | some e =>
      rw [bestW_some (outI_rise n l _ hok), hm, mem_outE] at hw
      obtain ⟨⟨_, v', k, hv', hk, rfl⟩, he⟩ := hw
      have h1 := bestArc_some.1 hk
      rw [edge_out_at h1.2.1] at he
      have h2 : (l[k]'h1.2.1).2.1 = (v : Int) := he
      rw [(hok.at_ h1.2.1).2.1, h1.2.2.2.1] at h2
      have : v' = v := by omega
      subst this
      rw [hb] at hk
      cases hk
theorem bestV_some (x : Ed) : bestV (some x) = .tuple #[.agg (eC x), .bool true] := rfl
theorem right_true {n : Int} {l : List Ar} (h : rightB n l 40 80 = true) : ∃ N : Nat, n = N ∧ N ≤ 40 ∧ l.length ≤ 80 ∧ checkL n l = 0 := by
  unfold rightB smallB at h
  simp only [Bool.and_eq_true, Bool.or_eq_true, decide_eq_true_eq] at h
  obtain ⟨⟨h1, h2⟩, h3⟩ := h
  obtain ⟨k, hk, hk2, _, _, _⟩ := checkL_zero h3
  exact ⟨k, hk, by omega, by omega, h3⟩
set_option maxRecDepth 100000 in
set_option maxHeartbeats 4000000 in
theorem garcs_walk (n : Int) (a : Option Addr) (l : List Ar) (c : Nat) (w : World) (hA : Arcs w a l) : Calls Try.prog 8 #[mV n a l.length c] w fun e w' => e = .returned (.bool true) ∧ Below w.heap.size w w' := by
  obtain ⟨w1, hw1⟩ : ∃ w1, w1 = w.alloc (.cells #[.int .i64 n, .slice a l.length c] 24) := ⟨_, rfl⟩
  have hb1 : Below w.heap.size w w1 := by rw [hw1]; exact (Below.refl _ _).alloc (Nat.le_refl _) _
  have hr1 : Row w1 w.heap.size 24 #[.int .i64 n, .slice a l.length c] := by rw [hw1]; exact Row.fresh w _ _
  have H1 := Lib.hid (And.intro hb1 (And.intro hr1 (hA.under hb1)))
  have HW := Lib.hid hw1
  show Calls Try.prog 8 #[.agg #[.int .i64 n, .slice a l.length c]] w _
  clear hb1 hr1 hw1 hA
  obtain ⟨R, hR⟩ : ∃ R, R = rightB n l 40 80 := ⟨_, rfl⟩
  have HR := Lib.hid hR
  clear hR
  cases R with
  | false =>
    go_enter Try.func8, Try.ntmps8
    go_wp2_with (first
      | (go_at_call 29; rw [← HW.out]; refine (right_any n a l c 40 80 _ H1.out.2.2).mono ?_; rintro e w2 ⟨rfl, hb2⟩; rw [← HR.out]; have H2 := Lib.hid hb2; clear hb2)
      | (go_at_call 17; refine (known_any _).mono ?_; rintro e w3 ⟨rfl, hb3⟩; have H3 := Lib.hid hb3; clear hb3))
    go_ret
    exact ⟨rfl, H1.out.1.trans ((H2.out.trans (H3.out.mono H2.out.size)).mono H1.out.1.size)⟩
  | true =>
    obtain ⟨N, rfl, hN, hl, hck⟩ := right_true HR.out.symm
    have HCk := Lib.hid hck
    have HL := Lib.hid hl
    have hli : (l.length : Int) ≤ 80 := by omega
    clear hck
    go_enter Try.func8, Try.ntmps8
    go_wp2_with (first
      | (go_at_call 29; rw [← HW.out]; refine (right_any (N : Nat) a l c 40 80 _ H1.out.2.2).mono ?_; rintro e w2 ⟨rfl, hb2⟩; rw [← HR.out]; have hr2 := H1.out.2.1.under hb2 H1.out.2.1.lt; have r0 := hr2.cell 0; have r1 := hr2.cell 1; simp only [List.getElem?_toArray, List.getElem?_cons_zero, List.getElem?_cons_succ] at r0 r1; have H2 := Lib.hid (And.intro (H1.out.1.trans (hb2.mono H1.out.1.size)) (And.intro hr2 (H1.out.2.2.under hb2))); clear hb2 hr2)
      | (go_at_call 18; refine (new_any H2.out.2.2 HCk.out).mono ?_; rintro e w3 ⟨g, rfl, hb3, hg3⟩; have hr3 := H2.out.2.1.under hb3 H2.out.2.1.lt; have H3 := Lib.hid (And.intro (H2.out.1.trans (hb3.mono H2.out.1.size)) (And.intro hr3 (And.intro (H2.out.2.2.under hb3) hg3))); clear hb3 hr3 hg3 r0 r1))
    obtain ⟨K1, hK1⟩ : ∃ K1, K1 = w2.heap.size := ⟨_, rfl⟩
    obtain ⟨M1, hM1⟩ : ∃ M1, M1 = w3.heap.size := ⟨_, rfl⟩
    rw [← hK1, ← hM1] at H3
    clear hK1 hM1
    have HOk := Lib.hid (Gra.ok H3.out.2.2.2).1
    go_loopw [4] (fun i wr => ∃ k : Nat, i = .int .i64 k ∧ k ≤ l.length ∧ Row wr w.heap.size 24 #[.int .i64 (N : Nat), .slice a l.length c] ∧ Arcs wr a l ∧ Gra wr K1 M1 g N l ∧ Below w.heap.size w wr) (fun i _ => l.length - (intOf i).toNat)
    case atStart => exact ⟨0, rfl, by omega, H3.out.2.1, H3.out.2.2.1, H3.out.2.2.2, H3.out.1⟩
    case round =>
      obtain ⟨k, rfl, hk, hr, hA, hg, hb⟩ := hrel
      have r0 := hr.cell 0
      have r1 := hr.cell 1
      simp only [List.getElem?_toArray, List.getElem?_cons_zero, List.getElem?_cons_succ] at r0 r1
      have HG := Lib.hid (And.intro hr (And.intro hA (And.intro hg hb)))
      clear hr hg hb
      by_cases hlt : k < l.length
      · have hlt' : (k : Int) < (l.length : Int) := by omega
        have hw1' : IntKind.i64.wrap ((k : Int) + 1) = (k : Int) + 1 := by rw [IntKind.wrap_i64]; omega
        go_wp2_with fail
        refine (arc_any HG.out.2.2.1 k hlt).mono ?_
        rintro e w4 ⟨rfl, hb4⟩
        obtain ⟨ba, oa, rfl, y0, y1, y2⟩ := (hA.under hb4).at_ hlt
        have hr4 := HG.out.1.under hb4 HG.out.1.lt
        have q1 := hr4.cell 1
        simp only [List.getElem?_toArray, List.getElem?_cons_zero, List.getElem?_cons_succ] at q1
        have hyl := block_lt_of_cell y0
        have hrl := hr4.lt
        have H4 := Lib.hid hb4
        clear hb4 hr4 hA
        generalize l[k]'hlt = x at *
        go_wp2
        go_quiet (fail)
        go_wp2
        have hbE := H4.out
        have hb8 : Below wr.heap.size wr (World.drewN (w4.alloc (.cells #[.int .i64 x.1, .int .i64 x.2.1, .int .i64 x.2.2] 33)) nq) := below_dN (hbE.alloc hbE.size _) nq
        have H8 := Lib.hid hb8
        clear hb8 hbE
        go_roundw
        case rel => exact ⟨k + 1, by go_num, by omega, HG.out.1.under H8.out HG.out.1.lt, HG.out.2.1.under H8.out, HG.out.2.2.1.under H8.out, HG.out.2.2.2.trans (H8.out.mono HG.out.2.2.2.size)⟩
        case measure => simp [intOf]; omega
      · obtain rfl : k = l.length := by omega
        have hlt' : ¬ (l.length : Int) < (l.length : Int) := by omega
        clear hA
        go_wp2_with fail
        refine (arc_none (ptr g) (-1) _ (.inr ⟨K1, M1, g, N, l, rfl, HG.out.2.2.1, .inl (by omega)⟩)).mono ?_
        rintro e w4 ⟨rfl, hb4⟩
        have hr4 := HG.out.1.under hb4 HG.out.1.lt
        have q1 := hr4.cell 1
        simp only [List.getElem?_toArray, List.getElem?_cons_zero, List.getElem?_cons_succ] at q1
        have hrl := hr4.lt
        have H4 := Lib.hid hb4
        clear hb4 hr4
        go_upto_region 11 with (fail)
        obtain ⟨w5, hw5⟩ : ∃ w5, w5 = w4.alloc (.cells #[.int .i64 0, .int .i64 0, .int .i64 0] 33) := ⟨_, rfl⟩
        have hb5 : Below wr.heap.size wr w5 := by rw [hw5]; exact H4.out.alloc H4.out.size _
        rw [← hw5]
        have hr5 := HG.out.1.under hb5 HG.out.1.lt
        have q1 := hr5.cell 1
        simp only [List.getElem?_toArray, List.getElem?_cons_zero, List.getElem?_cons_succ] at q1
        have H5 := Lib.hid hb5
        clear hw5 hb5 hr5
        go_wp2_with fail
        refine (arc_none (ptr g) (l.length : Nat) _ (.inr ⟨K1, M1, g, N, l, rfl, HG.out.2.2.1.under H5.out, .inr (by omega)⟩)).mono ?_
        rintro e w6 ⟨rfl, hb6⟩
        obtain ⟨w7, hw7⟩ : ∃ w7, w7 = w6.alloc (.cells #[.int .i64 0, .int .i64 0, .int .i64 0] 33) := ⟨_, rfl⟩
        have hb7 : Below wr.heap.size wr w7 := by rw [hw7]; exact (H5.out.trans (hb6.mono H5.out.size)).alloc (Nat.le_trans H5.out.size hb6.size) _
        have H7 := Lib.hid hb7
        have HW7 := Lib.hid hw7
        clear hb6 hb7 hw7
        go_wp2_with fail
        rw [← HW7.out]
        refine (kept_any (HG.out.2.2.1.under H7.out)).mono ?_
        rintro e w8 ⟨hb8, x8, rfl, hx8⟩
        obtain ⟨a8, c8, rfl, _, _⟩ := owns_shape hx8
        rw [List.length_map]
        have hKl := keptL_len l
        have H8 := Lib.hid (And.intro (H7.out.trans (hb8.mono H7.out.size)) (Zs.of hx8))
        have hr8 := HG.out.1.under H8.out.1 HG.out.1.lt
        have HX := Lib.hid (And.intro hr8 (And.intro (HG.out.2.2.1.under H8.out.1) (HG.out.2.2.2.trans (H8.out.1.mono HG.out.2.2.2.size))))
        clear hb8 hx8 hr8
        go_wp2
        go_loopw [12, 13] (fun s i wr => ∃ v : Nat, i = .int .i64 v ∧ v ≤ N ∧ s = .int .i64 (outC N l v : Nat) ∧ Row wr w.heap.size 24 #[.int .i64 (N : Nat), .slice a l.length c] ∧ Gra wr K1 M1 g N l ∧ Zs wr a8 ((keptL l).map fun k => ((k : Nat) : Int)) ∧ Below w.heap.size w wr) (fun _ i _ => N - (intOf i).toNat)
        case atStart => exact ⟨0, rfl, by omega, by simp [outC, lt_zero], HX.out.1, HX.out.2.1, H8.out.2, HX.out.2.2⟩
        case round =>
          obtain ⟨v, rfl, hv, rfl, hr, hg, hz, hb⟩ := hrel
          have r0 := hr.cell 0
          simp only [List.getElem?_toArray, List.getElem?_cons_zero, List.getElem?_cons_succ] at r0
          have HG2 := Lib.hid (And.intro hr (And.intro hg (And.intro hz hb)))
          clear hr hg hz hb
          by_cases hlt : v < N
          · have hlt' : (v : Int) < (N : Int) := by omega
            have hw1' : IntKind.i64.wrap ((v : Int) + 1) = (v : Int) + 1 := by rw [IntKind.wrap_i64]; omega
            obtain ⟨hs1, hs2, _⟩ := out_seg HOk.out hlt
            have hoe : outI N l (v : Int) = outE N l v := by unfold outI; rw [if_pos (by omega)]; simp
            rw [outs_len HOk.out] at hs2
            rw [← hoe] at hs1 hs2
            have hb1' : ((outC N l v : Nat) : Int) ≤ 80 := by have := HL.out; omega
            have hb2' : (((outI N l (v : Int)).length : Nat) : Int) ≤ 80 := by have := HL.out; omega
            have HS1 := Lib.hid hs1
            clear hs1 hs2 hoe
            go_wp2_with fail
            refine (out_any HG2.out.2.1 (v : Int)).mono ?_
            rintro e wa ⟨hba, xa, rfl, hxa⟩
            obtain ⟨aa, ca, rfl, _, _, _⟩ := EV.shape hxa
            have Ha := Lib.hid hba
            clear hba hxa
            go_wp2
            go_roundw
            case rel => exact ⟨v + 1, by go_num, by omega, ret_val (by have := HS1.out; omega), HG2.out.1.under Ha.out HG2.out.1.lt, HG2.out.2.1.under Ha.out, HG2.out.2.2.1.under Ha.out, HG2.out.2.2.2.trans (Ha.out.mono HG2.out.2.2.2.size)⟩
            case measure => simp [intOf]; omega
          · obtain rfl : v = N := by omega
            have hlt' : ¬ (v : Int) < (v : Int) := by omega
            have hoC := outC_all HOk.out
            rw [hoC]
            have HKl := Lib.hid (show (keptL l).length ≤ 80 by have := HL.out; omega)
            clear hoC
            go_wp2
            go_loopw [14] (fun i wr => ∃ k : Nat, i = .int .i64 k ∧ k ≤ (keptL l).length ∧ Gra wr K1 M1 g v l ∧ Zs wr a8 ((keptL l).map fun k => ((k : Nat) : Int)) ∧ Below w.heap.size w wr) (fun i _ => (keptL l).length - (intOf i).toNat)
            case atStart => exact ⟨0, rfl, by omega, HG2.out.2.1, HG2.out.2.2.1, HG2.out.2.2.2⟩
            case round =>
              obtain ⟨k, rfl, hk, hg, hz, hb⟩ := hrel
              have HG3 := Lib.hid (And.intro hg (And.intro hz hb))
              clear hg hb
              by_cases hlt : k < (keptL l).length
              · have hlt2 : (k : Int) < ((keptL l).length : Int) := by omega
                have hw1' : IntKind.i64.wrap ((k : Int) + 1) = (k : Int) + 1 := by rw [IntKind.wrap_i64]; omega
                have hkm := mem_keptL.1 (List.getElem_mem hlt)
                obtain ⟨b8, o8, rfl, z0⟩ := hz.at_ (show k < ((keptL l).map fun k => ((k : Nat) : Int)).length by rw [List.length_map]; exact hlt)
                rw [List.getElem_map] at z0
                have hkk := (bestArc_some.1 hkm).2.1
                have hends := HOk.out.at_ hkk
                have hbe := best_eq HOk.out _ _ hends.2.2.1 hends.2.2.2
                rw [hkm, Option.map_some, edge_out_at hkk] at hbe
                have hprev : 0 < k → ∃ kp : Nat, kp < (keptL l)[k]'hlt ∧ ∀ W, Zs W (some ⟨b8, o8, none⟩) ((keptL l).map fun k => ((k : Nat) : Int)) → W.cell? ⟨b8, o8 + (k - 1), none⟩ = some (.int .i64 (kp : Nat)) := fun h0 => by
                  refine ⟨(keptL l)[k - 1]'(by omega), (List.pairwise_iff_getElem.1 (keptL_sorted l)) (k - 1) k (by omega) hlt (by omega), fun W hW => ?_⟩
                  obtain ⟨b', o', e, hc⟩ := hW.at_ (show k - 1 < ((keptL l).map fun k => ((k : Nat) : Int)).length by rw [List.length_map]; omega)
                  cases e
                  rw [List.getElem_map] at hc
                  exact hc
                have HP := Lib.hid hprev
                have HBe := Lib.hid hbe
                have HZ := Lib.hid hz
                clear hprev hbe hz hkm
                generalize (keptL l)[k]'hlt = kk at *
                have hza := z0
                go_wp2_with fail
                refine (arc_any HG3.out.1 kk hkk).mono ?_
                rintro e wa ⟨rfl, hba⟩
                rw [hends.1, hends.2.1]
                have hkk' : (l[kk]'hkk).2.1 = (toN l kk : Int) := hends.2.1
                rw [hkk'] at HBe
                generalize fromN l kk = u at *
                generalize toN l kk = vv at *
                generalize (l[kk]'hkk).2.2 = ww at *
                obtain ⟨wb, hwb⟩ : ∃ wb, wb = wa.alloc (.cells #[.int .i64 (u : Nat), .int .i64 (vv : Nat), .int .i64 ww] 33) := ⟨_, rfl⟩
                have hbb : Below wr.heap.size wr wb := by rw [hwb]; exact hba.alloc hba.size _
                have Hb := Lib.hid hbb
                have HWb := Lib.hid hwb
                clear hba hbb hwb hends hkk'
                go_wp2_with fail
                rw [← HWb.out]
                have hbest := best_any (HG3.out.1.under Hb.out) (u : Int) (vv : Int)
                rw [HBe.out, bestV_some] at hbest
                refine hbest.mono ?_
                rintro e wc ⟨rfl, hbc⟩
                have hbc' := Hb.out.trans (hbc.mono Hb.out.size)
                have hzc := HZ.out.under hbc'
                have Hc := Lib.hid hbc'
                have hz0c : wc.cell? ⟨b8, o8 + k, none⟩ = some (.int .i64 (kk : Nat)) := (hbc'.cell (block_lt_of_cell z0)).trans z0
                have hzl := block_lt_of_cell hz0c
                clear hbc hbc' hbest z0 hza
                by_cases h0 : 0 < k
                · have h0' : decide ((k : Int) > 0) = true := by simp; omega
                  have h0'' : decide (0 < (k : Int)) = true := by simp; omega
                  have hnat : decide (0 < k) = true := by simpa using h0
                  obtain ⟨kp, hkp, hkc⟩ := HP.out h0
                  have hc2 := hkc wc hzc
                  have hle : decide ((kk : Int) ≤ (kp : Int)) = false := by simp; omega
                  have hlen : decide (kk ≤ kp) = false := by simp; omega
                  have hkm1 : IntKind.i64.wrap ((k : Int) - 1) = ((k - 1 : Nat) : Int) := by rw [IntKind.wrap_i64]; omega
                  have hk1 : (k : Int) - 1 = ((k - 1 : Nat) : Int) := by omega
                  have hkl : ((k - 1 : Nat) : Int) < ((keptL l).length : Int) := by omega
                  have hkl2 : (k : Int) ≤ ((keptL l).length : Int) := by omega
                  clear hzc hkc hkp h0
                  go_wp2
                  go_quiet (fail)
                  go_wp2
                  have H8 := Lib.hid (show Below wr.heap.size wr (World.drewN (wc.alloc (.cells #[.int .i64 (vv : Nat), .int .i64 ww, .int .i64 (kk : Nat)] 37)) nq) from below_dN (Hc.out.alloc Hc.out.size _) nq)
                  exact ⟨⟨k + 1, by go_num, by omega, HG3.out.1.under H8.out, HZ.out.under H8.out, HG3.out.2.2.trans (H8.out.mono HG3.out.2.2.size)⟩, by simp [intOf]; omega⟩
                · have h0' : decide ((k : Int) > 0) = false := by simp; omega
                  have h0'' : decide (0 < (k : Int)) = false := by simp; omega
                  clear hzc
                  go_wp2
                  go_quiet (fail)
                  go_wp2
                  have H8 := Lib.hid (show Below wr.heap.size wr (World.drewN (wc.alloc (.cells #[.int .i64 (vv : Nat), .int .i64 ww, .int .i64 (kk : Nat)] 37)) nq) from below_dN (Hc.out.alloc Hc.out.size _) nq)
                  exact ⟨⟨k + 1, by go_num, by omega, HG3.out.1.under H8.out, HZ.out.under H8.out, HG3.out.2.2.trans (H8.out.mono HG3.out.2.2.size)⟩, by simp [intOf]; omega⟩
              · obtain rfl : k = (keptL l).length := by omega
                have hlt2 : ¬ ((keptL l).length : Int) < ((keptL l).length : Int) := by omega
                clear hz
                go_wp2_with fail
                refine (known_any _).mono ?_
                rintro e w9 ⟨rfl, hb9⟩
                have H9 := Lib.hid hb9
                clear hb9
                go_wp2
                go_ret
                exact ⟨rfl, HG3.out.2.2.trans (H9.out.mono HG3.out.2.2.size)⟩
end Go.Proofs.Ythljgkaigjokjaa
