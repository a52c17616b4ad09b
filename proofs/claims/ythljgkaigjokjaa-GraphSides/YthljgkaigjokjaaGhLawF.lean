/- GraphSides (written by mkglawf.py). -/
import Derived.Test.YthljgkaigjokjaaGhLawC
namespace Go.Proofs.Ythljgkaigjokjaa
open Go.RowKit Go.Shelf Grm Lay

theorem edge_in_at {l : List Ar} {k : Nat} (h : k < l.length) : edge_in l k = ((l[k]'h).1, (l[k]'h).2.2, k) := by
  unfold edge_in
  rw [List.getElem?_eq_getElem h]
  rfl
theorem ins_all {n : Nat} {l : List Ar} (hok : EndsOk n l) : inC n l n = (keptL l).length := by
  unfold inC
  rw [lt_all _ (ins_ok hok), List.length_map, YL_len hok]
theorem outI_nat {n : Nat} {l : List Ar} {v : Nat} : outI n l (v : Int) = outE n l v := by unfold outI; rw [if_pos (by omega)]; simp
theorem inI_nat {n : Nat} {l : List Ar} {v : Nat} : inI n l (v : Int) = inE n l v := by unfold inI; rw [if_pos (by omega)]; simp
/-- An edge from v: of which arc, and among those to its other end. -/
theorem side_of {n : Nat} {l : List Ar} (hok : EndsOk n l) {v : Nat} {e : Ed} (he : e ∈ outE n l v) : ∃ hk : e.2.2 < l.length, (l[e.2.2]'hk).1 = (v : Int) ∧ (l[e.2.2]'hk).2.1 = e.1 ∧ (l[e.2.2]'hk).2.2 = e.2.1 ∧ e.1 ≠ (v : Int) ∧ ∃ u : Nat, e.1 = u ∧ u < n ∧ ((v : Int), e.2.1, e.2.2) ∈ inE n l u := by
  obtain ⟨hv, u, k, hu, hb, rfl⟩ := mem_outE.1 he
  obtain ⟨hne, hk, hf, ht, _⟩ := bestArc_some.1 hb
  have ho := hok.at_ hk
  rw [edge_out_at hk]
  have e1 : (l[k]'hk).1 = (v : Int) := by rw [ho.1, hf]
  have e2 : (l[k]'hk).2.1 = (u : Int) := by rw [ho.2.1, ht]
  refine ⟨hk, e1, rfl, rfl, ?_, u, e2, hu, ?_⟩
  · show (l[k]'hk).2.1 ≠ _
    rw [e2]
    omega
  · refine mem_inE.2 ⟨hu, v, k, hv, hb, ?_⟩
    rw [edge_in_at hk]
    exact Prod.ext e1.symm rfl
theorem inI_le {n : Nat} {l : List Ar} (hok : EndsOk n l) {u : Nat} (hu : u < n) : (inI n l (u : Int)).length ≤ l.length := by
  obtain ⟨h1, h2, _⟩ := in_seg hok hu
  rw [ins_len hok] at h2
  have := keptL_len l
  rw [inI_nat]
  omega
theorem mem_take_succ {T : Ed} {l : List Ed} {k : Nat} (h : k < l.length) : decide (T ∈ l.take (k + 1)) = (decide (T ∈ l.take k) || decide (T = l[k]'h)) := by
  rw [List.take_succ_eq_append_getElem h]
  simp only [List.mem_append, List.mem_singleton, Bool.decide_or]
theorem ret_val_b {a b : Bool} (h : a = b) : Value.bool a = Value.bool b := by rw [h]
set_option maxRecDepth 100000 in
set_option maxHeartbeats 4000000 in
theorem gsides_walk (n : Int) (a : Option Addr) (l : List Ar) (c : Nat) (w : World) (hA : Arcs w a l) : Calls Try.prog 3 #[mV n a l.length c] w fun e w' => e = .returned (.bool true) ∧ Below w.heap.size w w' := by
  obtain ⟨w1, hw1⟩ : ∃ w1, w1 = w.alloc (.cells #[.int .i64 n, .slice a l.length c] 24) := ⟨_, rfl⟩
  have hb1 : Below w.heap.size w w1 := by rw [hw1]; exact (Below.refl _ _).alloc (Nat.le_refl _) _
  have hr1 : Row w1 w.heap.size 24 #[.int .i64 n, .slice a l.length c] := by rw [hw1]; exact Row.fresh w _ _
  have H1 := Lib.hid (And.intro hb1 (And.intro hr1 (hA.under hb1)))
  have HW := Lib.hid hw1
  show Calls Try.prog 3 #[.agg #[.int .i64 n, .slice a l.length c]] w _
  clear hb1 hr1 hw1 hA
  obtain ⟨R, hR⟩ : ∃ R, R = smallB n l.length 40 80 := ⟨_, rfl⟩
  have HR := Lib.hid hR
  clear hR
  cases R with
  | false =>
    go_enter Try.func3, Try.ntmps3
    go_wp2_with (first
      | (go_at_call 16; rw [← HW.out]; refine (small_any n a l.length c 40 80 _).mono ?_; rintro e w2 ⟨rfl, hb2⟩; rw [← HR.out]; have H2 := Lib.hid hb2; clear hb2)
      | (go_at_call 17; refine (known_any _).mono ?_; rintro e w3 ⟨rfl, hb3⟩; have H3 := Lib.hid hb3; clear hb3))
    go_ret
    exact ⟨rfl, H1.out.1.trans ((H2.out.trans (H3.out.mono H2.out.size)).mono H1.out.1.size)⟩
  | true =>
    have hl : l.length ≤ 80 := by
      have h := HR.out.symm
      unfold smallB at h
      simp only [Bool.and_eq_true, Bool.or_eq_true, decide_eq_true_eq] at h
      omega
    have HL := Lib.hid hl
    have hli : (l.length : Int) ≤ 80 := by omega
    clear hl
    go_enter Try.func3, Try.ntmps3
    go_upto_region 3 with (first
      | (go_at_call 16; rw [← HW.out]; refine (small_any n a l.length c 40 80 _).mono ?_; rintro e w2 ⟨rfl, hb2⟩; rw [← HR.out]; have H2 := Lib.hid (And.intro (H1.out.1.trans (hb2.mono H1.out.1.size)) (And.intro (H1.out.2.1.under hb2 H1.out.2.1.lt) (H1.out.2.2.under hb2))); clear hb2))
    have r0 := H2.out.2.1.cell 0
    have r1 := H2.out.2.1.cell 1
    simp only [List.getElem?_toArray, List.getElem?_cons_zero, List.getElem?_cons_succ] at r0 r1
    by_cases hck : checkL n l = 0
    · obtain ⟨N, hNe, hN, _, hok, _⟩ := checkL_zero hck
      subst hNe
      have HCk := Lib.hid hck
      have HOk := Lib.hid hok
      clear hck hok
      go_wp2_with fail
      refine (new_any H2.out.2.2 HCk.out).mono ?_
      rintro e w3 ⟨g, rfl, hb3, hg3⟩
      have H3 := Lib.hid (And.intro (H2.out.1.trans (hb3.mono H2.out.1.size)) hg3)
      obtain ⟨K1, hK1⟩ : ∃ K1, K1 = w2.heap.size := ⟨_, rfl⟩
      obtain ⟨M1, hM1⟩ : ∃ M1, M1 = w3.heap.size := ⟨_, rfl⟩
      rw [← hK1, ← hM1] at H3
      clear hb3 hg3 hK1 hM1 r0 r1
      go_wp2
      go_loopw [4, 5] (fun s i wr => ∃ v : Nat, i = .int .i64 v ∧ v ≤ N ∧ s = .int .i64 ((outC N l v : Int) - (inC N l v : Int)) ∧ Below w.heap.size w wr ∧ Gra wr K1 M1 g N l) (fun _ i _ => N - (intOf i).toNat)
      case atStart => exact ⟨0, rfl, by omega, by simp [outC, inC, lt_zero], H3.out.1, H3.out.2⟩
      case round =>
        obtain ⟨v, rfl, hv, rfl, hb, hg⟩ := hrel
        have HG := Lib.hid (And.intro hb hg)
        clear hb hg
        go_wp2_with fail
        refine (n_any HG.out.2).mono ?_
        rintro e w7 ⟨rfl, hw7⟩
        subst w7
        by_cases hlt : v < N
        · have hlt' : (v : Int) < (N : Int) := by omega
          have hw1' : IntKind.i64.wrap ((v : Int) + 1) = (v : Int) + 1 := by rw [IntKind.wrap_i64]; omega
          obtain ⟨hs1, hs2, _⟩ := out_seg HOk.out hlt
          obtain ⟨hi1, hi2, _⟩ := in_seg HOk.out hlt
          rw [outs_len HOk.out] at hs2
          rw [ins_len HOk.out] at hi2
          have hkl := keptL_len l
          rw [← outI_nat] at hs1 hs2
          rw [← inI_nat] at hi1 hi2
          have b1 : ((outC N l v : Nat) : Int) ≤ 80 := by have := HL.out; omega
          have b2 : ((inC N l v : Nat) : Int) ≤ 80 := by have := HL.out; omega
          have b3 : (((outI N l (v : Int)).length : Nat) : Int) ≤ 80 := by have := HL.out; omega
          have b4 : (((inI N l (v : Int)).length : Nat) : Int) ≤ 80 := by have := HL.out; omega
          have HS1 := Lib.hid (And.intro hs1 hi1)
          have hsd : ∀ e ∈ outI N l (v : Int), _ := fun e he => side_of HOk.out (by rw [outI_nat] at he; exact he)
          have HSd := Lib.hid hsd
          have HRise := Lib.hid (outI_rise N l (v : Int) HOk.out)
          clear hs1 hs2 hi1 hi2 hkl hsd
          go_wp2_with fail
          refine (out_any HG.out.2 (v : Int)).mono ?_
          rintro e wa ⟨hba, xa, rfl, hxa⟩
          obtain ⟨aa, ca, rfl, hEa, _, _⟩ := EV.shape hxa
          have Ha := Lib.hid (And.intro (HG.out.1.trans (hba.mono HG.out.1.size)) (And.intro hEa (HG.out.2.under hba)))
          clear hba hxa hEa
          go_wp2_with fail
          refine (in_any Ha.out.2.2 (v : Int)).mono ?_
          rintro e wb ⟨hbb, xb, rfl, hxb⟩
          obtain ⟨ab, cb, rfl, _, _, _⟩ := EV.shape hxb
          have Hb := Lib.hid (And.intro (Ha.out.1.trans (hbb.mono Ha.out.1.size)) (And.intro (Ha.out.2.1.under hbb) (Ha.out.2.2.under hbb)))
          clear hbb hxb
          obtain ⟨E, hEe⟩ : ∃ E, E = outI N l (v : Int) := ⟨_, rfl⟩
          obtain ⟨F, hFe⟩ : ∃ F, F = (inI N l (v : Int)).length := ⟨_, rfl⟩
          rw [← hEe] at Hb HSd HRise HS1 b3 ⊢
          rw [← hFe] at HS1 b4 ⊢
          clear hEe hFe
          go_wp2
          go_loopw [7] (fun i wr => ∃ k : Nat, i = .int .i64 k ∧ k ≤ E.length ∧ Below w.heap.size w wr ∧ Gra wr K1 M1 g N l ∧ Es wr aa E) (fun i _ => E.length - (intOf i).toNat)
          case atStart => exact ⟨0, rfl, by omega, Hb.out.1, Hb.out.2.2, Hb.out.2.1⟩
          case round =>
            obtain ⟨i, rfl, hi, hb, hg, hE⟩ := hrel
            have HG2 := Lib.hid (And.intro hb (And.intro hg hE))
            clear hb hg
            by_cases hil : i < E.length
            · have hil' : (i : Int) < (E.length : Int) := by omega
              have hw2' : IntKind.i64.wrap ((i : Int) + 1) = (i : Int) + 1 := by rw [IntKind.wrap_i64]; omega
              obtain ⟨ba, oa, rfl, y0, y1, y2⟩ := hE.at_ hil
              obtain ⟨hk, q1, q2, q3, q4, u, q5, q6, q7⟩ := HSd.out _ (List.getElem_mem hil)
              have HY := Lib.hid (And.intro y0 (And.intro y1 y2))
              have hprev : 0 < i → ∃ p0 : Int, p0 < (E[i]'hil).1 ∧ ∀ W, Es W (some ⟨ba, oa, none⟩) E → W.cell? ⟨ba, oa + (i - 1) * 3, none⟩ = some (.int .i64 p0) := fun h0 => by
                refine ⟨(E[i - 1]'(by omega)).1, (List.pairwise_iff_getElem.1 HRise.out) (i - 1) i (by omega) hil (by omega), fun W hW => ?_⟩
                obtain ⟨b', o', e, hc, _, _⟩ := hW.at_ (show i - 1 < E.length by omega)
                cases e
                exact hc
              have HP := Lib.hid hprev
              clear hprev hE
              generalize E[i]'hil = ed at *
              obtain ⟨d0, d1, d2⟩ := ed
              simp only at y0 y1 y2 hk q1 q2 q3 q4 q5 q7
              have HQ := Lib.hid (And.intro q1 (And.intro q2 (And.intro q3 q7)))
              have q4b : (d0 == (v : Int)) = false := beq_eq_false_iff_ne.2 q4
              have hArc := arc_any HG2.out.2.1 d2 hk
              rw [q1, q2, q3] at hArc
              have HArc := Lib.hid hArc
              clear hArc q1 q2 q3 q7 q4
              subst q5
              go_wp2_with fail
              refine HArc.out.mono ?_
              rintro e w4 ⟨rfl, hb4⟩
              have hE4 := HG2.out.2.2.under hb4
              have z0 := (hb4.cell (block_lt_of_cell y0)).trans y0
              have z1 := (hb4.cell (block_lt_of_cell y1)).trans y1
              have z2 := (hb4.cell (block_lt_of_cell y2)).trans y2
              have hzl := block_lt_of_cell z0
              obtain ⟨w5, hw5⟩ : ∃ w5, w5 = w4.alloc (.cells #[.int .i64 (v : Nat), .int .i64 (u : Nat), .int .i64 d1] 33) := ⟨_, rfl⟩
              have hb5 : Below wr.heap.size wr w5 := by rw [hw5]; exact hb4.alloc hb4.size _
              have H5 := Lib.hid hb5
              have HW5 := Lib.hid hw5
              have HE4 := Lib.hid hE4
              clear hb4 hb5 hw5 hE4 y0 y1 y2
              by_cases h0 : 0 < i
              · have h0' : decide ((i : Int) > 0) = true := by simp; omega
                have h0'' : decide (0 < (i : Int)) = true := by simp; omega
                have hnat : decide (0 < i) = true := by simpa using h0
                obtain ⟨p0, hp0, hpc⟩ := HP.out h0
                have hc2 := hpc w4 HE4.out
                have hle : decide ((u : Int) ≤ p0) = false := by simp; omega
                have hkm1 : IntKind.i64.wrap ((i : Int) - 1) = ((i - 1 : Nat) : Int) := by rw [IntKind.wrap_i64]; omega
                have hk1 : (i : Int) - 1 = ((i - 1 : Nat) : Int) := by omega
                have hkl : ((i - 1 : Nat) : Int) < (E.length : Int) := by omega
                have hkl2 : (i : Int) ≤ (E.length : Int) := by omega
                clear hpc hp0 h0
                go_wp2
                go_quiet (fail)
                rw [← HW5.out]
                obtain ⟨w6, hw6⟩ : ∃ w6, w6 = w5.drewN nq := ⟨_, rfl⟩
                rw [← hw6]
                have hb6 : Below wr.heap.size wr w6 := by rw [hw6]; exact below_dN H5.out nq
                have y0 := (hb6.cell (block_lt_of_cell HY.out.1)).trans HY.out.1
                have H6 := Lib.hid hb6
                have hg6 := HG2.out.2.1.under hb6
                have Hg6 := Lib.hid hg6
                clear hb6 hw6 hg6
                go_wp2_with fail
                refine (in_any Hg6.out (u : Int)).mono ?_
                rintro e w8 ⟨hb8, xk, rfl, hxk⟩
                obtain ⟨ak, ck, rfl, hK, _, _⟩ := EV.shape hxk
                have hq7 := HQ.out.2.2.2
                rw [← inI_nat] at hq7
                have b5 : (((inI N l (u : Int)).length : Nat) : Int) ≤ 80 := by have := HL.out; have := inI_le HOk.out q6; omega
                obtain ⟨G, hGe⟩ : ∃ G, G = inI N l (u : Int) := ⟨_, rfl⟩
                rw [← hGe] at hK hq7 b5 ⊢
                have H8 := Lib.hid (And.intro (H6.out.trans (hb8.mono H6.out.size)) (And.intro hK hq7))
                clear hb8 hxk hK hq7 hGe y0
                go_wp2
                go_loopw [11, 12] (fun f j wz => ∃ k : Nat, j = .int .i64 k ∧ k ≤ G.length ∧ f = .bool (decide (((v : Int), d1, d2) ∈ G.take k)) ∧ Below w8.heap.size w8 wz) (fun _ j _ => G.length - (intOf j).toNat)
                case atStart => exact ⟨0, rfl, by omega, ret_val_b (by simp), Below.refl _ _⟩
                case round =>
                  obtain ⟨k, rfl, hk, rfl, hbz⟩ := hrel
                  by_cases hkl3 : k < G.length
                  · have hkl3' : (k : Int) < (G.length : Int) := by omega
                    have hw3' : IntKind.i64.wrap ((k : Int) + 1) = (k : Int) + 1 := by rw [IntKind.wrap_i64]; omega
                    have Hz := Lib.hid hbz
                    obtain ⟨bk, ok, rfl, g0, g1, g2⟩ := (H8.out.2.1.under hbz).at_ hkl3
                    have hbq := H8.out.1.trans (hbz.mono H8.out.1.size)
                    have y1 := (hbq.cell (block_lt_of_cell HY.out.2.1)).trans HY.out.2.1
                    have y2 := (hbq.cell (block_lt_of_cell HY.out.2.2)).trans HY.out.2.2
                    have HM : Hid (∀ b : Bool, b = (decide (((v : Int), d1, d2) ∈ G.take k) || decide (((v : Int), d1, d2) = G[k]'hkl3)) → b = decide (((v : Int), d1, d2) ∈ G.take (k + 1))) := Lib.hid (fun b hb => by rw [hb, mem_take_succ hkl3])
                    generalize G[k]'hkl3 = x at *
                    obtain ⟨x0, x1, x2⟩ := x
                    simp only at g0 g1 g2
                    generalize decide (((v : Int), d1, d2) ∈ G.take k) = fd at *
                    clear hbz hbq
                    cases fd with
                    | true =>
                      go_wp2
                      go_quiet (fail)
                      go_wp2
                      go_roundw
                      case rel => exact ⟨k + 1, by go_num, by omega, ret_val_b (HM.out _ rfl), below_dN Hz.out _⟩
                      case measure => simp [intOf]; omega
                    | false =>
                      by_cases he : x0 = (v : Int) ∧ x1 = d1 ∧ x2 = d2
                      · obtain ⟨rfl, rfl, rfl⟩ := he
                        go_wp2
                        go_quiet (fail)
                        go_wp2
                        go_roundw
                        case rel => exact ⟨k + 1, by go_num, by omega, ret_val_b (HM.out _ (by simp)), below_dN Hz.out _⟩
                        case measure => simp [intOf]; omega
                      · have HE := Lib.hid (HM.out false (by simp only [Bool.false_or]; exact (decide_eq_false (fun e => he (by injection e with e1 e2; injection e2 with e2 e3; exact ⟨e1.symm, e2.symm, e3.symm⟩))).symm))
                        have hne : (x0 == (v : Int) && (x1 == d1 && ((x2 : Int) == (d2 : Int)))) = false := by
                          rw [Bool.eq_false_iff]
                          intro h
                          simp only [Bool.and_eq_true, beq_iff_eq] at h
                          exact he ⟨h.1, h.2.1, by omega⟩
                        clear he
                        by_cases h0 : x0 = (v : Int)
                        · subst h0
                          by_cases h1 : x1 = d1
                          · subst h1
                            have h2 : ((x2 : Int) == (d2 : Int)) = false := by simpa using hne
                            clear hne
                            go_wp2
                            go_quiet (fail)
                            go_wp2
                            go_roundw
                            case rel => exact ⟨k + 1, by go_num, by omega, ret_val_b HE.out, below_dN Hz.out _⟩
                            case measure => simp [intOf]; omega
                          · have h1' : (x1 == d1) = false := by simpa using h1
                            clear hne h1
                            go_wp2
                            go_quiet (fail)
                            go_wp2
                            go_roundw
                            case rel => exact ⟨k + 1, by go_num, by omega, ret_val_b HE.out, below_dN Hz.out _⟩
                            case measure => simp [intOf]; omega
                        · have h0' : (x0 == (v : Int)) = false := by simpa using h0
                          clear hne h0
                          go_wp2
                          go_quiet (fail)
                          go_wp2
                          go_roundw
                          case rel => exact ⟨k + 1, by go_num, by omega, ret_val_b HE.out, below_dN Hz.out _⟩
                          case measure => simp [intOf]; omega
                  · obtain rfl : k = G.length := by omega
                    have hfin : decide (((v : Int), d1, d2) ∈ G.take G.length) = true := by rw [List.take_length]; exact decide_eq_true H8.out.2.2
                    rw [hfin]
                    have hkl4 : ¬ (G.length : Int) < (G.length : Int) := by omega
                    have hbq := H8.out.1.trans (hbz.mono H8.out.1.size)
                    have HZ := Lib.hid (And.intro (HG2.out.1.trans (hbq.mono HG2.out.1.size)) (And.intro (HG2.out.2.1.under hbq) (HG2.out.2.2.under hbq)))
                    clear hfin hbz hbq
                    go_wp2
                    go_roundw
                    case rel => exact ⟨i + 1, by go_num, by omega, HZ.out.1, HZ.out.2.1, HZ.out.2.2⟩
                    case measure => simp [intOf]; omega
              · have h0' : decide ((i : Int) > 0) = false := by simp; omega
                have h0'' : decide (0 < (i : Int)) = false := by simp; omega
                have hnat : decide (0 < i) = false := by simpa using h0
                clear h0
                go_wp2
                go_quiet (fail)
                rw [← HW5.out]
                obtain ⟨w6, hw6⟩ : ∃ w6, w6 = w5.drewN nq := ⟨_, rfl⟩
                rw [← hw6]
                have hb6 : Below wr.heap.size wr w6 := by rw [hw6]; exact below_dN H5.out nq
                have y0 := (hb6.cell (block_lt_of_cell HY.out.1)).trans HY.out.1
                have H6 := Lib.hid hb6
                have hg6 := HG2.out.2.1.under hb6
                have Hg6 := Lib.hid hg6
                clear hb6 hw6 hg6
                go_wp2_with fail
                refine (in_any Hg6.out (u : Int)).mono ?_
                rintro e w8 ⟨hb8, xk, rfl, hxk⟩
                obtain ⟨ak, ck, rfl, hK, _, _⟩ := EV.shape hxk
                have hq7 := HQ.out.2.2.2
                rw [← inI_nat] at hq7
                have b5 : (((inI N l (u : Int)).length : Nat) : Int) ≤ 80 := by have := HL.out; have := inI_le HOk.out q6; omega
                obtain ⟨G, hGe⟩ : ∃ G, G = inI N l (u : Int) := ⟨_, rfl⟩
                rw [← hGe] at hK hq7 b5 ⊢
                have H8 := Lib.hid (And.intro (H6.out.trans (hb8.mono H6.out.size)) (And.intro hK hq7))
                clear hb8 hxk hK hq7 hGe y0
                go_wp2
                go_loopw [11, 12] (fun f j wz => ∃ k : Nat, j = .int .i64 k ∧ k ≤ G.length ∧ f = .bool (decide (((v : Int), d1, d2) ∈ G.take k)) ∧ Below w8.heap.size w8 wz) (fun _ j _ => G.length - (intOf j).toNat)
                case atStart => exact ⟨0, rfl, by omega, ret_val_b (by simp), Below.refl _ _⟩
                case round =>
                  obtain ⟨k, rfl, hk, rfl, hbz⟩ := hrel
                  by_cases hkl3 : k < G.length
                  · have hkl3' : (k : Int) < (G.length : Int) := by omega
                    have hw3' : IntKind.i64.wrap ((k : Int) + 1) = (k : Int) + 1 := by rw [IntKind.wrap_i64]; omega
                    have Hz := Lib.hid hbz
                    obtain ⟨bk, ok, rfl, g0, g1, g2⟩ := (H8.out.2.1.under hbz).at_ hkl3
                    have hbq := H8.out.1.trans (hbz.mono H8.out.1.size)
                    have y1 := (hbq.cell (block_lt_of_cell HY.out.2.1)).trans HY.out.2.1
                    have y2 := (hbq.cell (block_lt_of_cell HY.out.2.2)).trans HY.out.2.2
                    have HM : Hid (∀ b : Bool, b = (decide (((v : Int), d1, d2) ∈ G.take k) || decide (((v : Int), d1, d2) = G[k]'hkl3)) → b = decide (((v : Int), d1, d2) ∈ G.take (k + 1))) := Lib.hid (fun b hb => by rw [hb, mem_take_succ hkl3])
                    generalize G[k]'hkl3 = x at *
                    obtain ⟨x0, x1, x2⟩ := x
                    simp only at g0 g1 g2
                    generalize decide (((v : Int), d1, d2) ∈ G.take k) = fd at *
                    clear hbz hbq
                    cases fd with
                    | true =>
                      go_wp2
                      go_quiet (fail)
                      go_wp2
                      go_roundw
                      case rel => exact ⟨k + 1, by go_num, by omega, ret_val_b (HM.out _ rfl), below_dN Hz.out _⟩
                      case measure => simp [intOf]; omega
                    | false =>
                      by_cases he : x0 = (v : Int) ∧ x1 = d1 ∧ x2 = d2
                      · obtain ⟨rfl, rfl, rfl⟩ := he
                        go_wp2
                        go_quiet (fail)
                        go_wp2
                        go_roundw
                        case rel => exact ⟨k + 1, by go_num, by omega, ret_val_b (HM.out _ (by simp)), below_dN Hz.out _⟩
                        case measure => simp [intOf]; omega
                      · have HE := Lib.hid (HM.out false (by simp only [Bool.false_or]; exact (decide_eq_false (fun e => he (by injection e with e1 e2; injection e2 with e2 e3; exact ⟨e1.symm, e2.symm, e3.symm⟩))).symm))
                        have hne : (x0 == (v : Int) && (x1 == d1 && ((x2 : Int) == (d2 : Int)))) = false := by
                          rw [Bool.eq_false_iff]
                          intro h
                          simp only [Bool.and_eq_true, beq_iff_eq] at h
                          exact he ⟨h.1, h.2.1, by omega⟩
                        clear he
                        by_cases h0 : x0 = (v : Int)
                        · subst h0
                          by_cases h1 : x1 = d1
                          · subst h1
                            have h2 : ((x2 : Int) == (d2 : Int)) = false := by simpa using hne
                            clear hne
                            go_wp2
                            go_quiet (fail)
                            go_wp2
                            go_roundw
                            case rel => exact ⟨k + 1, by go_num, by omega, ret_val_b HE.out, below_dN Hz.out _⟩
                            case measure => simp [intOf]; omega
                          · have h1' : (x1 == d1) = false := by simpa using h1
                            clear hne h1
                            go_wp2
                            go_quiet (fail)
                            go_wp2
                            go_roundw
                            case rel => exact ⟨k + 1, by go_num, by omega, ret_val_b HE.out, below_dN Hz.out _⟩
                            case measure => simp [intOf]; omega
                        · have h0' : (x0 == (v : Int)) = false := by simpa using h0
                          clear hne h0
                          go_wp2
                          go_quiet (fail)
                          go_wp2
                          go_roundw
                          case rel => exact ⟨k + 1, by go_num, by omega, ret_val_b HE.out, below_dN Hz.out _⟩
                          case measure => simp [intOf]; omega
                  · obtain rfl : k = G.length := by omega
                    have hfin : decide (((v : Int), d1, d2) ∈ G.take G.length) = true := by rw [List.take_length]; exact decide_eq_true H8.out.2.2
                    rw [hfin]
                    have hkl4 : ¬ (G.length : Int) < (G.length : Int) := by omega
                    have hbq := H8.out.1.trans (hbz.mono H8.out.1.size)
                    have HZ := Lib.hid (And.intro (HG2.out.1.trans (hbq.mono HG2.out.1.size)) (And.intro (HG2.out.2.1.under hbq) (HG2.out.2.2.under hbq)))
                    clear hfin hbz hbq
                    go_wp2
                    go_roundw
                    case rel => exact ⟨i + 1, by go_num, by omega, HZ.out.1, HZ.out.2.1, HZ.out.2.2⟩
                    case measure => simp [intOf]; omega
            · obtain rfl : i = E.length := by omega
              have hil' : ¬ (E.length : Int) < (E.length : Int) := by omega
              clear hE
              go_wp2
              go_roundw
              case rel => exact ⟨v + 1, by go_num, by omega, ret_val (by have := HS1.out; omega), HG2.out.1, HG2.out.2.1⟩
              case measure => simp [intOf]; omega
        · obtain rfl : v = N := by omega
          have hlt' : ¬ (v : Int) < (v : Int) := by omega
          have e0 : (outC v l v : Int) - (inC v l v : Int) = 0 := by rw [outC_all HOk.out, ins_all HOk.out]; omega
          rw [e0]
          clear e0
          go_wp2_with fail
          refine (known_any _).mono ?_
          rintro e wd ⟨rfl, hbd⟩
          have Hd := Lib.hid hbd
          clear hbd
          go_wp2
          go_ret
          exact ⟨rfl, HG.out.1.trans (Hd.out.mono HG.out.1.size)⟩
    · have HCk := Lib.hid hck
      clear hck
      go_wp2_with fail
      refine (new_nil H2.out.2.2 HCk.out).mono ?_
      rintro e w3 ⟨rfl, hb3⟩
      have HB := Lib.hid (H2.out.1.trans (hb3.mono H2.out.1.size))
      clear hb3 r0 r1
      go_wp2
      go_loopw [4, 5] (fun s i wr => s = .int .i64 0 ∧ i = .int .i64 0 ∧ wr = w3) (fun _ _ _ => 0)
      case atStart => exact ⟨rfl, rfl, rfl⟩
      case round =>
        obtain ⟨rfl, rfl, rfl⟩ := hrel
        go_wp2_with fail
        refine (n_nil _).mono ?_
        rintro e w7 ⟨rfl, hw7⟩
        subst w7
        go_wp2_with fail
        refine (known_any _).mono ?_
        rintro e wd ⟨rfl, hbd⟩
        have Hd := Lib.hid hbd
        clear hbd
        go_wp2
        go_ret
        exact ⟨rfl, HB.out.trans (Hd.out.mono HB.out.size)⟩
end Go.Proofs.Ythljgkaigjokjaa
