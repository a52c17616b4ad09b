/- GraphOwn (written by mkglawd.py). -/
import Derived.Test.YthljgkaigjokjaaGhZ
import Derived.Test.YthljgkaigjokjaaGhPr
namespace Go.Proofs.Ythljgkaigjokjaa
open Go.RowKit Go.Shelf Grm Lay

/-- A slice whose elements may be written: its block, of cells enough; nothing else turned. -/
def Spoil (t : TypeId) (w0 : World) (a : Option Addr) (k : Nat) (w : World) : Prop := Only (fun q => a = some ⟨q, 0, none⟩) w0 w ∧ (k = 0 ∨ ∃ g cur, a = some ⟨g, 0, none⟩ ∧ Row w g t cur ∧ k * 3 ≤ cur.size)
theorem Spoil.start {t : TypeId} {w : World} {K n c k : Nat} {a : Option Addr} {xs : List Value} (h : w.ownsRow K t 3 (.slice a n c) k xs) : Spoil t w a k w := by
  refine ⟨Only.refl _ _, ?_⟩
  rcases h.2 with ⟨_, h0⟩ | ⟨g, cap, cur, e, _, h2, h3, _, hs, _⟩
  · exact .inl h0
  · cases e
    exact .inr ⟨g, cur, rfl, h2, by omega⟩
theorem Spoil.at_ {t : TypeId} {w0 w : World} {a : Option Addr} {k i : Nat} (h : Spoil t w0 a k w) (hi : i < k * 3) : ∃ g u, a = some ⟨g, 0, none⟩ ∧ w.cell? ⟨g, i, none⟩ = some u ∧ w.frozen? ⟨g, i, none⟩ = false := by
  rcases h.2 with h0 | ⟨g, cur, e, hr, hs⟩
  · omega
  · refine ⟨g, cur[i]'(by omega), e, ?_, hr.thaw i⟩
    rw [hr.cell i]
    simp [show i < cur.size by omega]
theorem Spoil.set {t : TypeId} {w0 w : World} {a : Option Addr} {k g i : Nat} (h : Spoil t w0 a k w) (e : a = some ⟨g, 0, none⟩) (v : Value) : Spoil t w0 a k (w.setCell ⟨g, i, none⟩ v) := by
  refine ⟨h.1.setCell (p := ⟨g, i, none⟩) (.inl e) v, ?_⟩
  rcases h.2 with h0 | ⟨g', cur, e', hr, hs⟩
  · exact .inl h0
  · rw [e] at e'
    cases e'
    exact .inr ⟨g, _, e, hr.put i v, by simpa using hs⟩
set_option maxRecDepth 100000 in
set_option maxHeartbeats 4000000 in
theorem gown_walk (n : Int) (a : Option Addr) (l : List Ar) (c : Nat) (w : World) (hA : Arcs w a l) : Calls Try.prog 5 #[mV n a l.length c] w fun e w' => e = .returned (.bool true) ∧ Below w.heap.size w w' := by
  obtain ⟨w1, hw1⟩ : ∃ w1, w1 = w.alloc (.cells #[.int .i64 n, .slice a l.length c] 24) := ⟨_, rfl⟩
  have hb1 : Below w.heap.size w w1 := by rw [hw1]; exact (Below.refl _ _).alloc (Nat.le_refl _) _
  have hr1 : Row w1 w.heap.size 24 #[.int .i64 n, .slice a l.length c] := by rw [hw1]; exact Row.fresh w _ _
  have H1 := Lib.hid (And.intro hb1 (And.intro hr1 (hA.under hb1)))
  have HW := Lib.hid hw1
  show Calls Try.prog 5 #[.agg #[.int .i64 n, .slice a l.length c]] w _
  clear hb1 hr1 hw1 hA
  obtain ⟨R, hR⟩ : ∃ R, R = smallB n l.length 40 80 := ⟨_, rfl⟩
  have HR := Lib.hid hR
  clear hR
  cases R with
  | false =>
    go_enter Try.func5, Try.ntmps5
    go_wp2_with (first
      | (go_at_call 16; rw [← HW.out]; refine (small_any n a l.length c 40 80 _).mono ?_; rintro e w2 ⟨rfl, hb2⟩; rw [← HR.out]; have H2 := Lib.hid hb2; clear hb2)
      | (go_at_call 17; refine (known_any _).mono ?_; rintro e w3 ⟨rfl, hb3⟩; have H3 := Lib.hid hb3; clear hb3))
    go_ret
    exact ⟨rfl, H1.out.1.trans ((H2.out.trans (H3.out.mono H2.out.size)).mono H1.out.1.size)⟩
  | true =>
    have hl : l.length ≤ 80 := by
      have h := HR.out.symm
      unfold smallB at h
      simp only [Bool.and_eq_true, Bool.or_eq_true, decide_eq_true_eq] at h
      omega
    have HL := Lib.hid hl
    have hli : (l.length : Int) ≤ 80 := by omega
    clear hl
    obtain ⟨i0, hi, hz0, hz1, hz2⟩ := info_partsC infoA
    go_enter Try.func5, Try.ntmps5
    go_upto_region 4 with (first
      | (go_at_call 16; rw [← HW.out]; refine (small_any n a l.length c 40 80 _).mono ?_; rintro e w2 ⟨rfl, hb2⟩; rw [← HR.out]; have H2 := Lib.hid (And.intro (H1.out.1.trans (hb2.mono H1.out.1.size)) (And.intro (H1.out.2.1.under hb2 H1.out.2.1.lt) (H1.out.2.2.under hb2))); clear hb2))
    have r0 := H2.out.2.1.cell 0
    have r1 := H2.out.2.1.cell 1
    simp only [List.getElem?_toArray, List.getElem?_cons_zero, List.getElem?_cons_succ] at r0 r1
    go_cut [3] from 14 to 17 (fun v wx => ∃ av cv, v = .slice av l.length cv ∧ AV wx w2.heap.size (.slice av l.length cv) l ∧ Row wx w.heap.size 24 #[.int .i64 n, .slice a l.length c] ∧ Arcs wx a l ∧ Below w.heap.size w wx ∧ w2.heap.size ≤ wx.heap.size)
    case first =>
      cases a with
      | none =>
        have hM0 : l = [] := by
          rcases H2.out.2.2 with h | ⟨b, o, e, _⟩
          · exact h
          · cases e
        subst hM0
        go_wp2
        go_meet
        exact ⟨none, 0, rfl, AV.nil _ _, H2.out.2.1, .inl rfl, H2.out.1, Nat.le_refl _⟩
      | some ad =>
        have HC := Lib.hid (show ∀ (j : Nat) (u : Value), (acells l)[j]? = some u → w2.cell? (ad.add j) = some u from fun j u h => by
          rcases H2.out.2.2 with rfl | ⟨b, o, e, h'⟩
          · cases h
          · cases e
            rw [add_addr]
            exact Arcs.cells (.inr ⟨b, o, rfl, h'⟩) j u h)
        have hlen := Lib.hid (acells_length l)
        go_wp2_with (at_builtin; refine wpList_append_own_at _ rfl _ _ 22 rfl w2.heap.size 33 i0 (.agg #[.int .i64 0, .int .i64 0, .int .i64 0]) 3 24 Try.underlying22 hi hz0 hz1 hz2 rfl (by decide) (.slice none 0 0) 0 [] rfl (World.ownsRow_nil _ _ _ _) ad l.length c (acells l) rfl hlen.out HC.out (acells_one l) (by unfold maxLen; have := HL.out; omega) (by have := HL.out; omega) (Nat.le_refl _) ?_; intro v' w5 hown' hg5 _ _; rw [Nat.zero_add] at hown'; have ho5 := only_grown (S := fun q => False) hg5 (fun q e => by cases e); have HT := Lib.hid (And.intro hown' ho5); obtain ⟨av, cv, rfl, _, _⟩ := owns_shape hown'; clear hown' hg5 ho5)
        go_meet
        exact ⟨av, cv, rfl, by simpa [AV] using HT.out.1, H2.out.2.1.only HT.out.2 id, H2.out.2.2.only HT.out.2 (fun _ _ _ _ h => h), H2.out.1.trans (HT.out.2.below (K := w.heap.size) (fun _ h => h.elim) H2.out.1.size), HT.out.2.size⟩
    case rest =>
      clear r0 r1
      obtain ⟨av, cv, rfl, hv, hr, hA, hb, hsz⟩ := hcut
      have r0 := hr.cell 0
      have r1 := hr.cell 1
      simp only [List.getElem?_toArray, List.getElem?_cons_zero, List.getElem?_cons_succ] at r0 r1
      have H4 := Lib.hid (And.intro hv (And.intro hr (And.intro hA (And.intro hb hsz))))
      clear hv hr hA hb hsz
      by_cases hck : checkL n l = 0
      · obtain ⟨N, rfl, hN, _, _, _⟩ := checkL_zero hck
        have HCk := Lib.hid hck
        clear hck
        go_wp2_with fail
        refine (new_any (AV.arcs H4.out.1) HCk.out).mono ?_
        rintro e w5 ⟨g, rfl, hb5, hg5⟩
        have hr5 := H4.out.2.1.under hb5 H4.out.2.1.lt
        have s0 := hr5.cell 0
        have s1 := hr5.cell 1
        simp only [List.getElem?_toArray, List.getElem?_cons_zero, List.getElem?_cons_succ] at s0 s1
        have H5 := Lib.hid (And.intro hg5 (And.intro (H4.out.2.2.1.under hb5) (And.intro (H4.out.2.2.2.1.trans (hb5.mono H4.out.2.2.2.1.size)) hb5)))
        clear hb5 hg5 hr5
        go_wp2_with fail
        refine (new_any H5.out.2.1 HCk.out).mono ?_
        rintro e w6 ⟨h, rfl, hb6, hg6⟩
        have H6 := Lib.hid (And.intro (H5.out.1.under hb6) (And.intro hg6 (And.intro (H5.out.2.2.1.trans (hb6.mono H5.out.2.2.1.size)) (And.intro (Spoil.start (owns_only H4.out.1 (Only.of_below (fun _ => False) (H5.out.2.2.2.trans (hb6.mono H5.out.2.2.2.size))) (fun _ _ h => h)) : Spoil 33 w6 av l.length w6) (show wc.heap.size ≤ w5.heap.size ∧ w5.heap.size ≤ w6.heap.size ∧ w.heap.size ≤ w2.heap.size ∧ (∀ q, av = some ⟨q, 0, none⟩ → w2.heap.size ≤ q ∧ q < wc.heap.size) from ⟨H5.out.2.2.2.size, hb6.size, H2.out.1.size, fun q e => owns_lt H4.out.1 q (by rw [e]; rfl)⟩)))))
        obtain ⟨K1, hK1⟩ : ∃ K1, K1 = wc.heap.size := ⟨_, rfl⟩
        obtain ⟨M1, hM1⟩ : ∃ M1, M1 = w5.heap.size := ⟨_, rfl⟩
        obtain ⟨M2, hM2⟩ : ∃ M2, M2 = w6.heap.size := ⟨_, rfl⟩
        rw [← hK1, ← hM1, ← hM2] at H6
        have HM := Lib.hid hM2
        clear hb6 hg6 hK1 hM1 hM2 s0 s1 r0 r1
        go_wp2
        go_loopw [6] (fun i wr => ∃ k : Nat, i = .int .i64 k ∧ k ≤ l.length ∧ Spoil 33 w6 av l.length wr) (fun i _ => l.length - (intOf i).toNat)
        case atStart => exact ⟨0, rfl, by omega, H6.out.2.2.2.1⟩
        case round =>
          obtain ⟨k, rfl, hk, hsp⟩ := hrel
          by_cases hlt : k < l.length
          · have hlt' : (k : Int) < (l.length : Int) := by omega
            obtain ⟨gq, q0, e0, c0, f0⟩ := hsp.at_ (show k * 3 < l.length * 3 by omega)
            obtain ⟨gq1, q1, e1, c1, f1⟩ := hsp.at_ (show k * 3 + 1 < l.length * 3 by omega)
            obtain ⟨gq2, q2, e2, c2, f2⟩ := hsp.at_ (show k * 3 + 2 < l.length * 3 by omega)
            subst e0
            cases e1
            cases e2
            have HSp := Lib.hid hsp
            clear hsp
            go_wp2
            exact ⟨⟨k + 1, by go_num, by omega, ((HSp.out.set rfl _).set rfl _).set rfl _⟩, by simp [intOf]; omega⟩
          · obtain rfl : k = l.length := by omega
            have hlt' : ¬ (l.length : Int) < (l.length : Int) := by omega
            have hG : Gra wr K1 M1 g N l ∧ Gra wr M1 M2 h N l ∧ Below w.heap.size w wr ∧ M2 ≤ wr.heap.size := by
              have hh := H6.out
              have hsz := hsp.1.size
              refine ⟨hh.1.only hsp.1 (fun q h1 _ e => by have := (hh.2.2.2.2.2.2.2 q e).2; omega), hh.2.1.only hsp.1 (fun q h1 _ e => by have := (hh.2.2.2.2.2.2.2 q e).2; omega), hh.2.2.1.trans (hsp.1.below (K := w.heap.size) (fun q e => by have := (hh.2.2.2.2.2.2.2 q e).1; omega) hh.2.2.1.size), by have := HM.out; omega⟩
            have HG := Lib.hid hG
            clear hsp hG
            go_wp2
            go_loopw [7] (fun i wr => ∃ v : Nat, i = .int .i64 v ∧ v ≤ N ∧ Gra wr K1 M1 g N l ∧ Gra wr M1 M2 h N l ∧ Below w.heap.size w wr ∧ M2 ≤ wr.heap.size) (fun i _ => N - (intOf i).toNat)
            case atStart => exact ⟨0, rfl, by omega, HG.out⟩
            case round =>
              obtain ⟨v, rfl, hv, hgr⟩ := hrel
              have HG2 := Lib.hid hgr
              clear hgr
              go_wp2_with fail
              refine (n_any HG2.out.2.1).mono ?_
              rintro e w7 ⟨rfl, hw7⟩
              subst w7
              by_cases hlt : v < N
              · have hlt' : (v : Int) < (N : Int) := by omega
                have hw1' : IntKind.i64.wrap ((v : Int) + 1) = (v : Int) + 1 := by rw [IntKind.wrap_i64]; omega
                go_wp2_with fail
                refine (out_any HG2.out.1 (v : Int)).mono ?_
                rintro e w8 ⟨hb8, x8, rfl, hx8⟩
                have hNb : N ≤ 16777216 := (Gra.ok HG2.out.1).2.1
                have hel := outI_len N l (v : Int) hNb
                have hil := inI_len N l (v : Int) hNb
                have HNo := Lib.hid (fun q (e : x8.ownBlock = some q) => owns_lt hx8 q e)
                obtain ⟨a8, c8, rfl, _, _⟩ := owns_shape hx8
                have H8 := Lib.hid (And.intro hb8 (Spoil.start hx8))
                have HE := Lib.hid (And.intro hel hil)
                have heli : (((outI N l (v : Int)).length : Nat) : Int) ≤ 16777216 := by omega
                clear hb8 hx8 hNb hel hil
                obtain ⟨E, hEe⟩ : ∃ E, E = outI N l (v : Int) := ⟨_, rfl⟩
                rw [← hEe] at H8 heli HNo ⊢
                have HEe := Lib.hid hEe
                clear hEe
                go_wp2
                go_loopw [9] (fun i wr => ∃ k : Nat, i = .int .i64 k ∧ k ≤ E.length ∧ Spoil 37 w8 a8 E.length wr) (fun i _ => E.length - (intOf i).toNat)
                case atStart => exact ⟨0, rfl, by omega, H8.out.2⟩
                case round =>
                  obtain ⟨wo, hwo⟩ : ∃ wo : World, wo = w8 := ⟨_, rfl⟩
                  obtain ⟨k, rfl, hk, hsp⟩ := hrel
                  by_cases hlk : k < E.length
                  · have hlk' : (k : Int) < (E.length : Int) := by omega
                    obtain ⟨gq, q0, e0, c0, f0⟩ := hsp.at_ (show k * 3 + 1 < E.length * 3 by omega)
                    subst e0
                    have HSp := Lib.hid hsp
                    clear hsp hwo
                    go_wp2
                    exact ⟨⟨k + 1, by go_num, by omega, HSp.out.set rfl _⟩, by simp [intOf]; omega⟩
                  · obtain rfl : k = E.length := by omega
                    have hlk' : ¬ (E.length : Int) < (E.length : Int) := by omega
                    clear hwo
                    have hgg : ∃ W0 : World, W0 = wr := ⟨_, rfl⟩
                    have hG3 : Gra wr K1 M1 g N l ∧ Gra wr M1 M2 h N l ∧ Below w.heap.size w wr ∧ M2 ≤ wr.heap.size := by
                      have hb8 := H8.out.1
                      have hsz := hsp.1.size
                      have hno := HNo.out
                      have hM12 : M1 ≤ M2 := by have := HM.out; have := H6.out.2.2.2.2; omega
                      have h0 := HG2.out
                      have hs8 := hb8.size
                      refine ⟨(h0.1.under hb8).only hsp.1 (fun q _ h2 e => by have := (hno q (by rw [e]; rfl)).1; omega), (h0.2.1.under hb8).only hsp.1 (fun q _ h2 e => by have := (hno q (by rw [e]; rfl)).1; omega), (h0.2.2.1.trans (hb8.mono h0.2.2.1.size)).trans (hsp.1.below (K := w.heap.size) (fun q e => by have := (hno q (by rw [e]; rfl)).1; have := h0.2.2.1.size; omega) (by have := h0.2.2.1.size; omega)), by omega⟩
                    have HG3 := Lib.hid hG3
                    clear hG3 hgg hsp
                    go_wp2_with fail
                    refine (out_any HG3.out.1 (v : Int)).mono ?_
                    rintro e wa ⟨hba, xa, rfl, hxa⟩
                    obtain ⟨aa, ca, rfl, hEa, _, _⟩ := EV.shape hxa
                    have Ha := Lib.hid (And.intro hba (And.intro hEa (HG3.out.2.1.under hba)))
                    clear hba hxa hEa
                    go_wp2_with fail
                    refine (out_any Ha.out.2.2 (v : Int)).mono ?_
                    rintro e wb ⟨hbb, xb, rfl, hxb⟩
                    obtain ⟨ab, cb, rfl, hEb, _, _⟩ := EV.shape hxb
                    have hse := sameedges_any aa ab _ _ ca cb wb (Ha.out.2.1.under hbb) hEb (by have := HE.out.1; omega)
                    rw [decide_eq_true rfl] at hse
                    have Hb := Lib.hid (And.intro (Ha.out.1.trans (hbb.mono Ha.out.1.size)) hse)
                    clear hbb hxb hEb hse
                    go_wp2_with fail
                    refine Hb.out.2.mono ?_
                    rintro e wd ⟨rfl, hbd⟩
                    have Hd := Lib.hid (Hb.out.1.trans (hbd.mono Hb.out.1.size))
                    clear hbd
                    go_wp2_with fail
                    refine (in_any (HG3.out.1.under Hd.out) (v : Int)).mono ?_
                    rintro e we ⟨hbe, xe, rfl, hxe⟩
                    obtain ⟨ae, ce, rfl, hEe, _, _⟩ := EV.shape hxe
                    have He := Lib.hid (And.intro (Hd.out.trans (hbe.mono Hd.out.size)) hEe)
                    clear hbe hxe hEe
                    go_wp2_with fail
                    refine (in_any (HG3.out.2.1.under He.out.1) (v : Int)).mono ?_
                    rintro e wf ⟨hbf, xf, rfl, hxf⟩
                    obtain ⟨af, cf, rfl, hEf, _, _⟩ := EV.shape hxf
                    have hse := sameedges_any ae af _ _ ce cf wf (He.out.2.under hbf) hEf (by have := HE.out.2; omega)
                    rw [decide_eq_true rfl] at hse
                    have Hf := Lib.hid (And.intro (He.out.1.trans (hbf.mono He.out.1.size)) hse)
                    clear hbf hxf hEf hse
                    go_wp2_with fail
                    refine Hf.out.2.mono ?_
                    rintro e wg ⟨rfl, hbg⟩
                    have Hg := Lib.hid (Hf.out.1.trans (hbg.mono Hf.out.1.size))
                    clear hbg
                    go_wp2
                    go_roundw
                    case rel => exact ⟨v + 1, by go_num, by omega, HG3.out.1.under Hg.out, HG3.out.2.1.under Hg.out, HG3.out.2.2.1.trans (Hg.out.mono HG3.out.2.2.1.size), Nat.le_trans HG3.out.2.2.2 Hg.out.size⟩
                    case measure => simp [intOf]; omega
              · obtain rfl : v = N := by omega
                have hlt' : ¬ (v : Int) < (v : Int) := by omega
                obtain ⟨pp, hpp⟩ : ∃ pp, pp = printF v l := ⟨_, rfl⟩
                have hp1 := print_any HG2.out.1
                rw [← hpp] at hp1
                have HP1 := Lib.hid hp1
                have HPp := Lib.hid hpp
                clear hp1 hpp
                go_wp2_with fail
                refine HP1.out.mono ?_
                rintro e wa ⟨rfl, hba⟩
                have hp2 := print_any (HG2.out.2.1.under hba)
                rw [← HPp.out] at hp2
                have HP2 := Lib.hid (And.intro hba hp2)
                clear hp2 hba
                go_wp2_with fail
                refine HP2.out.2.mono ?_
                rintro e wb ⟨rfl, hbb⟩
                have Hb := Lib.hid (HP2.out.1.trans (hbb.mono HP2.out.1.size))
                clear hbb
                go_wp2_with fail
                refine (known_any _).mono ?_
                rintro e wd ⟨rfl, hbd⟩
                have Hd := Lib.hid (Hb.out.trans (hbd.mono Hb.out.size))
                clear hbd
                go_wp2
                go_ret
                exact ⟨rfl, HG2.out.2.2.1.trans (Hd.out.mono HG2.out.2.2.1.size)⟩
      · have HCk := Lib.hid hck
        clear hck
        go_wp2_with fail
        refine (new_nil (AV.arcs H4.out.1) HCk.out).mono ?_
        rintro e w5 ⟨rfl, hb5⟩
        have hr5 := H4.out.2.1.under hb5 H4.out.2.1.lt
        have s0 := hr5.cell 0
        have s1 := hr5.cell 1
        simp only [List.getElem?_toArray, List.getElem?_cons_zero, List.getElem?_cons_succ] at s0 s1
        have H5 := Lib.hid (And.intro (H4.out.2.2.1.under hb5) (And.intro (H4.out.2.2.2.1.trans (hb5.mono H4.out.2.2.2.1.size)) hb5))
        clear hb5 hr5
        go_wp2_with fail
        refine (new_nil H5.out.1 HCk.out).mono ?_
        rintro e w6 ⟨rfl, hb6⟩
        have H6 := Lib.hid (And.intro (H5.out.2.1.trans (hb6.mono H5.out.2.1.size)) (And.intro (Spoil.start (owns_only H4.out.1 (Only.of_below (fun _ => False) (H5.out.2.2.trans (hb6.mono H5.out.2.2.size))) (fun _ _ h => h)) : Spoil 33 w6 av l.length w6) (show w.heap.size ≤ w2.heap.size ∧ (∀ q, av = some ⟨q, 0, none⟩ → w2.heap.size ≤ q ∧ q < wc.heap.size) from ⟨H2.out.1.size, fun q e => owns_lt H4.out.1 q (by rw [e]; rfl)⟩)))
        clear hb6 s0 s1 r0 r1
        go_wp2
        go_loopw [6] (fun i wr => ∃ k : Nat, i = .int .i64 k ∧ k ≤ l.length ∧ Spoil 33 w6 av l.length wr) (fun i _ => l.length - (intOf i).toNat)
        case atStart => exact ⟨0, rfl, by omega, H6.out.2.1⟩
        case round =>
          obtain ⟨k, rfl, hk, hsp⟩ := hrel
          by_cases hlt : k < l.length
          · have hlt' : (k : Int) < (l.length : Int) := by omega
            obtain ⟨gq, q0, e0, c0, f0⟩ := hsp.at_ (show k * 3 < l.length * 3 by omega)
            obtain ⟨gq1, q1, e1, c1, f1⟩ := hsp.at_ (show k * 3 + 1 < l.length * 3 by omega)
            obtain ⟨gq2, q2, e2, c2, f2⟩ := hsp.at_ (show k * 3 + 2 < l.length * 3 by omega)
            subst e0
            cases e1
            cases e2
            have HSp := Lib.hid hsp
            clear hsp
            go_wp2
            exact ⟨⟨k + 1, by go_num, by omega, ((HSp.out.set rfl _).set rfl _).set rfl _⟩, by simp [intOf]; omega⟩
          · obtain rfl : k = l.length := by omega
            have hlt' : ¬ (l.length : Int) < (l.length : Int) := by omega
            have hbw : Below w.heap.size w wr := H6.out.1.trans (hsp.1.below (K := w.heap.size) (fun q e => by have := (H6.out.2.2.2 q e).1; have := H6.out.2.2.1; omega) H6.out.1.size)
            have HB := Lib.hid hbw
            clear hsp hbw
            go_wp2
            go_loopw [7] (fun i w' => i = .int .i64 0 ∧ w' = wr) (fun _ _ => 0)
            case atStart => exact ⟨rfl, rfl⟩
            case round =>
              obtain ⟨rfl, rfl⟩ := hrel
              go_wp2_with fail
              refine (n_nil _).mono ?_
              rintro e w7 ⟨rfl, hw7⟩
              subst w7
              go_wp2_with fail
              refine (print_nil _).mono ?_
              rintro e w7 ⟨rfl, hw7⟩
              subst w7
              go_wp2_with fail
              refine (print_nil _).mono ?_
              rintro e w7 ⟨rfl, hw7⟩
              subst w7
              go_wp2_with fail
              refine (known_any _).mono ?_
              rintro e wd ⟨rfl, hbd⟩
              have Hd := Lib.hid hbd
              clear hbd
              go_wp2
              go_ret
              exact ⟨rfl, HB.out.trans (Hd.out.mono HB.out.size)⟩
end Go.Proofs.Ythljgkaigjokjaa
