/- graph.New (written by mknew.py). -/
import Derived.Test.YtdkpdmpghibmmaaGreatGhP
import Derived.Test.YtdkpdmpghibmmaaGreatGhS
import Derived.Test.YtdkpdmpghibmmaaGreatGhW
namespace Go.Proofs.YtdkpdmpghibmmaaGreat
open Go.RowKit Go.Shelf Grm Lay

theorem checkL_zero {n : Int} {l : List Ar} (h : checkL n l = 0) : ∃ k : Nat, n = k ∧ k ≤ 16777216 ∧ l.length ≤ 67108864 ∧ EndsOk k l ∧ ∀ x ∈ l, 0 ≤ x.2.2 ∧ x.2.2 ≤ 2147483648 := by
  obtain ⟨h0, h1, h2, h3⟩ := check_ok h
  refine ⟨n.toNat, by omega, by omega, h2, fun x hx => ?_, fun x hx => ?_⟩
  · have := h3 x hx
    simp [badA] at this
    omega
  · have := h3 x hx
    simp [badA] at this
    omega
theorem pick_YL {n : Nat} {l : List Ar} (hok : EndsOk n l) : pickL l (byE n l) = YL n l := pick_byE hok
theorem KeptV.of {w : World} {K : Nat} {ak : Option Addr} {ck m : Nat} {Y : List Nat} (h : w.ownsRow K 3 1 (.slice ak m ck) Y.length (nsC Y)) : m = Y.length ∧ KeptV w ak Y := by
  rcases h.2 with ⟨e, h0⟩ | ⟨g, cap, cur, e, h1, h2, h3, _, hs, ht⟩
  · cases e
    have : Y = [] := List.eq_nil_of_length_eq_zero (by omega)
    subst this
    exact ⟨rfl, .inl rfl⟩
  · cases e
    refine ⟨rfl, .inr ⟨g, rfl, fun i y hi => ?_⟩⟩
    have hlt := (List.getElem?_eq_some_iff.1 hi).1
    obtain ⟨g', c', e', _, hc⟩ := owns_cell (i := i) (u := .int .i64 (y : Nat)) h (by simp [nsC, hi])
    cases e'
    exact hc
set_option maxHeartbeats 1000000 in
theorem new_nil {n : Int} {a : Option Addr} {l : List Ar} {c : Nat} {w : World} (hA : Arcs w a l) (hbad : checkL n l ≠ 0) : Calls Tryz.prog 19 #[mV n a l.length c] w fun e w' => e = .returned (.pointer none) ∧ Below w.heap.size w w' := by
  have HA := Lib.hid (hA.under ((Below.refl w.heap.size w).alloc (Nat.le_refl _) (.cells #[.int .i64 n, .slice a l.length c] 24)))
  have hb : (checkL n l == 0) = false := by simpa using hbad
  have HC := Lib.hid hbad
  clear hA hbad
  show Calls Tryz.prog 19 #[.agg #[.int .i64 n, .slice a l.length c]] w _
  go_enter Tryz.func19, Tryz.ntmps19
  go_wp2_with (first | (go_at_call 57; refine (check_any n a l c _ HA.out).mono ?_; rintro e w2 ⟨rfl, hb2⟩; have HB := Lib.hid hb2; clear hb2))
  go_ret
  exact ⟨rfl, ((Below.refl _ _).alloc (Nat.le_refl _) _).trans (HB.out.mono (by simp))⟩
set_option maxRecDepth 100000 in
set_option maxHeartbeats 4000000 in
theorem new_any {n : Nat} {a : Option Addr} {l : List Ar} {c : Nat} {w : World} (hA : Arcs w a l) (hok : checkL n l = 0) : Calls Tryz.prog 19 #[mV (n : Nat) a l.length c] w fun e w' => ∃ g, e = .returned (ptr g) ∧ Below w.heap.size w w' ∧ Gra w' w.heap.size w'.heap.size g n l := by
  obtain ⟨k, hk, hn, hl, hE, _⟩ := checkL_zero hok
  obtain rfl : n = k := by omega
  obtain ⟨w1, hw1⟩ : ∃ w1, w1 = w.alloc (.cells #[.int .i64 (n : Nat), .slice a l.length c] 24) := ⟨_, rfl⟩
  have hb1 : Below w.heap.size w w1 := by rw [hw1]; exact (Below.refl _ _).alloc (Nat.le_refl _) _
  have hr1 : Row w1 w.heap.size 24 #[.int .i64 (n : Nat), .slice a l.length c] := by rw [hw1]; exact Row.fresh w _ _
  have HA := Lib.hid (hA.under hb1)
  have HM := Lib.hid (And.intro hb1 hr1)
  have HOk := Lib.hid (And.intro hE hn)
  have HL := Lib.hid hl
  have HW1 := Lib.hid hw1
  have HC := Lib.hid hok
  clear hA hok hk hn hl hE hb1 hr1 hw1
  show Calls Tryz.prog 19 #[.agg #[.int .i64 (n : Nat), .slice a l.length c]] w _
  go_enter Tryz.func19, Tryz.ntmps19
  go_upto_region 3 with (first | (go_at_call 57; rw [← HW1.out]; refine (check_any n a l c _ HA.out).mono ?_; rintro e w2 ⟨rfl, hb2⟩; rw [HC.out]; have HB2 := Lib.hid hb2; clear hb2))
  have hr2 := HM.out.2.under HB2.out HM.out.2.lt
  have HAr := Lib.hid ((HA.out.under HB2.out).under (Below.refl w2.heap.size w2).drew)
  have HSt := Lib.hid (show ∀ W, Below w2.heap.size w2 W → (W.cell? ⟨w.heap.size, 0, none⟩ = some (.int .i64 (n : Nat)) ∧ W.cell? ⟨w.heap.size, 1, none⟩ = some (.slice a l.length c)) from fun W hW => ⟨(hr2.under hW hr2.lt).cell 0, (hr2.under hW hr2.lt).cell 1⟩)
  clear hr2
  refine wp_region_held_drew (S := fun W => W.cell? ⟨w.heap.size, 0, none⟩ = some (.int .i64 (n : Nat)) ∧ W.cell? ⟨w.heap.size, 1, none⟩ = some (.slice a l.length c)) (by kernel_rfl) (HSt.out _ (Below.refl _ _).drew) (fun hHeld => ?_)
  refine wpAnyH_take (i := 0) (oi := ⟨some 8, _, _, _, _, _⟩) (v := ?_) rfl (by kernel_rfl) (by kernel_rfl) (by kernel_rfl) (fun _ _ _ h => h) (Or.inl ⟨by rfl, ?_⟩) hHeld ?_
  rotate_left
  · intro W hSw
    obtain ⟨s0, s1⟩ := hSw
    go_simp
    with_reducible rfl
  simp only [Act.put, List.setIfInBounds_toArray, List.set_cons_zero, List.set_cons_succ]
  refine wpAnyH_take (i := 1) (oi := ⟨some 9, _, _, _, _, _⟩) (v := ?_) rfl (by kernel_rfl) (by kernel_rfl) (by kernel_rfl) (fun _ _ _ h => h) (Or.inl ⟨by rfl, ?_⟩) hHeld ?_
  rotate_left
  · intro W hSw
    obtain ⟨s0, s1⟩ := hSw
    go_simp
    with_reducible rfl
  simp only [Act.put, List.setIfInBounds_toArray, List.set_cons_zero, List.set_cons_succ]
  refine wpAnyH_take (i := 2) (oi := ⟨some 10, _, _, _, _, _⟩) (v := ?_) rfl (by kernel_rfl) (by kernel_rfl) (by kernel_rfl) (fun _ _ _ h => h) (Or.inl ⟨by rfl, ?_⟩) hHeld ?_
  rotate_left
  · intro W hSw
    obtain ⟨s0, s1⟩ := hSw
    go_simp
    with_reducible rfl
  simp only [Act.put, List.setIfInBounds_toArray, List.set_cons_zero, List.set_cons_succ]
  refine wpAnyH_take (i := 3) (oi := ⟨some 11, _, _, _, _, _⟩) (v := ?_) rfl (by kernel_rfl) (by kernel_rfl) (by kernel_rfl) (fun _ _ _ h => h) (Or.inl ⟨by rfl, ?_⟩) hHeld ?_
  rotate_left
  · intro W hSw
    obtain ⟨s0, s1⟩ := hSw
    go_simp
    with_reducible rfl
  simp only [Act.put, List.setIfInBounds_toArray, List.set_cons_zero, List.set_cons_succ]
  refine wpAnyH_ready (rs := [4]) (by kernel_rfl) (by simp) ?_
  refine (AllReadyH.cons (o := ⟨some 12, _, _, _, _, _⟩) rfl (fun K hK => ?_) AllReadyH.nil)
  go_simp
  refine (clone_any a l c _ HAr.out HL.out).mono ?_
  rintro e w3 ⟨hb3, v3, rfl, hv3⟩
  obtain ⟨a3, c3, rfl⟩ := hv3.shape
  have HB3 := Lib.hid (show Below w2.heap.size w2 w3 from ((Below.refl w2.heap.size w2).drew).trans hb3)
  have HV3 := Lib.hid hv3
  have hSn := HSt.out _ HB3.out
  clear hb3 hv3
  refine hK.out _ _ hSn (fun hHeld2 => ?_)
  clear hK hHeld hSn
  have hHeld := hHeld2
  clear hHeld2
  refine wpAnyH_take (i := 5) (oi := ⟨some 13, _, _, _, _, _⟩) (v := ?_) rfl (by kernel_rfl) (by kernel_rfl) (by kernel_rfl) (fun _ _ _ h => h) (Or.inl ⟨by rfl, ?_⟩) hHeld ?_
  rotate_left
  · intro W hSw
    obtain ⟨s0, s1⟩ := hSw
    go_simp
    with_reducible rfl
  simp only [Act.put, List.setIfInBounds_toArray, List.set_cons_zero, List.set_cons_succ]
  refine wpAnyH_ready (rs := [6]) (by kernel_rfl) (by simp) ?_
  refine (AllReadyH.cons (o := ⟨some 14, _, _, _, _, _⟩) rfl (fun K hK => ?_) AllReadyH.nil)
  go_simp
  refine hK.out _ _ (HSt.out _ (HB3.out.alloc HB3.out.size _)) (fun hHeld3 => ?_)
  clear hK
  refine wpAnyH_take (i := 7) (oi := ⟨some 3, _, _, _, _, _⟩) (v := ?_) rfl (by kernel_rfl) (by kernel_rfl) (by kernel_rfl) (fun _ _ _ h => h) (Or.inl ⟨by rfl, ?_⟩) hHeld3 ?_
  rotate_left
  · intro W hSw
    obtain ⟨s0, s1⟩ := hSw
    go_simp
    with_reducible rfl
  simp only [Act.put, List.setIfInBounds_toArray, List.set_cons_zero, List.set_cons_succ]
  refine wpAnyH_done (by kernel_rfl) ?_ _
  clear hHeld3 hHeld
  obtain ⟨g, hge⟩ : ∃ g, g = w3.heap.size := ⟨_, rfl⟩
  obtain ⟨w4, hw4⟩ : ∃ w4, w4 = w3.alloc (.cells #[.int .i64 (n : Nat), .slice a3 l.length c3, .slice none 0 0, .slice none 0 0, .slice none 0 0, .slice none 0 0] 110) := ⟨_, rfl⟩
  rw [← hw4, ← hge]
  have hb4 : Below w3.heap.size w3 w4 := by rw [hw4]; exact (Below.refl _ _).alloc (Nat.le_refl _) _
  have hg4 : Gb w4 g n a3 l c3 (.slice none 0 0) (.slice none 0 0) (.slice none 0 0) (.slice none 0 0) := by rw [hw4, hge]; exact Row.fresh w3 _ _
  have hA4 : Arcs w4 a3 l := (AV.arcs HV3.out).under hb4
  have hAb : ∀ b o, a3 = some ⟨b, o, none⟩ → l ≠ [] → w2.heap.size ≤ b ∧ b < g := fun b o e hne => by
    have h := owns_lt HV3.out b (by rw [e]; rfl)
    have h1 : w2.drew.heap.size = w2.heap.size := rfl
    rw [hge]
    omega
  have hb02 : Below w.heap.size w w4 := HM.out.1.trans ((HB2.out.trans ((HB3.out.trans (hb4.mono HB3.out.size)).mono HB2.out.size)).mono HM.out.1.size)
  have hgw : w.heap.size ≤ w2.heap.size := Nat.le_trans HM.out.1.size HB2.out.size
  have hgl : w2.heap.size ≤ g := by rw [hge]; exact HB3.out.size
  have hs4 : w4.heap.size = g + 1 := by rw [hw4, hge]; simp
  have H4 := Lib.hid (And.intro hg4 (And.intro hA4 (And.intro hAb (And.intro hb02 (And.intro hgw (And.intro hgl hs4))))))
  clear hw4 hge hb4 hg4 hA4 hAb hb02 hgw hgl hs4
  go_upto_region 6 with (first
    | (go_at_call 60; refine (byends_any H4.out.1 H4.out.2.1 HOk.out.1 HOk.out.2 HL.out).mono ?_; rintro e w5 ⟨hb5, ib5, rfl, hib5, hrow5⟩; have H5 := Lib.hid (And.intro hb5 (And.intro hib5 (And.intro hrow5 (And.intro (Row.under H4.out.1 hb5 (Row.lt H4.out.1)) (H4.out.2.1.under hb5))))); clear hb5 hib5 hrow5)
    | (go_at_call 59; (have hp := pick_any (d := l.length) H5.out.2.2.2.1 H5.out.2.2.2.2 HOk.out.1 H5.out.2.2.1 (byE_ok HOk.out.1).2 (by rw [(byE_ok HOk.out.1).1]; exact HL.out) (Nat.le_of_eq (byE_ok HOk.out.1).1); rw [(byE_ok HOk.out.1).1, pick_YL HOk.out.1] at hp; refine hp.mono ?_); rintro e w6 ⟨hb6, v6, rfl, hv6⟩; obtain ⟨a6, c6, rfl, _, _⟩ := owns_shape hv6; have H6 := Lib.hid (And.intro hb6 (And.intro (KeptV.of hv6).2 (And.intro (Row.under H5.out.2.2.2.1 hb6 (Row.lt H5.out.2.2.2.1)) (H5.out.2.2.2.2.under hb6)))); have H6b := Lib.hid (show ∀ kb o, a6 = some ⟨kb, o, none⟩ → w5.heap.size ≤ kb from fun kb o e => (owns_lt hv6 kb (by rw [e]; rfl)).1); clear hb6 hv6 hp)
    | (go_at_call 61; refine (side_out H6.out.2.2.1 H6.out.2.2.2 HOk.out.1 H6.out.2.1 (fun x hx => YL_lt hx) HOk.out.2 (by rw [YL_len HOk.out.1]; have := keptL_len l; have := HL.out; omega)).mono ?_; rintro e w7 ⟨hb7, ib7, cb7, rfl, hib7, hcb7, hri7, hrc7⟩; have hg7 := Row.under H6.out.2.2.1 hb7 (Row.lt H6.out.2.2.1); have f2 := Row.thaw hg7 2; have f3 := Row.thaw hg7 3; have e2 := Row.cell hg7 2; have e3 := Row.cell hg7 3; simp only [List.getElem?_toArray, List.getElem?_cons_zero, List.getElem?_cons_succ] at e2 e3; have H7 := Lib.hid (And.intro hb7 (And.intro hib7 (And.intro hcb7 (And.intro hri7 (And.intro hrc7 (And.intro (show Gb w7 g n a3 l c3 _ _ _ _ from hg7) (And.intro (H6.out.2.2.2.under hb7) (H6.out.2.1.under hb7)))))))); clear hb7 hib7 hcb7 hri7 hrc7 hg7))
  obtain ⟨w8, hw8⟩ : ∃ w8, w8 = (w7.setCell ⟨g, 2, none⟩ (.slice (some ⟨ib7, 0, none⟩) (YL n l).length (YL n l).length)).setCell ⟨g, 3, none⟩ (.slice (some ⟨cb7, 0, none⟩) (n + 1) (n + 1)) := ⟨_, rfl⟩
  rw [← hw8]
  have ho8 : Only (fun k => k = g) w7 w8 := by rw [hw8]; exact ((Only.refl (fun k => k = g) w7).setCell (p := ⟨g, 2, none⟩) (.inl rfl) _).setCell (p := ⟨g, 3, none⟩) (.inl rfl) _
  have hg8 : Gb w8 g n a3 l c3 (.slice (some ⟨ib7, 0, none⟩) (YL n l).length (YL n l).length) (.slice (some ⟨cb7, 0, none⟩) (n + 1) (n + 1)) (.slice none 0 0) (.slice none 0 0) := by
    rw [hw8]
    have h := ((show Row w7 g _ _ from H7.out.2.2.2.2.2.1).put 2 (.slice (some ⟨ib7, 0, none⟩) (YL n l).length (YL n l).length)).put 3 (.slice (some ⟨cb7, 0, none⟩) (n + 1) (n + 1))
    simpa [Gb] using h
  have hgn : g < w7.heap.size := Row.lt H7.out.2.2.2.2.2.1
  have hg6 : g < w6.heap.size := Row.lt H6.out.2.2.1
  have hA8 : Arcs w8 a3 l := H7.out.2.2.2.2.2.2.1.only ho8 (fun b o e hne q => by have := H4.out.2.2.1 b o e hne; omega)
  have hK8 : KeptV w8 a6 (YL n l) := by
    rcases H7.out.2.2.2.2.2.2.2 with h | ⟨kb, e, h⟩
    · exact .inl h
    · refine .inr ⟨kb, e, fun i y hi => ?_⟩
      have hk := H6b.out kb 0 e
      have hg5 : g < w5.heap.size := Row.lt H5.out.2.2.2.1
      have hc := h i y hi
      have hb := ho8.block kb (block_lt_of_cell hc) (fun q => by omega)
      unfold World.cell? at hc ⊢
      rw [hb]
      exact hc
  have hi8 := H7.out.2.2.2.1.only ho8 (fun q => by have := H7.out.2.1; omega)
  have hc8 := H7.out.2.2.2.2.1.only ho8 (fun q => by have := H7.out.2.2.1; omega)
  have H8 := Lib.hid (And.intro ho8 (And.intro hg8 (And.intro hA8 (And.intro hK8 (And.intro hi8 hc8)))))
  clear hw8 ho8 hg8 hA8 hK8 hi8 hc8 hgn hg6 f2 f3 e2 e3
  go_wp2_with (first
    | (go_at_call 61; refine (side_in H8.out.2.1 H8.out.2.2.1 HOk.out.1 H8.out.2.2.2.1 (fun x hx => YL_lt hx) HOk.out.2 (by rw [YL_len HOk.out.1]; have := keptL_len l; have := HL.out; omega)).mono ?_; rintro e w9 ⟨hb9, ib9, cb9, rfl, hib9, hcb9, hri9, hrc9⟩; have hg9 := Row.under H8.out.2.1 hb9 (Row.lt H8.out.2.1); have f2 := Row.thaw hg9 4; have f3 := Row.thaw hg9 5; have e2 := Row.cell hg9 4; have e3 := Row.cell hg9 5; simp only [List.getElem?_toArray, List.getElem?_cons_zero, List.getElem?_cons_succ] at e2 e3; have H9 := Lib.hid (And.intro hb9 (And.intro hib9 (And.intro hcb9 (And.intro hri9 (And.intro hrc9 (show Gb w9 g n a3 l c3 _ _ _ _ from hg9)))))); clear hb9 hib9 hcb9 hri9 hrc9 hg9))
  go_ret
  have ho : Only (fun k => k = g) w9 ((w9.setCell ⟨g, 4, none⟩ (.slice (some ⟨ib9, 0, none⟩) (YL n l).length (YL n l).length)).setCell ⟨g, 5, none⟩ (.slice (some ⟨cb9, 0, none⟩) (n + 1) (n + 1))) :=
    ((Only.refl (fun k => k = g) w9).setCell (p := ⟨g, 4, none⟩) (.inl rfl) _).setCell (p := ⟨g, 5, none⟩) (.inl rfl) _
  have hs5 := H5.out.1.size
  have hs6 := H6.out.1.size
  have hs7 := H7.out.1.size
  have hs8 := H8.out.1.size
  have hs9 := H9.out.1.size
  have hsF := ho.size
  have hs4 := H4.out.2.2.2.2.2.2
  have hgw := H4.out.2.2.2.2.1
  have hgl := H4.out.2.2.2.2.2.1
  have hi7 := H7.out.2.1
  have hc7 := H7.out.2.2.1
  have hi9 := H9.out.2.1
  have hc9 := H9.out.2.2.1
  have hl7 := (H8.out.2.2.2.2.1).lt
  have hl7c := (H8.out.2.2.2.2.2).lt
  have hl9 := H9.out.2.2.2.1.lt
  have hl9c := H9.out.2.2.2.2.1.lt
  have hgg : w.heap.size ≤ g := by omega
  have hb : Below w.heap.size w _ := ((H4.out.2.2.2.1.trans ((H5.out.1.trans ((H6.out.1.trans (H7.out.1.mono hs6)).mono hs5)).mono H4.out.2.2.2.1.size)).trans ((H8.out.1.below (K := w.heap.size) (fun k e => by omega) (by omega)).trans (H9.out.1.mono (by omega)))).trans (ho.below (K := w.heap.size) (fun k e => by omega) (by omega))
  have hg := ((show Row w9 g _ _ from H9.out.2.2.2.2.2).put 4 (.slice (some ⟨ib9, 0, none⟩) (YL n l).length (YL n l).length)).put 5 (.slice (some ⟨cb9, 0, none⟩) (n + 1) (n + 1))
  simp only [List.setIfInBounds_toArray, List.set_cons_zero, List.set_cons_succ] at hg
  have hol : (outs n l).length = (YL n l).length := by rw [outs_len HOk.out.1, YL_len HOk.out.1]
  have hil : (ins n l).length = (YL n l).length := by rw [ins_len HOk.out.1, YL_len HOk.out.1]
  refine ⟨g, rfl, hb, a3, c3, ib7, cb7, ib9, cb9, ?_, ?_, ?_, ?_, ?_, ?_, HOk.out.1, HOk.out.2, HL.out, ⟨⟨by omega, by omega⟩, ⟨by omega, by omega⟩, ⟨by omega, by omega⟩, ⟨by omega, by omega⟩, ⟨by omega, by omega⟩⟩, fun b o e hne => ?_⟩
  · rw [hol, hil]
    exact hg
  · exact (H8.out.2.2.1.under H9.out.1).only ho (fun b o e hne q => by have := H4.out.2.2.1 b o e hne; omega)
  · exact (H8.out.2.2.2.2.1.under H9.out.1 hl7).only ho (fun q => by omega)
  · exact (H8.out.2.2.2.2.2.under H9.out.1 hl7c).only ho (fun q => by omega)
  · exact H9.out.2.2.2.1.only ho (fun q => by have := Row.lt H8.out.2.1; omega)
  · exact H9.out.2.2.2.2.1.only ho (fun q => by have := Row.lt H8.out.2.1; omega)
  · have := H4.out.2.2.1 b o e hne
    exact ⟨by omega, by omega⟩
end Go.Proofs.YtdkpdmpghibmmaaGreat
