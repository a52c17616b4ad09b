/- The document's disk: Do in all; New; Read. -/
import Derived.Test.YthheolhghhmdlaaDiskD5
import Derived.Test.YthheolhghhmdlaaDiskD6
import Derived.Test.YthheolhghhmdlaaDiskLawB
namespace Go.Proofs.Ythheolhghhmdlaa
open Go.RowKit Dsk

theorem rdo_any {w : World} {T : Nat → Prop} {ad : Option Addr} {rs : List Rf} (room : Int) (c : Nat) (x : Ope) (ax : Option Addr) (cx : Nat) (h : Fs3 w T ad rs) (hT : ∀ k, T k → k < w.heap.size) (hr : Rising Rf.name rs) (hs : sizeL (rs.map Rf.fil) + looseL (rs.map Rf.fil) + rs.length ≤ 100000) (hx : RdT byV w T ax x.data) (hx9 : x.data.length ≤ 100000) (hn9 : x.name.length ≤ 140737488351232 ∧ x.to.length ≤ 140737488351232) (hro : 0 ≤ room ∧ room ≤ 1099511627776) : Calls Try.prog 15 #[dV room ad rs.length c, opV x ax cx] w (RDo w T room (doL room (rs.map Rf.fil) x).1 (doL room (rs.map Rf.fil) x).2) := by
  cases hm : mayBe x with
  | false => exact rdo_arg room c x ax cx h hT hr hs hx hx9 hn9 hro hm
  | true =>
    by_cases hk : x.kind = 1
    · by_cases hf : (sizeL (rs.map Rf.fil) : Int) + x.data.length > room
      · exact rdo_full room c x ax cx h hT hr hs hx hx9 hn9 hro hm hk hf
      · exact rdo_write room c x ax cx h hT hr hs hx hx9 hn9 hro hm hk hf
    · have h4 : x.kind = 2 ∨ x.kind = 3 ∨ x.kind = 4 := by
        simp only [mayBe, Bool.or_eq_true, Bool.and_eq_true, decide_eq_true_eq] at hm
        rcases hm with q | q <;> omega
      cases hg : get Rf.name x.name rs with
      | none =>
        by_cases hk3 : x.kind = 3
        · exact rdo_none3 room c x ax cx h hT hr hs hx hx9 hn9 hro hm hk3 hg
        · exact rdo_none room c x ax cx h hT hr hs hx hx9 hn9 hro hm (by omega) hg
      | some r0 =>
        rcases h4 with h4 | h4 | h4
        · exact rdo_sync room c x ax cx h hT hr hs hx hx9 hn9 hro hm h4 r0 hg
        · exact rdo_rename room c x ax cx h hT hr hs hx hx9 hn9 hro hm h4 r0 hg
        · exact rdo_remove room c x ax cx h hT hr hs hx hx9 hn9 hro hm h4 r0 hg
theorem rnew_in (z : Int) (w : World) (h0 : 0 ≤ z) (h1 : z ≤ 1099511627776) : Calls Try.prog 12 #[.int .i64 z] w fun e w' => e = .returned (.tuple #[dV z none 0 0, .bool true]) ∧ Below w.heap.size w w' := by
  go_enter Try.func12, Try.ntmps12
  go_wp2
  exact bodyPost_ret (v := .tuple #[dV z none 0 0, .bool true]) (by simp [results, Try.results12, go_sem]) rfl ⟨rfl, (Below.refl _ _).alloc (Nat.le_refl _) _⟩
theorem rnew_out (z : Int) (w : World) (h0 : z < 0 ∨ 1099511627776 < z) : Calls Try.prog 12 #[.int .i64 z] w fun e w' => e = .returned (.tuple #[dV z none 0 0, .bool false]) ∧ Below w.heap.size w w' := by
  rcases h0 with h0 | h0
  · have h1 : ¬ 0 ≤ z := by omega
    go_enter Try.func12, Try.ntmps12
    go_wp2
    exact bodyPost_ret (v := .tuple #[dV z none 0 0, .bool false]) (by simp [results, Try.results12, go_sem]) rfl ⟨rfl, (Below.refl _ _).alloc (Nat.le_refl _) _⟩
  · have h1 : 0 ≤ z := by omega
    have h2 : ¬ z ≤ 1099511627776 := by omega
    go_enter Try.func12, Try.ntmps12
    go_wp2
    exact bodyPost_ret (v := .tuple #[dV z none 0 0, .bool false]) (by simp [results, Try.results12, go_sem]) rfl ⟨rfl, (Below.refl _ _).alloc (Nat.le_refl _) _⟩
set_option maxRecDepth 100000 in
theorem rread_any {w : World} {T : Nat → Prop} {ad : Option Addr} {rs : List Rf} (room : Int) (c : Nat) (n : Nm) (h : Fs3 w T ad rs) (hT : ∀ k, T k → k < w.heap.size) (hr : Rising Rf.name rs) (hs : sizeL (rs.map Rf.fil) + looseL (rs.map Rf.fil) + rs.length ≤ 100000) :
    Calls Try.prog 17 #[dV room ad rs.length c, .string ⟨n.toArray⟩] w (Rd w (readL (rs.map Rf.fil) n)) := by
  obtain ⟨w1, hw1⟩ : ∃ w1, w1 = w.alloc (.cells #[.int .i64 room, .slice ad rs.length c] 27) := ⟨_, rfl⟩
  have hb1 : Below w.heap.size w w1 := by rw [hw1]; exact (Below.refl _ _).alloc (Nat.le_refl _) _
  have hf1 := h.kept (kept_below hT hb1)
  have hT1 : ∀ k, T k → k < w1.heap.size := fun k hk => Nat.lt_of_lt_of_le (hT k hk) hb1.size
  have HFi := Lib.hid (rfind_any room c n hf1 hT1 (by omega) hr)
  have hok := rfind_ok hf1 n
  have HOk := Lib.hid hok
  have HT1 := Lib.hid hT1
  have HB1 := Lib.hid hb1
  have HW1 := Lib.hid hw1
  obtain ⟨⟨af, cf, ef, _⟩, aw, cw, ew, _⟩ := hok
  obtain ⟨m1, hm1⟩ : ∃ m, m = (rfind n rs).fil.firm.length := ⟨_, rfl⟩
  obtain ⟨m2, hm2⟩ : ∃ m, m = (rfind n rs).fil.ws.length := ⟨_, rfl⟩
  rw [← hm1] at ef
  rw [← hm2] at ew
  have HV : Hid (fV (rfind n rs) = .agg #[.string ⟨n.toArray⟩, .slice af m1 cf, .slice aw m2 cw]) := by
    show fV (rfind n rs) = _
    rw [fV, ef, ew, rfind_name]
  rw [HV.out] at HFi
  cases hg : get Rf.name n rs with
  | none =>
    rw [hg] at HFi
    have HRd := Lib.hid (show readL (rs.map Rf.fil) n = ([], 4) from readL_none (by rw [get_map rf_key, hg]; rfl))
    clear h hT hr hs hb1 hf1 hT1 ef ew hm1 hm2 hg
    go_enter Try.func17, Try.ntmps17
    go_wp2_with fail
    rw [← hw1]
    refine HFi.out.mono ?_
    rintro e w2 ⟨rfl, hb2⟩
    have HB2 := Lib.hid ((HB1.out.trans (hb2.mono HB1.out.size)).alloc (Nat.le_trans HB1.out.size hb2.size) (.cells #[.string ⟨n.toArray⟩, .slice af m1 cf, .slice aw m2 cw] 73))
    clear hb2
    go_wp2
    refine bodyPost_ret (v := .tuple #[.slice none 0 0, .int .i64 4]) (by simp [results, Try.results17, go_sem]) rfl ?_
    rw [HRd.out]
    exact ⟨_, rfl, Owns.none _ _, HB2.out⟩
  | some r0 =>
    rw [hg] at HFi
    have hrf : rfind n rs = r0 := by unfold rfind; rw [hg]; rfl
    have HRd := Lib.hid (show readL (rs.map Rf.fil) n = (r0.fil.all, 0) from readL_some (by rw [get_map rf_key, hg]; rfl))
    have HSm := Lib.hid (sm_at (rs := rs) (show Sm (rs.map Rf.fil) by unfold Sm; rw [List.length_map]; omega) (get_some hg).1)
    rw [hrf] at HOk HV
    clear h hT hr hs hb1 hf1 hT1 ef ew hm1 hm2 hg hrf
    go_enter Try.func17, Try.ntmps17
    go_wp2_with fail
    rw [← hw1]
    refine HFi.out.mono ?_
    rintro e w2 ⟨rfl, hb2⟩
    obtain ⟨w3, hw3⟩ : ∃ w3, w3 = w2.alloc (.cells #[.string ⟨n.toArray⟩, .slice af m1 cf, .slice aw m2 cw] 73) := ⟨_, rfl⟩
    have hb13 : Below w1.heap.size w1 w3 := by rw [hw3]; exact hb2.alloc hb2.size _
    have hb3 : Below w.heap.size w w3 := HB1.out.trans (hb13.mono HB1.out.size)
    have HAll := Lib.hid (rall_any r0 (HOk.out.kept (kept_below HT1.out hb13)) (fun k hk => Nat.lt_of_lt_of_le (HT1.out k hk) hb13.size) HSm.out.1 HSm.out.2)
    rw [HV.out] at HAll
    have HB3 := Lib.hid hb3
    have HW3 := Lib.hid hw3
    clear hb13 hb3 hb2 hw3
    go_wp2_with fail
    rw [← HW3.out]
    refine HAll.out.mono ?_
    rintro e w4 ⟨v4, rfl, hO4, hb4⟩
    obtain ⟨a4, c4, hv4, _⟩ := hO4.shape
    have HO4 := Lib.hid (ownsRow_mono hO4 HB3.out.size)
    have HB4 := Lib.hid (HB3.out.trans (hb4.mono HB3.out.size))
    generalize hm4 : r0.fil.all.length = m4 at hv4
    subst hv4
    clear hO4 hb4
    go_wp2
    refine bodyPost_ret (v := .tuple #[.slice a4 m4 c4, .int .i64 0]) (by simp [results, Try.results17, go_sem]) rfl ?_
    rw [HRd.out]
    exact ⟨_, rfl, HO4.out, HB4.out⟩
end Go.Proofs.Ythheolhghhmdlaa
