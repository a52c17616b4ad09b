/- dist.Total, and the document's (written by mkdsm.py). -/
import Derived.Test.YthljgkaigjokjaaDsL
namespace Go.Proofs.Ythljgkaigjokjaa
open Go.RowKit Go.Shelf Grm Lay
set_option maxRecDepth 100000 in
set_option maxHeartbeats 4000000 in
theorem total_any (n : Int) (a : Option Addr) (l : List Ar) (c : Nat) (w : World) (hA : Arcs w a l) :
    Calls Try.prog 34 #[mV n a l.length c] w fun e w' => e = .returned (.int .i64 (totalR n l)) ∧ Below w.heap.size w w' := by
  show Calls Try.prog 34 #[.agg #[.int .i64 n, .slice a l.length c]] w _
  obtain ⟨w1, hw1⟩ : ∃ w1, w1 = w.alloc (.cells #[.int .i64 n, .slice a l.length c] 24) := ⟨_, rfl⟩
  have hb1 : Below w.heap.size w w1 := by rw [hw1]; exact (Below.refl _ _).alloc (Nat.le_refl _) _
  have hr1 : Row w1 w.heap.size 24 #[.int .i64 n, .slice a l.length c] := by rw [hw1]; exact Row.fresh w _ _
  have HA := Lib.hid (And.intro hA (And.intro hb1 hr1))
  have HCk := Lib.hid (check_any n a l c w1 (hA.under hb1))
  have HW := Lib.hid hw1
  clear hA hb1 hr1 hw1
  by_cases hc : checkL n l = 0
  · have htr : totalR n l = sumL l := by unfold totalR; rw [if_pos hc]
    have hll : l.length ≤ 67108864 := by
      obtain ⟨_, _, _, h, _⟩ := checkL_zero hc
      exact h
    have hln := len_of hc
    rw [htr]
    have HP := Lib.hid (And.intro hc (And.intro hll (sumL_le hln)))
    clear hc htr hll hln
    go_enter Try.func34, Try.ntmps34
    go_wp2_with (go_at_call 46; rw [← HW.out]; refine HCk.out.mono ?_; rintro e w3 ⟨rfl, hb2⟩; rw [HP.out.1]; have hr2 := HA.out.2.2.under hb2 HA.out.2.2.lt; have n2 := hr2.cell 1; simp only [List.getElem?_toArray, List.getElem?_cons_zero, List.getElem?_cons_succ] at n2; have H2 := Lib.hid (And.intro hr2 (HA.out.2.1.trans (hb2.mono HA.out.2.1.size))); clear hr2 hb2)
    clear n2
    go_loopw [3, 12] (fun vs vi wr => ∃ i : Nat, vi = .int .i64 (i : Nat) ∧ vs = .int .i64 (sumL (l.take i)) ∧ i ≤ l.length ∧ Row wr w.heap.size 24 #[.int .i64 n, .slice a l.length c] ∧ Below w.heap.size w wr) (fun _ i _ => l.length - (intOf i).toNat)
    case atStart => exact ⟨0, rfl, rfl, Nat.zero_le _, H2.out.1, H2.out.2⟩
    case round =>
      obtain ⟨i, rfl, rfl, hi, hrow, hbel⟩ := hrel
      by_cases hlt : i < l.length
      · have hlt' : (i : Int) < (l.length : Int) := by omega
        have hAr := HA.out.1.under hbel
        obtain ⟨ab, ao, rfl, x0, x1, x2⟩ := hAr.at_ hlt
        have hss := sumL_succ hlt
        have hs1 := HP.out.2.2 (i + 1) (by omega)
        rw [hss] at hs1
        have hll := HP.out.2.1
        have hw1 : IntKind.i64.wrap ((i : Int) + 1) = (i : Int) + 1 := by rw [IntKind.wrap_i64]; omega
        have e1 := hrow.cell 1
        simp only [List.getElem?_toArray, List.getElem?_cons_zero, List.getElem?_cons_succ] at e1
        generalize l[i]'hlt = x at *
        generalize sumL (l.take i) = S at *
        have hw2 : IntKind.i64.wrap (S + x.2.2) = S + x.2.2 := by rw [IntKind.wrap_i64]; omega
        have HQ := Lib.hid (And.intro hss (And.intro hrow hbel))
        clear hi hrow hbel hss hs1 hll hAr
        go_wp2
        have h5 := HQ.out
        refine ⟨⟨i + 1, by go_num, by rw [h5.1], by omega, h5.2.1.past _, h5.2.2.alloc h5.2.2.size _⟩, by simp [intOf]; omega⟩
      · obtain rfl : i = l.length := by omega
        have e1 := hrow.cell 1
        simp only [List.getElem?_toArray, List.getElem?_cons_zero, List.getElem?_cons_succ] at e1
        rw [List.take_length] at *
        have HB := Lib.hid hbel
        clear hi hrow hbel
        go_wp2
        go_ret
        exact ⟨rfl, HB.out⟩
  · have hcb : (checkL n l != 0) = true := by simpa using hc
    have htr : totalR n l = -1 := by unfold totalR; rw [if_neg hc]
    rw [htr]
    clear hc htr
    go_enter Try.func34, Try.ntmps34
    go_wp2_with (go_at_call 46; rw [← HW.out]; refine HCk.out.mono ?_; rintro e w2 ⟨rfl, hb2⟩; have H2 := Lib.hid (HA.out.2.1.trans (hb2.mono HA.out.2.1.size)); clear hb2)
    go_ret
    exact ⟨rfl, H2.out⟩
set_option maxRecDepth 100000 in
set_option maxHeartbeats 4000000 in
theorem rtotal_any (n : Int) (a : Option Addr) (l : List Ar) (c : Nat) (w : World) (hA : Arcs w a l) :
    Calls Try.prog 42 #[mV n a l.length c] w fun e w' => e = .returned (.int .i64 (totalR n l)) ∧ Below w.heap.size w w' := by
  show Calls Try.prog 42 #[.agg #[.int .i64 n, .slice a l.length c]] w _
  obtain ⟨w1, hw1⟩ : ∃ w1, w1 = w.alloc (.cells #[.int .i64 n, .slice a l.length c] 24) := ⟨_, rfl⟩
  have hb1 : Below w.heap.size w w1 := by rw [hw1]; exact (Below.refl _ _).alloc (Nat.le_refl _) _
  have hr1 : Row w1 w.heap.size 24 #[.int .i64 n, .slice a l.length c] := by rw [hw1]; exact Row.fresh w _ _
  have HA := Lib.hid (And.intro hA (And.intro hb1 hr1))
  have HCk := Lib.hid (rcheck_any n a l c w1 (hA.under hb1))
  have HW := Lib.hid hw1
  clear hA hb1 hr1 hw1
  by_cases hc : checkL n l = 0
  · have htr : totalR n l = sumL l := by unfold totalR; rw [if_pos hc]
    have hll : l.length ≤ 67108864 := by
      obtain ⟨_, _, _, h, _⟩ := checkL_zero hc
      exact h
    have hln := len_of hc
    rw [htr]
    have HP := Lib.hid (And.intro hc (And.intro hll (sumL_le hln)))
    clear hc htr hll hln
    go_enter Try.func42, Try.ntmps42
    go_wp2_with (go_at_call 58; rw [← HW.out]; refine HCk.out.mono ?_; rintro e w3 ⟨rfl, hb2⟩; rw [HP.out.1]; have hr2 := HA.out.2.2.under hb2 HA.out.2.2.lt; have n2 := hr2.cell 1; simp only [List.getElem?_toArray, List.getElem?_cons_zero, List.getElem?_cons_succ] at n2; have H2 := Lib.hid (And.intro hr2 (HA.out.2.1.trans (hb2.mono HA.out.2.1.size))); clear hr2 hb2)
    clear n2
    go_loopw [3, 4] (fun vs vi wr => ∃ i : Nat, vi = .int .i64 (i : Nat) ∧ vs = .int .i64 (sumL (l.take i)) ∧ i ≤ l.length ∧ Row wr w.heap.size 24 #[.int .i64 n, .slice a l.length c] ∧ Below w.heap.size w wr) (fun _ i _ => l.length - (intOf i).toNat)
    case atStart => exact ⟨0, rfl, rfl, Nat.zero_le _, H2.out.1, H2.out.2⟩
    case round =>
      obtain ⟨i, rfl, rfl, hi, hrow, hbel⟩ := hrel
      by_cases hlt : i < l.length
      · have hlt' : (i : Int) < (l.length : Int) := by omega
        have hAr := HA.out.1.under hbel
        obtain ⟨ab, ao, rfl, x0, x1, x2⟩ := hAr.at_ hlt
        have hss := sumL_succ hlt
        have hs1 := HP.out.2.2 (i + 1) (by omega)
        rw [hss] at hs1
        have hll := HP.out.2.1
        have hw1 : IntKind.i64.wrap ((i : Int) + 1) = (i : Int) + 1 := by rw [IntKind.wrap_i64]; omega
        have e1 := hrow.cell 1
        simp only [List.getElem?_toArray, List.getElem?_cons_zero, List.getElem?_cons_succ] at e1
        generalize l[i]'hlt = x at *
        generalize sumL (l.take i) = S at *
        have hw2 : IntKind.i64.wrap (S + x.2.2) = S + x.2.2 := by rw [IntKind.wrap_i64]; omega
        have HQ := Lib.hid (And.intro hss (And.intro hrow hbel))
        clear hi hrow hbel hss hs1 hll hAr
        go_wp2
        have h5 := HQ.out
        refine ⟨⟨i + 1, by go_num, by rw [h5.1], by omega, h5.2.1, h5.2.2⟩, by simp [intOf]; omega⟩
      · obtain rfl : i = l.length := by omega
        have e1 := hrow.cell 1
        simp only [List.getElem?_toArray, List.getElem?_cons_zero, List.getElem?_cons_succ] at e1
        rw [List.take_length] at *
        have HB := Lib.hid hbel
        clear hi hrow hbel
        go_wp2
        go_ret
        exact ⟨rfl, HB.out⟩
  · have hcb : (checkL n l != 0) = true := by simpa using hc
    have htr : totalR n l = -1 := by unfold totalR; rw [if_neg hc]
    rw [htr]
    clear hc htr
    go_enter Try.func42, Try.ntmps42
    go_wp2_with (go_at_call 58; rw [← HW.out]; refine HCk.out.mono ?_; rintro e w2 ⟨rfl, hb2⟩; have H2 := Lib.hid (HA.out.2.1.trans (hb2.mono HA.out.2.1.size)); clear hb2)
    go_ret
    exact ⟨rfl, H2.out⟩
end Go.Proofs.Ythljgkaigjokjaa
