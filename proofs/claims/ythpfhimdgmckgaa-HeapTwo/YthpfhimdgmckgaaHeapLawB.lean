/- Walk of the law HeapTwo. -/
import Derived.Test.YthpfhimdgmckgaaHeapN
namespace Go.Proofs.Ythpfhimdgmckgaa
open Go.RowKit Hp

theorem two_big (a b : Option Addr) (n m c d : Nat) (w : World) (h : 40 < n ∨ 40 < m) : Calls Try.prog 7 #[.slice a n c, .slice b m d] w fun e w' => e = .returned (.bool true) ∧ Below w.heap.size w w' := by
  by_cases h1 : 40 < n
  · have h2 : (40 : Int) < (n : Int) := by omega
    clear h
    go_enter Try.func7, Try.ntmps7
    go_wp2_with fail
    refine (known_any _).mono ?_
    rintro e w8 ⟨rfl, hb8⟩
    have HB := Lib.hid hb8
    clear hb8
    go_wp2
    go_ret
    exact ⟨rfl, HB.out⟩
  · have h2 : (n : Int) ≤ 40 := by omega
    have hd : decide ((40 : Int) < (n : Int)) = false := decide_eq_false (by omega)
    have h3 : (40 : Int) < (m : Int) := by omega
    clear h
    go_enter Try.func7, Try.ntmps7
    go_wp2_with fail
    refine (known_any _).mono ?_
    rintro e w8 ⟨rfl, hb8⟩
    have HB := Lib.hid hb8
    clear hb8
    go_wp2
    go_ret
    exact ⟨rfl, HB.out⟩
set_option maxHeartbeats 2000000 in
set_option maxRecDepth 100000 in
theorem two_small (a b : Option Addr) (la lb : List (Int × Int × Int)) (c d : Nat) (w : World) (hA : Dos w a la) (hB : Dos w b lb) (h1 : la.length ≤ 40) (h2 : lb.length ≤ 40) : Calls Try.prog 7 #[.slice a la.length c, .slice b lb.length d] w fun e w' => e = .returned (.bool true) ∧ Below w.heap.size w w' := by
  have hd1 : decide ((40 : Int) < (la.length : Int)) = false := decide_eq_false (by omega)
  have hd2 : decide ((40 : Int) < (lb.length : Int)) = false := decide_eq_false (by omega)
  have HDa := Lib.hid hA
  have HDb := Lib.hid hB
  clear hA hB
  go_enter Try.func7, Try.ntmps7
  go_wp2_with fail
  refine (Own.new 9 w (by omega)).mono ?_
  rintro e w1 ⟨x, rfl, h1⟩
  have H1 := Lib.hid h1
  clear h1
  go_wp2_with fail
  refine (H1.out.newPair (by omega)).mono ?_
  rintro e w2 ⟨y, rfl, h2⟩
  have H2 := Lib.hid h2
  clear h2 H1
  go_wp2_with fail
  refine (H2.out.newThree (by omega)).mono ?_
  rintro e w3 ⟨z, rfl, h3⟩
  have H3 := Lib.hid h3
  clear h3 H2
  go_wp2
  clear hd1 hd2
  go_loopw [8] (fun i wr => ∃ (j : Nat) (f h : Nat → Option Int), i = .int .i64 j ∧ Three w x y z 9 f f h wr) (fun i _ => la.length + lb.length - (intOf i).toNat)
  case atStart => exact ⟨0, _, _, rfl, H3.out⟩
  case round =>
    obtain ⟨j, f, h, rfl, hT⟩ := hrel
    have HT := Lib.hid hT
    clear hT H3
    by_cases hja : j < la.length
    · have hja' : (j : Int) < (la.length : Int) := by omega
      by_cases hjb : j < lb.length
      · have hjb' : (j : Int) < (lb.length : Int) := by omega
        obtain ⟨b2, o2, rfl, hb2, e0, e1, e2⟩ := HDb.out.at_ HT.out.b hjb
        obtain ⟨d2, hd2⟩ : ∃ d, d = lb[j]'hjb := ⟨_, rfl⟩
        rw [← hd2] at e0 e1 e2
        clear hd2
        go_wp2_with fail
        refine (HT.out.turn.turn.did d2).mono ?_
        rintro e wz ⟨v0, h', rfl, _, h2⟩
        have HT2 := Lib.hid h2.turn
        clear h2 e0 e1 e2
        obtain ⟨b1, o1, rfl, hb1, c0, c1, c2⟩ := HDa.out.at_ HT2.out.b hja
        obtain ⟨d1, hd1⟩ : ∃ d, d = la[j]'hja := ⟨_, rfl⟩
        rw [← hd1] at c0 c1 c2
        have HD1 := Lib.hid hd1
        clear hd1
        go_wp2_with fail
        refine (HT2.out.did d1).mono ?_
        rintro e wx ⟨v1, f1, rfl, hv1, h3⟩
        have HT3 := Lib.hid h3
        obtain ⟨p1, p2, p3, rfl⟩ := hv1.told
        have HV1 := Lib.hid hv1
        clear h3 hv1 c0 c1 c2
        obtain ⟨_, _, e1, _, c0, c1, c2⟩ := HDa.out.at_ HT3.out.b hja
        injection e1 with e1
        injection e1 with e1 e2
        subst e1 e2
        rw [← HD1.out] at c0 c1 c2
        clear HD1
        unfold told
        go_wp2_with fail
        refine (HT3.out.turn.did d1).mono ?_
        rintro e wy ⟨v2, f2, rfl, hv2, h4⟩
        obtain ⟨rfl, rfl⟩ := HV1.out.det hv2
        have HT4 := Lib.hid h4.turn.turn
        have HL1 := Lib.hid h4.turn.turn.len
        have HL2 := Lib.hid h4.len
        clear h4 hv2 c0 c1 c2 HT3 HV1
        generalize cnt 9 f1 = cc at HL1 HL2
        unfold told
        go_wp2_with fail
        refine HL1.out.mono ?_
        rintro e wq ⟨rfl, rfl⟩
        go_wp2_with fail
        refine HL2.out.mono ?_
        rintro e wq ⟨rfl, rfl⟩
        go_wp2
        go_roundw
        case rel => exact ⟨j + 1, _, _, by go_num, HT4.out⟩
        case measure => simp [intOf]; omega
      · have hjb' : ¬ (j : Int) < (lb.length : Int) := by omega
        have HT2 := HT
        obtain ⟨b1, o1, rfl, hb1, c0, c1, c2⟩ := HDa.out.at_ HT2.out.b hja
        obtain ⟨d1, hd1⟩ : ∃ d, d = la[j]'hja := ⟨_, rfl⟩
        rw [← hd1] at c0 c1 c2
        have HD1 := Lib.hid hd1
        clear hd1
        go_wp2_with fail
        refine (HT2.out.did d1).mono ?_
        rintro e wx ⟨v1, f1, rfl, hv1, h3⟩
        have HT3 := Lib.hid h3
        obtain ⟨p1, p2, p3, rfl⟩ := hv1.told
        have HV1 := Lib.hid hv1
        clear h3 hv1 c0 c1 c2
        obtain ⟨_, _, e1, _, c0, c1, c2⟩ := HDa.out.at_ HT3.out.b hja
        injection e1 with e1
        injection e1 with e1 e2
        subst e1 e2
        rw [← HD1.out] at c0 c1 c2
        clear HD1
        unfold told
        go_wp2_with fail
        refine (HT3.out.turn.did d1).mono ?_
        rintro e wy ⟨v2, f2, rfl, hv2, h4⟩
        obtain ⟨rfl, rfl⟩ := HV1.out.det hv2
        have HT4 := Lib.hid h4.turn.turn
        have HL1 := Lib.hid h4.turn.turn.len
        have HL2 := Lib.hid h4.len
        clear h4 hv2 c0 c1 c2 HT3 HV1
        generalize cnt 9 f1 = cc at HL1 HL2
        unfold told
        go_wp2_with fail
        refine HL1.out.mono ?_
        rintro e wq ⟨rfl, rfl⟩
        go_wp2_with fail
        refine HL2.out.mono ?_
        rintro e wq ⟨rfl, rfl⟩
        go_wp2
        go_roundw
        case rel => exact ⟨j + 1, _, _, by go_num, HT4.out⟩
        case measure => simp [intOf]; omega
    · have hja' : ¬ (j : Int) < (la.length : Int) := by omega
      have hda : decide ((j : Int) < (la.length : Int)) = false := decide_eq_false hja'
      by_cases hjb : j < lb.length
      · have hjb' : (j : Int) < (lb.length : Int) := by omega
        obtain ⟨b2, o2, rfl, hb2, e0, e1, e2⟩ := HDb.out.at_ HT.out.b hjb
        obtain ⟨d2, hd2⟩ : ∃ d, d = lb[j]'hjb := ⟨_, rfl⟩
        rw [← hd2] at e0 e1 e2
        clear hd2
        go_wp2_with fail
        refine (HT.out.turn.turn.did d2).mono ?_
        rintro e wz ⟨v0, h', rfl, _, h2⟩
        have HT2 := Lib.hid h2.turn
        clear h2 e0 e1 e2
        go_wp2
        go_roundw
        case rel => exact ⟨j + 1, _, _, by go_num, HT2.out⟩
        case measure => simp [intOf]; omega
      · have hjb' : ¬ (j : Int) < (lb.length : Int) := by omega
        have hdb : decide ((j : Int) < (lb.length : Int)) = false := decide_eq_false hjb'
        go_wp2_with fail
        refine (known_any _).mono ?_
        rintro e w8 ⟨rfl, hb8⟩
        have HB := Lib.hid (then_below HT.out.b hb8)
        clear hb8
        go_wp2
        go_ret
        exact ⟨rfl, HB.out⟩
theorem two_walk (a b : Option Addr) (la lb : List (Int × Int × Int)) (c d : Nat) (w : World) (hA : Dos w a la) (hB : Dos w b lb) : Calls Try.prog 7 #[.slice a la.length c, .slice b lb.length d] w fun e w' => e = .returned (.bool true) ∧ Below w.heap.size w w' := by
  by_cases h : 40 < la.length ∨ 40 < lb.length
  · exact two_big a b la.length lb.length c d w h
  · exact two_small a b la lb c d w hA hB (by omega) (by omega)
end Go.Proofs.Ythpfhimdgmckgaa
