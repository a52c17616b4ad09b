/- GrBack. -/
import Derived.Test.YtdjfmmfggkkbaaaDoorGrBk
namespace Go.Proofs.YtdjfmmfggkkbaaaDoor
open Go.RowKit Go.Shelf Grm

set_option maxRecDepth 100000 in
set_option maxHeartbeats 2000000 in
theorem gback_big (n : Int) (a : Option Addr) (l : List Ar) (c : Nat) (note : Tx) (w : World) (hl : Arcs w a l) (ht : TabW w) (hb : 60 < l.length ∨ 100 < note.length ∨ checkL n l ≠ 0) :
    Calls Tryd.prog 5 #[mV n a l.length c, txV note] w fun e w' => e = .returned (.bool true) ∧ Below w.heap.size w w' := by
  obtain ⟨w1, hw1⟩ : ∃ w1, w1 = w.alloc (.cells #[.int .i64 n, .slice a l.length c] 25) := ⟨_, rfl⟩
  have hb1 : Below w.heap.size w w1 := by rw [hw1]; exact (Below.refl _ _).alloc (Nat.le_refl _) _
  have hr1 : Row w1 w.heap.size 25 #[.int .i64 n, .slice a l.length c] := by rw [hw1]; exact Row.fresh w _ _
  have HW := Lib.hid hw1
  have HP := Lib.hid (print_any n a l c w1 (hl.under hb1) ((TabB.of ht).under hb1).1)
  have HB1 := Lib.hid hb1
  have HR1 := Lib.hid hr1
  have e1 := gr_size note
  have c0 := hr1.cell 0
  have c1 := hr1.cell 1
  simp only [List.getElem?_toArray, List.getElem?_cons_zero, List.getElem?_cons_succ] at c0 c1
  unfold PrintP txV at HP
  generalize (if checkL n l = 0 then printL n l else []) = P at *
  generalize (⟨P.toArray⟩ : ByteArray) = D at *
  have hrest : (60 : Int) < (l.length : Int) ∨ (100 : Int) < (note.length : Int) ∨ ¬ checkL n l = 0 := by omega
  have HH := Lib.hid hrest
  clear hl ht hb1 hw1 hb hr1 hrest
  generalize checkL n l = R at *
  go_enter Tryd.func5, Tryd.ntmps5
  go_wp2_with fail
  rw [← HW.out]
  refine HP.out.mono ?_
  rintro e w2 ⟨rfl, hb2⟩
  have HB2 := Lib.hid (HB1.out.trans (hb2.mono HB1.out.size))
  have hr2 := HR1.out.under hb2 HR1.out.lt
  have d0 := hr2.cell 0
  have d1 := hr2.cell 1
  simp only [List.getElem?_toArray, List.getElem?_cons_zero, List.getElem?_cons_succ] at d0 d1
  clear hb2 c0 c1 hr2
  by_cases h1 : (60 : Int) < (l.length : Int)
  · go_wp2_with fail
    refine (known_any _).mono ?_
    rintro e w3 ⟨rfl, hb3⟩
    have HB3 := Lib.hid (HB2.out.trans (hb3.mono HB2.out.size))
    clear hb3
    go_wp2
    go_ret
    exact ⟨rfl, HB3.out⟩
  by_cases h2 : (100 : Int) < (note.length : Int)
  · go_wp2_with fail
    refine (known_any _).mono ?_
    rintro e w3 ⟨rfl, hb3⟩
    have HB3 := Lib.hid (HB2.out.trans (hb3.mono HB2.out.size))
    clear hb3
    go_wp2
    go_ret
    exact ⟨rfl, HB3.out⟩
  have h3 : ¬ R = 0 := by rcases HH.out with h | h | h; exact absurd h h1; exact absurd h h2; exact h
  have h4 : (R != 0) = true := by simpa using h3
  clear HH
  go_wp2_with fail
  refine (known_any _).mono ?_
  rintro e w3 ⟨rfl, hb3⟩
  have HB3 := Lib.hid (HB2.out.trans (hb3.mono HB2.out.size))
  clear hb3
  go_wp2
  go_ret
  exact ⟨rfl, HB3.out⟩
theorem fuzz_take {note s : Tx} {k : Nat} (h : k < s.length) : (s.take (k + 1)).flatMap (fb note) = (s.take k).flatMap (fb note) ++ fb note (s[k]'h) := by
  rw [List.take_succ_eq_append_getElem h, List.flatMap_append]
  simp
theorem fb_len (note : Tx) (c : UInt8) : (fb note c).length ≤ 9 + note.length := by
  unfold fb
  split <;> split <;> simp <;> omega
theorem fuzz_len (note s : Tx) : (s.flatMap (fb note)).length ≤ s.length * (9 + note.length) := by
  induction s with
  | nil => simp
  | cons x r ih =>
    have := fb_len note x
    rw [List.flatMap_cons, List.length_append, List.length_cons, Nat.succ_mul]
    omega
theorem ex_one (s : Tx) {k : Nat} (h : k < s.length) : (⟨s.toArray⟩ : ByteArray).extract k (k + 1) = ⟨[s[k]'h].toArray⟩ := by
  apply ByteArray.ext
  simp only [ByteArray.data_extract, List.extract_toArray, List.extract_eq_take_drop, Nat.add_sub_cancel_left]
  rw [List.drop_eq_getElem_cons h]
  rfl
set_option maxRecDepth 100000 in
set_option maxHeartbeats 4000000 in
theorem gback_good (n : Nat) (a : Option Addr) (l : List Ar) (c : Nat) (note : Tx) (w : World) (hl : Arcs w a l) (ht : TabW w) (h60 : l.length ≤ 60) (h100 : note.length ≤ 100) (hc : checkL (n : Nat) l = 0) :
    Calls Tryd.prog 5 #[mV (n : Nat) a l.length c, txV note] w fun e w' => e = .returned (.bool true) ∧ Below w.heap.size w w' := by
  obtain ⟨w1, hw1⟩ : ∃ w1, w1 = w.alloc (.cells #[.int .i64 (n : Nat), .slice a l.length c] 25) := ⟨_, rfl⟩
  have hb1 : Below w.heap.size w w1 := by rw [hw1]; exact (Below.refl _ _).alloc (Nat.le_refl _) _
  have hr1 : Row w1 w.heap.size 25 #[.int .i64 (n : Nat), .slice a l.length c] := by rw [hw1]; exact Row.fresh w _ _
  have HW := Lib.hid hw1
  have HL := Lib.hid (hl.under hb1)
  have HP := Lib.hid (print_any (n : Nat) a l c w1 (hl.under hb1) ((TabB.of ht).under hb1).1)
  have HB1 := Lib.hid hb1
  have HR1 := Lib.hid hr1
  have HK := Lib.hid (check_ok hc)
  have e1 := gr_size note
  have c0 := hr1.cell 0
  have c1 := hr1.cell 1
  simp only [List.getElem?_toArray, List.getElem?_cons_zero, List.getElem?_cons_succ] at c0 c1
  unfold PrintP at HP
  rw [if_pos hc, hc] at HP
  obtain ⟨s, hs⟩ : ∃ s, s = printL (n : Nat) l := ⟨_, rfl⟩
  rw [← hs] at HP
  have hs9 : s.length ≤ 4000 := by
    have q1 := headT2_len (n := (n : Nat)) (l := l) (by omega) HK.out.2.1 HK.out.2.2.1
    have q2 := linesT_len (l := l) HK.out.2.1 HK.out.2.2.2
    rw [hs, printL, List.length_append]
    omega
  have HPs := Lib.hid (show parseL s = .inr (n, l) by rw [hs]; exact parse_print hc)
  have HPf := Lib.hid (show (∀ x ∈ note, x ≠ 10) → parseL (fuzzL note s) = .inr (n, l) by intro q; rw [hs]; exact parse_fuzz note q hc)
  have i1 : ¬ (60 : Int) < (l.length : Int) := by omega
  have i2 : ¬ (100 : Int) < (note.length : Int) := by omega
  have i3 : (note.length : Int) ≤ 100 := by omega
  have HI := Lib.hid (And.intro h60 (And.intro h100 hs9))
  clear hl ht hb1 hw1 h60 h100 hr1 hs hs9 hc
  go_enter Tryd.func5, Tryd.ntmps5
  go_wp2_with fail
  rw [← HW.out]
  refine HP.out.mono ?_
  rintro e w2 ⟨rfl, hb2⟩
  have HB2 := Lib.hid hb2
  have hr2 := HR1.out.under hb2 HR1.out.lt
  have HR2 := Lib.hid hr2
  have d0 := hr2.cell 0
  have d1 := hr2.cell 1
  simp only [List.getElem?_toArray, List.getElem?_cons_zero, List.getElem?_cons_succ] at d0 d1
  clear hb2 c0 c1 hr2
  go_wp2
  go_loopw [7] (fun i wr => ∃ k : Nat, k ≤ note.length ∧ i = .int .i64 k ∧ (∀ x ∈ note.take k, x ≠ 10) ∧ wr = w2) (fun i _ => note.length - (intOf i).toNat)
  case atStart => exact ⟨0, by omega, rfl, by simp, rfl⟩
  case round =>
    obtain ⟨k, hk, rfl, hno, rfl⟩ := hrel
    have HNo := Lib.hid hno
    clear hno
    by_cases hlt : k < note.length
    · have hlt' : (k : Int) < (note.length : Int) := by omega
      have HS := Lib.hid (List.take_succ_eq_append_getElem hlt)
      have hx : ((⟨note.toArray⟩ : ByteArray)[k]'(by rw [gr_size]; exact hlt)) = note[k]'hlt := rfl
      have hx2 : ((⟨note.toArray⟩ : ByteArray)[k]'(by rw [gr_size]; exact hlt)).toNat = (note[k]'hlt).toNat := by rw [hx]
      clear hx
      by_cases hq : note[k]'hlt = 10
      · have hq2 : (note[k]'hlt).toNat = 10 := by rw [hq]; rfl
        generalize (note[k]'hlt).toNat = y at *
        subst hq2
        go_wp2_with fail
        refine (known_any _).mono ?_
        rintro e w3 ⟨rfl, hb3⟩
        have HB3 := Lib.hid (HB1.out.trans ((HB2.out.trans (hb3.mono HB2.out.size)).mono HB1.out.size))
        clear hb3
        go_wp2
        go_ret
        exact ⟨rfl, HB3.out⟩
      · have hq2 : ¬ (note[k]'hlt).toNat = 10 := fun e => hq (UInt8.toNat_inj.1 e)
        have HQ := Lib.hid hq
        generalize (note[k]'hlt).toNat = y at *
        have hq3 : ¬ (y : Int) = 10 := by omega
        clear hq hq2
        go_wp2
        go_roundw
        case rel =>
          refine ⟨k + 1, by omega, by go_num, ?_, trivial⟩
          intro x hx
          rw [HS.out, List.mem_append, List.mem_singleton] at hx
          rcases hx with hx | rfl
          · exact HNo.out x hx
          · exact HQ.out
        case measure => simp [intOf]; omega
    · obtain rfl : k = note.length := by omega
      have hlt' : ¬ (note.length : Int) < (note.length : Int) := by omega
      have hno := HNo.out
      rw [List.take_length] at hno
      have HPf2 := Lib.hid (HPf.out hno)
      clear hno HNo HPf
      go_wp2
      have HT0 := Lib.hid (show (⟨#[99, 32]⟩ : ByteArray) ++ ⟨note.toArray⟩ ++ ⟨#[10, 10]⟩ = ⟨(fuzzL note (s.take 0)).toArray⟩ by
        show (⟨([99, 32] : Tx).toArray⟩ : ByteArray) ++ ⟨note.toArray⟩ ++ ⟨([10, 10] : Tx).toArray⟩ = _
        rw [cat_tx, cat_tx]
        congr 2
        simp [fuzzL])
      generalize (⟨#[99, 32]⟩ : ByteArray) ++ ⟨note.toArray⟩ ++ ⟨#[10, 10]⟩ = S0 at *
      have e2 := gr_size s
      have HFl := Lib.hid (show ∀ k, (⟨(fuzzL note (s.take k)).toArray⟩ : ByteArray).size ≤ 1000000 by
        intro k
        have q1 := fuzz_len note (s.take k)
        have q2 : (s.take k).length ≤ s.length := by rw [List.length_take]; omega
        have q3 := HI.out
        have q4 : (s.take k).length * (9 + note.length) ≤ 4000 * 109 := Nat.mul_le_mul (by omega) (by omega)
        rw [gr_size, fuzzL, List.length_append, List.length_append, List.length_append]
        simp only [List.length_cons, List.length_nil]
        omega)
      obtain ⟨wk, hwk⟩ : ∃ wk, wk = wr := ⟨_, rfl⟩
      subst hwk
      go_loopw [8, 9] (fun t i wr => ∃ (k : Nat) (S : ByteArray), k ≤ s.length ∧ i = .int .i64 k ∧ t = .string S ∧ S = ⟨(fuzzL note (s.take k)).toArray⟩ ∧ wr = wk) (fun _ i _ => s.length - (intOf i).toNat)
      case atStart => exact ⟨0, S0, by omega, rfl, rfl, HT0.out, rfl⟩
      case round =>
        obtain ⟨k, S, hk, rfl, rfl, hS, rfl⟩ := hrel
        have hS9 : S.size ≤ 1000000 := by rw [hS]; exact HFl.out k
        have HS := Lib.hid hS
        have i4 : (s.length : Int) ≤ 4000 := by have := HI.out; omega
        clear hS
        by_cases hlt : k < s.length
        · have hlt' : (k : Int) < (s.length : Int) := by omega
          have hx : ((⟨s.toArray⟩ : ByteArray)[k]'(by rw [gr_size]; exact hlt)) = s[k]'hlt := rfl
          have hx2 : ((⟨s.toArray⟩ : ByteArray)[k]'(by rw [gr_size]; exact hlt)).toNat = (s[k]'hlt).toNat := by rw [hx]
          have ex1 := ex_one s hlt
          have HF := Lib.hid (fuzz_take (note := note) hlt)
          have hj1 : ((k : Int) + 1) ≤ (s.length : Int) := by omega
          have hj2 : (k : Int) ≤ (k : Int) + 1 := by omega
          have e4 : (⟨[s[k]'hlt].toArray⟩ : ByteArray).size = 1 := rfl
          have k1 : ¬ 9223372036854775807 < S.size + 1 := by omega
          clear hx
          by_cases hq : s[k]'hlt = 32
          · rw [hq] at ex1 e4
            have hq2 : (s[k]'hlt).toNat = 32 := by rw [hq]; rfl
            have HFb := Lib.hid (show fb note (s[k]'hlt) = [32] ++ [32, 32] by rw [hq]; simp [fb])
            have k2 : ¬ 9223372036854775807 < S.size + 1 + 2 := by omega
            generalize (s[k]'hlt).toNat = y at *
            subst hq2
            generalize hX : (⟨[32].toArray⟩ : ByteArray) = X at *
            have HX := Lib.hid hX
            clear hq hX hS9
            go_wp2
            go_roundw
            case rel =>
              refine ⟨k + 1, _, by omega, by go_num, rfl, ?_, trivial⟩
              rw [HS.out, ← HX.out]
              show (⟨_⟩ : ByteArray) ++ _ ++ ⟨([32, 32] : Tx).toArray⟩ = _
              rw [cat_tx, cat_tx]
              congr 2
              unfold fuzzL
              rw [HF.out, HFb.out]
              simp only [List.append_assoc]
            case measure => simp [intOf]; omega
          by_cases hq3 : s[k]'hlt = 10
          · rw [hq3] at ex1 e4
            have hq2 : (s[k]'hlt).toNat = 10 := by rw [hq3]; rfl
            have HFb := Lib.hid (show fb note (s[k]'hlt) = [10] ++ [32, 32, 32, 99, 32] ++ note ++ [10] by rw [hq3]; simp [fb])
            have k2 : ¬ 9223372036854775807 < S.size + 1 + 5 := by omega
            have k3 : ¬ 9223372036854775807 < S.size + 1 + 5 + note.length := by have := HI.out; omega
            have k4 : ¬ 9223372036854775807 < S.size + 1 + 5 + note.length + 1 := by have := HI.out; omega
            generalize (s[k]'hlt).toNat = y at *
            subst hq2
            generalize hX : (⟨[10].toArray⟩ : ByteArray) = X at *
            have HX := Lib.hid hX
            clear hq hq3 hX hS9
            go_wp2
            go_roundw
            case rel =>
              refine ⟨k + 1, _, by omega, by go_num, rfl, ?_, trivial⟩
              rw [HS.out, ← HX.out]
              show (⟨_⟩ : ByteArray) ++ _ ++ ⟨([32, 32, 32, 99, 32] : Tx).toArray⟩ ++ ⟨note.toArray⟩ ++ ⟨([10] : Tx).toArray⟩ = _
              rw [cat_tx, cat_tx, cat_tx, cat_tx]
              congr 2
              unfold fuzzL
              rw [HF.out, HFb.out]
              simp only [List.append_assoc]
            case measure => simp [intOf]; omega
          · have hq2 : ¬ (s[k]'hlt).toNat = 32 := fun e => hq (UInt8.toNat_inj.1 e)
            have hq4 : ¬ (s[k]'hlt).toNat = 10 := fun e => hq3 (UInt8.toNat_inj.1 e)
            have HFb := Lib.hid (show fb note (s[k]'hlt) = [s[k]'hlt] by simp [fb, hq, hq3])
            generalize (s[k]'hlt).toNat = y at *
            have hq5 : ¬ (y : Int) = 32 := by omega
            have hq6 : ¬ (y : Int) = 10 := by omega
            generalize s[k]'hlt = xb at *
            generalize hX : (⟨[xb].toArray⟩ : ByteArray) = X at *
            have HX := Lib.hid hX
            clear hq hq3 hX hS9 hq2 hq4
            go_wp2
            go_roundw
            case rel =>
              refine ⟨k + 1, _, by omega, by go_num, rfl, ?_, trivial⟩
              rw [HS.out, ← HX.out, cat_tx]
              congr 2
              unfold fuzzL
              rw [HF.out, HFb.out]
              simp only [List.append_assoc]
            case measure => simp [intOf]; omega
        · obtain rfl : k = s.length := by omega
          have hlt' : ¬ (s.length : Int) < (s.length : Int) := by omega
          have hT := HS.out
          rw [List.take_length] at hT
          subst hT
          clear d0 d1 hS9 HS HFl HT0
          have HP1 := Lib.hid (parse_any s (by have := HI.out; omega) wr)
          rw [HPs.out] at HP1
          have HFz := Lib.hid (fun W => parse_any (fuzzL note s) (by
            have q1 := fuzz_len note s
            have q3 := HI.out
            have q4 : s.length * (9 + note.length) ≤ 4000 * 109 := Nat.mul_le_mul (by omega) (by omega)
            rw [fuzzL, List.length_append, List.length_append, List.length_append]
            simp only [List.length_cons, List.length_nil]
            omega) W)
          rw [HPf2.out] at HFz
          generalize fuzzL note s = tz at *
          go_wp2_with fail
          refine HP1.out.mono ?_
          rintro e w3 ⟨hb3, (⟨_, q, _⟩ | ⟨n', arcs', v, q, rfl, hav⟩)⟩
          · cases q
          cases q
          obtain ⟨ad, cc, rfl⟩ := hav.shape
          have hbx : Below wr.heap.size wr (w3.alloc (.cells #[.int .i64 (n : Nat), .slice ad l.length cc] 25)) := hb3.alloc hb3.size _
          have hrx := Row.fresh w3 25 #[.int .i64 (n : Nat), .slice ad l.length cc]
          have hax := hav.arcs.under ((Below.refl _ w3).alloc (Nat.le_refl _) (.cells #[.int .i64 (n : Nat), .slice ad l.length cc] 25))
          have HX3 := Lib.hid (And.intro hbx (And.intro hrx hax))
          clear hbx hrx hax hb3 hav
          go_wp2_with fail
          generalize w3.alloc (.cells #[.int .i64 (n : Nat), .slice ad l.length cc] 25) = w4 at *
          generalize w3.heap.size = bx at *
          refine (HFz.out w4).mono ?_
          rintro e w5 ⟨hb5, (⟨_, q, _⟩ | ⟨n', arcs', v, q, rfl, hav⟩)⟩
          · cases q
          cases q
          obtain ⟨ae, ce, rfl⟩ := hav.shape
          have hbA : Below w5.heap.size w5 (w5.alloc (.cells #[.int .i64 (n : Nat), .slice ae l.length ce] 25)) := (Below.refl _ w5).alloc (Nat.le_refl _) _
          have HBq0 := Lib.hid (HX3.out.1.trans ((hb5.trans (hbA.mono hb5.size)).mono HX3.out.1.size))
          have HRm0 := Lib.hid (HR2.out.under HBq0.out HR2.out.lt)
          have HRx0 := Lib.hid (HX3.out.2.1.under (hb5.trans (hbA.mono hb5.size)) HX3.out.2.1.lt)
          have HRy0 := Lib.hid (Row.fresh w5 25 #[.int .i64 (n : Nat), .slice ae l.length ce])
          have HAx0 := Lib.hid (HX3.out.2.2.under (hb5.trans (hbA.mono hb5.size)))
          have HAy0 := Lib.hid (hav.arcs.under hbA)
          have HLm0 := Lib.hid (HL.out.under (HB2.out.trans (HBq0.out.mono HB2.out.size)))
          have hsz5 : w5.heap.size < (w5.alloc (.cells #[.int .i64 (n : Nat), .slice ae l.length ce] 25)).heap.size := by simp
          clear hb5 hav hbA
          go_upto_region 20 with (fail)
          generalize w5.alloc (.cells #[.int .i64 (n : Nat), .slice ae l.length ce] 25) = w6 at *
          generalize w5.heap.size = by5 at *
          have r0 := HRm0.out.cell 0
          have r1 := HRm0.out.cell 1
          have x0 := HRx0.out.cell 0
          have x1 := HRx0.out.cell 1
          have y0 := HRy0.out.cell 0
          have y1 := HRy0.out.cell 1
          simp only [List.getElem?_toArray, List.getElem?_cons_zero, List.getElem?_cons_succ] at r0 r1 x0 x1 y0 y1
          have HS1 := Lib.hid (fun W (h1 : Arcs W ad l) (h2 : Arcs W a l) => rsame_any (n : Nat) (n : Nat) ad a l l cc c W h1 h2 (by have := HI.out; omega) (by have := HI.out; omega))
          have HS2 := Lib.hid (fun W (h1 : Arcs W ae l) (h2 : Arcs W a l) => rsame_any (n : Nat) (n : Nat) ae a l l ce c W h1 h2 (by have := HI.out; omega) (by have := HI.out; omega))
          have HS3 := Lib.hid (fun W (h1 : Arcs W ad l) (h2 : Arcs W a l) => grsame_any (n : Nat) (n : Nat) ad a l l cc c W h1 h2 (by have := HI.out; omega) (by have := HI.out; omega))
          simp only [and_self, decide_true] at HS1 HS2 HS3
          go_wp2_with fail
          refine (HS1.out _ HAx0.out HLm0.out).mono ?_
          rintro e w7 ⟨rfl, hbq⟩
          have HBq1 := Lib.hid (HBq0.out.trans (hbq.mono HBq0.out.size))
          have HRm1 := Lib.hid (HRm0.out.under hbq HRm0.out.lt)
          have HRx1 := Lib.hid (HRx0.out.under hbq HRx0.out.lt)
          have HRy1 := Lib.hid (HRy0.out.under hbq HRy0.out.lt)
          have HAx1 := Lib.hid (HAx0.out.under hbq)
          have HAy1 := Lib.hid (HAy0.out.under hbq)
          have HLm1 := Lib.hid (HLm0.out.under hbq)
          clear hbq r0 r1 x0 x1 y0 y1
          have r0 := HRm1.out.cell 0
          have r1 := HRm1.out.cell 1
          have x0 := HRx1.out.cell 0
          have x1 := HRx1.out.cell 1
          have y0 := HRy1.out.cell 0
          have y1 := HRy1.out.cell 1
          simp only [List.getElem?_toArray, List.getElem?_cons_zero, List.getElem?_cons_succ] at r0 r1 x0 x1 y0 y1
          go_wp2_with fail
          refine (HS2.out _ HAy1.out HLm1.out).mono ?_
          rintro e w8 ⟨rfl, hbq⟩
          have HBq2 := Lib.hid (HBq1.out.trans (hbq.mono HBq1.out.size))
          have HRm2 := Lib.hid (HRm1.out.under hbq HRm1.out.lt)
          have HRx2 := Lib.hid (HRx1.out.under hbq HRx1.out.lt)
          have HRy2 := Lib.hid (HRy1.out.under hbq HRy1.out.lt)
          have HAx2 := Lib.hid (HAx1.out.under hbq)
          have HAy2 := Lib.hid (HAy1.out.under hbq)
          have HLm2 := Lib.hid (HLm1.out.under hbq)
          clear hbq r0 r1 x0 x1 y0 y1
          have r0 := HRm2.out.cell 0
          have r1 := HRm2.out.cell 1
          have x0 := HRx2.out.cell 0
          have x1 := HRx2.out.cell 1
          have y0 := HRy2.out.cell 0
          have y1 := HRy2.out.cell 1
          simp only [List.getElem?_toArray, List.getElem?_cons_zero, List.getElem?_cons_succ] at r0 r1 x0 x1 y0 y1
          go_wp2_with fail
          refine (HS3.out _ HAx2.out HLm2.out).mono ?_
          rintro e w9 ⟨rfl, hbq⟩
          have HBq3 := Lib.hid (HBq2.out.trans (hbq.mono HBq2.out.size))
          have HRm3 := Lib.hid (HRm2.out.under hbq HRm2.out.lt)
          have HRx3 := Lib.hid (HRx2.out.under hbq HRx2.out.lt)
          have HRy3 := Lib.hid (HRy2.out.under hbq HRy2.out.lt)
          have HAx3 := Lib.hid (HAx2.out.under hbq)
          have HAy3 := Lib.hid (HAy2.out.under hbq)
          have HLm3 := Lib.hid (HLm2.out.under hbq)
          clear hbq r0 r1 x0 x1 y0 y1
          have r0 := HRm3.out.cell 0
          have r1 := HRm3.out.cell 1
          have x0 := HRx3.out.cell 0
          have x1 := HRx3.out.cell 1
          have y0 := HRy3.out.cell 0
          have y1 := HRy3.out.cell 1
          simp only [List.getElem?_toArray, List.getElem?_cons_zero, List.getElem?_cons_succ] at r0 r1 x0 x1 y0 y1
          go_wp2_with fail
          refine (known_any _).mono ?_
          rintro e wz ⟨rfl, hbq⟩
          have HBq4 := Lib.hid (HBq3.out.trans (hbq.mono HBq3.out.size))
          have HRm4 := Lib.hid (HRm3.out.under hbq HRm3.out.lt)
          have HRx4 := Lib.hid (HRx3.out.under hbq HRx3.out.lt)
          have HRy4 := Lib.hid (HRy3.out.under hbq HRy3.out.lt)
          have HAx4 := Lib.hid (HAx3.out.under hbq)
          have HAy4 := Lib.hid (HAy3.out.under hbq)
          have HLm4 := Lib.hid (HLm3.out.under hbq)
          clear hbq r0 r1 x0 x1 y0 y1
          have r0 := HRm4.out.cell 0
          have r1 := HRm4.out.cell 1
          have x0 := HRx4.out.cell 0
          have x1 := HRx4.out.cell 1
          have y0 := HRy4.out.cell 0
          have y1 := HRy4.out.cell 1
          simp only [List.getElem?_toArray, List.getElem?_cons_zero, List.getElem?_cons_succ] at r0 r1 x0 x1 y0 y1
          go_wp2
          go_ret
          exact ⟨rfl, HB1.out.trans ((HB2.out.trans (HBq4.out.mono HB2.out.size)).mono HB1.out.size)⟩
/-- GrBack. -/
theorem gback_walk (n : Int) (a : Option Addr) (l : List Ar) (c : Nat) (note : Tx) (w : World) (hl : Arcs w a l) (ht : TabW w) :
    Calls Tryd.prog 5 #[mV n a l.length c, txV note] w fun e w' => e = .returned (.bool true) ∧ Below w.heap.size w w' := by
  by_cases hb : 60 < l.length ∨ 100 < note.length ∨ checkL n l ≠ 0
  · exact gback_big n a l c note w hl ht hb
  · have hc : checkL n l = 0 := by
      rcases Int.decEq (checkL n l) 0 with h | h
      · exact absurd (.inr (.inr h)) hb
      · exact h
    obtain ⟨k, rfl⟩ := Int.eq_ofNat_of_zero_le (check_ok hc).1
    exact gback_good k a l c note w hl ht (by omega) (by omega) hc
end Go.Proofs.YtdjfmmfggkkbaaaDoor
