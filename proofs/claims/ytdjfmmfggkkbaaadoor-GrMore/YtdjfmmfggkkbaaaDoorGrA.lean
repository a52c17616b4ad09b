/- Numbers of a text: the program's. -/
import Derived.Test.YtdjfmmfggkkbaaaDoorGrMath
import Derived.Test.YtdjfmmfggkkbaaaDoorChecked
import Derived.Test.YtdjfmmfggkkbaaaDoorOnlyW
import Derived.WalkKit
import Derived.StillTailTactics
import Derived.BigQuiet
import Derived.Deep.QuietTactic
import Derived.Deep.Cut
import Derived.Lib.Hide
namespace Go.Proofs.YtdjfmmfggkkbaaaDoor
open Go.RowKit Grm

theorem gr_size (l : Tx) : (⟨l.toArray⟩ : ByteArray).size = l.length := by show l.toArray.size = _; simp
set_option maxRecDepth 100000 in
theorem number_loop (m : Tx) (most : Int) (w : World) (h1 : 1 ≤ m.length) (h10 : m.length ≤ 10) (h0 : ¬ (1 < m.length ∧ m.head? = some 48)) :
    Calls Tryd.prog 16 #[.string ⟨m.toArray⟩, .int .i64 most] w fun e w' => e = .returned (.tuple #[.int .i64 ((numL m most).getD 0 : Nat), .bool (numL m most).isSome]) ∧ w' = w := by
  have e1 := gr_size m
  have i1 : ¬ (m.length : Int) < 1 := by omega
  have i2 : ¬ (10 : Int) < (m.length : Int) := by omega
  have i3 : (m.length : Int) ≤ 10 := by omega
  have HF := Lib.hid (show form m from ⟨h1, h10, h0⟩)
  have H10 := Lib.hid h10
  clear h0 h10
  obtain ⟨R, hR⟩ : ∃ R : Value, R = .tuple #[.int .i64 ((numL m most).getD 0 : Nat), .bool (numL m most).isSome] := ⟨_, rfl⟩
  rw [← hR]
  have HR := Lib.hid hR
  clear hR
  go_enter Tryd.func16, Tryd.ntmps16
  go_wp2
  · -- nought
    rename_i q1 q2 q3
    exact absurd (HF.out.2.2) (fun h => h ⟨by omega, by
      have : (m[0]'(by omega)).toNat = 48 := by have := eq_of_beq q3; have e : ((⟨m.toArray⟩ : ByteArray)[0]'(by rw [gr_size]; omega)) = m[0]'(by omega) := rfl; rw [e] at this; omega
      rw [List.head?_eq_getElem?, List.getElem?_eq_getElem (by omega)]
      exact congrArg some (UInt8.toNat_inj.1 this)⟩)
  · skip
    go_loopw [6, 7, 28] (fun n _ i wr => ∃ k : Nat, k ≤ m.length ∧ i = .int .i64 k ∧ n = .int .i64 (val (m.take k) : Nat) ∧ (m.take k).all dig = true ∧ wr = w) (fun _ _ i _ => m.length - (intOf i).toNat)
    case atStart => exact ⟨0, by omega, rfl, by simp [val], by simp, rfl⟩
    case round =>
      obtain ⟨k, hk, rfl, rfl, ha, rfl⟩ := hrel
      have HA := Lib.hid ha
      clear ha
      by_cases hlt : k < m.length
      · have hlt' : (k : Int) < (m.length : Int) := by omega
        have hv := val_small H10.out hk HA.out
        have HV := Lib.hid (val_take m k hlt)
        have HT := Lib.hid (all_take m k hlt)
        have hx : ((⟨m.toArray⟩ : ByteArray)[k]'(by rw [gr_size]; exact hlt)) = m[k]'hlt := rfl
        have x9 := (m[k]'hlt).toNat_lt
        by_cases hd : dig (m[k]'hlt) = true
        · have hd2 := hd
          simp only [dig, decide_eq_true_eq] at hd2
          have HD := Lib.hid hd
          clear hd
          generalize val (m.take k) = v at *
          generalize m[k]'hlt = b at *
          have hx2 : ((⟨m.toArray⟩ : ByteArray)[k]'(by rw [gr_size]; exact hlt)).toNat = b.toNat := by rw [hx]
          clear hx x9
          generalize b.toNat = y at *
          have y1 : ¬ (y : Int) < 48 := by omega
          have y2 : ¬ (57 : Int) < (y : Int) := by omega
          have y3 : (48 : Int) ≤ (y : Int) := by omega
          have y4 : (y : Int) ≤ 57 := by omega
          have HY := Lib.hid hd2
          clear hd2
          have hvI : (v : Int) < 10000000000 := by omega
          go_wp2
          go_roundw
          case rel => exact ⟨k + 1, by omega, by go_num, by rw [HV.out]; have := HY.out; go_num, by rw [HT.out, HA.out, HD.out]; rfl, trivial⟩
          case measure => simp [intOf]; omega
        · have HN := Lib.hid (not_all hlt (by simpa using hd))
          have hd2 : ¬ (48 ≤ (m[k]'hlt).toNat ∧ (m[k]'hlt).toNat ≤ 57) := by simpa [dig] using hd
          clear hd
          generalize m[k]'hlt = b at *
          have hr : R = .tuple #[.int .i64 0, .bool false] := by rw [HR.out]; simp [numL, HN.out]
          have hx2 : ((⟨m.toArray⟩ : ByteArray)[k]'(by rw [gr_size]; exact hlt)).toNat = b.toNat := by rw [hx]
          clear hx
          generalize b.toNat = y at *
          have HRr := Lib.hid hr
          clear hr
          by_cases hlow : y < 48
          · have hl2 : (y : Int) < 48 := by omega
            go_wp2
            exact bodyPost_ret (v := .tuple #[.int .i64 0, .bool false]) (by simp [results, Tryd.results16, go_sem]) rfl ⟨by rw [HRr.out], rfl⟩
          · have hl2 : (57 : Int) < (y : Int) := by omega
            have hl3 : ¬ (y : Int) < 48 := by omega
            go_wp2
            exact bodyPost_ret (v := .tuple #[.int .i64 0, .bool false]) (by simp [results, Tryd.results16, go_sem]) rfl ⟨by rw [HRr.out], rfl⟩
      · obtain rfl : k = m.length := by omega
        have hlt' : ¬ (m.length : Int) < (m.length : Int) := by omega
        have ha := HA.out
        rw [List.take_length] at ha
        rw [List.take_length]
        by_cases hm : (val m : Int) ≤ most
        · have hr : R = .tuple #[.int .i64 (val m : Nat), .bool true] := by rw [HR.out]; simp [numL, ha, hm, HF.out]
          have hm2 : ¬ most < (val m : Int) := by omega
          have HRr := Lib.hid hr
          clear hr ha hm
          go_wp2
          exact bodyPost_ret (v := .tuple #[.int .i64 (val m : Nat), .bool true]) (by simp [results, Tryd.results16, go_sem]) rfl ⟨by rw [HRr.out], rfl⟩
        · have hr : R = .tuple #[.int .i64 0, .bool false] := by rw [HR.out]; simp [numL, hm]
          have hm2 : most < (val m : Int) := by omega
          have HRr := Lib.hid hr
          clear hr ha hm
          go_wp2
          exact bodyPost_ret (v := .tuple #[.int .i64 0, .bool false]) (by simp [results, Tryd.results16, go_sem]) rfl ⟨by rw [HRr.out], rfl⟩
  · skip
    go_loopw [6, 7, 28] (fun n _ i wr => ∃ k : Nat, k ≤ m.length ∧ i = .int .i64 k ∧ n = .int .i64 (val (m.take k) : Nat) ∧ (m.take k).all dig = true ∧ wr = w) (fun _ _ i _ => m.length - (intOf i).toNat)
    case atStart => exact ⟨0, by omega, rfl, by simp [val], by simp, rfl⟩
    case round =>
      obtain ⟨k, hk, rfl, rfl, ha, rfl⟩ := hrel
      have HA := Lib.hid ha
      clear ha
      by_cases hlt : k < m.length
      · have hlt' : (k : Int) < (m.length : Int) := by omega
        have hv := val_small H10.out hk HA.out
        have HV := Lib.hid (val_take m k hlt)
        have HT := Lib.hid (all_take m k hlt)
        have hx : ((⟨m.toArray⟩ : ByteArray)[k]'(by rw [gr_size]; exact hlt)) = m[k]'hlt := rfl
        have x9 := (m[k]'hlt).toNat_lt
        by_cases hd : dig (m[k]'hlt) = true
        · have hd2 := hd
          simp only [dig, decide_eq_true_eq] at hd2
          have HD := Lib.hid hd
          clear hd
          generalize val (m.take k) = v at *
          generalize m[k]'hlt = b at *
          have hx2 : ((⟨m.toArray⟩ : ByteArray)[k]'(by rw [gr_size]; exact hlt)).toNat = b.toNat := by rw [hx]
          clear hx x9
          generalize b.toNat = y at *
          have y1 : ¬ (y : Int) < 48 := by omega
          have y2 : ¬ (57 : Int) < (y : Int) := by omega
          have y3 : (48 : Int) ≤ (y : Int) := by omega
          have y4 : (y : Int) ≤ 57 := by omega
          have HY := Lib.hid hd2
          clear hd2
          have hvI : (v : Int) < 10000000000 := by omega
          go_wp2
          go_roundw
          case rel => exact ⟨k + 1, by omega, by go_num, by rw [HV.out]; have := HY.out; go_num, by rw [HT.out, HA.out, HD.out]; rfl, trivial⟩
          case measure => simp [intOf]; omega
        · have HN := Lib.hid (not_all hlt (by simpa using hd))
          have hd2 : ¬ (48 ≤ (m[k]'hlt).toNat ∧ (m[k]'hlt).toNat ≤ 57) := by simpa [dig] using hd
          clear hd
          generalize m[k]'hlt = b at *
          have hr : R = .tuple #[.int .i64 0, .bool false] := by rw [HR.out]; simp [numL, HN.out]
          have hx2 : ((⟨m.toArray⟩ : ByteArray)[k]'(by rw [gr_size]; exact hlt)).toNat = b.toNat := by rw [hx]
          clear hx
          generalize b.toNat = y at *
          have HRr := Lib.hid hr
          clear hr
          by_cases hlow : y < 48
          · have hl2 : (y : Int) < 48 := by omega
            go_wp2
            exact bodyPost_ret (v := .tuple #[.int .i64 0, .bool false]) (by simp [results, Tryd.results16, go_sem]) rfl ⟨by rw [HRr.out], rfl⟩
          · have hl2 : (57 : Int) < (y : Int) := by omega
            have hl3 : ¬ (y : Int) < 48 := by omega
            go_wp2
            exact bodyPost_ret (v := .tuple #[.int .i64 0, .bool false]) (by simp [results, Tryd.results16, go_sem]) rfl ⟨by rw [HRr.out], rfl⟩
      · obtain rfl : k = m.length := by omega
        have hlt' : ¬ (m.length : Int) < (m.length : Int) := by omega
        have ha := HA.out
        rw [List.take_length] at ha
        rw [List.take_length]
        by_cases hm : (val m : Int) ≤ most
        · have hr : R = .tuple #[.int .i64 (val m : Nat), .bool true] := by rw [HR.out]; simp [numL, ha, hm, HF.out]
          have hm2 : ¬ most < (val m : Int) := by omega
          have HRr := Lib.hid hr
          clear hr ha hm
          go_wp2
          exact bodyPost_ret (v := .tuple #[.int .i64 (val m : Nat), .bool true]) (by simp [results, Tryd.results16, go_sem]) rfl ⟨by rw [HRr.out], rfl⟩
        · have hr : R = .tuple #[.int .i64 0, .bool false] := by rw [HR.out]; simp [numL, hm]
          have hm2 : most < (val m : Int) := by omega
          have HRr := Lib.hid hr
          clear hr ha hm
          go_wp2
          exact bodyPost_ret (v := .tuple #[.int .i64 0, .bool false]) (by simp [results, Tryd.results16, go_sem]) rfl ⟨by rw [HRr.out], rfl⟩
set_option maxRecDepth 100000 in
theorem number_bad (m : Tx) (most : Int) (w : World) (h9 : m.length ≤ 140737488351232) (hb : ¬ form m) :
    Calls Tryd.prog 16 #[.string ⟨m.toArray⟩, .int .i64 most] w fun e w' => e = .returned (.tuple #[.int .i64 0, .bool false]) ∧ w' = w := by
  have e1 := gr_size m
  have i9 : (m.length : Int) ≤ 140737488351232 := by omega
  by_cases h1 : m.length < 1
  · have i1 : (m.length : Int) < 1 := by omega
    clear hb h9
    go_enter Tryd.func16, Tryd.ntmps16
    go_wp2
    exact bodyPost_ret (v := .tuple #[.int .i64 0, .bool false]) (by simp [results, Tryd.results16, go_sem]) rfl ⟨rfl, rfl⟩
  · have i1 : ¬ (m.length : Int) < 1 := by omega
    by_cases h2 : 10 < m.length
    · have i2 : (10 : Int) < (m.length : Int) := by omega
      clear hb h9
      go_enter Tryd.func16, Tryd.ntmps16
      go_wp2
      exact bodyPost_ret (v := .tuple #[.int .i64 0, .bool false]) (by simp [results, Tryd.results16, go_sem]) rfl ⟨rfl, rfl⟩
    · have i2 : ¬ (10 : Int) < (m.length : Int) := by omega
      obtain ⟨h3, h4⟩ : 1 < m.length ∧ m.head? = some 48 := by
        refine Classical.byContradiction fun q => hb ⟨by omega, by omega, q⟩
      have i3 : (1 : Int) < (m.length : Int) := by omega
      have h5 : m[0]'(by omega) = 48 := by rw [List.head?_eq_getElem?, List.getElem?_eq_getElem (by omega)] at h4; exact Option.some.inj h4
      have hx2 : ((⟨m.toArray⟩ : ByteArray)[0]'(by rw [gr_size]; omega)).toNat = 48 := by show (m[0]'(by omega)).toNat = 48; rw [h5]; rfl
      clear hb h4 h5
      go_enter Tryd.func16, Tryd.ntmps16
      go_wp2
      all_goals exact bodyPost_ret (v := .tuple #[.int .i64 0, .bool false]) (by simp [results, Tryd.results16, go_sem]) rfl ⟨rfl, rfl⟩
/-- gr.Number. -/
theorem number_any (m : Tx) (most : Int) (w : World) (h9 : m.length ≤ 140737488351232) :
    Calls Tryd.prog 16 #[.string ⟨m.toArray⟩, .int .i64 most] w fun e w' => e = .returned (.tuple #[.int .i64 ((numL m most).getD 0 : Nat), .bool (numL m most).isSome]) ∧ w' = w := by
  by_cases hf : form m
  · exact number_loop m most w hf.1 hf.2.1 hf.2.2
  · rw [show numL m most = none by simp [numL, hf]]
    exact number_bad m most w h9 hf
end Go.Proofs.YtdjfmmfggkkbaaaDoor
