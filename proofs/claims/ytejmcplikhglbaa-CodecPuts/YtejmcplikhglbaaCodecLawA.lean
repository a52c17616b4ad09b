/- Walk of the law CodecPuts. -/
import Derived.Test.YtejmcplikhglbaaCodecF
namespace Go.Proofs.Ytejmcplikhglbaa
open Go.RowKit
attribute [local go_sem] str_size

theorem puts_big (x : BitVec 64) (z : Int) (a : Option Addr) (n c : Nat) (s : List (BitVec 8)) (w : World) (h : 200 < n ∨ 1000 < s.length) :
    Calls Try.prog 3 #[.int .u64 (W x), .int .i64 z, .slice a n c, .string (str s)] w fun e w' => e = .returned (.bool true) ∧ Below w.heap.size w w' := by
  by_cases h1 : 200 < n
  · have h2 : (200 : Int) < (n : Int) := by omega
    clear h
    go_enter Try.func3, Try.ntmps3
    go_wp2_with fail
    refine (known_any _).mono ?_
    rintro e w8 ⟨rfl, hb8⟩
    go_wp2
    go_ret
    exact ⟨rfl, hb8⟩
  · have h2 : (n : Int) ≤ 200 := by omega
    have hd : decide ((200 : Int) < (n : Int)) = false := decide_eq_false (by omega)
    have h3 : (1000 : Int) < (s.length : Int) := by omega
    clear h
    go_enter Try.func3, Try.ntmps3
    go_wp2_with fail
    refine (known_any _).mono ?_
    rintro e w8 ⟨rfl, hb8⟩
    go_wp2
    go_ret
    exact ⟨rfl, hb8⟩

set_option maxRecDepth 100000 in
theorem puts_small (x : BitVec 64) (z : Int) (a : Option Addr) (l : List (BitVec 64)) (c : Nat) (s : List (BitVec 8)) (w : World) (hN : Nums w a l) (h1 : l.length ≤ 200) (h2 : s.length ≤ 1000) :
    Calls Try.prog 3 #[.int .u64 (W x), .int .i64 z, .slice a l.length c, .string (str s)] w fun e w' => e = .returned (.bool true) ∧ Below w.heap.size w w' := by
  have HA := Lib.hid hN
  clear hN
  have hd : decide ((200 : Int) < (l.length : Int)) = false := decide_eq_false (by omega)
  have hd2 : decide ((1000 : Int) < (s.length : Int)) = false := decide_eq_false (by omega)
  go_enter Try.func3, Try.ntmps3
  go_wp2_with fail
  refine (put_any x z w).mono ?_
  rintro e w1 ⟨g1, rfl, hg1, hr1, hb1⟩
  go_wp2_with fail
  refine (rput_any x z w1).mono ?_
  rintro e w2 ⟨v2, rfl, hown2, hb2⟩
  obtain ⟨a2, c2, rfl, hB2, _⟩ := hown2.shape
  rw [Cod.leb_length]
  have HR := Lib.hid (hr1.under hb2 hr1.lt)
  have HB := Lib.hid hB2
  have HX := Lib.hid (then_below hb1 hb2)
  clear hown2 hB2 hr1 hb1 hb2
  go_wp2_with fail
  refine (same_as _ _ _ _ _ _ _ _ w2 HR.out.asBytes HB.out (Cod.leb_length _ _) (Cod.leb_length _ _) true (by simp)).mono ?_
  rintro e w3 ⟨rfl, rfl⟩
  clear HR HB
  go_wp2_with fail
  refine (ints_any a l c w2 (HA.out.under HX.out) (by omega)).mono ?_
  rintro e w4 ⟨g4, rfl, hg4, hr4, hb4⟩
  have HX4 := Lib.hid (then_below HX.out hb4)
  clear HX
  go_wp2_with fail
  refine (rints_any a l c w4 (HA.out.under HX4.out) (by omega)).mono ?_
  rintro e w5 ⟨v5, rfl, hown5, hb5⟩
  obtain ⟨a5, c5, rfl, hB5, _⟩ := hown5.shape
  rw [Cod.ints_length]
  have HR := Lib.hid (hr4.under hb5 hr4.lt)
  have HB := Lib.hid hB5
  have HX := Lib.hid (then_below HX4.out hb5)
  clear hown5 hB5 hr4 hb4 hb5 HX4
  go_wp2_with fail
  refine (same_as _ _ (Cod.ints l) (Cod.ints l) _ _ _ _ w5 HR.out.asBytes HB.out (by rw [Cod.ints_length]; omega) (Cod.ints_length l) true (by simp)).mono ?_
  rintro e w3 ⟨rfl, rfl⟩
  clear HR HB
  go_wp2_with fail
  refine (text_any s w5 (by omega)).mono ?_
  rintro e w4 ⟨g4, rfl, hg4, hr4, hb4⟩
  have HX4 := Lib.hid (then_below HX.out hb4)
  clear HX
  go_wp2_with fail
  refine (rtext_any s w4 (by omega)).mono ?_
  rintro e w6 ⟨v5, rfl, hown5, hb5⟩
  obtain ⟨a5, c5, rfl, hB5, _⟩ := hown5.shape
  rw [Cod.text_length]
  have HR := Lib.hid (hr4.under hb5 hr4.lt)
  have HB := Lib.hid hB5
  have HX := Lib.hid (then_below HX4.out hb5)
  clear hown5 hB5 hr4 hb4 hb5 HX4
  go_wp2_with fail
  refine (same_as _ _ (Cod.text s) (Cod.text s) _ _ _ _ w6 HR.out.asBytes HB.out (Cod.text_length s) (Cod.text_length s) true (by simp)).mono ?_
  rintro e w3 ⟨rfl, rfl⟩
  clear HR HB
  go_wp2_with fail
  refine (known_any _).mono ?_
  rintro e w8 ⟨rfl, hb8⟩
  go_wp2
  go_ret
  exact ⟨rfl, then_below HX.out hb8⟩

theorem puts_walk (x : BitVec 64) (z : Int) (a : Option Addr) (l : List (BitVec 64)) (c : Nat) (s : List (BitVec 8)) (w : World) (hN : Nums w a l) :
    Calls Try.prog 3 #[.int .u64 (W x), .int .i64 z, .slice a l.length c, .string (str s)] w fun e w' => e = .returned (.bool true) ∧ Below w.heap.size w w' := by
  by_cases h : 200 < l.length ∨ 1000 < s.length
  · exact puts_big x z a l.length c s w h
  · exact puts_small x z a l c s w hN (by omega) (by omega)
end Go.Proofs.Ytejmcplikhglbaa
