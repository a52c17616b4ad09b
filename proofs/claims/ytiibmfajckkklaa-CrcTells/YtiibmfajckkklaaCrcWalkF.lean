/- Walks: bits.Len, Join. -/
import Derived.Test.YtiibmfajckkklaaCrcWalkE
namespace Go.Proofs.Ytiibmfajckkklaa
open Go.RowKit
attribute [local go_sem] U_xor U_xor_ones U_xor_poly U_and1 U_shr1 U_shr8 B_xor U_low U_mod2 B_mod32 U_mod32

theorem len_fin (y : Nat) (hy : y < 256) (b x : Nat) (hb : b ≤ 56) (hxy : bitLen x = b + bitLen y) : wrap64 ((b : Int) + wrap64 (bitLen y : Nat)) = (bitLen x : Nat) := by
  have h8 := bitLen_le8 y hy
  rw [hxy]
  generalize bitLen y = q at *
  simp only [wrap64]
  omega
theorem len_fin0 (x : Nat) (hx : x < 256) : wrap64 (wrap64 (bitLen x : Nat)) = (bitLen x : Nat) := by
  have h8 := bitLen_le8 x hx
  generalize bitLen x = q at *
  simp only [wrap64]
  omega
theorem len_32 (x : Nat) (h : 4294967296 ≤ x) : bitLen x = 32 + bitLen (x / 4294967296) := by
  have := bitLen_shift x 32 (by have := Nat.div_pos h (by decide : 0 < 4294967296); omega)
  exact this
theorem len_16 (x : Nat) (h : 65536 ≤ x) : bitLen x = 16 + bitLen (x / 65536) := by
  have := bitLen_shift x 16 (by have := Nat.div_pos h (by decide : 0 < 65536); omega)
  exact this
theorem len_8 (x : Nat) (h : 256 ≤ x) : bitLen x = 8 + bitLen (x / 256) := by
  have := bitLen_shift x 8 (by have := Nat.div_pos h (by decide : 0 < 256); omega)
  exact this

set_option maxRecDepth 100000 in
theorem len64_fff (x : Nat) (w : World) (g32 : (x : Int) < 4294967296) (g16 : (x : Int) < 65536) (g8 : (x : Int) < 256) (hy : x < 256) :
    Calls Try.prog 35 #[.int .u64 (x : Int)] w fun e w' => e = .returned (.int .i64 (bitLen x : Nat)) ∧ w = w' := by
  have d32 : decide ((4294967296 : Int) ≤ (x : Int)) = false := decide_eq_false (by omega)
  have d16 : decide ((65536 : Int) ≤ (x : Int)) = false := decide_eq_false (by omega)
  have d8 : decide ((256 : Int) ≤ (x : Int)) = false := decide_eq_false (by omega)
  clear g32
  clear g16
  clear g8
  go_enter Try.func35, Try.ntmps35
  go_wp2
  go_ret
  exact ⟨ret_int (by rw [len8tab_get]; exact len_fin0 x hy), rfl⟩
set_option maxRecDepth 100000 in
theorem len64_fft (x : Nat) (y8 : Nat) (w : World) (g32 : (x : Int) < 4294967296) (g16 : (x : Int) < 65536) (g8 : (256 : Int) ≤ (x : Int)) (e8 : (x : Int) / 256 = (y8 : Int)) (hy : y8 < 256) :
    Calls Try.prog 35 #[.int .u64 (x : Int)] w fun e w' => e = .returned (.int .i64 (bitLen x : Nat)) ∧ w = w' := by
  have d32 : decide ((4294967296 : Int) ≤ (x : Int)) = false := decide_eq_false (by omega)
  have d16 : decide ((65536 : Int) ≤ (x : Int)) = false := decide_eq_false (by omega)
  have q8 := Lib.hid (show bitLen x = 8 + bitLen y8 by have z := len_8 x (by omega); rw [show x / 256 = y8 by omega] at z; exact z)
  clear g32
  clear g16
  go_enter Try.func35, Try.ntmps35
  go_wp2
  go_ret
  exact ⟨ret_int (by rw [len8tab_get]; exact len_fin y8 hy 8 x (by omega) (by have z8 := q8.out; omega)), rfl⟩
set_option maxRecDepth 100000 in
theorem len64_ftf (x : Nat) (y16 : Nat) (w : World) (g32 : (x : Int) < 4294967296) (g16 : (65536 : Int) ≤ (x : Int)) (e16 : (x : Int) / 65536 = (y16 : Int)) (g8 : (y16 : Int) < 256) (hy : y16 < 256) :
    Calls Try.prog 35 #[.int .u64 (x : Int)] w fun e w' => e = .returned (.int .i64 (bitLen x : Nat)) ∧ w = w' := by
  have d32 : decide ((4294967296 : Int) ≤ (x : Int)) = false := decide_eq_false (by omega)
  have d8 : decide ((256 : Int) ≤ (y16 : Int)) = false := decide_eq_false (by omega)
  have q16 := Lib.hid (show bitLen x = 16 + bitLen y16 by have z := len_16 x (by omega); rw [show x / 65536 = y16 by omega] at z; exact z)
  clear g32
  clear g8
  go_enter Try.func35, Try.ntmps35
  go_wp2
  go_ret
  exact ⟨ret_int (by rw [len8tab_get]; exact len_fin y16 hy 16 x (by omega) (by have z16 := q16.out; omega)), rfl⟩
set_option maxRecDepth 100000 in
theorem len64_ftt (x : Nat) (y16 : Nat) (y8 : Nat) (w : World) (g32 : (x : Int) < 4294967296) (g16 : (65536 : Int) ≤ (x : Int)) (e16 : (x : Int) / 65536 = (y16 : Int)) (g8 : (256 : Int) ≤ (y16 : Int)) (e8 : (y16 : Int) / 256 = (y8 : Int)) (hy : y8 < 256) :
    Calls Try.prog 35 #[.int .u64 (x : Int)] w fun e w' => e = .returned (.int .i64 (bitLen x : Nat)) ∧ w = w' := by
  have d32 : decide ((4294967296 : Int) ≤ (x : Int)) = false := decide_eq_false (by omega)
  have q16 := Lib.hid (show bitLen x = 16 + bitLen y16 by have z := len_16 x (by omega); rw [show x / 65536 = y16 by omega] at z; exact z)
  have q8 := Lib.hid (show bitLen y16 = 8 + bitLen y8 by have z := len_8 y16 (by omega); rw [show y16 / 256 = y8 by omega] at z; exact z)
  clear g32
  go_enter Try.func35, Try.ntmps35
  go_wp2
  go_ret
  exact ⟨ret_int (by rw [len8tab_get]; exact len_fin y8 hy 24 x (by omega) (by have z16 := q16.out; have z8 := q8.out; omega)), rfl⟩
set_option maxRecDepth 100000 in
theorem len64_tff (x : Nat) (y32 : Nat) (w : World) (g32 : (4294967296 : Int) ≤ (x : Int)) (e32 : (x : Int) / 4294967296 = (y32 : Int)) (g16 : (y32 : Int) < 65536) (g8 : (y32 : Int) < 256) (hy : y32 < 256) :
    Calls Try.prog 35 #[.int .u64 (x : Int)] w fun e w' => e = .returned (.int .i64 (bitLen x : Nat)) ∧ w = w' := by
  have d16 : decide ((65536 : Int) ≤ (y32 : Int)) = false := decide_eq_false (by omega)
  have d8 : decide ((256 : Int) ≤ (y32 : Int)) = false := decide_eq_false (by omega)
  have q32 := Lib.hid (show bitLen x = 32 + bitLen y32 by have z := len_32 x (by omega); rw [show x / 4294967296 = y32 by omega] at z; exact z)
  clear g16
  clear g8
  go_enter Try.func35, Try.ntmps35
  go_wp2
  go_ret
  exact ⟨ret_int (by rw [len8tab_get]; exact len_fin y32 hy 32 x (by omega) (by have z32 := q32.out; omega)), rfl⟩
set_option maxRecDepth 100000 in
theorem len64_tft (x : Nat) (y32 : Nat) (y8 : Nat) (w : World) (g32 : (4294967296 : Int) ≤ (x : Int)) (e32 : (x : Int) / 4294967296 = (y32 : Int)) (g16 : (y32 : Int) < 65536) (g8 : (256 : Int) ≤ (y32 : Int)) (e8 : (y32 : Int) / 256 = (y8 : Int)) (hy : y8 < 256) :
    Calls Try.prog 35 #[.int .u64 (x : Int)] w fun e w' => e = .returned (.int .i64 (bitLen x : Nat)) ∧ w = w' := by
  have d16 : decide ((65536 : Int) ≤ (y32 : Int)) = false := decide_eq_false (by omega)
  have q32 := Lib.hid (show bitLen x = 32 + bitLen y32 by have z := len_32 x (by omega); rw [show x / 4294967296 = y32 by omega] at z; exact z)
  have q8 := Lib.hid (show bitLen y32 = 8 + bitLen y8 by have z := len_8 y32 (by omega); rw [show y32 / 256 = y8 by omega] at z; exact z)
  clear g16
  go_enter Try.func35, Try.ntmps35
  go_wp2
  go_ret
  exact ⟨ret_int (by rw [len8tab_get]; exact len_fin y8 hy 40 x (by omega) (by have z32 := q32.out; have z8 := q8.out; omega)), rfl⟩
set_option maxRecDepth 100000 in
theorem len64_ttf (x : Nat) (y32 : Nat) (y16 : Nat) (w : World) (g32 : (4294967296 : Int) ≤ (x : Int)) (e32 : (x : Int) / 4294967296 = (y32 : Int)) (g16 : (65536 : Int) ≤ (y32 : Int)) (e16 : (y32 : Int) / 65536 = (y16 : Int)) (g8 : (y16 : Int) < 256) (hy : y16 < 256) :
    Calls Try.prog 35 #[.int .u64 (x : Int)] w fun e w' => e = .returned (.int .i64 (bitLen x : Nat)) ∧ w = w' := by
  have d8 : decide ((256 : Int) ≤ (y16 : Int)) = false := decide_eq_false (by omega)
  have q32 := Lib.hid (show bitLen x = 32 + bitLen y32 by have z := len_32 x (by omega); rw [show x / 4294967296 = y32 by omega] at z; exact z)
  have q16 := Lib.hid (show bitLen y32 = 16 + bitLen y16 by have z := len_16 y32 (by omega); rw [show y32 / 65536 = y16 by omega] at z; exact z)
  clear g8
  go_enter Try.func35, Try.ntmps35
  go_wp2
  go_ret
  exact ⟨ret_int (by rw [len8tab_get]; exact len_fin y16 hy 48 x (by omega) (by have z32 := q32.out; have z16 := q16.out; omega)), rfl⟩
set_option maxRecDepth 100000 in
theorem len64_ttt (x : Nat) (y32 : Nat) (y16 : Nat) (y8 : Nat) (w : World) (g32 : (4294967296 : Int) ≤ (x : Int)) (e32 : (x : Int) / 4294967296 = (y32 : Int)) (g16 : (65536 : Int) ≤ (y32 : Int)) (e16 : (y32 : Int) / 65536 = (y16 : Int)) (g8 : (256 : Int) ≤ (y16 : Int)) (e8 : (y16 : Int) / 256 = (y8 : Int)) (hy : y8 < 256) :
    Calls Try.prog 35 #[.int .u64 (x : Int)] w fun e w' => e = .returned (.int .i64 (bitLen x : Nat)) ∧ w = w' := by
  have q32 := Lib.hid (show bitLen x = 32 + bitLen y32 by have z := len_32 x (by omega); rw [show x / 4294967296 = y32 by omega] at z; exact z)
  have q16 := Lib.hid (show bitLen y32 = 16 + bitLen y16 by have z := len_16 y32 (by omega); rw [show y32 / 65536 = y16 by omega] at z; exact z)
  have q8 := Lib.hid (show bitLen y16 = 8 + bitLen y8 by have z := len_8 y16 (by omega); rw [show y16 / 256 = y8 by omega] at z; exact z)
  go_enter Try.func35, Try.ntmps35
  go_wp2
  go_ret
  exact ⟨ret_int (by rw [len8tab_get]; exact len_fin y8 hy 56 x (by omega) (by have z32 := q32.out; have z16 := q16.out; have z8 := q8.out; omega)), rfl⟩

theorem len64_any (x : Nat) (w : World) (hx : x < 9223372036854775808) :
    Calls Try.prog 35 #[.int .u64 (x : Int)] w fun e w' => e = .returned (.int .i64 (bitLen x : Nat)) ∧ w = w' := by
  by_cases h0 : 4294967296 ≤ x
  · by_cases h1 : 65536 ≤ (x / 4294967296)
    · by_cases h2 : 256 ≤ ((x / 4294967296) / 65536)
      · exact len64_ttt x (x / 4294967296) ((x / 4294967296) / 65536) (((x / 4294967296) / 65536) / 256) w (by omega) (by omega) (by omega) (by omega) (by omega) (by omega) (by omega)
      · exact len64_ttf x (x / 4294967296) ((x / 4294967296) / 65536) w (by omega) (by omega) (by omega) (by omega) (by omega) (by omega)
    · by_cases h2 : 256 ≤ (x / 4294967296)
      · exact len64_tft x (x / 4294967296) ((x / 4294967296) / 256) w (by omega) (by omega) (by omega) (by omega) (by omega) (by omega)
      · exact len64_tff x (x / 4294967296) w (by omega) (by omega) (by omega) (by omega) (by omega)
  · by_cases h1 : 65536 ≤ x
    · by_cases h2 : 256 ≤ (x / 65536)
      · exact len64_ftt x (x / 65536) ((x / 65536) / 256) w (by omega) (by omega) (by omega) (by omega) (by omega) (by omega)
      · exact len64_ftf x (x / 65536) w (by omega) (by omega) (by omega) (by omega) (by omega)
    · by_cases h2 : 256 ≤ x
      · exact len64_fft x (x / 256) w (by omega) (by omega) (by omega) (by omega) (by omega)
      · exact len64_fff x w (by omega) (by omega) (by omega) (by omega)

theorem len_any (x : Nat) (w : World) (hx : x < 9223372036854775808) :
    Calls Try.prog 29 #[.int .u64 (x : Int)] w fun e w' => e = .returned (.int .i64 (bitLen x : Nat)) ∧ w = w' := by
  have HX := Lib.hid hx
  clear hx
  go_enter Try.func29, Try.ntmps29
  go_wp2_with (go_at_call 35; refine (len64_any x _ HX.out).mono ?_; rintro e w1 ⟨rfl, rfl⟩)
  go_ret
  exact ⟨rfl, rfl⟩

end Go.Proofs.Ytiibmfajckkklaa
