/- Walk of the law CrcSums. -/
import Derived.Test.YtiibmfajckkklaaCrcLawA
namespace Go.Proofs.Ytiibmfajckkklaa
open Go.RowKit
attribute [local go_sem] U_xor U_xor_ones U_xor_poly U_and1 U_shr1 U_shr8 B_xor U_low U_mod2 B_mod32 U_mod32

theorem join_int (x y : BitVec 32) (z : Int) (w : World) (hz : z < 9223372036854775808) :
    Calls Try.prog 16 #[.int .u32 (U x), .int .u32 (U y), .int .i64 z] w fun e w' => e = .returned (.int .u32 (U (Crc.join x y z.toNat))) ∧ Below w.heap.size w w' := by
  by_cases h : z < 0
  · refine (join_neg x y z w h).mono ?_
    rintro e w' ⟨rfl, rfl⟩
    rw [show z.toNat = 0 by omega]
    exact ⟨rfl, Below.refl _ _⟩
  · exact join_at x y z z.toNat w (by omega) (by omega)

theorem sums_big (x y : BitVec 32) (a : Option Addr) (n c : Nat) (z : Int) (w : World) (h : 1500 < n ∨ 3000 < z) :
    Calls Try.prog 3 #[.int .u32 (U x), .int .u32 (U y), .slice a n c, .int .i64 z] w fun e w' => e = .returned (.bool true) ∧ Below w.heap.size w w' := by
  by_cases h1 : 1500 < n
  · have h2 : (1500 : Int) < (n : Int) := by omega
    clear h
    go_enter Try.func3, Try.ntmps3
    go_wp2_with fail
    refine (known_any _).mono ?_
    rintro e w8 ⟨rfl, hb8⟩
    go_wp2
    go_ret
    exact ⟨rfl, hb8⟩
  · have h2 : (n : Int) ≤ 1500 := by omega
    have h3 : 3000 < z := by omega
    clear h h1
    go_enter Try.func3, Try.ntmps3
    go_wp2_with fail
    refine (known_any _).mono ?_
    rintro e w8 ⟨rfl, hb8⟩
    go_wp2
    go_ret
    exact ⟨rfl, hb8⟩

theorem sums_small (x y : BitVec 32) (a : Option Addr) (l : List (BitVec 8)) (c : Nat) (z : Int) (w : World) (hB : Bytes w a l) (h1 : l.length ≤ 1500) (h2 : z ≤ 3000) :
    Calls Try.prog 3 #[.int .u32 (U x), .int .u32 (U y), .slice a l.length c, .int .i64 z] w fun e w' => e = .returned (.bool true) ∧ Below w.heap.size w w' := by
  have h3 : (l.length : Int) ≤ 1500 := by omega
  have hl : l.length ≤ 1000000000 := by omega
  go_enter Try.func3, Try.ntmps3
  go_wp2_with fail
  refine (sum_any a l c w hB hl).mono ?_
  rintro e w1 ⟨rfl, hb1⟩
  have hB1 := hB.under hb1
  go_wp2_with fail
  refine (refSum_any a l c w1 hB1 hl).mono ?_
  rintro e w2 ⟨rfl, rfl⟩
  go_wp2_with fail
  refine (more_any x a l c w1 hB1 hl).mono ?_
  rintro e w3 ⟨rfl, hb3⟩
  have hB3 := hB1.under hb3
  go_wp2_with fail
  refine (refMore_any x a l c w3 hB3 hl).mono ?_
  rintro e w4 ⟨rfl, rfl⟩
  go_wp2_with fail
  refine (join_int x y z w3 (by omega)).mono ?_
  rintro e w5 ⟨rfl, hb5⟩
  go_wp2_with fail
  refine (refJoin_any x y z w5 (by omega)).mono ?_
  rintro e w6 ⟨rfl, rfl⟩
  go_wp2_with fail
  refine (known_any _).mono ?_
  rintro e w8 ⟨rfl, hb8⟩
  go_wp2
  go_ret
  exact ⟨rfl, bth hb1 (bth hb3 (bth hb5 hb8))⟩

theorem sums_walk (x y : BitVec 32) (a : Option Addr) (l : List (BitVec 8)) (c : Nat) (z : Int) (w : World) (hB : Bytes w a l) :
    Calls Try.prog 3 #[.int .u32 (U x), .int .u32 (U y), .slice a l.length c, .int .i64 z] w fun e w' => e = .returned (.bool true) ∧ Below w.heap.size w w' := by
  by_cases h : 1500 < l.length ∨ 3000 < z
  · exact sums_big x y a l.length c z w h
  · exact sums_small x y a l c z w hB (by omega) (by omega)
end Go.Proofs.Ytiibmfajckkklaa
