/- Walks: known; the document's More, Sum, Join. -/
import Derived.Test.YtiibmfajckkklaaCrcWalkC
import Derived.Lib.SlBytesConst
namespace Go.Proofs.Ytiibmfajckkklaa
open Go.RowKit
attribute [local go_sem] U_xor U_xor_ones U_xor_poly U_and1 U_shr1 U_shr8 B_xor U_low U_mod2 B_mod32 U_mod32

def nine : List (BitVec 8) := [(BitVec.ofNat 8 0x31), (BitVec.ofNat 8 0x32), (BitVec.ofNat 8 0x33), (BitVec.ofNat 8 0x34), (BitVec.ofNat 8 0x35), (BitVec.ofNat 8 0x36), (BitVec.ofNat 8 0x37), (BitVec.ofNat 8 0x38), (BitVec.ofNat 8 0x39)]
theorem sum_nine : U (Crc.sum nine) = 3421780262 := by decide +kernel
theorem sum_nil : U (Crc.sum []) = 0 := by decide +kernel

theorem sum_nine_any (a : Option Addr) (w : World) (hb : Bytes w a nine) : Calls Try.prog 12 #[.slice a 9 9] w fun e w' => e = .returned (.int .u32 3421780262) ∧ Below w.heap.size w w' := by
  rw [← sum_nine]
  exact sum_any a nine 9 w hb (by decide)
theorem sum_nil_any (a : Option Addr) (c : Nat) (w : World) : Calls Try.prog 12 #[.slice a 0 c] w fun e w' => e = .returned (.int .u32 0) ∧ Below w.heap.size w w' := by
  rw [← sum_nil]
  exact sum_any a [] c w (Bytes.nil _ _) (by decide)

theorem nine_bytes (w : World) (fr : Nat × Nat) : Bytes (w.alloc (.cells #[.int .u8 49, .int .u8 50, .int .u8 51, .int .u8 52, .int .u8 53, .int .u8 54, .int .u8 55, .int .u8 56, .int .u8 57] 5 fr)) (some ⟨w.heap.size, 0, none⟩) nine := by
  refine .inr ⟨_, _, rfl, fun i x hx => ?_⟩
  rw [cell_of_row _ _ _ _ _ _ (heap_alloc_new w _)]
  match i, hx with
  | 0, hx | 1, hx | 2, hx | 3, hx | 4, hx | 5, hx | 6, hx | 7, hx | 8, hx => injection hx with hx; subst hx; rfl
  | i + 9, hx => simp [nine] at hx

theorem known_any (w : World) : Calls Try.prog 11 #[] w fun e w' => e = .returned (.bool true) ∧ Below w.heap.size w w' := by
  have kc := fun (w : World) (C : Array Value) (n c : Nat) => Lib.run_convert_bytes_const (P := Try.prog) w 23 5 C n c Try.underlying23 Try.underlying5
  go_enter Try.func11, Try.ntmps11
  go_wp2_with fail
  refine (sum_nine_any _ _ (nine_bytes _ _)).mono ?_
  rintro e w1 ⟨rfl, hb1⟩
  go_wp2_with fail
  refine (sum_nil_any _ _ _).mono ?_
  rintro e w2 ⟨rfl, hb2⟩
  go_wp2
  go_ret
  exact ⟨rfl, ((Below.refl _ _).alloc (Nat.le_refl _) _).trans ((hb1.trans (hb2.mono hb1.size)).mono (by simp))⟩

theorem refMore_any (n : BitVec 32) (a : Option Addr) (l : List (BitVec 8)) (c : Nat) (w : World) (hB : Bytes w a l) (hl : l.length ≤ 1000000000) :
    Calls Try.prog 15 #[.int .u32 (U n), .slice a l.length c] w fun e w' => e = .returned (.int .u32 (U (Crc.more n l))) ∧ w = w' := by
  go_enter Try.func15, Try.ntmps15
  go_wp2
  go_loop [0, 5] (fun m i => ∃ k : Nat, k ≤ l.length ∧ i = .int .i64 k ∧ m = .int .u32 (U (Crc.run (n ^^^ Crc.ones) (l.take k)))) (fun _ i => l.length - (intOf i).toNat)
  case atStart => exact ⟨0, by omega, rfl, rfl⟩
  case round =>
    obtain ⟨k, hk, rfl, rfl⟩ := hrel
    by_cases hlt : k < l.length
    · obtain ⟨b, o, rfl, _, hc⟩ := hB.at_ hlt
      have HR := Lib.hid (run_snoc (n ^^^ Crc.ones) l k hlt)
      generalize Crc.run (n ^^^ Crc.ones) (l.take k) = m at *
      generalize l[k] = x at *
      go_wp2
      go_loop [0, 6] (fun v j => ∃ q : Nat, q ≤ 8 ∧ j = .int .i64 q ∧ v = .int .u32 (U (Crc.stps q (m ^^^ x.setWidth 32)))) (fun _ j => 8 - (intOf j).toNat)
      case atStart => exact ⟨0, by omega, rfl, rfl⟩
      case round =>
        obtain ⟨q, hq, rfl, rfl⟩ := hrel
        by_cases hq8 : q < 8
        · go_wp2_with (go_at_call 27; refine (refStep_any _ _).mono ?_; rintro e w' ⟨rfl, rfl⟩)
          go_round
          case rel => exact ⟨q + 1, by omega, by go_num, by rw [Crc.stps_succ]⟩
          case measure => simp [intOf]; omega
        · obtain rfl : q = 8 := by omega
          go_wp2
          go_round
          case rel => exact ⟨k + 1, by omega, by go_num, by rw [HR.out]; rfl⟩
          case measure => simp [intOf]; omega
    · obtain rfl : k = l.length := by omega
      rw [List.take_length]
      go_wp2
      go_ret
      exact ⟨rfl, rfl⟩

theorem refSum_any (a : Option Addr) (l : List (BitVec 8)) (c : Nat) (w : World) (hb : Bytes w a l) (hl : l.length ≤ 1000000000) :
    Calls Try.prog 13 #[.slice a l.length c] w fun e w' => e = .returned (.int .u32 (U (Crc.sum l))) ∧ w = w' := by
  go_enter Try.func13, Try.ntmps13
  go_wp2_with (go_at_call 15; refine (refMore_any (BitVec.ofNat 32 0) _ _ _ _ hb hl).mono ?_; rintro e w1 ⟨rfl, rfl⟩)
  go_ret
  exact ⟨rfl, rfl⟩

theorem refJoin_any (x y : BitVec 32) (n : Int) (w : World) (hn : n ≤ 1000000000) :
    Calls Try.prog 17 #[.int .u32 (U x), .int .u32 (U y), .int .i64 n] w fun e w' => e = .returned (.int .u32 (U (Crc.join x y n.toNat))) ∧ w = w' := by
  go_enter Try.func17, Try.ntmps17
  go_wp2
  go_loop [0, 7] (fun v i => ∃ k : Nat, k ≤ n.toNat ∧ i = .int .i64 k ∧ v = .int .u32 (U (Crc.stps (8 * k) x))) (fun _ i => n.toNat - (intOf i).toNat)
  case atStart => exact ⟨0, by omega, rfl, rfl⟩
  case round =>
    obtain ⟨k, hk, rfl, rfl⟩ := hrel
    by_cases hlt : (k : Int) < n
    · have HR := Lib.hid (Crc.stps_add (8 * k) 8 x)
      generalize Crc.stps (8 * k) x = m at *
      go_wp2
      go_loop [0, 8] (fun v j => ∃ q : Nat, q ≤ 8 ∧ j = .int .i64 q ∧ v = .int .u32 (U (Crc.stps q m))) (fun _ j => 8 - (intOf j).toNat)
      case atStart => exact ⟨0, by omega, rfl, rfl⟩
      case round =>
        obtain ⟨q, hq, rfl, rfl⟩ := hrel
        by_cases hq8 : q < 8
        · go_wp2_with (go_at_call 27; refine (refStep_any _ _).mono ?_; rintro e w' ⟨rfl, rfl⟩)
          go_round
          case rel => exact ⟨q + 1, by omega, by go_num, by rw [Crc.stps_succ]⟩
          case measure => simp [intOf]; omega
        · obtain rfl : q = 8 := by omega
          go_wp2
          go_round
          case rel => exact ⟨k + 1, by omega, by go_num, by rw [← HR.out]; rfl⟩
          case measure => simp [intOf]; omega
    · obtain rfl : k = n.toNat := by omega
      go_wp2
      go_ret
      exact ⟨rfl, rfl⟩
end Go.Proofs.Ytiibmfajckkklaa
