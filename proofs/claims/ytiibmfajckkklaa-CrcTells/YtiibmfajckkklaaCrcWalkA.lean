/- Walks: step, byteSteps, and the document's Step. -/
import Derived.Test.YtiibmfajckkklaaCrcBits
import Derived.Test.YtiibmfajckkklaaChecked
import Derived.Outline
namespace Go.Proofs.Ytiibmfajckkklaa
open Go.RowKit
attribute [local go_sem] U_xor U_xor_ones U_xor_poly U_and1 U_shr1 U_shr8 B_xor U_low U_mod2

theorem step_any (x : BitVec 32) (w : World) :
    Calls Try.prog 36 #[.int .u32 (U x)] w fun e w' => e = .returned (.int .u32 (U (Crc.stp x))) ∧ w = w' := by
  have h0 := U_ge x
  have h1 := U_lt x
  cases hb : Crc.odd x
  · rw [Crc.stp_even x hb]
    go_enter Try.func36, Try.ntmps36
    go_wp2
    go_ret
    exact ⟨rfl, rfl⟩
  · rw [Crc.stp_odd x hb]
    go_enter Try.func36, Try.ntmps36
    go_wp2
    go_ret
    exact ⟨rfl, rfl⟩

theorem byteSteps_any (x : BitVec 32) (w : World) :
    Calls Try.prog 33 #[.int .u32 (U x)] w fun e w' => e = .returned (.int .u32 (U (Crc.stps 8 x))) ∧ w = w' := by
  go_enter Try.func33, Try.ntmps33
  go_wp2
  go_loop [0, 3] (fun n i => ∃ k : Nat, k ≤ 8 ∧ i = .int .i64 k ∧ n = .int .u32 (U (Crc.stps k x))) (fun _ i => 8 - (intOf i).toNat)
  case atStart => exact ⟨0, by omega, rfl, rfl⟩
  case round =>
    obtain ⟨k, hk, rfl, rfl⟩ := hrel
    by_cases hlt : k < 8
    · go_wp2_with (go_at_call 36; refine (step_any _ _).mono ?_; rintro e w' ⟨rfl, rfl⟩)
      go_round
      case rel => exact ⟨k + 1, by omega, by go_num, by rw [Crc.stps_succ]⟩
      case measure => simp [intOf]; omega
    · go_wp2
      go_ret
      obtain rfl : k = 8 := by omega
      exact ⟨rfl, rfl⟩

theorem refStep_any (x : BitVec 32) (w : World) :
    Calls Try.prog 27 #[.int .u32 (U x)] w fun e w' => e = .returned (.int .u32 (U (Crc.stp x))) ∧ w = w' := by
  have h0 := U_ge x
  have h1 := U_lt x
  cases hb : Crc.odd x
  · rw [Crc.stp_even x hb]
    go_enter Try.func27, Try.ntmps27
    go_wp2
    go_ret
    exact ⟨rfl, rfl⟩
  · rw [Crc.stp_odd x hb]
    go_enter Try.func27, Try.ntmps27
    go_wp2
    go_ret
    exact ⟨rfl, rfl⟩
end Go.Proofs.Ytiibmfajckkklaa
