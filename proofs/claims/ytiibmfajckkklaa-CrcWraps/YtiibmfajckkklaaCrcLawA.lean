/- Walks of the laws CrcLinear and CrcLong. -/
import Derived.Test.YtiibmfajckkklaaCrcWalkG
import Derived.Test.YtiibmfajckkklaaCrcWalkD
namespace Go.Proofs.Ytiibmfajckkklaa
open Go.RowKit
attribute [local go_sem] U_xor U_xor_ones U_xor_poly U_and1 U_shr1 U_shr8 B_xor U_low U_mod2 B_mod32 U_mod32

theorem join_at (x y : BitVec 32) (z : Int) (n : Nat) (w : World) (h : z = (n : Int)) (hn : n < 9223372036854775808) :
    Calls Try.prog 16 #[.int .u32 (U x), .int .u32 (U y), .int .i64 z] w fun e w' => e = .returned (.int .u32 (U (Crc.join x y n))) ∧ Below w.heap.size w w' := by
  subst h
  exact join_pos x y n w hn

theorem small_of (a : Int) (h : (Lit.int .u64 a).wf = true) : ∃ n : Nat, wrap64 (a.tmod 4611686018427387904) = (n : Int) ∧ n < 4611686018427387904 := by
  simp [Lit.wf, IntKind.min, IntKind.max, IntKind.signed, IntKind.bits] at h
  have e : a.tmod 4611686018427387904 = a % 4611686018427387904 := Int.tmod_eq_emod_of_nonneg h.1
  refine ⟨(a % 4611686018427387904).toNat, ?_, by omega⟩
  rw [e]
  simp only [wrap64]
  omega
theorem join_mix (x y : BitVec 32) (n : Nat) : Crc.join x (Crc.join y (BitVec.ofNat 32 0) n) n = Crc.join (x ^^^ y) (BitVec.ofNat 32 0) n := by
  rw [Crc.join_xor]
  simp [Crc.join]
theorem bth {w a b : World} (h : Below w.heap.size w a) (k : Below a.heap.size a b) : Below w.heap.size w b := h.trans (k.mono h.size)

theorem linear_walk (x y : BitVec 32) (a2 : Int) (w2 : (Lit.int .u64 a2).wf = true) (w : World) :
    Calls Try.prog 8 #[.int .u32 (U x), .int .u32 (U y), .int .u64 a2] w fun e w' => e = .returned (.bool true) ∧ Below w.heap.size w w' := by
  go_enter Try.func8, Try.ntmps8
  go_wp2_with fail
  obtain ⟨n, hn, hlt⟩ := small_of a2 w2
  rw [hn]
  clear hn w2
  generalize a2.tmod 4611686018427387904 = t
  have HL := Lib.hid (show n < 9223372036854775808 by omega)
  clear hlt
  refine (join_at _ (BitVec.ofNat 32 0) _ n _ rfl HL.out).mono ?_
  rintro e w1 ⟨rfl, hb1⟩
  go_wp2_with fail
  refine (join_at _ (BitVec.ofNat 32 0) _ n _ rfl HL.out).mono ?_
  rintro e w2 ⟨rfl, hb2⟩
  go_wp2_with fail
  refine (join_at _ (BitVec.ofNat 32 0) _ n _ rfl HL.out).mono ?_
  rintro e w3 ⟨rfl, hb3⟩
  rw [Crc.join_xor]
  go_wp2_with fail
  refine (join_at (BitVec.ofNat 32 0) _ _ n _ rfl HL.out).mono ?_
  rintro e w4 ⟨rfl, hb4⟩
  rw [Crc.join_zero]
  go_wp2_with fail
  refine (join_at _ (BitVec.ofNat 32 0) _ n _ rfl HL.out).mono ?_
  rintro e w5 ⟨rfl, hb5⟩
  go_wp2_with fail
  refine (join_at _ _ _ n _ rfl HL.out).mono ?_
  rintro e w6 ⟨rfl, hb6⟩
  go_wp2_with fail
  refine (join_at _ (BitVec.ofNat 32 0) _ n _ rfl HL.out).mono ?_
  rintro e w7 ⟨rfl, hb7⟩
  rw [join_mix x y n]
  go_wp2_with fail
  refine (known_any _).mono ?_
  rintro e w8 ⟨rfl, hb8⟩
  go_wp2
  go_ret
  exact ⟨rfl, bth hb1 (bth hb2 (bth hb3 (bth hb4 (bth hb5 (bth hb6 (bth hb7 hb8))))))⟩

theorem long_walk (x y : BitVec 32) (a2 a3 : Int) (w2 : (Lit.int .u64 a2).wf = true) (w3 : (Lit.int .u64 a3).wf = true) (w : World) :
    Calls Try.prog 6 #[.int .u32 (U x), .int .u32 (U y), .int .u64 a2, .int .u64 a3] w fun e w' => e = .returned (.bool true) ∧ Below w.heap.size w w' := by
  go_enter Try.func6, Try.ntmps6
  go_wp2_with fail
  obtain ⟨m, hm, hmlt⟩ := small_of a2 w2
  obtain ⟨n, hn, hnlt⟩ := small_of a3 w3
  have hs : wrap64 ((m : Int) + (n : Int)) = ((m + n : Nat) : Int) := by simp only [wrap64]; omega
  rw [hm, hn, hs]
  clear hm hn hs w2 w3
  generalize a2.tmod 4611686018427387904 = t2
  generalize a3.tmod 4611686018427387904 = t3
  have HS := Lib.hid (show m + n < 9223372036854775808 by omega)
  have HM := Lib.hid (show m < 9223372036854775808 by omega)
  have HN := Lib.hid (show n < 9223372036854775808 by omega)
  have HZ := Lib.hid (show wrap64 (-1 - (n : Int)) < 0 by simp only [wrap64]; omega)
  clear hmlt hnlt
  refine (join_at _ _ _ (m + n) _ rfl HS.out).mono ?_
  rintro e w1 ⟨rfl, hb1⟩
  generalize ((m + n : Nat) : Int) = mn
  go_wp2_with fail
  refine (join_at _ (BitVec.ofNat 32 0) _ m _ rfl HM.out).mono ?_
  rintro e w2 ⟨rfl, hb2⟩
  go_wp2_with fail
  refine (join_at _ _ _ n _ rfl HN.out).mono ?_
  rintro e w3 ⟨rfl, hb3⟩
  rw [Crc.join_add]
  go_wp2_with fail
  refine (join_at _ _ _ 0 _ rfl (by decide)).mono ?_
  rintro e w4 ⟨rfl, hb4⟩
  rw [show Crc.join x y 0 = x ^^^ y from rfl]
  go_wp2_with fail
  refine (join_neg _ _ _ _ HZ.out).mono ?_
  rintro e w5 ⟨rfl, rfl⟩
  go_wp2_with fail
  refine (join_at _ _ _ m _ rfl HM.out).mono ?_
  rintro e w6 ⟨rfl, hb6⟩
  go_wp2_with fail
  refine (join_at _ _ _ 0 _ rfl (by decide)).mono ?_
  rintro e w7 ⟨rfl, hb7⟩
  rw [show Crc.join (Crc.join x y m) y 0 = Crc.join x (BitVec.ofNat 32 0) m by simp [Crc.join, Crc.stps, BitVec.xor_assoc]]
  go_wp2_with fail
  refine (join_at _ (BitVec.ofNat 32 0) _ m _ rfl HM.out).mono ?_
  rintro e w8 ⟨rfl, hb8⟩
  go_wp2_with fail
  refine (known_any _).mono ?_
  rintro e w9 ⟨rfl, hb9⟩
  go_wp2
  go_ret
  exact ⟨rfl, bth hb1 (bth hb2 (bth hb3 (bth hb4 (bth hb6 (bth hb7 (bth hb8 hb9))))))⟩
end Go.Proofs.Ytiibmfajckkklaa
