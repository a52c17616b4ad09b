/- How the walk's numbers stand for words of bits: U of 32 bits, B of 8. -/
import Derived.Test.YthljgkaigjokjaaCrcMath
namespace Go.Proofs.Ythljgkaigjokjaa
open Go.RowKit

theorem ret_int {k : IntKind} {a b : Int} (h : a = b) : Ending.returned (.int k a) = .returned (.int k b) := by rw [h]
theorem val_int {k : IntKind} {a b : Int} (h : a = b) : Value.int k a = .int k b := by rw [h]
/-- A word of 32 bits as the model's number. -/
def U (x : BitVec 32) : Int := (x.toNat : Int)
/-- A byte as the model's number. -/
def B (x : BitVec 8) : Int := (x.toNat : Int)

theorem U_ge (x : BitVec 32) : 0 ≤ U x := by unfold U; omega
theorem U_lt (x : BitVec 32) : U x < 4294967296 := by unfold U; have := x.isLt; omega
theorem B_ge (x : BitVec 8) : 0 ≤ B x := by unfold B; omega
theorem B_lt (x : BitVec 8) : B x < 256 := by unfold B; have := x.isLt; omega
theorem U_of (n : Int) (h : (Lit.int .u32 n).wf = true) : ∃ x, n = U x := by
  simp [Lit.wf, IntKind.min, IntKind.max, IntKind.signed, IntKind.bits] at h
  refine ⟨BitVec.ofNat 32 n.toNat, ?_⟩
  unfold U
  rw [BitVec.toNat_ofNat]
  omega
theorem B_of (n : Int) (h : (Lit.int .u8 n).wf = true) : ∃ x, n = B x := by
  simp [Lit.wf, IntKind.min, IntKind.max, IntKind.signed, IntKind.bits] at h
  refine ⟨BitVec.ofNat 8 n.toNat, ?_⟩
  unfold B
  rw [BitVec.toNat_ofNat]
  omega
theorem U_inj {x y : BitVec 32} (h : U x = U y) : x = y := by
  unfold U at h
  exact BitVec.eq_of_toNat_eq (by omega)
theorem B_inj {x y : BitVec 8} (h : B x = B y) : x = y := by
  unfold B at h
  exact BitVec.eq_of_toNat_eq (by omega)
theorem U_beq (x y : BitVec 32) : (U x == U y) = decide (x = y) := by
  by_cases h : x = y
  · subst h; simp
  · have : U x ≠ U y := fun e => h (U_inj e)
    simp [this, h]
theorem B_beq (x y : BitVec 8) : (B x == B y) = decide (x = y) := by
  by_cases h : x = y
  · subst h; simp
  · have : B x ≠ B y := fun e => h (B_inj e)
    simp [this, h]

theorem U_xor (x y : BitVec 32) : bits .xor .u32 (U x) (U y) = U (x ^^^ y) := by
  unfold U
  rw [u32_xor_nat _ _ x.isLt y.isLt, BitVec.toNat_xor]
theorem U_xor_ones (x : BitVec 32) : bits .xor .u32 (U x) 4294967295 = U (x ^^^ Crc.ones) := U_xor x Crc.ones
theorem U_xor_poly (x : BitVec 32) : bits .xor .u32 (U x) 3988292384 = U (x ^^^ Crc.poly) := U_xor x Crc.poly
theorem U_and1 (x : BitVec 32) : (bits .and .u32 (U x) 1 == 1) = Crc.odd x := by
  unfold Crc.odd
  have h := u32_and_nat x.toNat 1 x.isLt (by decide)
  have e : bits .and .u32 (U x) 1 = ((x.toNat &&& 1 : Nat) : Int) := h
  rw [e, Nat.and_one_is_mod]
  have hb : x.getLsbD 0 = x.toNat.testBit 0 := rfl
  rw [hb, Nat.testBit_zero]
  have : x.toNat % 2 = 0 ∨ x.toNat % 2 = 1 := by omega
  rcases this with h | h <;> simp [h]
theorem U_shr1 (x : BitVec 32) : U x / (2 : Int) = U (x >>> 1) := by
  unfold U
  rw [BitVec.toNat_ushiftRight, Nat.shiftRight_eq_div_pow]
  simp
theorem U_shr8 (x : BitVec 32) : U x / (256 : Int) = U (x >>> 8) := by
  unfold U
  rw [BitVec.toNat_ushiftRight, Nat.shiftRight_eq_div_pow]
  simp
theorem B_xor (x y : BitVec 8) : bits .xor .u8 (B x) (B y) = B (x ^^^ y) := by
  unfold B
  rw [u8_xor_nat _ _ x.isLt y.isLt, BitVec.toNat_xor]
theorem U_low (x : BitVec 32) : U x % (256 : Int) = B (x.setWidth 8) := by
  unfold U B
  rw [BitVec.toNat_setWidth]
  omega
theorem U_mod2 (x : BitVec 32) : (U x % (2 : Int) == (1 : Int)) = Crc.odd x := by
  unfold Crc.odd
  have hb : x.getLsbD 0 = x.toNat.testBit 0 := rfl
  rw [hb, Nat.testBit_zero]
  unfold U
  have : x.toNat % 2 = 0 ∨ x.toNat % 2 = 1 := by omega
  rcases this with h | h
  · have e : (x.toNat : Int) % 2 = 0 := by omega
    simp [h, e]
  · have e : (x.toNat : Int) % 2 = 1 := by omega
    simp [h, e]
theorem B_mod32 (x : BitVec 8) : B x % (4294967296 : Int) = U (x.setWidth 32) := by
  unfold B U
  rw [BitVec.toNat_setWidth]
  have := x.isLt
  omega
theorem U_mod32 (x : BitVec 32) : U x % (4294967296 : Int) = U x := by
  unfold U
  have := x.isLt
  omega
end Go.Proofs.Ythljgkaigjokjaa
