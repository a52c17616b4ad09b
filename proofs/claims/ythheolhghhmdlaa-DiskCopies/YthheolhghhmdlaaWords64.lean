/- How the walk's numbers stand for words of 64 bits: W without a sign, I with one. -/
import Derived.Test.YthheolhghhmdlaaCrcBits
namespace Go.Proofs.Ythheolhghhmdlaa
open Go.RowKit

/-- A word of 64 bits as the model's uint64; as its int. -/
def W (x : BitVec 64) : Int := (x.toNat : Int)
def I (x : BitVec 64) : Int := x.toInt

theorem W_ge (x : BitVec 64) : 0 ≤ W x := by unfold W; omega
theorem W_lt (x : BitVec 64) : W x < 18446744073709551616 := by unfold W; have := x.isLt; omega
theorem I_ge (x : BitVec 64) : -9223372036854775808 ≤ I x := by unfold I; have := BitVec.le_toInt x; omega
theorem I_le (x : BitVec 64) : I x ≤ 9223372036854775807 := by unfold I; have := BitVec.toInt_lt (x := x); omega
theorem W_of (n : Int) (h : (Lit.int .u64 n).wf = true) : ∃ x, n = W x := by
  simp [Lit.wf, IntKind.min, IntKind.max, IntKind.signed, IntKind.bits] at h
  refine ⟨BitVec.ofNat 64 n.toNat, ?_⟩
  unfold W
  rw [BitVec.toNat_ofNat]
  omega
theorem I_of (n : Int) (h : (Lit.int .i64 n).wf = true) : ∃ x, n = I x := by
  simp [Lit.wf, IntKind.min, IntKind.max, IntKind.signed, IntKind.bits] at h
  refine ⟨BitVec.ofInt 64 n, ?_⟩
  unfold I
  rw [BitVec.toInt_ofInt]
  simp only [Int.bmod]
  split <;> omega
theorem W_inj {x y : BitVec 64} (h : W x = W y) : x = y := by
  unfold W at h
  exact BitVec.eq_of_toNat_eq (by omega)
theorem I_inj {x y : BitVec 64} (h : I x = I y) : x = y := BitVec.eq_of_toInt_eq h
theorem W_beq (x y : BitVec 64) : (W x == W y) = decide (x = y) := by
  by_cases h : x = y
  · subst h; simp
  · have : W x ≠ W y := fun e => h (W_inj e)
    simp [this, h]
theorem I_bne (x y : BitVec 64) : (I x != I y) = !decide (x = y) := by
  by_cases h : x = y
  · subst h; simp
  · have : I x ≠ I y := fun e => h (I_inj e)
    simp [this, h]

theorem ofInt_u64 (a : Nat) (ha : a < 18446744073709551616) : (BitVec.ofInt 64 (a : Int)).toNat = a := by
  rw [BitVec.ofInt_natCast, BitVec.toNat_ofNat]; exact Nat.mod_eq_of_lt (by omega)
theorem W_or (x y : BitVec 64) : bits .or .u64 (W x) (W y) = W (x ||| y) := by
  unfold W
  show IntKind.u64.wrap ((BitVec.ofInt 64 (x.toNat : Int) ||| BitVec.ofInt 64 (y.toNat : Int)).toNat : Int) = _
  have hx := x.isLt
  have hy := y.isLt
  have h : x.toNat ||| y.toNat < 2 ^ 64 := Nat.or_lt_two_pow (by omega) (by omega)
  rw [BitVec.toNat_or, ofInt_u64 _ (by omega), ofInt_u64 _ (by omega), BitVec.toNat_or, IntKind.wrap_u64]
  omega
theorem W_shl (x : BitVec 64) (j : Nat) : W x * (2 : Int) ^ j % (18446744073709551616 : Int) = W (x <<< j) := by
  unfold W
  rw [BitVec.toNat_shiftLeft, Nat.shiftLeft_eq]
  simp
theorem W_shr8 (x : BitVec 64) : W x / (256 : Int) = W (x >>> 8) := by
  unfold W
  rw [BitVec.toNat_ushiftRight, Nat.shiftRight_eq_div_pow]
  simp
theorem W_low (x : BitVec 64) : W x % (256 : Int) = B (x.setWidth 8) := by
  unfold W B
  rw [BitVec.toNat_setWidth]
  omega
theorem B_low (x : BitVec 8) : B x % (256 : Int) = B x := by
  unfold B
  have := x.isLt
  omega
theorem B_mod64 (x : BitVec 8) : B x % (18446744073709551616 : Int) = W (x.setWidth 64) := by
  unfold B W
  rw [BitVec.toNat_setWidth]
  have := x.isLt
  omega
theorem W_mod64 (x : BitVec 64) : W x % (18446744073709551616 : Int) = W x := by
  unfold W
  have := x.isLt
  omega
theorem I_mod64 (x : BitVec 64) : I x % (18446744073709551616 : Int) = W x := by
  unfold I W
  have hx := x.isLt
  rw [BitVec.toInt_eq_toNat_cond]
  split <;> omega
theorem W_wrap64 (x : BitVec 64) : wrap64 (W x) = I x := by
  unfold wrap64 I W
  have hx := x.isLt
  rw [BitVec.toInt_eq_toNat_cond]
  split <;> omega
theorem W_nat (n : Nat) (h : n < 18446744073709551616) : (n : Int) = W (BitVec.ofNat 64 n) := by
  unfold W
  rw [BitVec.toNat_ofNat]
  omega
theorem W_mul256 (x : BitVec 64) : (256 : Int) * W x % (18446744073709551616 : Int) = W (x <<< 8) := by
  rw [← W_shl, Int.mul_comm]
  rfl
theorem W_add (x y : BitVec 64) : (W x + W y) % (18446744073709551616 : Int) = W (x + y) := by
  unfold W
  rw [BitVec.toNat_add]
  omega
theorem W_tmod (x : BitVec 64) : (W x).tmod (256 : Int) = B (x.setWidth 8) := by rw [Int.tmod_eq_emod_of_nonneg (W_ge x), W_low]
theorem W_tdiv (x : BitVec 64) : (W x).tdiv (256 : Int) = W (x >>> 8) := by rw [Int.tdiv_eq_ediv_of_nonneg (W_ge x), W_shr8]
/- The same, as the walk spells a wrap of 64 bits. -/
theorem B_w64 (x : BitVec 8) : IntKind.u64.wrap (B x) = W (x.setWidth 64) := by rw [IntKind.wrap_u64, B_mod64]
theorem W_w64 (x : BitVec 64) : IntKind.u64.wrap (W x) = W x := by rw [IntKind.wrap_u64, W_mod64]
theorem I_w64 (x : BitVec 64) : IntKind.u64.wrap (I x) = W x := by rw [IntKind.wrap_u64, I_mod64]
theorem W_shl_w (x : BitVec 64) (j : Nat) : IntKind.u64.wrap (W x * (2 : Int) ^ j) = W (x <<< j) := by rw [IntKind.wrap_u64, W_shl]
theorem W_mul256_w (x : BitVec 64) : IntKind.u64.wrap ((256 : Int) * W x) = W (x <<< 8) := by rw [IntKind.wrap_u64, W_mul256]
theorem W_add_w (x y : BitVec 64) : IntKind.u64.wrap (W x + W y) = W (x + y) := by rw [IntKind.wrap_u64, W_add]
end Go.Proofs.Ythheolhghhmdlaa
