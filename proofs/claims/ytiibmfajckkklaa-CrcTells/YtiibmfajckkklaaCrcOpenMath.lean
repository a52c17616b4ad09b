/- What was wrapped: plain facts. -/
import Derived.Test.YtiibmfajckkklaaCrcOpen
namespace Go.Proofs.Ytiibmfajckkklaa
open Go.RowKit

theorem rd_le4 (x : BitVec 32) : rdTo (le4 x) 4 = x := by
  have h := quad_join x
  have e : rdTo (le4 x) 4 = (((quad x 0).setWidth 32 ||| (quad x 1).setWidth 32 <<< 8) ||| (quad x 2).setWidth 32 <<< 16) ||| (quad x 3).setWidth 32 <<< 24 := by
    simp [rdTo, le4]
  rw [e, h]
theorem quad_of (a b c d : BitVec 8) (k : Nat) : quad (rdTo [a, b, c, d] 4) k = if k = 0 then a else if k = 1 then b else if k = 2 then c else if k = 3 then d else BitVec.ofNat 8 0 := by
  apply BitVec.eq_of_getLsbD_eq
  intro i hi
  simp only [quad, rdTo, List.getD, BitVec.getLsbD_setWidth, BitVec.getLsbD_ushiftRight]
  by_cases hk : k < 4
  · have : k = 0 ∨ k = 1 ∨ k = 2 ∨ k = 3 := by omega
    rcases this with rfl | rfl | rfl | rfl
    · simp [hi, show i < 32 by omega, show i < 16 by omega, show i < 24 by omega]
    · simp [hi, show 8 + i < 32 by omega, show 8 + i < 16 by omega, show 8 + i < 24 by omega]
    · simp [hi, show 16 + i < 32 by omega, show ¬ 16 + i < 8 by omega, show 16 + i < 24 by omega, show 16 + i - 8 = 8 + i by omega, BitVec.getLsbD_of_ge a (16 + i) (by omega)]
    · simp [hi, show 24 + i < 32 by omega, show ¬ 24 + i < 8 by omega, show ¬ 24 + i < 16 by omega, show 24 + i - 8 = 16 + i by omega, show 24 + i - 16 = 8 + i by omega, BitVec.getLsbD_of_ge a (24 + i) (by omega), BitVec.getLsbD_of_ge b (16 + i) (by omega)]
  · rw [BitVec.getLsbD_of_ge _ _ (by omega)]
    simp [show ¬ k = 0 by omega, show ¬ k = 1 by omega, show ¬ k = 2 by omega, show ¬ k = 3 by omega]
theorem le4_rd (q : List (BitVec 8)) (h : q.length = 4) : le4 (rdTo q 4) = q := by
  match q, h with
  | [a, b, c, d], _ =>
    unfold le4
    rw [quad_of, quad_of, quad_of, quad_of]
    rfl
theorem le4_length (x : BitVec 32) : (le4 x).length = 4 := rfl
theorem wrap_length (l : List (BitVec 8)) : (wrap l).length = l.length + 4 := by simp [wrap, le4_length]
/-- The test of Open. -/
theorem open_test (p q : List (BitVec 8)) (h : q.length = 4) : (U (Crc.sum p) != U (rdTo q 4)) = !decide (q = le4 (Crc.sum p)) := by
  by_cases e : q = le4 (Crc.sum p)
  · rw [e, rd_le4]; simp
  · have : Crc.sum p ≠ rdTo q 4 := fun hh => e (by rw [hh, le4_rd q h])
    have h2 : U (Crc.sum p) ≠ U (rdTo q 4) := fun hh => this (U_inj hh)
    simp [e, h2]
end Go.Proofs.Ytiibmfajckkklaa
