/- Walks: Wrap, readSum, Open. -/
import Derived.Test.YtiibmfajckkklaaCrcWalkC
import Derived.Test.YtiibmfajckkklaaBytes
namespace Go.Proofs.Ytiibmfajckkklaa
open Go.RowKit
attribute [local go_sem] U_xor U_xor_ones U_xor_poly U_and1 U_shr1 U_shr8 B_xor U_low U_mod2 B_mod32 U_mod32

/-- The four bytes of a sum, the least first. -/
def quad (x : BitVec 32) (k : Nat) : BitVec 8 := (x >>> (8 * k)).setWidth 8
def le4 (x : BitVec 32) : List (BitVec 8) := [quad x 0, quad x 1, quad x 2, quad x 3]
def wrap (l : List (BitVec 8)) : List (BitVec 8) := l ++ le4 (Crc.sum l)
/-- l, k bytes of x, and noughts. -/
def lay (l : List (BitVec 8)) (x : BitVec 32) (k : Nat) : List (BitVec 8) := l ++ ((le4 x).take k ++ List.replicate (4 - k) (BitVec.ofNat 8 0))

theorem cells_set (l : List (BitVec 8)) (i : Nat) (x : BitVec 8) : (cells l).toArray.setIfInBounds i (.int .u8 (B x)) = (cells (l.set i x)).toArray := by
  simp [cells, List.map_set]
theorem lay_set (l : List (BitVec 8)) (x : BitVec 32) (k : Nat) (h : k < 4) : (lay l x k).set (l.length + k) (quad x k) = lay l x (k + 1) := by
  unfold lay
  rw [List.set_append_right _ _ (by omega)]
  congr 1
  rw [show l.length + k - l.length = k by omega]
  have : k = 0 ∨ k = 1 ∨ k = 2 ∨ k = 3 := by omega
  rcases this with rfl | rfl | rfl | rfl <;> rfl
theorem lay_length (l : List (BitVec 8)) (x : BitVec 32) (k : Nat) (h : k ≤ 4) : (lay l x k).length = l.length + 4 := by
  simp [lay, le4]; omega
theorem lay_zero (l : List (BitVec 8)) (x : BitVec 32) : lay l x 0 = l ++ List.replicate 4 (BitVec.ofNat 8 0) := rfl
theorem lay_four (l : List (BitVec 8)) (x : BitVec 32) : lay l x 4 = l ++ le4 x := by simp [lay, le4]

theorem quad_val (s : BitVec 32) (k : Nat) : U s / (2 : Int) ^ (8 * k) % (256 : Int) = B (quad s k) := by
  have e : U s / (2 : Int) ^ (8 * k) = U (s >>> (8 * k)) := by
    unfold U
    rw [BitVec.toNat_ushiftRight, Nat.shiftRight_eq_div_pow]
    simp
  rw [e, U_low]
  rfl
theorem lay_copy (l : List (BitVec 8)) (x : BitVec 32) : lay l x 0 = l.take (l.length + 4) ++ (List.replicate (l.length + 4) (BitVec.ofNat 8 0)).drop (l.take (l.length + 4)).length := by
  rw [lay_zero, List.take_of_length_le (by omega)]
  simp

set_option maxHeartbeats 1000000 in
theorem wrap_any (a : Option Addr) (l : List (BitVec 8)) (c : Nat) (w : World) (hB : Bytes w a l) (hl : l.length ≤ 1000000000) :
    Calls Try.prog 21 #[.slice a l.length c] w fun e w' => ∃ g, e = .returned (.slice (some ⟨g, 0, none⟩) (l.length + 4) (l.length + 4)) ∧ w.heap.size ≤ g ∧ Row w' g 5 (cells (wrap l)).toArray ∧ Below w.heap.size w w' := by
  go_enter Try.func21, Try.ntmps21
  go_wp2_with (first | ((with_reducible show wpList _ _ _ (Oper.mk _ (Op.makeSlice _ _ _) _ _ _ _ :: _) _ _); refine wpList_makeB rfl _ _ rfl _ (l.length + 4) rfl rfl (by omega) (by omega) w.heap.size w (Below.refl _ _) (Nat.le_refl _) ?_; intro w1 HR1 hb1) | ((with_reducible show wpList _ _ _ (Oper.mk _ (Op.call ⟨Callee.builtin Builtin.copy, _, _⟩) _ _ _ _ :: _) _ _); refine wpList_copyB rfl _ _ rfl w.heap.size (l.length + 4) (l.length + 4) a l (List.replicate (l.length + 4) (BitVec.ofNat 8 0)) c rfl rfl HR1.out (hB.under hb1) (by simp) w.heap.size w hb1 (Nat.le_refl _) (lay l (Crc.sum l) 0) (lay_copy l _) l.length (by simp) ?_; clear HR1 hb1; intro w2 HR2 hb2))
  refine (sum_any a l c w2 (hB.under hb2) hl).mono ?_
  rintro e w3 ⟨rfl, hb3⟩
  have hr3 := HR2.out.under hb3 HR2.out.lt
  have hb03 := hb2.trans (hb3.mono hb2.size)
  clear HR2 hb2 hb3
  go_wp2
  go_loopw [15] (fun i wr => ∃ k : Nat, k ≤ 4 ∧ i = .int .i64 k ∧ Row wr w.heap.size 5 (cells (lay l (Crc.sum l) k)).toArray ∧ Below w.heap.size w wr) (fun i _ => 4 - (intOf i).toNat)
  case atStart => exact ⟨0, by omega, rfl, hr3, hb03⟩
  case round =>
    obtain ⟨k, hk, rfl, hr, hb⟩ := hrel
    by_cases hlt : k < 4
    · have hc := hr.cell (l.length + k)
      have hlen := lay_length l (Crc.sum l) k (by omega)
      obtain ⟨v, hv⟩ : ∃ v, (cells (lay l (Crc.sum l) k)).toArray[l.length + k]? = some v := ⟨_, Array.getElem?_eq_getElem (by simp [cells_length]; omega)⟩
      rw [hv] at hc
      have hf := hr.thaw (l.length + k)
      have HR := Lib.hid (hr.put (l.length + k) (.int .u8 (B (quad (Crc.sum l) k))))
      rw [cells_set, lay_set l _ k hlt] at HR
      have HB := Lib.hid (hb.setCell (p := ⟨w.heap.size, l.length + k, none⟩) (Nat.le_refl _) (.int .u8 (B (quad (Crc.sum l) k))))
      clear hr hb hlen hv
      generalize Crc.sum l = s at *
      go_wp2
      go_roundw
      case rel => rw [quad_val]; exact ⟨k + 1, by omega, by go_num, HR.out, HB.out⟩
      case measure => simp [intOf]; omega
    · obtain rfl : k = 4 := by omega
      rw [lay_four] at hr
      go_wp2
      go_ret
      exact ⟨w.heap.size, rfl, Nat.le_refl _, hr, hb⟩

/-- The sum that four bytes tell. -/
theorem quad_join (x : BitVec 32) : (((quad x 0).setWidth 32 ||| (quad x 1).setWidth 32 <<< 8) ||| (quad x 2).setWidth 32 <<< 16) ||| (quad x 3).setWidth 32 <<< 24 = x := by
  apply BitVec.eq_of_getLsbD_eq
  intro i hi
  simp only [quad, BitVec.getLsbD_or, BitVec.getLsbD_shiftLeft, BitVec.getLsbD_setWidth, BitVec.getLsbD_ushiftRight]
  have : i < 8 ∨ (8 ≤ i ∧ i < 16) ∨ (16 ≤ i ∧ i < 24) ∨ (24 ≤ i ∧ i < 32) := by omega
  rcases this with h | ⟨h, h'⟩ | ⟨h, h'⟩ | ⟨h, h'⟩
  · simp [h, hi, show i < 16 by omega, show i < 24 by omega]
  · simp [hi, show ¬ i < 8 by omega, show i < 16 by omega, show i < 24 by omega, show i - 8 < 8 by omega, show i - 8 < 32 by omega, show 8 + (i - 8) = i by omega]
  · simp [hi, show ¬ i < 8 by omega, show ¬ i < 16 by omega, show i < 24 by omega, show ¬ i - 8 < 8 by omega, show i - 16 < 8 by omega, show i - 16 < 32 by omega, show 16 + (i - 16) = i by omega]
  · simp [hi, show ¬ i < 8 by omega, show ¬ i < 16 by omega, show ¬ i < 24 by omega, show ¬ i - 8 < 8 by omega, show ¬ i - 16 < 8 by omega, show i - 24 < 8 by omega, show i - 24 < 32 by omega, show 24 + (i - 24) = i by omega]
end Go.Proofs.Ytiibmfajckkklaa
