/- Walks: byteAdds, byteMap: tables that are made in a loop and handed back by value. -/
import Derived.Test.YtiibmfajckkklaaCrcMem
import Derived.Test.YtiibmfajckkklaaCrcWalkA
import Derived.Lib.Hide
namespace Go.Proofs.Ytiibmfajckkklaa
open Go.RowKit
attribute [local go_sem] U_xor U_xor_ones U_xor_poly U_and1 U_shr1 U_shr8 B_xor U_low U_mod2

def adds (i : Nat) : BitVec 32 := Crc.stps 8 (BitVec.ofNat 32 i)
def upTo (f : Nat → BitVec 32) (k : Nat) (i : Nat) : BitVec 32 := if i < k then f i else (BitVec.ofNat 32 0)
theorem words_upTo (n : Nat) (f : Nat → BitVec 32) (k : Nat) : (words n (upTo f k)).setIfInBounds k (.int .u32 (U (f k))) = words n (upTo f (k + 1)) := by
  rw [words_put]
  apply words_congr
  intro i _
  unfold upTo
  by_cases h : i = k
  · subst h; simp
  · rw [if_neg h]
    by_cases h2 : i < k
    · rw [if_pos h2, if_pos (by omega)]
    · rw [if_neg h2, if_neg (by omega)]
theorem words_full (n : Nat) (f : Nat → BitVec 32) : words n (upTo f n) = words n f := words_congr n _ _ (fun i hi => by simp [upTo, hi])

theorem U_bit (k : Nat) : (2 : Int) ^ k % 4294967296 = U (Crc.bit k) := by
  unfold U Crc.bit
  rw [BitVec.toNat_shiftLeft, Nat.shiftLeft_eq]
  simp

theorem byteSteps_at (n : Int) (x : BitVec 32) (h : n = U x) (w : World) :
    Calls Try.prog 33 #[.int .u32 n] w fun e w' => e = .returned (.int .u32 (U (Crc.stps 8 x))) ∧ w = w' := by
  subst h
  exact byteSteps_any x w

theorem info256 : (Try.prog.info? 43).map (fun i => (i.zero, i.size)) = some (some (.agg (words 256 (upTo adds 0))), 256) := by kernel_rfl

set_option maxRecDepth 100000 in
theorem byteAdds_any (w : World) :
    Calls Try.prog 26 #[] w fun e w' => e = .returned (.agg (words 256 adds)) ∧ Below w.heap.size w w' := by
  obtain ⟨hz, hs⟩ := zero_of_info info256
  have HS := Lib.hid hs
  clear hs
  go_enter Try.func26, Try.ntmps26
  go_wp2
  go_loopw [3] (fun i wr => ∃ k : Nat, k ≤ 256 ∧ i = .int .i64 k ∧ Row wr w.heap.size 43 (words 256 (upTo adds 0)) ∧ Row wr (w.heap.size + 1) 43 (words 256 (upTo adds k)) ∧ Below w.heap.size w wr)
    (fun i _ => 256 - (intOf i).toNat)
  case atStart =>
    refine ⟨0, by omega, rfl, (Row.fresh w _ _).past _, ?_, ((Below.refl _ _).alloc (Nat.le_refl _) _).alloc (by simp) _⟩
    exact (by simp : (w.alloc (.cells (words 256 (upTo adds 0)) 43)).heap.size = w.heap.size + 1) ▸ Row.fresh (w.alloc (.cells (words 256 (upTo adds 0)) 43)) _ _
  case round =>
    obtain ⟨k, hk, rfl, hr0, hr1, hbel⟩ := hrel
    by_cases hlt : k < 256
    · have hc := hr1.cell k
      rw [words_get _ _ _ hlt] at hc
      have hf := hr1.thaw k
      have HX := Lib.hid (show (k : Int) = U (BitVec.ofNat 32 k) by unfold U; rw [BitVec.toNat_ofNat]; omega)
      go_wp2_with (go_at_call 33; refine (byteSteps_at _ (BitVec.ofNat 32 k) HX.out _).mono ?_; rintro e w' ⟨rfl, rfl⟩)
      go_roundw
      case rel => exact ⟨k + 1, by omega, by go_num, hr0.away (by simp) _, (words_upTo 256 adds k) ▸ hr1.put k _, hbel.setCell (by simp) _⟩
      case measure => simp [intOf]; omega
    · obtain rfl : k = 256 := by omega
      rw [words_full] at hr1
      have HSZ := Lib.hid (show (Try.prog.info? 43).map (·.size) = some (words 256 adds).size by rw [words_size]; exact HS.out)
      have HZZ := Lib.hid (show (words 256 (upTo adds 0)).size = (words 256 adds).size by rw [words_size, words_size])
      go_wp2_with (first | ((with_reducible show wpList _ _ _ (Oper.mk _ (Op.load 43 _) _ _ _ _ :: _) _ _); refine wpList_load_row rfl 43 _ rfl (w.heap.size + 1) rfl _ (words 256 adds) (0, 0) _ hr1 Try.underlying43 rfl HSZ.out ?_) | ((with_reducible show wpList _ _ _ (Oper.mk _ (Op.store 43 _ _) _ _ _ _ :: _) _ _); refine wpList_store_row rfl 43 _ _ rfl w.heap.size (words 256 adds) rfl rfl 43 (words 256 (upTo adds 0)) hr0 HSZ.out HZZ.out (words_cells _ _) ?_))
      exact bodyPost_ret (v := .agg (words 256 adds)) (results_cell_row rfl _ _ w.heap.size 43 (words 256 adds) (0, 0) _ rfl (hr0.whole _) Try.underlying43 rfl HSZ.out) rfl ⟨rfl, below_setRow' hbel (Nat.le_refl _) _⟩
theorem info32 : (Try.prog.info? 48).map (fun i => (i.zero, i.size)) = some (some (.agg (words 32 (upTo (Crc.mapOf 8) 0))), 32) := by kernel_rfl

set_option maxRecDepth 100000 in
theorem byteMap_any (w : World) :
    Calls Try.prog 28 #[] w fun e w' => e = .returned (.agg (words 32 (Crc.mapOf 8))) ∧ Below w.heap.size w w' := by
  obtain ⟨hz, hs⟩ := zero_of_info info32
  have HS := Lib.hid hs
  clear hs
  go_enter Try.func28, Try.ntmps28
  go_wp2
  go_loopw [3] (fun i wr => ∃ k : Nat, k ≤ 32 ∧ i = .int .i64 k ∧ Row wr w.heap.size 48 (words 32 (upTo (Crc.mapOf 8) 0)) ∧ Row wr (w.heap.size + 1) 48 (words 32 (upTo (Crc.mapOf 8) k)) ∧ Below w.heap.size w wr)
    (fun i _ => 32 - (intOf i).toNat)
  case atStart =>
    refine ⟨0, by omega, rfl, (Row.fresh w _ _).past _, ?_, ((Below.refl _ _).alloc (Nat.le_refl _) _).alloc (by simp) _⟩
    exact (by simp : (w.alloc (.cells (words 32 (upTo (Crc.mapOf 8) 0)) 48)).heap.size = w.heap.size + 1) ▸ Row.fresh (w.alloc (.cells (words 32 (upTo (Crc.mapOf 8) 0)) 48)) _ _
  case round =>
    obtain ⟨k, hk, rfl, hr0, hr1, hbel⟩ := hrel
    by_cases hlt : k < 32
    · have hc := hr1.cell k
      rw [words_get _ _ _ hlt] at hc
      have hf := hr1.thaw k
      have HX := Lib.hid (U_bit k)
      go_wp2_with (go_at_call 33; refine (byteSteps_at _ (Crc.bit k) HX.out _).mono ?_; rintro e w' ⟨rfl, rfl⟩)
      go_roundw
      case rel => exact ⟨k + 1, by omega, by go_num, hr0.away (by simp) _, (words_upTo 32 (Crc.mapOf 8) k) ▸ hr1.put k _, hbel.setCell (by simp) _⟩
      case measure => simp [intOf]; omega
    · obtain rfl : k = 32 := by omega
      rw [words_full] at hr1
      have HSZ := Lib.hid (show (Try.prog.info? 48).map (·.size) = some (words 32 (Crc.mapOf 8)).size by rw [words_size]; exact HS.out)
      have HZZ := Lib.hid (show (words 32 (upTo (Crc.mapOf 8) 0)).size = (words 32 (Crc.mapOf 8)).size by rw [words_size, words_size])
      go_wp2_with (first | ((with_reducible show wpList _ _ _ (Oper.mk _ (Op.load 48 _) _ _ _ _ :: _) _ _); refine wpList_load_row rfl 48 _ rfl (w.heap.size + 1) rfl _ (words 32 (Crc.mapOf 8)) (0, 0) _ hr1 Try.underlying48 rfl HSZ.out ?_) | ((with_reducible show wpList _ _ _ (Oper.mk _ (Op.store 48 _ _) _ _ _ _ :: _) _ _); refine wpList_store_row rfl 48 _ _ rfl w.heap.size (words 32 (Crc.mapOf 8)) rfl rfl 48 (words 32 (upTo (Crc.mapOf 8) 0)) hr0 HSZ.out HZZ.out (words_cells _ _) ?_))
      exact bodyPost_ret (v := .agg (words 32 (Crc.mapOf 8))) (results_cell_row rfl _ _ w.heap.size 48 (words 32 (Crc.mapOf 8)) (0, 0) _ rfl (hr0.whole _) Try.underlying48 rfl HSZ.out) rfl ⟨rfl, below_setRow' hbel (Nat.le_refl _) _⟩
end Go.Proofs.Ytiibmfajckkklaa
