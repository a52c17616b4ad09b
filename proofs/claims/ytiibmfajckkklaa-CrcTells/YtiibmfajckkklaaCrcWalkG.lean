/- Walks: Join. -/
import Derived.Test.YtiibmfajckkklaaCrcWalkF
namespace Go.Proofs.Ytiibmfajckkklaa
open Go.RowKit
attribute [local go_sem] U_xor U_xor_ones U_xor_poly U_and1 U_shr1 U_shr8 B_xor U_low U_mod2 B_mod32 U_mod32

theorem pow_step (n k : Nat) (x : BitVec 32) : Crc.stps (8 * (n % 2 ^ (k + 1))) x = if n.testBit k then Crc.stps (8 * 2 ^ k) (Crc.stps (8 * (n % 2 ^ k)) x) else Crc.stps (8 * (n % 2 ^ k)) x := by
  have e : n % 2 ^ (k + 1) = n % 2 ^ k + 2 ^ k * (n / 2 ^ k % 2) := by
    rw [Nat.pow_succ, Nat.mod_mul]
  have hb : n.testBit k = decide (n / 2 ^ k % 2 = 1) := by
    rw [Nat.testBit_eq_decide_div_mod_eq]
  rw [hb, e]
  have : n / 2 ^ k % 2 = 0 ∨ n / 2 ^ k % 2 = 1 := by omega
  rcases this with h | h
  · rw [h]; simp
  · rw [h]
    simp only [decide_true, if_true, Nat.mul_one]
    rw [Nat.mul_add, Crc.stps_add]
theorem words_square (k : Nat) : words 32 (fun i => Crc.appTo (Crc.mapOf (8 * 2 ^ k)) (Crc.mapOf (8 * 2 ^ k) i) 32) = words 32 (Crc.mapOf (8 * 2 ^ (k + 1))) := by
  apply words_congr
  intro i _
  rw [Crc.square_mapOf]
  congr 1
  rw [Nat.pow_succ]; omega

theorem join_neg (x y : BitVec 32) (n : Int) (w : World) (hn : n < 0) :
    Calls Try.prog 16 #[.int .u32 (U x), .int .u32 (U y), .int .i64 n] w fun e w' => e = .returned (.int .u32 (U (x ^^^ y))) ∧ w = w' := by
  go_enter Try.func16, Try.ntmps16
  go_wp2
  go_ret
  exact ⟨rfl, rfl⟩

theorem wraps_i64 (n : Int) (h0 : 0 ≤ n) (h1 : n < 2 ^ 63) : IntKind.i64.wrap n = n := by rw [IntKind.wrap_i64]; omega
theorem i64_bitAt (n k : Nat) (hn : n < 9223372036854775808) : (bits BinOp.and IntKind.i64 ((n : Int) / (2 : Int) ^ k) 1 == 1) = n.testBit k := by
  have hd : n / 2 ^ k ≤ n := Nat.div_le_self _ _
  have e0 : (n : Int) / (2 : Int) ^ k = ((n / 2 ^ k : Nat) : Int) := by simp
  have e : bits BinOp.and IntKind.i64 ((n : Int) / (2 : Int) ^ k) 1 = ((n / 2 ^ k : Nat) : Int) % 2 := by
    rw [e0]
    generalize n / 2 ^ k = q at *
    exact bits_mask .i64 63 (by decide) wraps_i64 1 (by decide) _ (by omega) (by omega)
  rw [e, Nat.testBit_eq_decide_div_mod_eq]
  have : n / 2 ^ k % 2 = 0 ∨ n / 2 ^ k % 2 = 1 := by omega
  rcases this with h | h
  · have : ((n / 2 ^ k : Nat) : Int) % 2 = 0 := by omega
    rw [h, this]; rfl
  · have : ((n / 2 ^ k : Nat) : Int) % 2 = 1 := by omega
    rw [h, this]; rfl

theorem len_at (z : Int) (x : Nat) (w : World) (h : z = (x : Int)) (hx : x < 9223372036854775808) :
    Calls Try.prog 29 #[.int .u64 z] w fun e w' => e = .returned (.int .i64 (bitLen x : Nat)) ∧ w = w' := by
  subst h
  exact len_any x w hx
theorem bitLen_le63 (n : Nat) (h : n < 9223372036854775808) : bitLen n ≤ 63 := by
  unfold bitLen
  split
  · omega
  · rename_i h0
    have := (Nat.log2_lt h0).2 (show n < 2 ^ 63 from h)
    omega

set_option maxHeartbeats 1000000 in
set_option maxRecDepth 100000 in
theorem join_pos (x y : BitVec 32) (n : Nat) (w : World) (hn : n < 9223372036854775808) :
    Calls Try.prog 16 #[.int .u32 (U x), .int .u32 (U y), .int .i64 (n : Int)] w fun e w' => e = .returned (.int .u32 (U (Crc.join x y n))) ∧ Below w.heap.size w w' := by
  obtain ⟨hz, hs⟩ := zero_of_info info32
  have HS := Lib.hid hs
  clear hs
  have HN := Lib.hid hn
  clear hn
  have hd : decide ((n : Int) < 0) = false := decide_eq_false (by omega)
  go_enter Try.func16, Try.ntmps16
  go_wp2_with fail
  refine (byteMap_any _).mono ?_
  rintro e w1 ⟨rfl, hb1⟩
  have HSZ := Lib.hid (show (Try.prog.info? 48).map (·.size) = some (words 32 (Crc.mapOf 8)).size by rw [words_size]; exact HS.out)
  have HZZ := Lib.hid (show (words 32 (upTo (Crc.mapOf 8) 0)).size = (words 32 (Crc.mapOf 8)).size by rw [words_size, words_size])
  go_wp2_with ((with_reducible show wpList _ _ _ (Oper.mk _ (Op.store 48 _ _) _ _ _ _ :: _) _ _); refine wpList_store_row rfl 48 _ _ rfl w1.heap.size (words 32 (Crc.mapOf 8)) rfl rfl 48 (words 32 (upTo (Crc.mapOf 8) 0)) (Row.fresh w1 _ _) HSZ.out HZZ.out (words_cells _ _) ?_)
  have HU := Lib.hid (show IntKind.u64.wrap (n : Int) = (n : Int) by have := HN.out; simp [IntKind.wrap, IntKind.bits, IntKind.signed]; omega)
  refine (len_at _ n _ HU.out HN.out).mono ?_
  rintro e w2 ⟨rfl, rfl⟩
  have hrow := (Row.fresh w1 48 (words 32 (upTo (Crc.mapOf 8) 0))).whole (words 32 (Crc.mapOf 8))
  have hbel : Below w.heap.size w ((w1.alloc (.cells (words 32 (upTo (Crc.mapOf 8) 0)) 48)).setRow w1.heap.size (words 32 (Crc.mapOf 8))) := below_setRow' (hb1.alloc hb1.size _) hb1.size _
  have hgs := hb1.size
  generalize w1.heap.size = g at *
  generalize (w1.alloc (.cells (words 32 (upTo (Crc.mapOf 8) 0)) 48)).setRow g (words 32 (Crc.mapOf 8)) = W at *
  clear hb1 hz
  have hL : bitLen n ≤ 63 := bitLen_le63 n HN.out
  have HL := Lib.hid (bitLen_spec n).1
  generalize bitLen n = L at *
  go_wp2
  go_loopw [0, 18] (fun v i wr => ∃ k : Nat, k ≤ L ∧ i = .int .i64 k ∧ v = .int .u32 (U (Crc.stps (8 * (n % 2 ^ k)) x)) ∧ Row wr g 48 (words 32 (Crc.mapOf (8 * 2 ^ k))) ∧ Below w.heap.size w wr) (fun _ i _ => L - (intOf i).toNat)
  case atStart => exact ⟨0, by omega, rfl, by simp [Crc.stps, Nat.mod_one], hrow, hbel⟩
  case round =>
    obtain ⟨k, hk, rfl, rfl, hr, hbel2⟩ := hrel
    by_cases hlt : k < L
    · have hbit := i64_bitAt n k HN.out
      have HP := Lib.hid (pow_step n k x)
      have HQ := Lib.hid (words_square k)
      have HA := Lib.hid (Crc.appTo_mapOf (8 * 2 ^ k))
      generalize Crc.stps (8 * (n % 2 ^ k)) x = v at *
      generalize hm : Crc.mapOf (8 * 2 ^ k) = m at *
      have HM := Lib.hid hm
      clear hm
      have HSM := Lib.hid (show (Try.prog.info? 48).map (·.size) = some (words 32 m).size by rw [words_size]; exact HS.out)
      generalize hm2 : (fun i => Crc.appTo m (m i) 32) = m2 at *
      have HM2 := Lib.hid hm2
      clear hm2
      have HSM2 := Lib.hid (show (Try.prog.info? 48).map (·.size) = some (words 32 m2).size by rw [words_size]; exact HS.out)
      have HZM := Lib.hid (show (words 32 m).size = (words 32 m2).size by rw [words_size, words_size])
      cases hb : n.testBit k
      · rw [hb] at hbit HP
        clear hb
        go_wp2_with ((with_reducible show wpList _ _ _ (Oper.mk _ (Op.load 48 _) _ _ _ _ :: _) _ _); refine wpList_load_row rfl 48 _ rfl g rfl _ (words 32 m) (0, 0) _ hr Try.underlying48 rfl HSM.out ?_)
        refine (square_any m _).mono ?_
        rintro e w3 ⟨rfl, hb3⟩
        rw [HM2.out]
        have hr3 := hr.under hb3 hr.lt
        have hbel3 := hbel2.trans (hb3.mono hbel2.size)
        clear hr hbel2 hb3
        go_wp2_with ((with_reducible show wpList _ _ _ (Oper.mk _ (Op.store 48 _ _) _ _ _ _ :: _) _ _); refine wpList_store_row rfl 48 _ _ rfl g (words 32 m2) rfl rfl 48 (words 32 m) hr3 HSM2.out HZM.out (words_cells _ _) ?_)
        go_roundw
        case rel => exact ⟨k + 1, by omega, by go_num, by rw [HP.out, if_neg (by decide)], (by rw [← HQ.out]; exact hr3.whole _), below_setRow' hbel3 hgs _⟩
        case measure => simp [intOf]; omega
      · rw [hb] at hbit HP
        clear hb
        go_wp2_with ((with_reducible show wpList _ _ _ (Oper.mk _ (Op.load 48 _) _ _ _ _ :: _) _ _); refine wpList_load_row rfl 48 _ rfl g rfl _ (words 32 m) (0, 0) _ hr Try.underlying48 rfl HSM.out ?_)
        refine (apply_any m v _).mono ?_
        rintro e w2 ⟨rfl, hb2⟩
        rw [HA.out]
        have hr2 := hr.under hb2 hr.lt
        have hbel3 := hbel2.trans (hb2.mono hbel2.size)
        clear hr hbel2 hb2
        go_wp2_with ((with_reducible show wpList _ _ _ (Oper.mk _ (Op.load 48 _) _ _ _ _ :: _) _ _); refine wpList_load_row rfl 48 _ rfl g rfl _ (words 32 m) (0, 0) _ hr2 Try.underlying48 rfl HSM.out ?_)
        refine (square_any m _).mono ?_
        rintro e w3 ⟨rfl, hb3⟩
        rw [HM2.out]
        have hr3 := hr2.under hb3 hr2.lt
        have hbel4 := hbel3.trans (hb3.mono hbel3.size)
        clear hr2 hbel3 hb3
        go_wp2_with ((with_reducible show wpList _ _ _ (Oper.mk _ (Op.store 48 _ _) _ _ _ _ :: _) _ _); refine wpList_store_row rfl 48 _ _ rfl g (words 32 m2) rfl rfl 48 (words 32 m) hr3 HSM2.out HZM.out (words_cells _ _) ?_)
        go_roundw
        case rel => exact ⟨k + 1, by omega, by go_num, by rw [HP.out, if_pos trivial], (by rw [← HQ.out]; exact hr3.whole _), below_setRow' hbel4 hgs _⟩
        case measure => simp [intOf]; omega
    · obtain rfl : k = L := by omega
      rw [Nat.mod_eq_of_lt HL.out]
      go_wp2
      go_ret
      exact ⟨rfl, hbel2⟩
end Go.Proofs.Ytiibmfajckkklaa
