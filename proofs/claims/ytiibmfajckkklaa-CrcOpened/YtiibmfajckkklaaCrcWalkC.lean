/- Walks: More and Sum, the program's and the document's. -/
import Derived.Test.YtiibmfajckkklaaCrcWalkB
namespace Go.Proofs.Ytiibmfajckkklaa
open Go.RowKit
attribute [local go_sem] U_xor U_xor_ones U_xor_poly U_and1 U_shr1 U_shr8 B_xor U_low U_mod2

/-- What a byte adds, by the table. -/
theorem table_byte (n : BitVec 32) (x : BitVec 8) : (n >>> 8) ^^^ adds ((n.setWidth 8 ^^^ x).toNat) = Crc.byte1 n x := by
  unfold Crc.byte1 adds
  rw [Crc.stps_byte (n ^^^ x.setWidth 32)]
  have e1 : (n ^^^ x.setWidth 32) >>> 8 = n >>> 8 := by
    apply BitVec.eq_of_getLsbD_eq
    intro i hi
    rw [BitVec.getLsbD_ushiftRight, BitVec.getLsbD_ushiftRight, BitVec.getLsbD_xor, BitVec.getLsbD_setWidth, BitVec.getLsbD_of_ge x (8 + i) (by omega)]
    simp
  have e2 : (n ^^^ x.setWidth 32) &&& (BitVec.ofNat 32 0xff) = BitVec.ofNat 32 ((n.setWidth 8 ^^^ x).toNat) := by
    have e3 : BitVec.ofNat 32 ((n.setWidth 8 ^^^ x).toNat) = (n.setWidth 8 ^^^ x).setWidth 32 := by
      apply BitVec.eq_of_toNat_eq
      simp
    rw [e3]
    apply BitVec.eq_of_getLsbD_eq
    intro i hi
    simp only [BitVec.getLsbD_and, BitVec.getLsbD_xor, BitVec.getLsbD_setWidth]
    have : ∀ i : Fin 32, ((BitVec.ofNat 32 0xff)).getLsbD i.val = decide (i.val < 8) := by decide
    rw [this ⟨i, hi⟩]
    by_cases h8 : i < 8
    · simp [h8, hi]
    · have hx : x.getLsbD i = false := BitVec.getLsbD_of_ge x i (by omega)
      simp [h8, hx]
  rw [e1, e2]

theorem B_toNat (x : BitVec 8) : (B x).toNat = x.toNat := by unfold B; omega

theorem run_snoc (n : BitVec 32) (l : List (BitVec 8)) (k : Nat) (h : k < l.length) : Crc.run n (l.take (k + 1)) = Crc.byte1 (Crc.run n (l.take k)) (l[k]'h) := by
  rw [List.take_succ_eq_append_getElem h, Crc.run_append]; rfl

set_option maxRecDepth 100000 in
theorem more_any (n : BitVec 32) (a : Option Addr) (l : List (BitVec 8)) (c : Nat) (w : World) (hb : Bytes w a l) (hl : l.length ≤ 1000000000) :
    Calls Try.prog 14 #[.int .u32 (U n), .slice a l.length c] w fun e w' => e = .returned (.int .u32 (U (Crc.more n l))) ∧ Below w.heap.size w w' := by
  obtain ⟨hz, hs⟩ := zero_of_info info256
  have HS := Lib.hid hs
  clear hs
  have HSZ := Lib.hid (show (Try.prog.info? 43).map (·.size) = some (words 256 adds).size by rw [words_size]; exact HS.out)
  have HZZ := Lib.hid (show (words 256 (upTo adds 0)).size = (words 256 adds).size by rw [words_size, words_size])
  go_enter Try.func14, Try.ntmps14
  go_wp2_with fail
  refine (byteAdds_any _).mono ?_
  rintro e w1 ⟨rfl, hb1⟩
  go_wp2_with ((with_reducible show wpList _ _ _ (Oper.mk _ (Op.store 43 _ _) _ _ _ _ :: _) _ _); refine wpList_store_row rfl 43 _ _ rfl w1.heap.size (words 256 adds) rfl rfl 43 (words 256 (upTo adds 0)) (Row.fresh w1 _ _) HSZ.out HZZ.out (words_cells _ _) ?_)
  have hrow := (Row.fresh w1 43 (words 256 (upTo adds 0))).whole (words 256 adds)
  have hbel : Below w.heap.size w ((w1.alloc (.cells (words 256 (upTo adds 0)) 43)).setRow w1.heap.size (words 256 adds)) := below_setRow' (hb1.alloc hb1.size _) hb1.size _
  generalize w1.heap.size = g at *
  generalize (w1.alloc (.cells (words 256 (upTo adds 0)) 43)).setRow g (words 256 adds) = W at *
  have hB := hb.under hbel
  clear hb hb1
  go_loop [0, 13] (fun m i => ∃ k : Nat, k ≤ l.length ∧ i = .int .i64 k ∧ m = .int .u32 (U (Crc.run (n ^^^ Crc.ones) (l.take k)))) (fun _ i => l.length - (intOf i).toNat)
  case atStart => exact ⟨0, by omega, rfl, rfl⟩
  case round =>
    obtain ⟨k, hk, rfl, rfl⟩ := hrel
    by_cases hlt : k < l.length
    · obtain ⟨b, o, rfl, _, hc⟩ := hB.at_ hlt
      have HR := Lib.hid (run_snoc (n ^^^ Crc.ones) l k hlt)
      generalize Crc.run (n ^^^ Crc.ones) (l.take k) = m at *
      generalize l[k] = x at *
      have HT := Lib.hid (table_byte m x)
      have hi0 := B_ge (m.setWidth 8 ^^^ x)
      have hi1 := B_lt (m.setWidth 8 ^^^ x)
      have hcell : W.cell? ⟨g, (B (m.setWidth 8 ^^^ x)).toNat, none⟩ = some (.int .u32 (U (adds (m.setWidth 8 ^^^ x).toNat))) := by
        rw [hrow.cell, B_toNat, words_get _ _ _ (m.setWidth 8 ^^^ x).isLt]
      generalize adds (m.setWidth 8 ^^^ x).toNat = y at *
      go_wp2
      go_round
      case rel => exact ⟨k + 1, by omega, by go_num, by rw [HR.out, ← HT.out]⟩
      case measure => simp [intOf]; omega
    · obtain rfl : k = l.length := by omega
      rw [List.take_length]
      go_wp2
      go_ret
      exact ⟨rfl, hbel⟩

theorem sum_any (a : Option Addr) (l : List (BitVec 8)) (c : Nat) (w : World) (hb : Bytes w a l) (hl : l.length ≤ 1000000000) :
    Calls Try.prog 12 #[.slice a l.length c] w fun e w' => e = .returned (.int .u32 (U (Crc.sum l))) ∧ Below w.heap.size w w' := by
  go_enter Try.func12, Try.ntmps12
  go_wp2_with (go_at_call 14; refine (more_any (BitVec.ofNat 32 0) _ _ _ _ hb hl).mono ?_; rintro e w1 ⟨rfl, hb1⟩)
  go_ret
  exact ⟨rfl, hb1⟩

end Go.Proofs.Ytiibmfajckkklaa
