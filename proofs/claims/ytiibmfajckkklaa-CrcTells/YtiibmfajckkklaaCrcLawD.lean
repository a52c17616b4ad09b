/- Walk of the law CrcTells. -/
import Derived.Test.YtiibmfajckkklaaCrcLawC
namespace Go.Proofs.Ytiibmfajckkklaa
open Go.RowKit
attribute [local go_sem] B_xor

theorem B_bit (v : BitVec 8) (j : Nat) : bits .xor .u8 (B v) ((2 : Int) ^ j % (256 : Int)) = B (v ^^^ BitVec.ofNat 8 (2 ^ j)) := by
  have e : (2 : Int) ^ j % (256 : Int) = B (BitVec.ofNat 8 (2 ^ j)) := by
    unfold B
    rw [BitVec.toNat_ofNat]
    simp
  rw [e, B_xor]
theorem xor_bit (v : BitVec 8) (j : Nat) (h : j < 8) : v ^^^ BitVec.ofNat 8 (2 ^ j) ≠ v := by
  intro e
  have := congrArg (fun y : BitVec 8 => y.getLsbD j) e
  simp only [BitVec.getLsbD_xor, BitVec.getLsbD_ofNat, Nat.testBit_two_pow_self, h, decide_true, Bool.and_true] at this
  cases hv : v.getLsbD j <;> rw [hv] at this <;> cases this
theorem le4_inj {x y : BitVec 32} (h : le4 x = le4 y) : x = y := by rw [← rd_le4 x, h, rd_le4]
theorem wrap_spoilt (l : List (BitVec 8)) (k : Nat) (v : BitVec 8) (hk : k < (wrap l).length) (hv : v ≠ (wrap l)[k]) : ¬ ((wrap l).set k v).drop l.length = le4 (Crc.sum (((wrap l).set k v).take l.length)) := by
  intro e
  by_cases h : k < l.length
  · have e1 : ((wrap l).set k v).take l.length = l.set k v := by
      unfold wrap
      rw [List.set_append_left _ _ h, List.take_left' (by simp)]
    have e2 : ((wrap l).set k v).drop l.length = le4 (Crc.sum l) := by
      unfold wrap
      rw [List.set_append_left _ _ h, List.drop_left' (by simp)]
    rw [e1, e2] at e
    have hv' : v ≠ l[k] := by
      intro e'
      apply hv
      rw [e']
      simp [wrap, List.getElem_append_left h]
    exact Crc.sum_set l k v h hv' (le4_inj e).symm
  · have e1 : ((wrap l).set k v).take l.length = l := by
      unfold wrap
      rw [List.set_append_right _ _ (by omega), List.take_left' rfl]
    have e2 : ((wrap l).set k v).drop l.length = (le4 (Crc.sum l)).set (k - l.length) v := by
      unfold wrap
      rw [List.set_append_right _ _ (by omega), List.drop_left' rfl]
    rw [e1, e2] at e
    have hkl : k - l.length < (le4 (Crc.sum l)).length := by rw [le4_length]; rw [wrap_length] at hk; omega
    have e3 : ((le4 (Crc.sum l)).set (k - l.length) v)[k - l.length]? = (le4 (Crc.sum l))[k - l.length]? := by rw [e]
    rw [List.getElem?_set_self hkl, List.getElem?_eq_getElem hkl] at e3
    injection e3 with e3
    apply hv
    rw [e3]
    simp [wrap, List.getElem_append_right (show l.length ≤ k by omega)]

theorem tells_big (a : Option Addr) (n c : Nat) (x y : Int) (w : World) (h : 1000 < n) :
    Calls Try.prog 7 #[.slice a n c, .int .u16 x, .int .u8 y] w fun e w' => e = .returned (.bool true) ∧ Below w.heap.size w w' := by
  have h2 : (1000 : Int) < (n : Int) := by omega
  go_enter Try.func7, Try.ntmps7
  go_wp2_with fail
  refine (known_any _).mono ?_
  rintro e w8 ⟨rfl, hb8⟩
  go_wp2
  go_ret
  exact ⟨rfl, hb8⟩

set_option maxRecDepth 100000 in
theorem tells_small (a : Option Addr) (l : List (BitVec 8)) (c : Nat) (x y : Int) (w : World) (hB : Bytes w a l) (hl : l.length ≤ 1000) (hx0 : 0 ≤ x) (hx1 : x < 65536) (hy0 : 0 ≤ y) (hy1 : y < 256) :
    Calls Try.prog 7 #[.slice a l.length c, .int .u16 x, .int .u8 y] w fun e w' => e = .returned (.bool true) ∧ Below w.heap.size w w' := by
  have HT := Lib.hid (show (U (Crc.sum l) != U (rdTo (le4 (Crc.sum l)) 4)) = false by rw [open_test _ _ (le4_length _)]; simp)
  have HA := Lib.hid hB
  have hp : 0 < (l.length : Int) + 4 := by omega
  clear hB
  go_enter Try.func7, Try.ntmps7
  go_wp2_with fail
  refine (wrap_any a l c w HA.out (by omega)).mono ?_
  rintro e w1 ⟨g, rfl, hg, hr1, hb1⟩
  go_wp2_with fail
  refine (open_good (some ⟨g, 0, none⟩) l (le4 (Crc.sum l)) (l.length + 4) w1 hr1.bytes (le4_length _) (Nat.le_refl _) (by omega) HT.out).mono ?_
  rintro e w2 ⟨g2, rfl, hg2, hr2, hb2⟩
  have hb02 := bth hb1 hb2
  have hr12 := hr1.under hb2 hr1.lt
  clear hr1 hb1 hb2
  go_wp2_with fail
  refine (same_at _ _ l l _ _ _ _ w2 hr2.bytes (HA.out.under hb02) rfl rfl true (by simp)).mono ?_
  rintro e w3 ⟨rfl, rfl⟩
  obtain ⟨k, hk, hklt⟩ : ∃ k : Nat, x % ((l.length : Int) + 4) = (k : Int) ∧ k < l.length + 4 := ⟨(x % ((l.length : Int) + 4)).toNat, by have := Int.emod_nonneg x (show (l.length : Int) + 4 ≠ 0 by omega); omega, by have := Int.emod_lt_of_pos x hp; omega⟩
  obtain ⟨j, hj, hjlt⟩ : ∃ j : Nat, y % 8 = (j : Int) ∧ j < 8 := ⟨(y % 8).toNat, by omega, by omega⟩
  have hwl : k < (wrap l).length := by rw [wrap_length]; omega
  have hc := hr12.cell k
  have hf := hr12.thaw k
  rw [show (cells (wrap l)).toArray[k]? = some (.int .u8 (B (wrap l)[k])) by simp [cells_get, hwl]] at hc
  generalize hv : (wrap l)[k] = v at *
  have HV := Lib.hid hv
  clear hv
  go_wp2_with fail
  rw [B_bit v j]
  have hr3 := hr12.put k (.int .u8 (B (v ^^^ BitVec.ofNat 8 (2 ^ j))))
  rw [cells_set] at hr3
  have hb03 : Below w.heap.size w (w2.setCell ⟨g, k, none⟩ (.int .u8 (B (v ^^^ BitVec.ofNat 8 (2 ^ j))))) := hb02.setCell (p := ⟨g, k, none⟩) hg _
  generalize w2.setCell ⟨g, k, none⟩ (.int .u8 (B (v ^^^ BitVec.ofNat 8 (2 ^ j)))) = W at *
  have HS := Lib.hid (wrap_spoilt l k (v ^^^ BitVec.ofNat 8 (2 ^ j)) hwl (by rw [HV.out]; exact xor_bit v j hjlt))
  have hop := open_bad (some ⟨g, 0, none⟩) (((wrap l).set k (v ^^^ BitVec.ofNat 8 (2 ^ j))).take l.length) (((wrap l).set k (v ^^^ BitVec.ofNat 8 (2 ^ j))).drop l.length) (l.length + 4) W
    (by rw [List.take_append_drop]; exact hr3.bytes) (by simp [wrap_length]) (by simp [wrap_length]) (by simp [wrap_length]; omega)
    (by rw [open_test _ _ (by simp [wrap_length])]; simpa using HS.out)
  rw [show (((wrap l).set k (v ^^^ BitVec.ofNat 8 (2 ^ j))).take l.length).length = l.length by simp [wrap_length]] at hop
  have HO := Lib.hid hop
  clear hop hc hf hr2 hr12 hb02 hk hj
  refine HO.out.mono ?_
  rintro e w4 ⟨rfl, hb4⟩
  clear HO hr3
  go_wp2_with fail
  refine (known_any _).mono ?_
  rintro e w8 ⟨rfl, hb8⟩
  go_wp2
  go_ret
  exact ⟨rfl, bth hb03 (bth hb4 hb8)⟩

theorem tells_walk (a : Option Addr) (l : List (BitVec 8)) (c : Nat) (x y : Int) (hx : (Lit.int .u16 x).wf = true) (hy : (Lit.int .u8 y).wf = true) (w : World) (hB : Bytes w a l) :
    Calls Try.prog 7 #[.slice a l.length c, .int .u16 x, .int .u8 y] w fun e w' => e = .returned (.bool true) ∧ Below w.heap.size w w' := by
  simp [Lit.wf, IntKind.min, IntKind.max, IntKind.signed, IntKind.bits] at hx hy
  by_cases h : 1000 < l.length
  · exact tells_big a l.length c x y w h
  · exact tells_small a l c x y w hB (by omega) (by omega) (by omega) (by omega) (by omega)
end Go.Proofs.Ytiibmfajckkklaa
