/- Walk of the law CodecNums. -/
import Derived.Test.YtejmcplikhglbaaCodecF
import Derived.Test.YtejmcplikhglbaaCodecD
namespace Go.Proofs.Ytejmcplikhglbaa
open Go.RowKit
attribute [local go_sem] str_size

theorem clip_small (k : Nat) (h : k ≤ 8) : Cod.clip (k : Int) = k := by
  unfold Cod.clip
  split <;> split <;> omega
theorem put_at (x : BitVec 64) (z : Int) (k : Nat) (hk : Cod.clip z = k) (w : World) :
    Calls Try.prog 12 #[.int .u64 (W x), .int .i64 z] w fun e w' => ∃ g, e = .returned (.slice (some ⟨g, 0, none⟩) k k) ∧ w.heap.size ≤ g ∧ Row w' g 5 (cells (Cod.leb x k)).toArray ∧ Below w.heap.size w w' := by
  subst hk
  exact put_any x z w
theorem new_at (a : Option Addr) (l : List (BitVec 8)) (n c : Nat) (w : World) (hB : Bytes w a l) (hn : l.length = n) (hl : l.length ≤ 1000000000) :
    Calls Try.prog 18 #[.slice a n c] w fun e w' => ∃ g, e = .returned (.pointer (some ⟨g, 0, none⟩)) ∧ w.heap.size ≤ g ∧ Rd w.heap.size w' g ⟨l, 0⟩ ∧ Below w.heap.size w w' := by
  subst hn
  exact new_any a l c w hB hl
theorem takeQ_whole (l : List (BitVec 8)) (k : Nat) (h : l.length = k) : Cod.takeQ ⟨l, 0⟩ k = l := by
  subst h
  simp [Cod.takeQ]
theorem takeS_whole (l : List (BitVec 8)) (k : Nat) (h : l.length = k) : Cod.takeS ⟨l, 0⟩ k = ⟨[], 0⟩ := by
  subst h
  simp [Cod.takeS]

theorem nums_walk (x : BitVec 64) (a : Int) (wa : (Lit.int .u8 a).wf = true) (w : World) :
    Calls Try.prog 7 #[.int .u64 (W x), .int .u8 a] w fun e w' => e = .returned (.bool true) ∧ Below w.heap.size w w' := by
  obtain ⟨y, rfl⟩ := B_of a wa
  clear wa
  have hy0 := B_ge y
  have hy1 := B_lt y
  generalize B y = a at *
  obtain ⟨k, hk⟩ : ∃ k : Nat, a % 9 = (k : Int) := ⟨(a % 9).toNat, by omega⟩
  have hk8 : k ≤ 8 := by omega
  have HC := Lib.hid (clip_small k hk8)
  have hx0 := W_ge x
  by_cases hlt : k < 8
  · obtain ⟨p, hp, hp0, HN⟩ : ∃ p : Int, IntKind.u64.wrap ((2 : Int) ^ (8 * k)) = p ∧ 0 < p ∧ W (Cod.num (Cod.leb x k)) = W x % p := by
      have hle : (2 : Nat) ^ (8 * k) ≤ 2 ^ 56 := Nat.pow_le_pow_right (by omega) (by omega)
      have hpos : 0 < (2 : Nat) ^ (8 * k) := Nat.pos_of_ne_zero (by simp)
      have e : IntKind.u64.wrap ((2 : Int) ^ (8 * k)) = (((2 : Nat) ^ (8 * k) : Nat) : Int) := by
        rw [IntKind.wrap_u64]
        have e2 : (2 : Int) ^ (8 * k) = (((2 : Nat) ^ (8 * k) : Nat) : Int) := by simp
        rw [e2]
        omega
      refine ⟨_, e, by omega, ?_⟩
      rw [Cod.num_leb_mod]
      unfold W
      rw [BitVec.toNat_ofNat]
      have h1 := Nat.mod_lt x.toNat hpos
      rw [Nat.mod_eq_of_lt (by omega)]
      rfl
    have HN := Lib.hid HN
    go_enter Try.func7, Try.ntmps7
    go_wp2_with fail
    refine (put_at x _ k HC.out w).mono ?_
    rintro e w1 ⟨g1, rfl, hg1, hr1, hb1⟩
    go_wp2_with fail
    refine (new_at _ (Cod.leb x k) k k w1 hr1.asBytes (Cod.leb_length _ _) (by rw [Cod.leb_length]; omega)).mono ?_
    rintro e w2 ⟨g2, rfl, hg2, hr2, hb2⟩
    have HX := Lib.hid (then_below hb1 hb2)
    have HR := Lib.hid hr2
    have hs2 := hb1.size
    clear hr1 hb1 hb2 hr2
    go_wp2_with fail
    refine (num_at g2 _ _ k HC.out w2 HR.out).mono ?_
    rintro e w3 ⟨rfl, hr3, hg3⟩
    rw [takeQ_whole _ _ (Cod.leb_length _ _), HN.out]
    rw [takeS_whole _ _ (Cod.leb_length _ _)] at hr3
    have HR3 := Lib.hid hr3
    have HX3 := Lib.hid (grown_below HX.out hg3 HX.out.size (by omega))
    clear hr3 hg3 HR HX
    go_wp2_with fail
    refine (end_any g2 _ w3 HR3.out).mono ?_
    rintro e w4 ⟨rfl, rfl⟩
    rw [show Cod.endE ⟨[], 0⟩ = 0 from rfl]
    go_wp2_with fail
    refine (known_any _).mono ?_
    rintro e w8 ⟨rfl, hb8⟩
    go_wp2
    go_ret
    exact ⟨rfl, then_below HX3.out hb8⟩
  · obtain rfl : k = 8 := by omega
    have HN := Lib.hid (Cod.num_leb8 x)
    have hk' : a % 9 = 8 := hk
    clear hk
    go_enter Try.func7, Try.ntmps7
    go_wp2_with fail
    refine (put_at x _ 8 rfl w).mono ?_
    rintro e w1 ⟨g1, rfl, hg1, hr1, hb1⟩
    go_wp2_with fail
    refine (new_at _ (Cod.leb x 8) 8 8 w1 hr1.asBytes (Cod.leb_length _ _) (by rw [Cod.leb_length]; omega)).mono ?_
    rintro e w2 ⟨g2, rfl, hg2, hr2, hb2⟩
    have HX := Lib.hid (then_below hb1 hb2)
    have HR := Lib.hid hr2
    have hs2 := hb1.size
    clear hr1 hb1 hb2 hr2
    go_wp2_with fail
    refine (num_at g2 _ _ 8 rfl w2 HR.out).mono ?_
    rintro e w3 ⟨rfl, hr3, hg3⟩
    rw [takeQ_whole _ _ (Cod.leb_length _ _), HN.out]
    rw [takeS_whole _ _ (Cod.leb_length _ _)] at hr3
    have HR3 := Lib.hid hr3
    have HX3 := Lib.hid (grown_below HX.out hg3 HX.out.size (by omega))
    clear hr3 hg3 HR HX
    go_wp2_with fail
    refine (end_any g2 _ w3 HR3.out).mono ?_
    rintro e w4 ⟨rfl, rfl⟩
    rw [show Cod.endE ⟨[], 0⟩ = 0 from rfl]
    go_wp2_with fail
    refine (known_any _).mono ?_
    rintro e w8 ⟨rfl, hb8⟩
    go_wp2
    go_ret
    exact ⟨rfl, then_below HX3.out hb8⟩
end Go.Proofs.Ytejmcplikhglbaa
