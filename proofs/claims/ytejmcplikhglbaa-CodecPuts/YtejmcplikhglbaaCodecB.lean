/- Walks: Put, counted, Ints, Text, New. -/
import Derived.Test.YtejmcplikhglbaaCodecA
import Derived.Test.YtejmcplikhglbaaStrs
import Derived.BigQuiet
namespace Go.Proofs.Ytejmcplikhglbaa
open Go.RowKit
attribute [local go_sem] W_or W_shr8 W_low B_w64 W_w64 I_w64 W_shl_w W_wrap64 str_size

theorem grown_below {K g : Nat} {a w w' : World} (h : Below K a w) (hg : w.grownBy w' (some g)) (hK : K ≤ w.heap.size) (hKg : K ≤ g) : Below K a w' :=
  h.grown hg hK (fun k e => by injection e with e; omega)

theorem put_any (x : BitVec 64) (z : Int) (w : World) :
    Calls Try.prog 12 #[.int .u64 (W x), .int .i64 z] w fun e w' => ∃ g, e = .returned (.slice (some ⟨g, 0, none⟩) (Cod.clip z) (Cod.clip z)) ∧ w.heap.size ≤ g ∧ Row w' g 5 (cells (Cod.leb x (Cod.clip z))).toArray ∧ Below w.heap.size w w' := by
  have hk := Cod.clip_le z
  have HC := Lib.hid (clip_any z w)
  generalize Cod.clip z = k at *
  go_enter Try.func12, Try.ntmps12
  go_wp2_with fail
  refine HC.out.mono ?_
  rintro e w1 ⟨rfl, rfl⟩
  go_wp2_with ((with_reducible show wpList _ _ _ (Oper.mk _ (Op.makeSlice _ _ _) _ _ _ _ :: _) _ _); refine wpList_makeB rfl _ _ rfl _ k rfl rfl rfl (by omega) w.heap.size w (Below.refl _ _) (Nat.le_refl _) ?_; intro w1 HR1 hb1)
  refine (lay_any w.heap.size 0 k k x _ w1 HR1.out (by simp) (by omega)).mono ?_
  rintro e w2 ⟨rfl, hr2, hg2⟩
  have HR2 := Lib.hid hr2
  have hb2 := grown_below hb1 hg2 hb1.size (Nat.le_refl _)
  clear hr2 hg2 hb1 HR1
  go_wp2
  go_ret
  refine ⟨w.heap.size, rfl, Nat.le_refl _, ?_, hb2⟩
  have h := HR2.out
  unfold splice at h
  simpa [Cod.leb_length] using h

/-- How the room for numbers looks when its count is laid. -/
theorem splice_head (n : Nat) (x : BitVec 64) : splice (List.replicate (4 + n) (BitVec.ofNat 8 0)) 0 (Cod.leb x 4) = Cod.leb x 4 ++ List.replicate n (BitVec.ofNat 8 0) := by
  simp [splice, Cod.leb_length]

theorem counted8 (m : Nat) (w : World) (hm : m ≤ 100000000) (h0 : 0 < m) :
    Calls Try.prog 34 #[.int .i64 m, .int .i64 8] w fun e w' => ∃ g, e = .returned (.tuple #[.slice (some ⟨g, 0, none⟩) (4 + m * 8) (4 + m * 8), .slice (some ⟨g, 4, none⟩) (m * 8) (m * 8)]) ∧ w.heap.size ≤ g ∧
      Row w' g 5 (cells (Cod.leb (BitVec.ofNat 64 m) 4 ++ List.replicate (m * 8) (BitVec.ofNat 8 0))).toArray ∧ Below w.heap.size w w' := by
  have HM := Lib.hid (W_nat m (by omega))
  go_enter Try.func34, Try.ntmps34
  go_wp2_with ((with_reducible show wpList _ _ _ (Oper.mk _ (Op.makeSlice _ _ _) _ _ _ _ :: _) _ _); refine wpList_makeB rfl _ _ rfl _ (4 + m * 8) rfl rfl (by omega) (by omega) w.heap.size w (Below.refl _ _) (Nat.le_refl _) ?_; intro w1 HR1 hb1)
  rw [HM.out]
  refine (lay_any w.heap.size 0 4 4 (BitVec.ofNat 64 m) _ w1 HR1.out (by simp) (by omega)).mono ?_
  rintro e w2 ⟨rfl, hr2, hg2⟩
  rw [splice_head] at hr2
  have HR2 := Lib.hid hr2
  have hb2 := grown_below hb1 hg2 hb1.size (Nat.le_refl _)
  clear hr2 hg2 hb1 HR1
  go_wp2
  have h4 : (4 : Int) ≤ 4 + (m : Int) * 8 := by omega
  go_quiet (fail)
  go_wp2
  go_ret2
  exact ⟨w.heap.size, rfl, Nat.le_refl _, HR2.out, hb2.trans ⟨rfl, rfl, rfl, Nat.le_refl _, fun _ _ => rfl⟩⟩
theorem counted1 (m : Nat) (w : World) (hm : m ≤ 100000000) (h0 : 0 < m) :
    Calls Try.prog 34 #[.int .i64 m, .int .i64 1] w fun e w' => ∃ g, e = .returned (.tuple #[.slice (some ⟨g, 0, none⟩) (4 + m) (4 + m), .slice (some ⟨g, 4, none⟩) (m) (m)]) ∧ w.heap.size ≤ g ∧
      Row w' g 5 (cells (Cod.leb (BitVec.ofNat 64 m) 4 ++ List.replicate (m) (BitVec.ofNat 8 0))).toArray ∧ Below w.heap.size w w' := by
  have HM := Lib.hid (W_nat m (by omega))
  go_enter Try.func34, Try.ntmps34
  go_wp2_with ((with_reducible show wpList _ _ _ (Oper.mk _ (Op.makeSlice _ _ _) _ _ _ _ :: _) _ _); refine wpList_makeB rfl _ _ rfl _ (4 + m) rfl rfl (by omega) (by omega) w.heap.size w (Below.refl _ _) (Nat.le_refl _) ?_; intro w1 HR1 hb1)
  rw [HM.out]
  refine (lay_any w.heap.size 0 4 4 (BitVec.ofNat 64 m) _ w1 HR1.out (by simp) (by omega)).mono ?_
  rintro e w2 ⟨rfl, hr2, hg2⟩
  rw [splice_head] at hr2
  have HR2 := Lib.hid hr2
  have hb2 := grown_below hb1 hg2 hb1.size (Nat.le_refl _)
  clear hr2 hg2 hb1 HR1
  go_wp2
  have h4 : (4 : Int) ≤ 4 + (m : Int) := by omega
  go_quiet (fail)
  go_wp2
  go_ret2
  exact ⟨w.heap.size, rfl, Nat.le_refl _, HR2.out, hb2.trans ⟨rfl, rfl, rfl, Nat.le_refl _, fun _ _ => rfl⟩⟩
theorem counted0 (z : Int) (w : World) :
    Calls Try.prog 34 #[.int .i64 0, .int .i64 z] w fun e w' => ∃ g, e = .returned (.tuple #[.slice (some ⟨g, 0, none⟩) 4 4, .slice (some ⟨g, 0, none⟩) 0 0]) ∧ w.heap.size ≤ g ∧
      Row w' g 5 (cells (Cod.leb (BitVec.ofNat 64 0) 4)).toArray ∧ Below w.heap.size w w' := by
  have HM := Lib.hid (show (0 : Int) = W (BitVec.ofNat 64 0) from rfl)
  have hz0 : (0 : Int) * z = 0 := by omega
  go_enter Try.func34, Try.ntmps34
  go_wp2_with ((with_reducible show wpList _ _ _ (Oper.mk _ (Op.makeSlice _ _ _) _ _ _ _ :: _) _ _); refine wpList_makeB rfl _ _ rfl _ (4 + 0) rfl rfl (by omega) (by omega) w.heap.size w (Below.refl _ _) (Nat.le_refl _) ?_; intro w1 HR1 hb1)
  rw [HM.out]
  refine (lay_any w.heap.size 0 4 4 (BitVec.ofNat 64 0) _ w1 HR1.out (by simp) (by omega)).mono ?_
  rintro e w2 ⟨rfl, hr2, hg2⟩
  rw [splice_head] at hr2
  have HR2 := Lib.hid hr2
  have hb2 := grown_below hb1 hg2 hb1.size (Nat.le_refl _)
  clear hr2 hg2 hb1 HR1
  go_wp2
  go_quiet (fail)
  go_wp2
  go_ret2
  refine ⟨w.heap.size, rfl, Nat.le_refl _, ?_, hb2.trans ⟨rfl, rfl, rfl, Nat.le_refl _, fun _ _ => rfl⟩⟩
  have h := HR2.out
  rw [List.replicate_zero, List.append_nil] at h
  exact h

/-- The room for these numbers when k of them are laid. -/
def fill (l : List (BitVec 64)) (k : Nat) : List (BitVec 8) := Cod.leb (BitVec.ofNat 64 l.length) 4 ++ (Cod.eights (l.take k) ++ List.replicate ((l.length - k) * 8) (BitVec.ofNat 8 0))
theorem fill_zero (l : List (BitVec 64)) : fill l 0 = Cod.leb (BitVec.ofNat 64 l.length) 4 ++ List.replicate (l.length * 8) (BitVec.ofNat 8 0) := by simp [fill, Cod.eights]
theorem fill_all (l : List (BitVec 64)) : fill l l.length = Cod.ints l := by simp [fill, Cod.ints]
theorem fill_length (l : List (BitVec 64)) (k : Nat) (h : k ≤ l.length) : (fill l k).length = 4 + l.length * 8 := by
  simp only [fill, List.length_append, Cod.leb_length, Cod.eights_length, List.length_take, List.length_replicate]
  rw [Nat.min_eq_left h]
  omega
theorem fill_step (l : List (BitVec 64)) (k : Nat) (h : k < l.length) : splice (fill l k) (4 + 8 * k) (Cod.leb l[k] 8) = fill l (k + 1) := by
  have e : fill l k = (Cod.leb (BitVec.ofNat 64 l.length) 4 ++ Cod.eights (l.take k)) ++ List.replicate ((l.length - k) * 8) (BitVec.ofNat 8 0) := by simp [fill]
  have hl : (Cod.leb (BitVec.ofNat 64 l.length) 4 ++ Cod.eights (l.take k)).length = 4 + 8 * k := by
    simp only [List.length_append, Cod.leb_length, Cod.eights_length, List.length_take]
    rw [Nat.min_eq_left (by omega)]
  unfold splice
  rw [e, ← hl, List.take_left, Cod.leb_length, List.drop_append, List.drop_of_length_le (by omega), List.nil_append, List.drop_replicate]
  rw [show (l.length - k) * 8 - ((Cod.leb (BitVec.ofNat 64 l.length) 4 ++ Cod.eights (l.take k)).length + 8 - (Cod.leb (BitVec.ofNat 64 l.length) 4 ++ Cod.eights (l.take k)).length) = (l.length - (k + 1)) * 8 by omega]
  unfold fill
  rw [Cod.eights_take l k h]
  simp

theorem ints_none (a : Option Addr) (c : Nat) (w : World) :
    Calls Try.prog 14 #[.slice a 0 c] w fun e w' => ∃ g, e = .returned (.slice (some ⟨g, 0, none⟩) 4 4) ∧ w.heap.size ≤ g ∧ Row w' g 5 (cells (Cod.ints [])).toArray ∧ Below w.heap.size w w' := by
  go_enter Try.func14, Try.ntmps14
  go_wp2_with fail
  refine (counted0 8 w).mono ?_
  rintro e w1 ⟨g, rfl, hg, hr1, hb1⟩
  have HR1 := Lib.hid hr1
  clear hr1
  go_wp2
  go_loop [15] (fun i => i = .int .i64 0) (fun _ => 0)
  case atStart => rfl
  case round =>
    subst hrel
    go_wp2
    go_ret
    refine ⟨g, rfl, hg, ?_, hb1⟩
    have h := HR1.out
    unfold Cod.ints
    simpa [Cod.eights] using h

theorem ints_some (b o : Nat) (l : List (BitVec 64)) (c : Nat) (w : World) (hN : Nums w (some ⟨b, o, none⟩) l) (h0 : 0 < l.length) (hl : l.length ≤ 100000000) :
    Calls Try.prog 14 #[.slice (some ⟨b, o, none⟩) l.length c] w fun e w' => ∃ g, e = .returned (.slice (some ⟨g, 0, none⟩) (4 + l.length * 8) (4 + l.length * 8)) ∧ w.heap.size ≤ g ∧ Row w' g 5 (cells (Cod.ints l)).toArray ∧ Below w.heap.size w w' := by
  have HA := Lib.hid hN
  clear hN
  go_enter Try.func14, Try.ntmps14
  go_wp2_with fail
  refine (counted8 l.length w hl h0).mono ?_
  rintro e w1 ⟨g, rfl, hg, hr1, hb1⟩
  rw [← fill_zero] at hr1
  have HR1 := Lib.hid hr1
  have HB1 := Lib.hid hb1
  clear hr1 hb1
  go_wp2
  go_loopw [5, 6, 15] (fun _ _ i wr => ∃ k : Nat, k ≤ l.length ∧ i = .int .i64 k ∧ Row wr g 5 (cells (fill l k)).toArray ∧ Below w.heap.size w wr) (fun _ _ i _ => l.length - (intOf i).toNat)
  case atStart => exact ⟨0, by omega, rfl, HR1.out, HB1.out⟩
  case round =>
    obtain ⟨k, hk, rfl, hr, hb⟩ := hrel
    by_cases hlt : k < l.length
    · obtain ⟨b', o', he, _, hc⟩ := (HA.out.under hb).at_ (i := k) hlt
      injection he with he
      injection he with e1 e2
      subst e1 e2
      unfold num64 at hc
      have HL := Lib.hid (fill_length l k (by omega))
      have HF := Lib.hid (fill_step l k hlt)
      have HR := Lib.hid hr
      generalize l[k]'hlt = x at *
      clear hr
      go_wp2_with fail
      refine (piece_any g 4 (l.length * 8) (l.length * 8) k _ (by omega) (by omega) (by omega)).mono ?_
      rintro e w2 ⟨rfl, rfl⟩
      go_wp2_with fail
      refine (lay_any g (4 + 8 * k) 8 8 x _ _ HR.out (by rw [HL.out]; omega) (by omega)).mono ?_
      rintro e w3 ⟨rfl, hr3, hg3⟩
      rw [HF.out] at hr3
      have HR3 := Lib.hid hr3
      have HB3 := Lib.hid (grown_below hb hg3 hb.size hg)
      clear hr3 hg3
      go_wp2
      go_roundw
      case rel => exact ⟨k + 1, by omega, by go_num, HR3.out, HB3.out⟩
      case measure => simp [intOf]; omega
    · obtain rfl : k = l.length := by omega
      rw [fill_all] at hr
      go_wp2
      go_ret
      exact ⟨g, rfl, hg, hr, hb⟩
theorem ints_any (a : Option Addr) (l : List (BitVec 64)) (c : Nat) (w : World) (hN : Nums w a l) (hl : l.length ≤ 100000000) :
    Calls Try.prog 14 #[.slice a l.length c] w fun e w' => ∃ g, e = .returned (.slice (some ⟨g, 0, none⟩) (4 + l.length * 8) (4 + l.length * 8)) ∧ w.heap.size ≤ g ∧ Row w' g 5 (cells (Cod.ints l)).toArray ∧ Below w.heap.size w w' := by
  rcases hN with rfl | ⟨b, o, rfl, h⟩
  · exact ints_none a c w
  · by_cases h0 : 0 < l.length
    · exact ints_some b o l c w (.inr ⟨b, o, rfl, h⟩) h0 hl
    · obtain rfl : l = [] := List.eq_nil_of_length_eq_zero (by omega)
      exact ints_none _ c w

theorem text_any (l : List (BitVec 8)) (w : World) (hl : l.length ≤ 100000000) :
    Calls Try.prog 16 #[.string (str l)] w fun e w' => ∃ g, e = .returned (.slice (some ⟨g, 0, none⟩) (4 + l.length) (4 + l.length)) ∧ w.heap.size ≤ g ∧ Row w' g 5 (cells (Cod.text l)).toArray ∧ Below w.heap.size w w' := by
  by_cases h0 : 0 < l.length
  · go_enter Try.func16, Try.ntmps16
    go_wp2_with fail
    refine (counted1 l.length w hl h0).mono ?_
    rintro e w1 ⟨g, rfl, hg, hr1, hb1⟩
    have HR1 := Lib.hid hr1
    clear hr1
    go_wp2_with ((with_reducible show wpList _ _ _ (Oper.mk _ (Op.call ⟨Callee.builtin Builtin.copy, _, _⟩) _ _ _ _ :: _) _ _); refine wpList_copyS rfl _ _ rfl g 4 l.length l.length (some ⟨g, 4, none⟩) l _ rfl rfl (fun _ => rfl) rfl HR1.out (by simp [Cod.leb_length]) ?_; intro w2 HR2 hg2)
    go_ret
    refine ⟨g, rfl, hg, ?_, grown_below hb1 hg2 hb1.size hg⟩
    have h := HR2.out
    unfold splice at h
    rw [List.take_left' (Cod.leb_length _ _), List.drop_of_length_le (by simp [Cod.leb_length]), List.append_nil] at h
    exact h
  · obtain rfl : l = [] := List.eq_nil_of_length_eq_zero (by omega)
    clear h0 hl
    go_enter Try.func16, Try.ntmps16
    go_wp2_with fail
    refine (counted0 1 w).mono ?_
    rintro e w1 ⟨g, rfl, hg, hr1, hb1⟩
    have HR1 := Lib.hid hr1
    clear hr1
    go_wp2_with ((with_reducible show wpList _ _ _ (Oper.mk _ (Op.call ⟨Callee.builtin Builtin.copy, _, _⟩) _ _ _ _ :: _) _ _); refine wpList_copyS rfl _ _ rfl g 4 0 0 (some ⟨g, 0, none⟩) [] _ rfl rfl (fun h => by simp at h) rfl HR1.out (by simp [Cod.leb_length]) ?_; intro w2 HR2 hg2)
    go_ret
    refine ⟨g, rfl, hg, ?_, grown_below hb1 hg2 hb1.size hg⟩
    have h := HR2.out
    rw [splice_none] at h
    unfold Cod.text
    simpa using h
end Go.Proofs.Ytejmcplikhglbaa
