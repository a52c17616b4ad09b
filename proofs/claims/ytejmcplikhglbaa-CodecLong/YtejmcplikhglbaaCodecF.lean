/- Walks: the document's Put, Ints, Text; known; the law CodecPuts. -/
import Derived.Test.YtejmcplikhglbaaCodecC
namespace Go.Proofs.Ytejmcplikhglbaa
open Go.RowKit
theorem B_w8 (x : BitVec 8) : IntKind.u8.wrap (B x) = B x := by rw [IntKind.wrap_u8', B_low]
attribute [local go_sem] W_tmod W_tdiv W_or W_shr8 W_low B_w64 W_w64 I_w64 W_shl_w W_wrap64 str_size B_low B_w8

theorem Row.asBytes {w : World} {g : Nat} {l : List (BitVec 8)} (h : Row w g 5 (cells l).toArray) : Bytes w (some ⟨g, 0, none⟩) l := by
  refine .inr ⟨g, 0, rfl, fun i x hx => ?_⟩
  rw [h.cell]
  simp [cells_get, hx]
theorem same_as (a b : Option Addr) (l m : List (BitVec 8)) (n k c d : Nat) (w : World) (ha : Bytes w a l) (hb : Bytes w b m) (hn : l.length = n) (hk : m.length = k) (r : Bool) (hr : decide (l = m) = r) :
    Calls Try.prog 11 #[.slice a n c, .slice b k d] w fun e w' => e = .returned (.bool r) ∧ w = w' := by
  subst hn
  subst hk
  subst hr
  exact same_any a b l m c d w ha hb
theorem then_below {a b c : World} (h : Below a.heap.size a b) (k : Below b.heap.size b c) : Below a.heap.size a c := h.trans (k.mono h.size)

theorem rclip_any (z : Int) (w : World) :
    Calls Try.prog 33 #[.int .i64 z] w fun e w' => e = .returned (.int .i64 (Cod.clip z : Nat)) ∧ w = w' := by
  by_cases h0 : z < 0
  · have h : ((Cod.clip z : Nat) : Int) = 0 := by unfold Cod.clip; simp [h0]
    rw [h]
    clear h
    go_enter Try.func33, Try.ntmps33
    go_wp2
    go_ret
    exact ⟨rfl, rfl⟩
  · by_cases h8 : 8 < z
    · have h : ((Cod.clip z : Nat) : Int) = 8 := by unfold Cod.clip; simp [h0, h8]
      rw [h]
      clear h
      go_enter Try.func33, Try.ntmps33
      go_wp2
      go_ret
      exact ⟨rfl, rfl⟩
    · have h : ((Cod.clip z : Nat) : Int) = z := by unfold Cod.clip; simp [h0, h8]; omega
      rw [h]
      clear h
      go_enter Try.func33, Try.ntmps33
      go_wp2
      go_ret
      exact ⟨rfl, rfl⟩

theorem one_byte (w : World) (x : BitVec 8) : Bytes (w.alloc (.cells #[.int .u8 (B x)] 5)) (some ⟨w.heap.size, 0, none⟩) [x] := by
  refine .inr ⟨_, _, rfl, fun i y hy => ?_⟩
  rw [cell_of_row _ _ _ _ _ _ (heap_alloc_new w _)]
  match i, hy with
  | 0, hy => injection hy with hy; subst hy; rfl
  | i + 1, hy => simp at hy

theorem rput_any (x : BitVec 64) (z : Int) (w : World) :
    Calls Try.prog 13 #[.int .u64 (W x), .int .i64 z] w fun e w' => ∃ v, e = .returned v ∧ Owns w' w.heap.size v (Cod.leb x (Cod.clip z)) ∧ Below w.heap.size w w' := by
  have hk := Cod.clip_le z
  have HC := Lib.hid (fun w => rclip_any z w)
  generalize Cod.clip z = n at *
  go_enter Try.func13, Try.ntmps13
  go_wp2
  go_loopw [0, 5, 6] (fun nn v i wr => ∃ k : Nat, k ≤ n ∧ i = .int .i64 k ∧ nn = .int .u64 (W (x >>> (8 * k))) ∧ Owns wr w.heap.size v (Cod.leb x k) ∧ Below w.heap.size w wr) (fun _ _ i _ => n - (intOf i).toNat)
  case atStart => exact ⟨0, by omega, rfl, by simp, Owns.none _ _, Below.refl _ _⟩
  case round =>
    obtain ⟨k, hkn, rfl, rfl, hown, hb⟩ := hrel
    have HO := Lib.hid hown
    have HB := Lib.hid hb
    have hs := hb.size
    clear hown hb
    have HX := Lib.hid (Cod.shr_step x k)
    have HL := Lib.hid (Cod.leb_succ x k)
    have HLn := Lib.hid (Cod.leb_length x k)
    by_cases hlt : k < n
    · go_wp2_with fail
      refine (HC.out _).mono ?_
      rintro e w2 ⟨rfl, rfl⟩
      go_wp2_with (at_builtin; refine wpList_appendB rfl _ _ rfl w.heap.size _ (Cod.leb x k) [(x >>> (8 * k)).setWidth 8] (some ⟨wr.heap.size, 0, none⟩) 1 1 rfl rfl rfl (HO.out.under ((Below.refl wr.heap.size wr).alloc (Nat.le_refl _) _) (Nat.le_refl _)) (one_byte wr _) (by have := HLn.out; simp; omega) (by simp; omega) ?_; intro v2 w2 HO2 hg2 hat2)
      go_roundw
      case rel =>
        refine ⟨k + 1, by omega, by go_num, by rw [HX.out], by rw [HL.out]; exact HO2.out, (HB.out.alloc hs _).grown hg2 (by simp; omega) (fun g hg => (HO.out.lt g hg).1)⟩
      case measure => simp [intOf]; omega
    · obtain rfl : k = n := by omega
      go_wp2_with fail
      refine (HC.out _).mono ?_
      rintro e w2 ⟨rfl, rfl⟩
      go_wp2
      go_ret
      exact ⟨_, rfl, HO.out, HB.out⟩

theorem rints_any (a : Option Addr) (l : List (BitVec 64)) (c : Nat) (w : World) (hN : Nums w a l) (hl : l.length ≤ 100000000) :
    Calls Try.prog 15 #[.slice a l.length c] w fun e w' => ∃ v, e = .returned v ∧ Owns w' w.heap.size v (Cod.ints l) ∧ Below w.heap.size w w' := by
  have HA := Lib.hid hN
  have HM := Lib.hid (W_nat l.length (by omega))
  clear hN
  go_enter Try.func15, Try.ntmps15
  go_wp2_with fail
  rw [HM.out]
  refine (rput_any (BitVec.ofNat 64 l.length) 4 w).mono ?_
  rintro e w1 ⟨v1, rfl, hown1, hb1⟩
  rw [show Cod.clip 4 = 4 from rfl] at hown1
  have HO1 := Lib.hid hown1
  have HB1 := Lib.hid hb1
  clear hown1 hb1 HM
  go_wp2
  go_loopw [3, 4] (fun v i wr => ∃ k : Nat, k ≤ l.length ∧ i = .int .i64 k ∧ Owns wr w.heap.size v (Cod.leb (BitVec.ofNat 64 l.length) 4 ++ Cod.eights (l.take k)) ∧ Below w.heap.size w wr) (fun _ i _ => l.length - (intOf i).toNat)
  case atStart => exact ⟨0, by omega, rfl, by simpa [Cod.eights] using HO1.out, HB1.out⟩
  case round =>
    obtain ⟨k, hkn, rfl, hown, hb⟩ := hrel
    have HO := Lib.hid hown
    have HB := Lib.hid hb
    have hs := hb.size
    clear hown hb
    by_cases hlt : k < l.length
    · obtain ⟨b, o, rfl, _, hc⟩ := (HA.out.under HB.out).at_ (i := k) hlt
      have HL := Lib.hid (Cod.eights_take l k hlt)
      have HLn := Lib.hid (show (Cod.leb (BitVec.ofNat 64 l.length) 4 ++ Cod.eights (l.take k)).length ≤ 1000000000 by
        simp only [List.length_append, Cod.leb_length, Cod.eights_length, List.length_take]
        omega)
      unfold num64 at hc
      generalize l[k]'hlt = y at *
      go_wp2_with fail
      refine (rput_any y 8 _).mono ?_
      rintro e w2 ⟨v2, rfl, hown2, hb2⟩
      rw [show Cod.clip 8 = 8 from rfl] at hown2
      obtain ⟨a2, c2, rfl, hB2, _⟩ := hown2.shape
      rw [Cod.leb_length]
      have hs2 := hb2.size
      go_wp2_with (at_builtin; refine wpList_appendB rfl _ _ rfl w.heap.size _ (Cod.leb (BitVec.ofNat 64 l.length) 4 ++ Cod.eights (l.take k)) (Cod.leb y 8) a2 8 c2 rfl rfl (Cod.leb_length _ _).symm (HO.out.under hb2 (Nat.le_refl _)) hB2 (by have := HLn.out; rw [Cod.leb_length]; omega) (by omega) ?_; intro v3 w3 HO3 hg3 hat3)
      go_roundw
      case rel =>
        refine ⟨k + 1, by omega, by go_num, ?_, (then_below HB.out hb2).grown hg3 (by omega) (fun g hg => (HO.out.lt g hg).1)⟩
        rw [HL.out, ← List.append_assoc]
        exact HO3.out
      case measure => simp [intOf]; omega
    · obtain rfl : k = l.length := by omega
      go_wp2
      go_ret
      refine ⟨_, rfl, ?_, HB.out⟩
      have h := HO.out
      rw [List.take_length] at h
      exact h

theorem rtext_any (l : List (BitVec 8)) (w : World) (hl : l.length ≤ 100000000) :
    Calls Try.prog 17 #[.string (str l)] w fun e w' => ∃ v, e = .returned v ∧ Owns w' w.heap.size v (Cod.text l) ∧ Below w.heap.size w w' := by
  have HM := Lib.hid (W_nat l.length (by omega))
  go_enter Try.func17, Try.ntmps17
  go_wp2_with fail
  rw [HM.out]
  refine (rput_any (BitVec.ofNat 64 l.length) 4 w).mono ?_
  rintro e w1 ⟨v1, rfl, hown1, hb1⟩
  rw [show Cod.clip 4 = 4 from rfl] at hown1
  have HO1 := Lib.hid hown1
  clear hown1
  go_wp2_with (at_builtin; refine wpList_appendS rfl _ _ rfl w.heap.size _ (Cod.leb (BitVec.ofNat 64 l.length) 4) l rfl rfl HO1.out (by rw [Cod.leb_length]; omega) hb1.size ?_; intro v3 w3 HO3 hg3 hat3)
  go_ret
  exact ⟨_, rfl, HO3.out, hb1.grown hg3 hb1.size (fun g hg => (HO1.out.lt g hg).1)⟩

theorem two_nums (w : World) : Nums (w.alloc (.cells #[.int .i64 258, .int .i64 (-1)] 3)) (some ⟨w.heap.size, 0, none⟩) [BitVec.ofNat 64 258, BitVec.ofInt 64 (-1)] := by
  refine .inr ⟨_, _, rfl, fun i y hy => ?_⟩
  rw [cell_of_row _ _ _ _ _ _ (heap_alloc_new w _)]
  match i, hy with
  | 0, hy => injection hy with hy; subst hy; rfl
  | 1, hy => injection hy with hy; subst hy; rfl
  | i + 2, hy => simp at hy

set_option maxRecDepth 100000 in
theorem known_any (w : World) :
    Calls Try.prog 10 #[] w fun e w' => e = .returned (.bool true) ∧ Below w.heap.size w w' := by
  go_enter Try.func10, Try.ntmps10
  go_wp2_with fail
  refine (ints_any (some ⟨w.heap.size, 0, none⟩) [BitVec.ofNat 64 258, BitVec.ofInt 64 (-1)] 2 _ (two_nums w) (by decide)).mono ?_
  rintro e w1 ⟨g, rfl, hg, hr, hb⟩
  have h0 : w1.cell? ⟨g, 0, none⟩ = some (.int .u8 2) := hr.cell 0
  have h4 : w1.cell? ⟨g, 4, none⟩ = some (.int .u8 2) := hr.cell 4
  have h5 : w1.cell? ⟨g, 5, none⟩ = some (.int .u8 1) := hr.cell 5
  have h12 : w1.cell? ⟨g, 12, none⟩ = some (.int .u8 255) := hr.cell 12
  have h19 : w1.cell? ⟨g, 19, none⟩ = some (.int .u8 255) := hr.cell 19
  have HB := Lib.hid (((Below.refl w.heap.size w).alloc (Nat.le_refl _) (.cells #[.int .i64 258, .int .i64 (-1)] 3)).trans (hb.mono (by simp)))
  clear hr hb hg
  go_wp2_with fail
  refine (end_nil w1).mono ?_
  rintro e w2 ⟨rfl, rfl⟩
  go_wp2
  go_ret
  exact ⟨rfl, HB.out⟩
end Go.Proofs.Ytejmcplikhglbaa
