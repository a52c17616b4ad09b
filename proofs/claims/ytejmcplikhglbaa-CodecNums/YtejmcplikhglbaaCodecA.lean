/- Walks: clip, lay, number, piece. -/
import Derived.Test.YtejmcplikhglbaaWords64
import Derived.Test.YtejmcplikhglbaaCodecMath
import Derived.Test.YtejmcplikhglbaaBytes2
namespace Go.Proofs.Ytejmcplikhglbaa
open Go.RowKit
attribute [local go_sem] W_or W_shr8 W_low B_w64 W_w64 I_w64 W_shl_w W_wrap64

theorem clip_any (z : Int) (w : World) :
    Calls Try.prog 31 #[.int .i64 z] w fun e w' => e = .returned (.int .i64 (Cod.clip z : Nat)) ∧ w = w' := by
  have h : ((Cod.clip z : Nat) : Int) = (if (8 : Int) < (if (0 : Int) > z then 0 else z) then (8 : Int) else (if (0 : Int) > z then 0 else z)) := by
    unfold Cod.clip
    split <;> split <;> omega
  rw [h]
  clear h
  go_enter Try.func31, Try.ntmps31
  go_wp2
  all_goals (go_ret; exact ⟨rfl, rfl⟩)

theorem splice_set (cur cs : List (BitVec 8)) (o : Nat) (b : BitVec 8) (h : o + cs.length < cur.length) : (splice cur o cs).set (o + cs.length) b = splice cur o (cs ++ [b]) := by
  unfold splice
  have ht : (cur.take o).length = o := by simp; omega
  rw [List.set_append_right _ _ (by omega), ht, show o + cs.length - o = cs.length by omega, List.set_append_right _ _ (by omega), Nat.sub_self]
  rw [List.drop_eq_getElem_cons h]
  simp [Nat.add_assoc]
theorem splice_none (cur : List (BitVec 8)) (o : Nat) : splice cur o [] = cur := by simp [splice]
theorem cells_set' (l : List (BitVec 8)) (i : Nat) (x : BitVec 8) : (cells l).toArray.setIfInBounds i (.int .u8 (B x)) = (cells (l.set i x)).toArray := by
  simp [cells, List.map_set]

/-- What a store into block g leaves. -/
theorem grown_put' {a w : World} {g : Nat} (h : a.grownBy w (some g)) (i : Nat) (v : Value) : a.grownBy (w.setCell ⟨g, i, none⟩ v) (some g) :=
  ⟨h.os, h.tape, h.output, by simpa [World.setCell] using h.size, fun k hk hne => (Below.heap_setCell w ⟨g, i, none⟩ v k (by intro e; exact hne (by rw [e]))).trans (h.block k hk hne)⟩

theorem lay_any (g o n c : Nat) (x : BitVec 64) (cur : List (BitVec 8)) (w : World) (hr : Row w g 5 (cells cur).toArray) (hn : o + n ≤ cur.length) (hs : n ≤ 1000000000) :
    Calls Try.prog 32 #[.slice (some ⟨g, o, none⟩) n c, .int .u64 (W x)] w fun e w' => e = .returned (.tuple #[]) ∧ Row w' g 5 (cells (splice cur o (Cod.leb x n))).toArray ∧ w.grownBy w' (some g) := by
  have HN := Lib.hid hn
  clear hn
  go_enter Try.func32, Try.ntmps32
  go_wp2
  go_loopw [1, 7] (fun v i wr => ∃ k : Nat, k ≤ n ∧ i = .int .i64 k ∧ v = .int .u64 (W (x >>> (8 * k))) ∧ Row wr g 5 (cells (splice cur o (Cod.leb x k))).toArray ∧ w.grownBy wr (some g)) (fun _ i _ => n - (intOf i).toNat)
  case atStart => exact ⟨0, by omega, rfl, by simp, by simpa [Cod.leb, splice_none] using hr, World.grownBy.refl _ _⟩
  case round =>
    obtain ⟨k, hk, rfl, rfl, hrow, hg⟩ := hrel
    by_cases hlt : k < n
    · have hlen := Lib.hid (show (splice cur o (Cod.leb x k)).length = cur.length from length_splice _ _ _ (by rw [Cod.leb_length]; have := HN.out; omega))
      have hc := hrow.cell (o + k)
      obtain ⟨u, hu⟩ : ∃ v, (cells (splice cur o (Cod.leb x k))).toArray[o + k]? = some v := ⟨_, Array.getElem?_eq_getElem (by simp only [List.size_toArray, cells_length]; have := HN.out; have := hlen.out; omega)⟩
      rw [hu] at hc
      have hf := hrow.thaw (o + k)
      have HR := Lib.hid (hrow.put (o + k) (.int .u8 (B ((x >>> (8 * k)).setWidth 8))))
      have HS := splice_set cur (Cod.leb x k) o ((x >>> (8 * k)).setWidth 8) (by rw [Cod.leb_length]; have := HN.out; omega)
      rw [Cod.leb_length, ← Cod.leb_succ] at HS
      rw [cells_set', HS] at HR
      have HG := Lib.hid (grown_put' hg (o + k) (.int .u8 (B ((x >>> (8 * k)).setWidth 8))))
      have HX := Lib.hid (Cod.shr_step x k)
      clear hrow hg hu HS hlen hr
      go_wp2
      go_roundw
      case rel => exact ⟨k + 1, by omega, by go_num, by rw [HX.out], HR.out, HG.out⟩
      case measure => simp [intOf]; omega
    · obtain rfl : k = n := by omega
      go_wp2
      go_end0
      exact ⟨rfl, hrow, hg⟩

theorem number_any (a : Option Addr) (q : List (BitVec 8)) (c : Nat) (w : World) (hB : Bytes w a q) (hq : q.length ≤ 8) :
    Calls Try.prog 41 #[.slice a q.length c] w fun e w' => e = .returned (.int .u64 (W (Cod.num q))) ∧ w = w' := by
  have HA := Lib.hid (Cod.numTo_all q)
  go_enter Try.func41, Try.ntmps41
  go_wp2
  go_loop [3, 8] (fun n i => ∃ k : Nat, k ≤ q.length ∧ i = .int .i64 k ∧ n = .int .u64 (W (Cod.numTo q k))) (fun _ i => q.length - (intOf i).toNat)
  case atStart => exact ⟨0, by omega, rfl, rfl⟩
  case round =>
    obtain ⟨k, hk, rfl, rfl⟩ := hrel
    by_cases hlt : k < q.length
    · obtain ⟨b, o, rfl, _, hc⟩ := hB.at_ (i := k) hlt
      have HR := Lib.hid (show Cod.numTo q (k + 1) = Cod.numTo q k ||| (q[k]'hlt).setWidth 64 <<< (8 * k) by
        simp only [Cod.numTo]
        congr 3
        simp [List.getD, List.getElem?_eq_getElem hlt])
      generalize q[k]'_ = x at *
      go_wp2
      go_round
      case rel => exact ⟨k + 1, by omega, by go_num, by rw [HR.out]⟩
      case measure => simp [intOf]; omega
    · obtain rfl : k = q.length := by omega
      rw [HA.out]
      go_wp2
      go_ret
      exact ⟨rfl, rfl⟩
theorem number_at (a : Option Addr) (q : List (BitVec 8)) (n c : Nat) (w : World) (hB : Bytes w a q) (hn : q.length = n) (hq : q.length ≤ 8) :
    Calls Try.prog 41 #[.slice a n c] w fun e w' => e = .returned (.int .u64 (W (Cod.num q))) ∧ w = w' := by
  subst hn
  exact number_any a q c w hB hq

theorem piece_any (g o n c i : Nat) (w : World) (hi : 8 * i + 8 ≤ n) (hc : n ≤ c) (hs : n ≤ 1000000000) :
    Calls Try.prog 35 #[.slice (some ⟨g, o, none⟩) n c, .int .i64 i] w fun e w' => e = .returned (.slice (some ⟨g, o + 8 * i, none⟩) 8 8) ∧ w = w' := by
  go_enter Try.func35, Try.ntmps35
  go_wp2
  go_ret
  refine ⟨?_, rfl⟩
  show Ending.returned (.slice (some ⟨g, o + i * 8, none⟩) ((i + 1) * 8 - i * 8) ((i + 1) * 8 - i * 8)) = _
  rw [show (i + 1) * 8 - i * 8 = 8 by omega, Nat.mul_comm i 8]
end Go.Proofs.Ytejmcplikhglbaa
