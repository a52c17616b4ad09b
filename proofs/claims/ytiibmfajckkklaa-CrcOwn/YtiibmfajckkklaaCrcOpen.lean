/- Walks: readSum, Open. -/
import Derived.Test.YtiibmfajckkklaaCrcWrap
import Derived.Test.YtiibmfajckkklaaRegions
namespace Go.Proofs.Ytiibmfajckkklaa
open Go.RowKit

theorem U_or (x y : BitVec 32) : bits .or .u32 (U x) (U y) = U (x ||| y) := by
  unfold U
  rw [u32_or_nat _ _ x.isLt y.isLt, BitVec.toNat_or]
theorem U_shl (x : BitVec 32) (j : Nat) : U x * (2 : Int) ^ j % (4294967296 : Int) = U (x <<< j) := by
  unfold U
  rw [BitVec.toNat_shiftLeft, Nat.shiftLeft_eq]
  simp
attribute [local go_sem] U_or U_shl B_mod32 U_mod32

def rdTo (q : List (BitVec 8)) : Nat → BitVec 32
  | 0 => BitVec.ofNat 32 0
  | k + 1 => rdTo q k ||| (q.getD k (BitVec.ofNat 8 0)).setWidth 32 <<< (8 * k)

theorem readSum_any (a : Option Addr) (q : List (BitVec 8)) (c : Nat) (w : World) (hB : Bytes w a q) (hq : q.length = 4) :
    Calls Try.prog 32 #[.slice a 4 c] w fun e w' => e = .returned (.int .u32 (U (rdTo q 4))) ∧ w = w' := by
  have HQ := Lib.hid hq
  clear hq
  go_enter Try.func32, Try.ntmps32
  go_wp2
  go_loop [3, 5] (fun n i => ∃ k : Nat, k ≤ 4 ∧ i = .int .i64 k ∧ n = .int .u32 (U (rdTo q k))) (fun _ i => 4 - (intOf i).toNat)
  case atStart => exact ⟨0, by omega, rfl, rfl⟩
  case round =>
    obtain ⟨k, hk, rfl, rfl⟩ := hrel
    by_cases hlt : k < 4
    · obtain ⟨b, o, rfl, _, hc⟩ := hB.at_ (i := k) (by have := HQ.out; omega)
      have HR := Lib.hid (show rdTo q (k + 1) = rdTo q k ||| (q[k]'(by have := HQ.out; omega)).setWidth 32 <<< (8 * k) by
        simp only [rdTo]
        congr 3
        simp [List.getD, List.getElem?_eq_getElem (show k < q.length by have := HQ.out; omega)])
      generalize q[k]'_ = x at *
      go_wp2
      go_round
      case rel => exact ⟨k + 1, by omega, by go_num, by rw [HR.out]⟩
      case measure => simp [intOf]; omega
    · obtain rfl : k = 4 := by omega
      go_wp2
      go_ret
      exact ⟨rfl, rfl⟩

theorem open_short (a : Option Addr) (n c : Nat) (w : World) (h : n < 4) :
    Calls Try.prog 18 #[.slice a n c] w fun e w' => e = .returned (.tuple #[.slice none 0 0, .int .i64 5]) ∧ w = w' := by
  have h1 : (n : Int) < 4 := by omega
  go_enter Try.func18, Try.ntmps18
  go_wp2
  go_ret2
  exact ⟨rfl, rfl⟩

theorem Bytes.left {w : World} {a : Option Addr} {l m : List (BitVec 8)} (h : Bytes w a (l ++ m)) : Bytes w a l := by
  rcases h with h | ⟨b, o, rfl, h⟩
  · exact .inl (List.append_eq_nil_iff.1 h).1
  · refine .inr ⟨b, o, rfl, fun i x hx => h i x ?_⟩
    have hi : i < l.length := (List.getElem?_eq_some_iff.1 hx).1
    rw [List.getElem?_append_left hi]
    exact hx
theorem Bytes.right {w : World} {b o : Nat} {l m : List (BitVec 8)} (h : Bytes w (some ⟨b, o, none⟩) (l ++ m)) : Bytes w (some ⟨b, o + l.length, none⟩) m := by
  rcases h with h | ⟨b', o', e, h⟩
  · exact .inl (List.append_eq_nil_iff.1 h).2
  · injection e with e
    injection e with e1 e2
    subst e1
    subst e2
    refine .inr ⟨b, o + l.length, rfl, fun i x hx => ?_⟩
    rw [Nat.add_assoc]
    refine h _ x ?_
    rw [List.getElem?_append_right (by omega)]
    rw [show l.length + i - l.length = i by omega]
    exact hx

theorem open_bad (a : Option Addr) (p q : List (BitVec 8)) (c : Nat) (w : World) (hB : Bytes w a (p ++ q)) (hq : q.length = 4) (hc : p.length + 4 ≤ c) (hl : p.length ≤ 900000000) (hne : (U (Crc.sum p) != U (rdTo q 4)) = true) :
    Calls Try.prog 18 #[.slice a (p.length + 4) c] w fun e w' => e = .returned (.tuple #[.slice none 0 0, .int .i64 5]) ∧ Below w.heap.size w w' := by
  obtain ⟨b, o, rfl, _, hjunk⟩ := hB.at_ (i := p.length) (by simp; omega)
  clear hjunk
  have HA := Lib.hid hB
  have HQ := Lib.hid hq
  clear hq hB
  have h1 : ¬ ((p.length : Int) + 4 < 4) := by omega
  have h2 : ¬ c = p.length := by omega
  have h3 : (p.length : Int) ≤ (c : Int) := by omega
  have h4 : 0 ≤ (p.length : Int) := by omega
  have h5 : (p.length : Int) ≤ (p.length : Int) + 4 := by omega
  go_enter Try.func18, Try.ntmps18
  go_wp2
  refine region_in (Above w) (by kernel_rfl) (by kernel_rfl) (Above.start w) ?_
  refine in_pure (o := ⟨some 12, _, _, _, _, _⟩) rfl ?_ (fun W hW => by go_simp; with_reducible rfl) ?_
  simp only [Act.put, List.setIfInBounds_toArray, List.set_cons_zero, List.set_cons_succ]
  refine in_pure (o := ⟨some 13, _, _, _, _, _⟩) rfl ?_ (fun W hW => by go_simp; with_reducible rfl) ?_
  simp only [Act.put, List.setIfInBounds_toArray, List.set_cons_zero, List.set_cons_succ]
  refine in_pure (o := ⟨some 14, _, _, _, _, _⟩) rfl ?_ (fun W hW => by go_simp; with_reducible rfl) ?_
  simp only [Act.put, List.setIfInBounds_toArray, List.set_cons_zero, List.set_cons_succ]
  refine in_call (o := ⟨some 15, _, _, _, _, _⟩) rfl 12 _ (.int .u32 (U (Crc.sum p))) (fun W hW => by go_simp) (fun W hW => (sum_any _ p c W (HA.out.under hW).left (by omega)).mono (fun e w' ⟨he, hb⟩ => ⟨he, hW.call hb⟩)) ?_
  simp only [Act.put, List.setIfInBounds_toArray, List.set_cons_zero, List.set_cons_succ]
  refine in_pure (o := ⟨some 16, _, _, _, _, _⟩) rfl ?_ (fun W hW => by go_simp; with_reducible rfl) ?_
  simp only [Act.put, List.setIfInBounds_toArray, List.set_cons_zero, List.set_cons_succ]
  refine in_pure (o := ⟨some 17, _, _, _, _, _⟩) rfl ?_ (fun W hW => by go_simp; with_reducible rfl) ?_
  simp only [Act.put, List.setIfInBounds_toArray, List.set_cons_zero, List.set_cons_succ]
  refine in_pure (o := ⟨some 18, _, _, _, _, _⟩) rfl ?_ (fun W hW => by go_simp; with_reducible rfl) ?_
  simp only [Act.put, List.setIfInBounds_toArray, List.set_cons_zero, List.set_cons_succ]
  refine in_call (o := ⟨some 19, _, _, _, _, _⟩) rfl 32 _ (.int .u32 (U (rdTo q 4))) (fun W hW => by go_simp; with_reducible rfl) (fun W hW => (readSum_any _ q _ W (HA.out.under hW).right HQ.out).mono (fun e w' ⟨he, hb⟩ => ⟨he, hb ▸ hW⟩)) ?_
  simp only [Act.put, List.setIfInBounds_toArray, List.set_cons_zero, List.set_cons_succ]
  refine in_pure (o := ⟨some 20, _, _, _, _, _⟩) rfl ?_ (fun W hW => by go_simp; with_reducible rfl) ?_
  simp only [Act.put, List.setIfInBounds_toArray, List.set_cons_zero, List.set_cons_succ]
  refine wpQuiet_nil fun w1 hb1 => ?_
  go_wp2
  go_ret2
  exact ⟨rfl, hb1⟩

theorem open_good (a : Option Addr) (p q : List (BitVec 8)) (c : Nat) (w : World) (hB : Bytes w a (p ++ q)) (hq : q.length = 4) (hc : p.length + 4 ≤ c) (hl : p.length ≤ 900000000) (hne : (U (Crc.sum p) != U (rdTo q 4)) = false) :
    Calls Try.prog 18 #[.slice a (p.length + 4) c] w fun e w' => ∃ g, e = .returned (.tuple #[.slice (some ⟨g, 0, none⟩) p.length p.length, .int .i64 0]) ∧ w.heap.size ≤ g ∧ Row w' g 5 (cells p).toArray ∧ Below w.heap.size w w' := by
  obtain ⟨b, o, rfl, _, hjunk⟩ := hB.at_ (i := p.length) (by simp; omega)
  clear hjunk
  have HA := Lib.hid hB
  have HQ := Lib.hid hq
  clear hq hB
  have h1 : ¬ ((p.length : Int) + 4 < 4) := by omega
  have h2 : ¬ c = p.length := by omega
  have h3 : (p.length : Int) ≤ (c : Int) := by omega
  have h4 : 0 ≤ (p.length : Int) := by omega
  have h5 : (p.length : Int) ≤ (p.length : Int) + 4 := by omega
  go_enter Try.func18, Try.ntmps18
  go_wp2
  refine region_in (Above w) (by kernel_rfl) (by kernel_rfl) (Above.start w) ?_
  refine in_pure (o := ⟨some 12, _, _, _, _, _⟩) rfl ?_ (fun W hW => by go_simp; with_reducible rfl) ?_
  simp only [Act.put, List.setIfInBounds_toArray, List.set_cons_zero, List.set_cons_succ]
  refine in_pure (o := ⟨some 13, _, _, _, _, _⟩) rfl ?_ (fun W hW => by go_simp; with_reducible rfl) ?_
  simp only [Act.put, List.setIfInBounds_toArray, List.set_cons_zero, List.set_cons_succ]
  refine in_pure (o := ⟨some 14, _, _, _, _, _⟩) rfl ?_ (fun W hW => by go_simp; with_reducible rfl) ?_
  simp only [Act.put, List.setIfInBounds_toArray, List.set_cons_zero, List.set_cons_succ]
  refine in_call (o := ⟨some 15, _, _, _, _, _⟩) rfl 12 _ (.int .u32 (U (Crc.sum p))) (fun W hW => by go_simp) (fun W hW => (sum_any _ p c W (HA.out.under hW).left (by omega)).mono (fun e w' ⟨he, hb⟩ => ⟨he, hW.call hb⟩)) ?_
  simp only [Act.put, List.setIfInBounds_toArray, List.set_cons_zero, List.set_cons_succ]
  refine in_pure (o := ⟨some 16, _, _, _, _, _⟩) rfl ?_ (fun W hW => by go_simp; with_reducible rfl) ?_
  simp only [Act.put, List.setIfInBounds_toArray, List.set_cons_zero, List.set_cons_succ]
  refine in_pure (o := ⟨some 17, _, _, _, _, _⟩) rfl ?_ (fun W hW => by go_simp; with_reducible rfl) ?_
  simp only [Act.put, List.setIfInBounds_toArray, List.set_cons_zero, List.set_cons_succ]
  refine in_pure (o := ⟨some 18, _, _, _, _, _⟩) rfl ?_ (fun W hW => by go_simp; with_reducible rfl) ?_
  simp only [Act.put, List.setIfInBounds_toArray, List.set_cons_zero, List.set_cons_succ]
  refine in_call (o := ⟨some 19, _, _, _, _, _⟩) rfl 32 _ (.int .u32 (U (rdTo q 4))) (fun W hW => by go_simp; with_reducible rfl) (fun W hW => (readSum_any _ q _ W (HA.out.under hW).right HQ.out).mono (fun e w' ⟨he, hb⟩ => ⟨he, hb ▸ hW⟩)) ?_
  simp only [Act.put, List.setIfInBounds_toArray, List.set_cons_zero, List.set_cons_succ]
  refine in_pure (o := ⟨some 20, _, _, _, _, _⟩) rfl ?_ (fun W hW => by go_simp; with_reducible rfl) ?_
  simp only [Act.put, List.setIfInBounds_toArray, List.set_cons_zero, List.set_cons_succ]
  refine wpQuiet_nil fun w1 hb1 => ?_
  have hbw : Below w.heap.size w w1 := hb1
  have hs : w.heap.size ≤ w1.heap.size := hbw.size
  clear hb1
  go_wp2_with (first | ((with_reducible show wpList _ _ _ (Oper.mk _ (Op.makeSlice _ _ _) _ _ _ _ :: _) _ _); refine wpList_makeB rfl _ _ rfl _ p.length rfl rfl rfl (by omega) w.heap.size w hbw hs ?_; intro w2 HR2 hb2) | ((with_reducible show wpList _ _ _ (Oper.mk _ (Op.call ⟨Callee.builtin Builtin.copy, _, _⟩) _ _ _ _ :: _) _ _); refine wpList_copyB rfl _ _ rfl w1.heap.size p.length p.length (some ⟨b, o, none⟩) (p ++ q) (List.replicate p.length (BitVec.ofNat 8 0)) c rfl (by rw [List.length_append, HQ.out]; rfl) HR2.out (HA.out.under hb2) (by simp) w.heap.size w hb2 hs p (by simp) p.length (by simp) ?_; clear HR2 hb2; intro w3 HR3 hb3))
  go_ret2
  exact ⟨w1.heap.size, rfl, hs, HR3.out, hb3⟩
end Go.Proofs.Ytiibmfajckkklaa
