/- How much some things to do have. -/
import Derived.Test.YthheolhghhmdlaaDiskOps
import Derived.Test.YthheolhghhmdlaaDiskN
import Derived.Test.YthheolhghhmdlaaDiskP
import Derived.BigQuiet
namespace Go.Proofs.Ythheolhghhmdlaa
open Go.RowKit Dsk

def longL (l : List Ope) : Nat := (l.map fun x => 2 + x.data.length + x.name.length + x.to.length).sum
theorem longL_take (l : List Ope) (k : Nat) (hk : k < l.length) : longL (l.take (k + 1)) = longL (l.take k) + (2 + (l[k]'hk).data.length + (l[k]'hk).name.length + (l[k]'hk).to.length) := by
  unfold longL
  rw [List.take_succ_eq_append_getElem hk, List.map_append, List.sum_append_nat]
  simp only [List.map_cons, List.map_nil, List.sum_cons, List.sum_nil, Nat.add_zero]
/-- Nothing of them is very long. -/
def Few (l : List Ope) : Prop := ∀ y ∈ l, y.name.length ≤ 140737488351232 ∧ y.to.length ≤ 140737488351232 ∧ y.data.length ≤ 140737488351232
theorem longL_le (l : List Ope) (h : Few l) (k : Nat) : longL (l.take k) ≤ k * 500000000000000 := by
  induction k with
  | zero => simp [longL]
  | succ k ih =>
    by_cases hk : k < l.length
    · rw [longL_take l k hk, Nat.succ_mul]
      have := h _ (List.getElem_mem hk)
      generalize k * 500000000000000 = t at *
      omega
    · rw [List.take_of_length_le (by omega), Nat.succ_mul]
      rw [List.take_of_length_le (by omega)] at ih
      exact Nat.le_trans ih (Nat.le_add_right _ _)
theorem longL_cost (l : List Ope) : cost l ≤ longL l := by
  induction l with
  | nil => simp [cost, longL]
  | cons x r ih =>
    rw [cost_cons]
    unfold longL at *
    simp only [List.map_cons, List.sum_cons]
    omega
theorem below_dN {B : Nat} {a w : World} (h : Below B a w) (n : Nat) : Below B a (w.drewN n) := ⟨h.os, h.tape, h.output, h.size, h.block⟩
set_option maxRecDepth 100000 in
theorem long_few {w : World} {T : Nat → Prop} {ad : Option Addr} {l : List Ope} {c : Nat} (h : Ops w T ad l) (hl : l.length ≤ 60) (hb : Few l) : Calls Try.prog 10 #[.slice ad l.length c] w fun e w' => e = .returned (.int .i64 (longL l : Nat)) ∧ Below w.heap.size w w' := by
  have HH := Lib.hid h
  have HB := Lib.hid hb
  have hlI : (l.length : Int) ≤ 60 := by omega
  clear h hb
  go_enter Try.func10, Try.ntmps10
  go_wp2
  go_loopw [3, 4] (fun n i wr => ∃ k : Nat, k ≤ l.length ∧ i = .int .i64 k ∧ n = .int .i64 (longL (l.take k) : Nat) ∧ Below w.heap.size w wr) (fun _ i _ => l.length - (intOf i).toNat)
  case atStart => exact ⟨0, by omega, rfl, rfl, Below.refl _ _⟩
  case round =>
    obtain ⟨k, hk, rfl, rfl, hbr⟩ := hrel
    have HBr := Lib.hid hbr
    by_cases hlt : k < l.length
    · have hlt' : (k : Int) < (l.length : Int) := by omega
      have hO := HH.out.below hbr
      obtain ⟨b, off, had, hTb, hops⟩ : ∃ b o, ad = some ⟨b, o, none⟩ ∧ T b ∧ _ := hO.resolve_left (fun e => by rw [e] at hlt; simp at hlt)
      subst had
      obtain ⟨a, c2, q0, q1, q2, q3, qB, qT⟩ := hops k _ (List.getElem?_eq_getElem hlt)
      have hbl : b < wr.heap.size := block_lt_of_cell q0
      have hle := longL_le l HB.out k
      have HT := Lib.hid (longL_take l k hlt)
      have hf := HB.out _ (List.getElem_mem hlt)
      have hmul : k * 500000000000000 ≤ 60 * 500000000000000 := Nat.mul_le_mul_right _ (by omega)
      generalize hz : longL (l.take k) = z at *
      have HZ := Lib.hid hz
      clear hz hops hO qB qT q0 hbr hTb
      generalize (l[k]'hlt) = x at *
      obtain ⟨xk, xn, xt, xd⟩ := x
      have e1 : (⟨xn.toArray⟩ : ByteArray).size = xn.length := arr_size xn
      have e2 : (⟨xt.toArray⟩ : ByteArray).size = xt.length := arr_size xt
      generalize hs1 : (⟨xn.toArray⟩ : ByteArray) = s1 at *
      generalize hs2 : (⟨xt.toArray⟩ : ByteArray) = s2 at *
      simp only at hf q3
      have i1 : (s1.size : Int) ≤ 140737488351232 := by omega
      have i2 : (s2.size : Int) ≤ 140737488351232 := by omega
      have i3 : (xd.length : Int) ≤ 140737488351232 := by omega
      have i4 : (z : Int) ≤ 30000000000000000 := by omega
      clear hf hle hmul hs1 hs2
      go_wp2
      go_quiet (fail)
      go_wp2
      go_roundw
      case rel =>
        refine ⟨k + 1, by omega, by go_num, ?_, below_dN HBr.out _⟩
        rw [HT.out]
        congr 1
        omega
      case measure => simp [intOf]; omega
    · have hlt' : ¬ (k : Int) < (l.length : Int) := by omega
      obtain rfl : k = l.length := by omega
      rw [List.take_length]
      clear hbr
      go_wp2
      go_ret
      exact ⟨rfl, HBr.out⟩
set_option maxRecDepth 100000 in
theorem long_any {w : World} {T : Nat → Prop} {ad : Option Addr} {l : List Ope} {c : Nat} (h : Ops w T ad l) (hl9 : l.length ≤ 140737488351232) : Calls Try.prog 10 #[.slice ad l.length c] w fun e w' => (∃ z, e = .returned (.int .i64 z)) ∧ Below w.heap.size w w' := by
  have HH := Lib.hid h
  have hlI : (l.length : Int) ≤ 140737488351232 := by omega
  clear h
  go_enter Try.func10, Try.ntmps10
  go_wp2
  go_loopw [3, 4] (fun n i wr => ∃ k : Nat, k ≤ l.length ∧ i = .int .i64 k ∧ (∃ z, n = .int .i64 z) ∧ Below w.heap.size w wr) (fun _ i _ => l.length - (intOf i).toNat)
  case atStart => exact ⟨0, by omega, rfl, ⟨0, rfl⟩, Below.refl _ _⟩
  case round =>
    obtain ⟨k, hk, rfl, ⟨z, rfl⟩, hbr⟩ := hrel
    have HBr := Lib.hid hbr
    by_cases hlt : k < l.length
    · have hlt' : (k : Int) < (l.length : Int) := by omega
      have hO := HH.out.below hbr
      obtain ⟨b, off, had, hTb, hops⟩ : ∃ b o, ad = some ⟨b, o, none⟩ ∧ T b ∧ _ := hO.resolve_left (fun e => by rw [e] at hlt; simp at hlt)
      subst had
      obtain ⟨a, c2, q0, q1, q2, q3, qB, qT⟩ := hops k _ (List.getElem?_eq_getElem hlt)
      have hbl : b < wr.heap.size := block_lt_of_cell q0
      clear hops hO qB qT q0 hbr hTb
      generalize (l[k]'hlt) = x at *
      obtain ⟨xk, xn, xt, xd⟩ := x
      generalize hs1 : (⟨xn.toArray⟩ : ByteArray) = s1 at *
      generalize hs2 : (⟨xt.toArray⟩ : ByteArray) = s2 at *
      simp only at q3
      clear hs1 hs2
      go_wp2
      go_quiet (fail)
      go_wp2
      go_roundw
      case rel => exact ⟨k + 1, by omega, by go_num, ⟨_, rfl⟩, below_dN HBr.out _⟩
      case measure => simp [intOf]; omega
    · have hlt' : ¬ (k : Int) < (l.length : Int) := by omega
      clear hbr
      go_wp2
      go_ret
      exact ⟨⟨_, rfl⟩, HBr.out⟩
end Go.Proofs.Ythheolhghhmdlaa
