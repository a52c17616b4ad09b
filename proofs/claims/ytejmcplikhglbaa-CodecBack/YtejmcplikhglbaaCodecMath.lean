/- Plain mathematics of the codec: a number's bytes, the number of bytes, rows of numbers; how a reader goes on. Nothing of the program. -/
import Derived.WalkKit
namespace Go.Proofs.Ytejmcplikhglbaa.Cod

/-- The k lowest bytes of x, the least first. -/
def leb (x : BitVec 64) (k : Nat) : List (BitVec 8) := (List.range k).map fun i => (x >>> (8 * i)).setWidth 8
theorem leb_length (x : BitVec 64) (k : Nat) : (leb x k).length = k := by simp [leb]
theorem leb_get (x : BitVec 64) (k i : Nat) (h : i < k) : (leb x k)[i]? = some ((x >>> (8 * i)).setWidth 8) := by simp [leb, h]
theorem leb_succ (x : BitVec 64) (k : Nat) : leb x (k + 1) = leb x k ++ [(x >>> (8 * k)).setWidth 8] := by simp [leb, List.range_succ]
theorem leb_cons (x : BitVec 64) (k : Nat) : leb x (k + 1) = x.setWidth 8 :: leb (x >>> 8) k := by
  apply List.ext_getElem?
  intro i
  by_cases hi : i < k + 1
  · rw [leb_get _ _ _ hi]
    cases i with
    | zero => simp
    | succ i =>
      rw [List.getElem?_cons_succ, leb_get _ _ _ (by omega), ← BitVec.shiftRight_add, show 8 + 8 * i = 8 * (i + 1) by omega]
  · rw [List.getElem?_eq_none (by rw [leb_length]; omega), List.getElem?_eq_none (by simp [leb_length]; omega)]
theorem shr_step (x : BitVec 64) (k : Nat) : (x >>> (8 * k)) >>> 8 = x >>> (8 * (k + 1)) := by
  rw [← BitVec.shiftRight_add, show 8 * k + 8 = 8 * (k + 1) by omega]

/-- The number of which these are the bytes. -/
def num : List (BitVec 8) → BitVec 64
  | [] => BitVec.ofNat 64 0
  | x :: l => num l <<< 8 ||| x.setWidth 64
/-- The same, from the least byte on. -/
def numTo (l : List (BitVec 8)) : Nat → BitVec 64
  | 0 => BitVec.ofNat 64 0
  | k + 1 => numTo l k ||| (l.getD k (BitVec.ofNat 8 0)).setWidth 64 <<< (8 * k)
theorem numTo_cons (x : BitVec 8) (l : List (BitVec 8)) (k : Nat) : numTo (x :: l) (k + 1) = numTo l k <<< 8 ||| x.setWidth 64 := by
  induction k with
  | zero => simp [numTo]
  | succ k ih =>
    rw [numTo, ih, numTo, BitVec.shiftLeft_or_distrib, ← BitVec.shiftLeft_add]
    simp only [List.getD_cons_succ]
    rw [show 8 * k + 8 = 8 * (k + 1) by omega, BitVec.or_assoc, BitVec.or_assoc, BitVec.or_comm (x.setWidth 64)]
theorem numTo_all (l : List (BitVec 8)) : numTo l l.length = num l := by
  induction l with
  | nil => rfl
  | cons x l ih => rw [List.length_cons, numTo_cons, ih]; rfl
theorem num_horner (x : BitVec 8) (l : List (BitVec 8)) : num l <<< 8 + x.setWidth 64 = num (x :: l) := by
  show _ = num l <<< 8 ||| x.setWidth 64
  apply BitVec.add_eq_or_of_and_eq_zero
  apply BitVec.eq_of_getLsbD_eq
  intro i hi
  simp only [BitVec.getLsbD_and, BitVec.getLsbD_shiftLeft, BitVec.getLsbD_setWidth, BitVec.getLsbD_zero]
  by_cases h : i < 8
  · simp [h]
  · rw [BitVec.getLsbD_of_ge x i (by omega)]; simp

theorem low8_join (x : BitVec 64) : (x >>> 8) <<< 8 ||| (x.setWidth 8).setWidth 64 = x := by
  apply BitVec.eq_of_getLsbD_eq
  intro i hi
  simp only [BitVec.getLsbD_or, BitVec.getLsbD_shiftLeft, BitVec.getLsbD_setWidth, BitVec.getLsbD_ushiftRight]
  by_cases h : i < 8
  · simp [h, hi]
  · simp [h, hi, show 8 + (i - 8) = i by omega]
/-- What is read of a number's lowest bytes. -/
theorem num_leb (x : BitVec 64) (k : Nat) (h : x.toNat < 2 ^ (8 * k)) : num (leb x k) = x := by
  induction k generalizing x with
  | zero =>
    apply BitVec.eq_of_toNat_eq
    simp at h
    simp [leb, num, h]
  | succ k ih =>
    rw [leb_cons]
    show num (leb (x >>> 8) k) <<< 8 ||| _ = x
    rw [ih]
    · exact low8_join x
    · rw [BitVec.toNat_ushiftRight, Nat.shiftRight_eq_div_pow]
      have e : 2 ^ (8 * (k + 1)) = 2 ^ (8 * k) * 2 ^ 8 := by rw [← Nat.pow_add]; congr 1
      rw [e] at h
      exact Nat.div_lt_of_lt_mul (by rw [Nat.mul_comm]; exact h)
theorem num_leb8 (x : BitVec 64) : num (leb x 8) = x := num_leb x 8 x.isLt
theorem leb_mod (x : BitVec 64) (k : Nat) : leb (BitVec.ofNat 64 (x.toNat % 2 ^ (8 * k))) k = leb x k := by
  apply List.ext_getElem?
  intro i
  by_cases hi : i < k
  · rw [leb_get _ _ _ hi, leb_get _ _ _ hi]
    congr 1
    apply BitVec.eq_of_getLsbD_eq
    intro j hj
    simp only [BitVec.getLsbD_setWidth, BitVec.getLsbD_ushiftRight, hj, decide_true, Bool.true_and]
    rw [BitVec.getLsbD_ofNat, Nat.testBit_mod_two_pow]
    have : 8 * i + j < 8 * k := by omega
    simp only [this, decide_true, Bool.true_and]
    by_cases h64 : 8 * i + j < 64
    · simp [h64, BitVec.testBit_toNat]
    · rw [BitVec.getLsbD_of_ge x _ (by omega)]; simp [h64]
  · rw [List.getElem?_eq_none (by rw [leb_length]; omega), List.getElem?_eq_none (by rw [leb_length]; omega)]
theorem num_leb_mod (x : BitVec 64) (k : Nat) : num (leb x k) = BitVec.ofNat 64 (x.toNat % 2 ^ (8 * k)) := by
  rw [← leb_mod]
  apply num_leb
  rw [BitVec.toNat_ofNat]
  have h0 : 0 < 2 ^ (8 * k) := Nat.pos_of_ne_zero (by simp)
  have h1 := Nat.mod_lt x.toNat h0
  have h2 : x.toNat % 2 ^ (8 * k) ≤ x.toNat := Nat.mod_le _ _
  have := x.isLt
  rw [Nat.mod_eq_of_lt (by omega)]
  exact h1
theorem num_lt (l : List (BitVec 8)) : l.length ≤ 8 → (num l).toNat < 2 ^ (8 * l.length) := by
  induction l with
  | nil => intro _; simp [num]
  | cons x l ih =>
    intro h
    simp only [List.length_cons] at h ⊢
    have ih := ih (by omega)
    rw [← num_horner, BitVec.toNat_add, BitVec.toNat_shiftLeft, Nat.shiftLeft_eq, BitVec.toNat_setWidth]
    have hx := x.isLt
    have e : 2 ^ (8 * (l.length + 1)) = 2 ^ (8 * l.length) * 256 := by rw [show 8 * (l.length + 1) = 8 * l.length + 8 by omega, Nat.pow_add]
    have hle : 2 ^ (8 * (l.length + 1)) ≤ 2 ^ 64 := Nat.pow_le_pow_right (by omega) (by omega)
    rw [e] at hle ⊢
    rw [Nat.mod_eq_of_lt (a := x.toNat) (by omega)]
    have h1 : (num l).toNat * 2 ^ 8 % 2 ^ 64 = (num l).toNat * 256 := Nat.mod_eq_of_lt (by omega)
    rw [h1]
    exact Nat.lt_of_le_of_lt (Nat.mod_le _ _) (by omega)

/-- The bytes of numbers, and of a text. -/
def eights (l : List (BitVec 64)) : List (BitVec 8) := l.flatMap fun x => leb x 8
def ints (l : List (BitVec 64)) : List (BitVec 8) := leb (BitVec.ofNat 64 l.length) 4 ++ eights l
def text (s : List (BitVec 8)) : List (BitVec 8) := leb (BitVec.ofNat 64 s.length) 4 ++ s
theorem eights_length (l : List (BitVec 64)) : (eights l).length = 8 * l.length := by
  induction l with
  | nil => rfl
  | cons x l ih => simp only [eights, List.flatMap_cons, List.length_append, leb_length, List.length_cons] at ih ⊢; omega
theorem eights_append (l m : List (BitVec 64)) : eights (l ++ m) = eights l ++ eights m := by simp [eights]
theorem ints_length (l : List (BitVec 64)) : (ints l).length = 4 + 8 * l.length := by simp [ints, leb_length, eights_length]
theorem text_length (s : List (BitVec 8)) : (text s).length = 4 + s.length := by simp [text, leb_length]
theorem eights_take (l : List (BitVec 64)) (k : Nat) (h : k < l.length) : eights (l.take (k + 1)) = eights (l.take k) ++ leb l[k] 8 := by
  rw [List.take_succ_eq_append_getElem h, eights_append]
  simp [eights]

/-- The numbers that bytes are, eight each. -/
def row (q : List (BitVec 8)) : List (BitVec 64) := (List.range (q.length / 8)).map fun i => num ((q.drop (8 * i)).take 8)
theorem row_length (q : List (BitVec 8)) : (row q).length = q.length / 8 := by simp [row]
theorem row_get (q : List (BitVec 8)) (i : Nat) (h : i < q.length / 8) : (row q)[i]? = some (num ((q.drop (8 * i)).take 8)) := by simp [row, h]
theorem drop_past {α : Type} {a b : List α} {n m k : Nat} (h : a.length = n) (hk : k = n + m) : (a ++ b).drop k = b.drop m := by
  subst hk
  rw [← h, List.drop_append, List.drop_of_length_le (by omega), List.nil_append]
  congr 1
  omega
theorem eights_piece (l : List (BitVec 64)) (i : Nat) (h : i < l.length) : ((eights l).drop (8 * i)).take 8 = leb l[i] 8 := by
  induction l generalizing i with
  | nil => simp at h
  | cons x l ih =>
    have e : eights (x :: l) = leb x 8 ++ eights l := by simp [eights]
    rw [e]
    cases i with
    | zero => simp [leb_length]
    | succ i =>
      rw [drop_past (leb_length x 8) (show 8 * (i + 1) = 8 + 8 * i by omega)]
      exact ih i (by simpa using h)
theorem row_eights (l : List (BitVec 64)) : row (eights l) = l := by
  apply List.ext_getElem?
  intro i
  by_cases hi : i < l.length
  · rw [row_get _ _ (by rw [eights_length]; omega), eights_piece l i hi, num_leb8, List.getElem?_eq_getElem hi]
  · rw [List.getElem?_eq_none (by rw [row_length, eights_length]; omega), List.getElem?_eq_none (by omega)]

/-- What a reader is: the bytes that are left, and the first error. -/
structure St where
  rest : List (BitVec 8)
  err : Int
/-- How wide a number may be. -/
def clip (z : Int) : Nat := (if (8 : Int) < (if z < 0 then 0 else z) then (8 : Int) else (if z < 0 then 0 else z)).toNat
theorem clip_le (z : Int) : clip z ≤ 8 := by unfold clip; split <;> split <;> omega
/-- m bytes are taken: these; the reader then. -/
def takeQ (s : St) (m : Nat) : List (BitVec 8) := if s.err ≠ 0 then [] else if s.rest.length < m then [] else s.rest.take m
def takeS (s : St) (m : Nat) : St := if s.err ≠ 0 then s else if s.rest.length < m then ⟨[], 10⟩ else ⟨s.rest.drop m, 0⟩
def headN (s : St) : BitVec 64 := num (takeQ s 4)
def headS (s : St) : St := takeS s 4
/-- A row of things of so many bytes is taken. -/
def rowS (s : St) (most : Int) (size : Nat) : St := if (headS s).err ≠ 0 then headS s else if most < 0 ∨ most < ((headN s).toNat : Int) then ⟨[], 3⟩ else takeS (headS s) ((headN s).toNat * size)
def rowQ (s : St) (most : Int) (size : Nat) : List (BitVec 8) := if (headS s).err ≠ 0 then [] else if most < 0 ∨ most < ((headN s).toNat : Int) then [] else takeQ (headS s) ((headN s).toNat * size)
def endE (s : St) : Int := if s.err ≠ 0 then s.err else if s.rest = [] then 0 else 5
/-- Behind an error nothing is left. -/
def Ok (s : St) : Prop := s.err ≠ 0 → s.rest = []
theorem Ok.take {s : St} (h : Ok s) (m : Nat) : Ok (takeS s m) := by
  unfold takeS
  split
  · exact h
  · split
    · intro _; rfl
    · intro h; exact absurd rfl h
theorem Ok.head {s : St} (h : Ok s) : Ok (headS s) := h.take 4
theorem Ok.row {s : St} (h : Ok s) (most : Int) (size : Nat) : Ok (rowS s most size) := by
  unfold rowS
  split
  · exact h.head
  · split
    · intro _; rfl
    · exact h.head.take _
theorem headN_lt (s : St) : (headN s).toNat < 4294967296 := by
  unfold headN takeQ
  split
  · simp [num]
  · split
    · simp [num]
    · have := num_lt (s.rest.take 4) (by simp; omega)
      rw [List.length_take] at this
      refine Nat.lt_of_lt_of_le this ?_
      have : (2 : Nat) ^ (8 * min 4 s.rest.length) ≤ 2 ^ 32 := Nat.pow_le_pow_right (by omega) (by omega)
      simpa using this
end Go.Proofs.Ytejmcplikhglbaa.Cod
