/- Plain mathematics of a reader: what was put is taken; cut, it is too short; too many are too many. -/
import Derived.Test.YtejmcplikhglbaaCodecMath
namespace Go.Proofs.Ytejmcplikhglbaa.Cod

theorem takeQ_front (p r : List (BitVec 8)) (k : Nat) (h : p.length = k) : takeQ ⟨p ++ r, 0⟩ k = p := by
  subst h
  have h : ¬ (p ++ r).length < p.length := by simp
  simp only [takeQ, ne_eq, not_true_eq_false, if_false, h, List.take_left]
theorem takeS_front (p r : List (BitVec 8)) (k : Nat) (h : p.length = k) : takeS ⟨p ++ r, 0⟩ k = ⟨r, 0⟩ := by
  subst h
  simp [takeS]
theorem takeS_short (l : List (BitVec 8)) (k : Nat) (h : l.length < k) : takeS ⟨l, 0⟩ k = ⟨[], 10⟩ := by simp [takeS, h]
theorem takeS_dead (s : St) (k : Nat) (h : s.err ≠ 0) : takeS s k = s := by simp [takeS, h]
theorem takeQ_dead (s : St) (k : Nat) (h : s.err ≠ 0) : takeQ s k = [] := by simp [takeQ, h]
theorem rowS_dead (s : St) (z : Int) (n : Nat) (h : s.err ≠ 0) : rowS s z n = s := by
  have e : headS s = s := takeS_dead s 4 h
  simp [rowS, e, h]
theorem rowQ_dead (s : St) (z : Int) (n : Nat) (h : s.err ≠ 0) : rowQ s z n = [] := by
  have e : headS s = s := takeS_dead s 4 h
  simp [rowQ, e, h]

theorem count_num (n : Nat) (h : n < 4294967296) : (num (leb (BitVec.ofNat 64 n) 4)).toNat = n := by
  rw [num_leb _ 4 (by rw [BitVec.toNat_ofNat]; omega), BitVec.toNat_ofNat]
  omega
theorem headS_front (x : BitVec 64) (r : List (BitVec 8)) : headS ⟨leb x 4 ++ r, 0⟩ = ⟨r, 0⟩ := takeS_front _ _ 4 (leb_length x 4)
theorem headN_front (n : Nat) (r : List (BitVec 8)) (h : n < 4294967296) : (headN ⟨leb (BitVec.ofNat 64 n) 4 ++ r, 0⟩).toNat = n := by
  unfold headN
  rw [takeQ_front _ _ 4 (leb_length _ 4), count_num n h]
theorem row_exact (n size : Nat) (body r : List (BitVec 8)) (most : Int) (hn : n < 4294967296) (hb : body.length = n * size) (hm : (n : Int) ≤ most) :
    rowQ ⟨leb (BitVec.ofNat 64 n) 4 ++ (body ++ r), 0⟩ most size = body ∧ rowS ⟨leb (BitVec.ofNat 64 n) 4 ++ (body ++ r), 0⟩ most size = ⟨r, 0⟩ := by
  have h1 : ¬ (most < 0 ∨ most < (n : Int)) := by omega
  unfold rowQ rowS
  rw [headN_front n _ hn, headS_front]
  simp only [ne_eq, not_true_eq_false, if_false, h1]
  exact ⟨takeQ_front _ _ _ hb, takeS_front _ _ _ hb⟩
theorem row_long (n size : Nat) (r : List (BitVec 8)) (most : Int) (hn : n < 4294967296) (hm : most < (n : Int)) :
    rowQ ⟨leb (BitVec.ofNat 64 n) 4 ++ r, 0⟩ most size = [] ∧ rowS ⟨leb (BitVec.ofNat 64 n) 4 ++ r, 0⟩ most size = ⟨[], 3⟩ := by
  have h1 : most < 0 ∨ most < (n : Int) := .inr hm
  unfold rowQ rowS
  rw [headN_front n _ hn, headS_front]
  simp [h1]
theorem row_short (n size c : Nat) (body : List (BitVec 8)) (most : Int) (hn : n < 4294967296) (hb : body.length = n * size) (hm : (n : Int) ≤ most) (hc : c < 4 + n * size) :
    rowS ⟨(leb (BitVec.ofNat 64 n) 4 ++ body).take c, 0⟩ most size = ⟨[], 10⟩ := by
  by_cases h4 : c < 4
  · have e : headS ⟨(leb (BitVec.ofNat 64 n) 4 ++ body).take c, 0⟩ = ⟨[], 10⟩ := by
      unfold headS
      exact takeS_short _ 4 (by rw [List.length_take]; omega)
    unfold rowS
    rw [e]
    simp
  · have e : (leb (BitVec.ofNat 64 n) 4 ++ body).take c = leb (BitVec.ofNat 64 n) 4 ++ body.take (c - 4) := by
      rw [List.take_append, leb_length, List.take_of_length_le (by rw [leb_length]; omega)]
    have h1 : ¬ (most < 0 ∨ most < (n : Int)) := by omega
    rw [e]
    unfold rowS
    rw [headN_front n _ hn, headS_front]
    simp only [ne_eq, not_true_eq_false, if_false, h1]
    exact takeS_short _ _ (by rw [List.length_take]; omega)

/-- Numbers, and a text, one behind the other, are taken as they were. -/
theorem ints_take (l : List (BitVec 64)) (r : List (BitVec 8)) (most : Int) (hl : l.length < 4294967296) (hm : (l.length : Int) ≤ most) : rowQ ⟨ints l ++ r, 0⟩ most 8 = eights l ∧ rowS ⟨ints l ++ r, 0⟩ most 8 = ⟨r, 0⟩ := by
  unfold ints
  rw [List.append_assoc]
  exact row_exact l.length 8 (eights l) r most hl (by rw [eights_length]; omega) hm
theorem text_take (s r : List (BitVec 8)) (most : Int) (hl : s.length < 4294967296) (hm : (s.length : Int) ≤ most) : rowQ ⟨text s ++ r, 0⟩ most 1 = s ∧ rowS ⟨text s ++ r, 0⟩ most 1 = ⟨r, 0⟩ := by
  unfold text
  rw [List.append_assoc]
  exact row_exact s.length 1 s r most hl (by omega) hm
theorem ints_many (l : List (BitVec 64)) (most : Int) (hl : l.length < 4294967296) (hm : most < (l.length : Int)) : rowQ ⟨ints l, 0⟩ most 8 = [] ∧ rowS ⟨ints l, 0⟩ most 8 = ⟨[], 3⟩ := row_long l.length 8 (eights l) most hl hm
theorem text_many (s : List (BitVec 8)) (most : Int) (hl : s.length < 4294967296) (hm : most < (s.length : Int)) : rowQ ⟨text s, 0⟩ most 1 = [] ∧ rowS ⟨text s, 0⟩ most 1 = ⟨[], 3⟩ := row_long s.length 1 s most hl hm
theorem ints_cut (l : List (BitVec 64)) (c : Nat) (most : Int) (hl : l.length < 4294967296) (hm : (l.length : Int) ≤ most) (hc : c < (ints l).length) : rowS ⟨(ints l).take c, 0⟩ most 8 = ⟨[], 10⟩ :=
  row_short l.length 8 c (eights l) most hl (by rw [eights_length]; omega) hm (by rw [ints_length] at hc; omega)
theorem text_cut (s : List (BitVec 8)) (c : Nat) (most : Int) (hl : s.length < 4294967296) (hm : (s.length : Int) ≤ most) (hc : c < (text s).length) : rowS ⟨(text s).take c, 0⟩ most 1 = ⟨[], 10⟩ :=
  row_short s.length 1 c s most hl (by omega) hm (by rw [text_length] at hc; omega)

/-- A number, numbers and a text, cut: something is too short. -/
def all (x : BitVec 64) (l : List (BitVec 64)) (s : List (BitVec 8)) : List (BitVec 8) := (leb x 8 ++ ints l) ++ text s
theorem all_length (x : BitVec 64) (l : List (BitVec 64)) (s : List (BitVec 8)) : (all x l s).length = 16 + 8 * l.length + s.length := by
  simp only [all, List.length_append, leb_length, ints_length, text_length]
  omega
theorem take_past {α : Type} (a b : List α) (c : Nat) (h : a.length ≤ c) : (a ++ b).take c = a ++ b.take (c - a.length) := by
  rw [List.take_append, List.take_of_length_le h]
theorem cut_short (x : BitVec 64) (l : List (BitVec 64)) (s : List (BitVec 8)) (c : Nat) (hl : l.length < 4294967296) (hs : s.length < 4294967296) (hc : c < (all x l s).length) :
    rowS (rowS (takeS ⟨(all x l s).take c, 0⟩ 8) l.length 8) s.length 1 = ⟨[], 10⟩ := by
  have e : all x l s = leb x 8 ++ (ints l ++ text s) := by simp [all]
  have hal := all_length x l s
  rw [e]
  by_cases h8 : c < 8
  · rw [takeS_short _ 8 (by rw [List.length_take]; omega), rowS_dead ⟨[], 10⟩ _ _ (by decide), rowS_dead ⟨[], 10⟩ _ _ (by decide)]
  · rw [take_past _ _ c (by rw [leb_length]; omega), takeS_front _ _ 8 (leb_length x 8), leb_length]
    by_cases h1 : c - 8 < (ints l).length
    · have e1 : (ints l ++ text s).take (c - 8) = (ints l).take (c - 8) := by
        rw [List.take_append_of_le_length (by omega)]
      rw [e1, ints_cut l (c - 8) _ hl (by omega) h1, rowS_dead ⟨[], 10⟩ _ _ (by decide)]
    · rw [take_past _ _ _ (by omega), (ints_take l _ _ hl (by omega)).2]
      exact text_cut s _ _ hs (by omega) (by rw [text_length, ints_length] at *; omega)
end Go.Proofs.Ytejmcplikhglbaa.Cod
