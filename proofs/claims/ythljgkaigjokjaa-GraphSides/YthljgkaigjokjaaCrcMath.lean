/- Plain mathematics of CRC-32: steps are linear and injective; sums of bytes; maps of bits. Nothing of the program. -/
import Derived.WalkKit
namespace Go.Proofs.Ythljgkaigjokjaa.Crc

def poly : BitVec 32 := (BitVec.ofNat 32 0xedb88320)
def ones : BitVec 32 := (BitVec.ofNat 32 0xffffffff)
def odd (n : BitVec 32) : Bool := n.getLsbD 0
def stp (n : BitVec 32) : BitVec 32 := if n.getLsbD 0 then (n >>> 1) ^^^ poly else n >>> 1
theorem stp_odd (n : BitVec 32) (h : odd n = true) : stp n = (n >>> 1) ^^^ poly := by unfold stp; exact if_pos h
theorem stp_even (n : BitVec 32) (h : odd n = false) : stp n = n >>> 1 := by unfold stp; exact if_neg (by unfold odd at h; rw [h]; decide)
def stps : Nat → BitVec 32 → BitVec 32
  | 0, x => x
  | k + 1, x => stps k (stp x)

theorem stp_xor (a b : BitVec 32) : stp (a ^^^ b) = stp a ^^^ stp b := by
  unfold stp
  have h : (a ^^^ b) >>> 1 = (a >>> 1) ^^^ (b >>> 1) := BitVec.ushiftRight_xor_distrib a b 1
  rw [h]
  simp only [BitVec.getLsbD_xor]
  cases a.getLsbD 0 <;> cases b.getLsbD 0 <;> simp
  · rw [BitVec.xor_assoc]
  · rw [BitVec.xor_assoc, BitVec.xor_assoc, BitVec.xor_comm (b >>> 1) poly]
  · rw [BitVec.xor_assoc (a >>> 1) poly, ← BitVec.xor_assoc poly (b >>> 1), BitVec.xor_comm poly (b >>> 1), BitVec.xor_assoc (b >>> 1), BitVec.xor_self, BitVec.xor_zero]

theorem stps_xor (k : Nat) : ∀ a b : BitVec 32, stps k (a ^^^ b) = stps k a ^^^ stps k b := by
  induction k with
  | zero => intro a b; rfl
  | succ k ih => intro a b; simp only [stps, stp_xor, ih]

theorem stps_zero (k : Nat) : stps k (BitVec.ofNat 32 0) = (BitVec.ofNat 32 0) := by
  have h := stps_xor k (BitVec.ofNat 32 0) (BitVec.ofNat 32 0)
  simpa using h

theorem stps_add (j k : Nat) : ∀ x, stps (j + k) x = stps k (stps j x) := by
  induction j with
  | zero => intro x; simp [stps]
  | succ j ih => intro x; rw [Nat.succ_add]; simp only [stps, ih]

theorem stps_succ (k : Nat) (x : BitVec 32) : stps (k + 1) x = stp (stps k x) := by
  rw [stps_add k 1]; rfl

theorem stp_eq_zero (x : BitVec 32) (h : stp x = (BitVec.ofNat 32 0)) : x = (BitVec.ofNat 32 0) := by
  unfold stp at h
  cases hb : x.getLsbD 0 with
  | true =>
    rw [hb] at h
    simp only [if_true] at h
    have h31 := congrArg (fun y : BitVec 32 => y.getLsbD 31) h
    simp [poly] at h31
  | false =>
    rw [hb] at h
    simp only [Bool.false_eq_true, if_false] at h
    apply BitVec.eq_of_getLsbD_eq
    intro i hi
    rcases i with _ | i
    · simpa using hb
    · have := congrArg (fun y : BitVec 32 => y.getLsbD i) h
      simp only [BitVec.getLsbD_ushiftRight] at this
      rw [Nat.add_comm]; simpa using this

theorem stps_eq_zero (k : Nat) : ∀ x : BitVec 32, stps k x = (BitVec.ofNat 32 0) → x = (BitVec.ofNat 32 0) := by
  induction k with
  | zero => intro x h; exact h
  | succ k ih => intro x h; exact stp_eq_zero x (ih _ h)

theorem xor_eq_zero {a b : BitVec 32} (h : a ^^^ b = (BitVec.ofNat 32 0)) : a = b := by
  have : a ^^^ b ^^^ b = (BitVec.ofNat 32 0) ^^^ b := by rw [h]
  simpa [BitVec.xor_assoc] using this

theorem stps_inj (k : Nat) (a b : BitVec 32) (h : stps k a = stps k b) : a = b := by
  apply xor_eq_zero
  apply stps_eq_zero k
  rw [stps_xor, h, BitVec.xor_self]

/-- Where the low bits are clear, steps are shifts. -/
theorem stps_low (k : Nat) : ∀ z : BitVec 32, (∀ i, i < k → z.getLsbD i = false) → stps k z = z >>> k := by
  induction k with
  | zero => intro z _; simp [stps]
  | succ k ih =>
    intro z hz
    have h0 := hz 0 (by omega)
    have e : stp z = z >>> 1 := by unfold stp; rw [h0]; simp
    simp only [stps]
    rw [e, ih]
    · rw [← BitVec.shiftRight_add]; congr 1; omega
    · intro i hi
      rw [BitVec.getLsbD_ushiftRight]
      exact hz _ (by omega)

/-- The byte-wise table: what eight steps make of a number. -/
theorem stps_byte (n : BitVec 32) : stps 8 n = (n >>> 8) ^^^ stps 8 (n &&& (BitVec.ofNat 32 0xff)) := by
  have e : n = (n &&& (BitVec.ofNat 32 0xffffff00)) ^^^ (n &&& (BitVec.ofNat 32 0xff)) := by
    apply BitVec.eq_of_getLsbD_eq
    intro i hi
    have : ∀ i : Fin 32, ∀ b : Bool, b = ((b && ((BitVec.ofNat 32 0xffffff00)).getLsbD i.val) ^^ (b && ((BitVec.ofNat 32 0xff)).getLsbD i.val)) := by decide
    have := this ⟨i, hi⟩ (n.getLsbD i)
    simpa only [BitVec.getLsbD_xor, BitVec.getLsbD_and] using this
  have e8 : (n &&& (BitVec.ofNat 32 0xffffff00)) >>> 8 = n >>> 8 := by
    apply BitVec.eq_of_getLsbD_eq
    intro i hi
    simp only [BitVec.getLsbD_ushiftRight, BitVec.getLsbD_and]
    by_cases h : 8 + i < 32
    · have : ∀ i : Fin 24, ((BitVec.ofNat 32 0xffffff00)).getLsbD (8 + i.val) = true := by decide
      rw [this ⟨i, by omega⟩]; simp
    · rw [BitVec.getLsbD_of_ge n _ (by omega)]; rfl
  have h1 : stps 8 (n &&& (BitVec.ofNat 32 0xffffff00)) = (n &&& (BitVec.ofNat 32 0xffffff00)) >>> 8 := by
    apply stps_low
    intro i hi
    have : ∀ i : Fin 8, ((BitVec.ofNat 32 0xffffff00)).getLsbD i.val = false := by decide
    rw [BitVec.getLsbD_and, this ⟨i, hi⟩]; simp
  calc stps 8 n = stps 8 ((n &&& (BitVec.ofNat 32 0xffffff00)) ^^^ (n &&& (BitVec.ofNat 32 0xff))) := by rw [← e]
    _ = _ := by rw [stps_xor, h1, e8]

/-- One byte more. -/
def byte1 (n : BitVec 32) (x : BitVec 8) : BitVec 32 := stps 8 (n ^^^ x.setWidth 32)
def run (n : BitVec 32) (l : List (BitVec 8)) : BitVec 32 := l.foldl byte1 n
def more (n : BitVec 32) (l : List (BitVec 8)) : BitVec 32 := run (n ^^^ ones) l ^^^ ones
def sum (l : List (BitVec 8)) : BitVec 32 := more (BitVec.ofNat 32 0) l
def join (a b : BitVec 32) (k : Nat) : BitVec 32 := stps (8 * k) a ^^^ b

theorem run_append (n : BitVec 32) (a b : List (BitVec 8)) : run n (a ++ b) = run (run n a) b := by simp [run]
theorem run_xor (l : List (BitVec 8)) : ∀ n d : BitVec 32, run (n ^^^ d) l = run n l ^^^ stps (8 * l.length) d := by
  induction l with
  | nil => intro n d; rfl
  | cons x l ih =>
    intro n d
    have e : byte1 (n ^^^ d) x = byte1 n x ^^^ stps 8 d := by
      unfold byte1
      rw [← stps_xor]
      congr 1
      rw [BitVec.xor_assoc, BitVec.xor_comm d, ← BitVec.xor_assoc]
    show run (byte1 (n ^^^ d) x) l = run (byte1 n x) l ^^^ _
    rw [e, ih, ← stps_add]
    congr 2
    simp only [List.length_cons]; omega

theorem more_append (n : BitVec 32) (a b : List (BitVec 8)) : more n (a ++ b) = more (more n a) b := by
  unfold more
  rw [run_append]
  congr 2
  rw [BitVec.xor_assoc, BitVec.xor_self, BitVec.xor_zero]

theorem more_join (n : BitVec 32) (b : List (BitVec 8)) : more n b = join n (sum b) b.length := by
  unfold sum more join
  rw [BitVec.xor_comm n ones, run_xor, BitVec.zero_xor, BitVec.xor_assoc, BitVec.xor_comm (run ones b), BitVec.xor_assoc, BitVec.xor_comm ones]

theorem join_add (a b : BitVec 32) (m n : Nat) : join a b (m + n) = join (join a (BitVec.ofNat 32 0) m) b n := by
  unfold join
  rw [BitVec.xor_zero, ← stps_add]
  congr 2; omega

theorem join_join (a b c : BitVec 32) (m n : Nat) : join (join a b m) c n = join a (join b c n) (m + n) := by
  unfold join
  rw [stps_xor, ← stps_add, BitVec.xor_assoc]
  congr 2; omega

theorem join_xor (a b : BitVec 32) (n : Nat) : join (a ^^^ b) (BitVec.ofNat 32 0) n = join a (BitVec.ofNat 32 0) n ^^^ join b (BitVec.ofNat 32 0) n := by
  simp only [join, BitVec.xor_zero, stps_xor]

theorem join_zero (b : BitVec 32) (n : Nat) : join (BitVec.ofNat 32 0) b n = b := by simp [join, stps_zero]

theorem run_inj (l : List (BitVec 8)) (n m : BitVec 32) (h : run n l = run m l) : n = m := by
  have e : run m l = run n l ^^^ stps (8 * l.length) (n ^^^ m) := by
    rw [← run_xor, ← BitVec.xor_assoc, BitVec.xor_self, BitVec.zero_xor]
  rw [← h] at e
  have h0 : stps (8 * l.length) (n ^^^ m) = (BitVec.ofNat 32 0) := by
    have : run n l ^^^ run n l = run n l ^^^ (run n l ^^^ stps (8 * l.length) (n ^^^ m)) := by rw [← e]
    rw [← BitVec.xor_assoc, BitVec.xor_self, BitVec.zero_xor] at this
    exact this.symm
  exact xor_eq_zero (stps_eq_zero _ _ h0)

/-- Two texts that differ in one byte have different sums. -/
theorem sum_set (l : List (BitVec 8)) (k : Nat) (x : BitVec 8) (hk : k < l.length) (hx : x ≠ l[k]) : sum (l.set k x) ≠ sum l := by
  intro h
  have e1 : l = l.take k ++ l[k] :: l.drop (k + 1) := by rw [List.getElem_cons_drop, List.take_append_drop]
  have e2 : l.set k x = l.take k ++ x :: l.drop (k + 1) := by rw [List.set_eq_take_append_cons_drop, if_pos hk]
  unfold sum more at h
  have h' : run ((BitVec.ofNat 32 0) ^^^ ones) (l.set k x) = run ((BitVec.ofNat 32 0) ^^^ ones) l := by
    have := congrArg (· ^^^ ones) h
    simpa only [BitVec.xor_assoc, BitVec.xor_self, BitVec.xor_zero] using this
  rw [e2] at h'
  have h2 : run ((BitVec.ofNat 32 0) ^^^ ones) l = run ((BitVec.ofNat 32 0) ^^^ ones) (l.take k ++ l[k] :: l.drop (k + 1)) := by rw [← e1]
  rw [h2, run_append, run_append] at h'
  have h3 := run_inj _ _ _ (show run (byte1 (run ((BitVec.ofNat 32 0) ^^^ ones) (l.take k)) x) _ = run (byte1 (run ((BitVec.ofNat 32 0) ^^^ ones) (l.take k)) l[k]) _ from h')
  unfold byte1 at h3
  have h4 := stps_inj 8 _ _ h3
  apply hx
  apply BitVec.eq_of_getLsbD_eq
  intro i hi
  have := congrArg (fun y : BitVec 32 => (run ((BitVec.ofNat 32 0) ^^^ ones) (l.take k) ^^^ y).getLsbD i) h4
  simp only [BitVec.getLsbD_xor, BitVec.getLsbD_setWidth] at this
  have hd : decide (i < 32) = true := by simp; omega
  rw [hd] at this
  revert this
  cases (run ((BitVec.ofNat 32 0) ^^^ ones) (l.take k)).getLsbD i <;> simp

/-! Maps of bits. -/
def appTo (m : Nat → BitVec 32) (n : BitVec 32) : Nat → BitVec 32
  | 0 => (BitVec.ofNat 32 0)
  | k + 1 => if n.getLsbD k then appTo m n k ^^^ m k else appTo m n k
def bit (i : Nat) : BitVec 32 := (BitVec.ofNat 32 1) <<< i

theorem appTo_lin (f : BitVec 32 → BitVec 32) (hf : ∀ a b, f (a ^^^ b) = f a ^^^ f b) (h0 : f (BitVec.ofNat 32 0) = (BitVec.ofNat 32 0)) (m : Nat → BitVec 32) (K : Nat) (hm : ∀ i, i < K → m i = f (bit i)) (n : BitVec 32) :
    ∀ k, k ≤ K → k ≤ 32 → appTo m n k = f (n &&& BitVec.ofNat 32 (2 ^ k - 1)) := by
  intro k
  induction k with
  | zero => intro _ _; simp [appTo, h0]
  | succ k ih =>
    intro hK hk
    have e : n &&& BitVec.ofNat 32 (2 ^ (k + 1) - 1) = if n.getLsbD k then (n &&& BitVec.ofNat 32 (2 ^ k - 1)) ^^^ bit k else n &&& BitVec.ofNat 32 (2 ^ k - 1) := by
      apply BitVec.eq_of_getLsbD_eq
      intro i hi
      have g : ∀ j, (BitVec.ofNat 32 (2 ^ j - 1)).getLsbD i = decide (i < j) := by
        intro j
        rw [BitVec.getLsbD_ofNat, Nat.testBit_two_pow_sub_one]
        simp [hi]
      have gb : (bit k).getLsbD i = decide (i = k) := by
        unfold bit
        simp only [BitVec.getLsbD_shiftLeft, BitVec.getLsbD_one]
        by_cases h : i = k
        · subst h; simp [hi]
        · simp only [h, decide_false]
          by_cases h2 : i < k
          · simp [h2]
          · have : ¬ (i - k = 0) := by omega
            simp [this]
      by_cases hn : n.getLsbD k = true
      · rw [if_pos hn]
        simp only [BitVec.getLsbD_xor, BitVec.getLsbD_and, g, gb]
        by_cases h : i = k
        · subst h; simp [hn]
        · have : decide (i < k + 1) = decide (i < k) := by simp; omega
          rw [this]; simp [h]
      · rw [if_neg hn]
        simp only [BitVec.getLsbD_and, g]
        by_cases h : i = k
        · subst h; simp [hn]
        · have : decide (i < k + 1) = decide (i < k) := by simp; omega
          rw [this]
    rw [e]
    simp only [appTo]
    by_cases hn : n.getLsbD k = true
    · rw [if_pos hn, if_pos hn, hf, ih (by omega) (by omega), hm k (by omega)]
    · rw [if_neg hn, if_neg hn, ih (by omega) (by omega)]

theorem and_all (n : BitVec 32) : n &&& BitVec.ofNat 32 (2 ^ 32 - 1) = n := by
  apply BitVec.eq_of_getLsbD_eq
  intro i hi
  rw [BitVec.getLsbD_and, BitVec.getLsbD_ofNat, Nat.testBit_two_pow_sub_one]
  simp [hi]

/-- The map of bits of so many steps. -/
def mapOf (k : Nat) (i : Nat) : BitVec 32 := stps k (bit i)
theorem appTo_mapOf (k : Nat) (n : BitVec 32) : appTo (mapOf k) n 32 = stps k n := by
  rw [appTo_lin (stps k) (stps_xor k) (stps_zero k) (mapOf k) 32 (fun _ _ => rfl) n 32 (by omega) (by omega), and_all]
theorem square_mapOf (k i : Nat) : appTo (mapOf k) (mapOf k i) 32 = mapOf (k + k) i := by
  rw [appTo_mapOf]; unfold mapOf; rw [stps_add]

end Go.Proofs.Ythljgkaigjokjaa.Crc
