import Derived.WalkKit
import Derived.Below
import Derived.Deep.WholeRow
import Derived.Deep.Draws
import Derived.Test.YtdkpdmpghibmmaaGreatProg
import Derived.Lib.Hide
/- Plain mathematics of CRC-32: steps are linear and injective; sums of bytes; maps of bits. Nothing of the program. -/
namespace Go.Proofs.YtdkpdmpghibmmaaGreat.Crc

def poly : BitVec 32 := (BitVec.ofNat 32 0xedb88320)
def ones : BitVec 32 := (BitVec.ofNat 32 0xffffffff)
def odd (n : BitVec 32) : Bool := n.getLsbD 0
def stp (n : BitVec 32) : BitVec 32 := if n.getLsbD 0 then (n >>> 1) ^^^ poly else n >>> 1
theorem stp_odd (n : BitVec 32) (h : odd n = true) : stp n = (n >>> 1) ^^^ poly := by unfold stp; exact if_pos h
theorem stp_even (n : BitVec 32) (h : odd n = false) : stp n = n >>> 1 := by unfold stp; exact if_neg (by unfold odd at h; rw [h]; decide)
def stps : Nat → BitVec 32 → BitVec 32
  | 0, x => x
  | k + 1, x => stps k (stp x)

theorem stp_xor (a b : BitVec 32) : stp (a ^^^ b) = stp a ^^^ stp b := by
  unfold stp
  have h : (a ^^^ b) >>> 1 = (a >>> 1) ^^^ (b >>> 1) := BitVec.ushiftRight_xor_distrib a b 1
  rw [h]
  simp only [BitVec.getLsbD_xor]
  cases a.getLsbD 0 <;> cases b.getLsbD 0 <;> simp
  · rw [BitVec.xor_assoc]
  · rw [BitVec.xor_assoc, BitVec.xor_assoc, BitVec.xor_comm (b >>> 1) poly]
  · rw [BitVec.xor_assoc (a >>> 1) poly, ← BitVec.xor_assoc poly (b >>> 1), BitVec.xor_comm poly (b >>> 1), BitVec.xor_assoc (b >>> 1), BitVec.xor_self, BitVec.xor_zero]

theorem stps_xor (k : Nat) : ∀ a b : BitVec 32, stps k (a ^^^ b) = stps k a ^^^ stps k b := by
  induction k with
  | zero => intro a b; rfl
  | succ k ih => intro a b; simp only [stps, stp_xor, ih]

theorem stps_zero (k : Nat) : stps k (BitVec.ofNat 32 0) = (BitVec.ofNat 32 0) := by
  have h := stps_xor k (BitVec.ofNat 32 0) (BitVec.ofNat 32 0)
  simpa using h

theorem stps_add (j k : Nat) : ∀ x, stps (j + k) x = stps k (stps j x) := by
  induction j with
  | zero => intro x; simp [stps]
  | succ j ih => intro x; rw [Nat.succ_add]; simp only [stps, ih]

theorem stps_succ (k : Nat) (x : BitVec 32) : stps (k + 1) x = stp (stps k x) := by
  rw [stps_add k 1]; rfl

theorem stp_eq_zero (x : BitVec 32) (h : stp x = (BitVec.ofNat 32 0)) : x = (BitVec.ofNat 32 0) := by
  unfold stp at h
  cases hb : x.getLsbD 0 with
  | true =>
    rw [hb] at h
    simp only [if_true] at h
    have h31 := congrArg (fun y : BitVec 32 => y.getLsbD 31) h
    simp [poly] at h31
  | false =>
    rw [hb] at h
    simp only [Bool.false_eq_true, if_false] at h
    apply BitVec.eq_of_getLsbD_eq
    intro i hi
    rcases i with _ | i
    · simpa using hb
    · have := congrArg (fun y : BitVec 32 => y.getLsbD i) h
      simp only [BitVec.getLsbD_ushiftRight] at this
      rw [Nat.add_comm]; simpa using this

theorem stps_eq_zero (k : Nat) : ∀ x : BitVec 32, stps k x = (BitVec.ofNat 32 0) → x = (BitVec.ofNat 32 0) := by
  induction k with
  | zero => intro x h; exact h
  | succ k ih => intro x h; exact stp_eq_zero x (ih _ h)

theorem xor_eq_zero {a b : BitVec 32} (h : a ^^^ b = (BitVec.ofNat 32 0)) : a = b := by
  have : a ^^^ b ^^^ b = (BitVec.ofNat 32 0) ^^^ b := by rw [h]
  simpa [BitVec.xor_assoc] using this

theorem stps_inj (k : Nat) (a b : BitVec 32) (h : stps k a = stps k b) : a = b := by
  apply xor_eq_zero
  apply stps_eq_zero k
  rw [stps_xor, h, BitVec.xor_self]

/-- Where the low bits are clear, steps are shifts. -/
theorem stps_low (k : Nat) : ∀ z : BitVec 32, (∀ i, i < k → z.getLsbD i = false) → stps k z = z >>> k := by
  induction k with
  | zero => intro z _; simp [stps]
  | succ k ih =>
    intro z hz
    have h0 := hz 0 (by omega)
    have e : stp z = z >>> 1 := by unfold stp; rw [h0]; simp
    simp only [stps]
    rw [e, ih]
    · rw [← BitVec.shiftRight_add]; congr 1; omega
    · intro i hi
      rw [BitVec.getLsbD_ushiftRight]
      exact hz _ (by omega)

/-- The byte-wise table: what eight steps make of a number. -/
theorem stps_byte (n : BitVec 32) : stps 8 n = (n >>> 8) ^^^ stps 8 (n &&& (BitVec.ofNat 32 0xff)) := by
  have e : n = (n &&& (BitVec.ofNat 32 0xffffff00)) ^^^ (n &&& (BitVec.ofNat 32 0xff)) := by
    apply BitVec.eq_of_getLsbD_eq
    intro i hi
    have : ∀ i : Fin 32, ∀ b : Bool, b = ((b && ((BitVec.ofNat 32 0xffffff00)).getLsbD i.val) ^^ (b && ((BitVec.ofNat 32 0xff)).getLsbD i.val)) := by decide
    have := this ⟨i, hi⟩ (n.getLsbD i)
    simpa only [BitVec.getLsbD_xor, BitVec.getLsbD_and] using this
  have e8 : (n &&& (BitVec.ofNat 32 0xffffff00)) >>> 8 = n >>> 8 := by
    apply BitVec.eq_of_getLsbD_eq
    intro i hi
    simp only [BitVec.getLsbD_ushiftRight, BitVec.getLsbD_and]
    by_cases h : 8 + i < 32
    · have : ∀ i : Fin 24, ((BitVec.ofNat 32 0xffffff00)).getLsbD (8 + i.val) = true := by decide
      rw [this ⟨i, by omega⟩]; simp
    · rw [BitVec.getLsbD_of_ge n _ (by omega)]; rfl
  have h1 : stps 8 (n &&& (BitVec.ofNat 32 0xffffff00)) = (n &&& (BitVec.ofNat 32 0xffffff00)) >>> 8 := by
    apply stps_low
    intro i hi
    have : ∀ i : Fin 8, ((BitVec.ofNat 32 0xffffff00)).getLsbD i.val = false := by decide
    rw [BitVec.getLsbD_and, this ⟨i, hi⟩]; simp
  calc stps 8 n = stps 8 ((n &&& (BitVec.ofNat 32 0xffffff00)) ^^^ (n &&& (BitVec.ofNat 32 0xff))) := by rw [← e]
    _ = _ := by rw [stps_xor, h1, e8]

/-- One byte more. -/
def byte1 (n : BitVec 32) (x : BitVec 8) : BitVec 32 := stps 8 (n ^^^ x.setWidth 32)
def run (n : BitVec 32) (l : List (BitVec 8)) : BitVec 32 := l.foldl byte1 n
def more (n : BitVec 32) (l : List (BitVec 8)) : BitVec 32 := run (n ^^^ ones) l ^^^ ones
def sum (l : List (BitVec 8)) : BitVec 32 := more (BitVec.ofNat 32 0) l
def join (a b : BitVec 32) (k : Nat) : BitVec 32 := stps (8 * k) a ^^^ b

theorem run_append (n : BitVec 32) (a b : List (BitVec 8)) : run n (a ++ b) = run (run n a) b := by simp [run]
theorem run_xor (l : List (BitVec 8)) : ∀ n d : BitVec 32, run (n ^^^ d) l = run n l ^^^ stps (8 * l.length) d := by
  induction l with
  | nil => intro n d; rfl
  | cons x l ih =>
    intro n d
    have e : byte1 (n ^^^ d) x = byte1 n x ^^^ stps 8 d := by
      unfold byte1
      rw [← stps_xor]
      congr 1
      rw [BitVec.xor_assoc, BitVec.xor_comm d, ← BitVec.xor_assoc]
    show run (byte1 (n ^^^ d) x) l = run (byte1 n x) l ^^^ _
    rw [e, ih, ← stps_add]
    congr 2
    simp only [List.length_cons]; omega

theorem more_append (n : BitVec 32) (a b : List (BitVec 8)) : more n (a ++ b) = more (more n a) b := by
  unfold more
  rw [run_append]
  congr 2
  rw [BitVec.xor_assoc, BitVec.xor_self, BitVec.xor_zero]

theorem more_join (n : BitVec 32) (b : List (BitVec 8)) : more n b = join n (sum b) b.length := by
  unfold sum more join
  rw [BitVec.xor_comm n ones, run_xor, BitVec.zero_xor, BitVec.xor_assoc, BitVec.xor_comm (run ones b), BitVec.xor_assoc, BitVec.xor_comm ones]

theorem join_add (a b : BitVec 32) (m n : Nat) : join a b (m + n) = join (join a (BitVec.ofNat 32 0) m) b n := by
  unfold join
  rw [BitVec.xor_zero, ← stps_add]
  congr 2; omega

theorem join_join (a b c : BitVec 32) (m n : Nat) : join (join a b m) c n = join a (join b c n) (m + n) := by
  unfold join
  rw [stps_xor, ← stps_add, BitVec.xor_assoc]
  congr 2; omega

theorem join_xor (a b : BitVec 32) (n : Nat) : join (a ^^^ b) (BitVec.ofNat 32 0) n = join a (BitVec.ofNat 32 0) n ^^^ join b (BitVec.ofNat 32 0) n := by
  simp only [join, BitVec.xor_zero, stps_xor]

theorem join_zero (b : BitVec 32) (n : Nat) : join (BitVec.ofNat 32 0) b n = b := by simp [join, stps_zero]

theorem run_inj (l : List (BitVec 8)) (n m : BitVec 32) (h : run n l = run m l) : n = m := by
  have e : run m l = run n l ^^^ stps (8 * l.length) (n ^^^ m) := by
    rw [← run_xor, ← BitVec.xor_assoc, BitVec.xor_self, BitVec.zero_xor]
  rw [← h] at e
  have h0 : stps (8 * l.length) (n ^^^ m) = (BitVec.ofNat 32 0) := by
    have : run n l ^^^ run n l = run n l ^^^ (run n l ^^^ stps (8 * l.length) (n ^^^ m)) := by rw [← e]
    rw [← BitVec.xor_assoc, BitVec.xor_self, BitVec.zero_xor] at this
    exact this.symm
  exact xor_eq_zero (stps_eq_zero _ _ h0)

/-- Two texts that differ in one byte have different sums. -/
theorem sum_set (l : List (BitVec 8)) (k : Nat) (x : BitVec 8) (hk : k < l.length) (hx : x ≠ l[k]) : sum (l.set k x) ≠ sum l := by
  intro h
  have e1 : l = l.take k ++ l[k] :: l.drop (k + 1) := by rw [List.getElem_cons_drop, List.take_append_drop]
  have e2 : l.set k x = l.take k ++ x :: l.drop (k + 1) := by rw [List.set_eq_take_append_cons_drop, if_pos hk]
  unfold sum more at h
  have h' : run ((BitVec.ofNat 32 0) ^^^ ones) (l.set k x) = run ((BitVec.ofNat 32 0) ^^^ ones) l := by
    have := congrArg (· ^^^ ones) h
    simpa only [BitVec.xor_assoc, BitVec.xor_self, BitVec.xor_zero] using this
  rw [e2] at h'
  have h2 : run ((BitVec.ofNat 32 0) ^^^ ones) l = run ((BitVec.ofNat 32 0) ^^^ ones) (l.take k ++ l[k] :: l.drop (k + 1)) := by rw [← e1]
  rw [h2, run_append, run_append] at h'
  have h3 := run_inj _ _ _ (show run (byte1 (run ((BitVec.ofNat 32 0) ^^^ ones) (l.take k)) x) _ = run (byte1 (run ((BitVec.ofNat 32 0) ^^^ ones) (l.take k)) l[k]) _ from h')
  unfold byte1 at h3
  have h4 := stps_inj 8 _ _ h3
  apply hx
  apply BitVec.eq_of_getLsbD_eq
  intro i hi
  have := congrArg (fun y : BitVec 32 => (run ((BitVec.ofNat 32 0) ^^^ ones) (l.take k) ^^^ y).getLsbD i) h4
  simp only [BitVec.getLsbD_xor, BitVec.getLsbD_setWidth] at this
  have hd : decide (i < 32) = true := by simp; omega
  rw [hd] at this
  revert this
  cases (run ((BitVec.ofNat 32 0) ^^^ ones) (l.take k)).getLsbD i <;> simp

/-! Maps of bits. -/
def appTo (m : Nat → BitVec 32) (n : BitVec 32) : Nat → BitVec 32
  | 0 => (BitVec.ofNat 32 0)
  | k + 1 => if n.getLsbD k then appTo m n k ^^^ m k else appTo m n k
def bit (i : Nat) : BitVec 32 := (BitVec.ofNat 32 1) <<< i

theorem appTo_lin (f : BitVec 32 → BitVec 32) (hf : ∀ a b, f (a ^^^ b) = f a ^^^ f b) (h0 : f (BitVec.ofNat 32 0) = (BitVec.ofNat 32 0)) (m : Nat → BitVec 32) (K : Nat) (hm : ∀ i, i < K → m i = f (bit i)) (n : BitVec 32) :
    ∀ k, k ≤ K → k ≤ 32 → appTo m n k = f (n &&& BitVec.ofNat 32 (2 ^ k - 1)) := by
  intro k
  induction k with
  | zero => intro _ _; simp [appTo, h0]
  | succ k ih =>
    intro hK hk
    have e : n &&& BitVec.ofNat 32 (2 ^ (k + 1) - 1) = if n.getLsbD k then (n &&& BitVec.ofNat 32 (2 ^ k - 1)) ^^^ bit k else n &&& BitVec.ofNat 32 (2 ^ k - 1) := by
      apply BitVec.eq_of_getLsbD_eq
      intro i hi
      have g : ∀ j, (BitVec.ofNat 32 (2 ^ j - 1)).getLsbD i = decide (i < j) := by
        intro j
        rw [BitVec.getLsbD_ofNat, Nat.testBit_two_pow_sub_one]
        simp [hi]
      have gb : (bit k).getLsbD i = decide (i = k) := by
        unfold bit
        simp only [BitVec.getLsbD_shiftLeft, BitVec.getLsbD_one]
        by_cases h : i = k
        · subst h; simp [hi]
        · simp only [h, decide_false]
          by_cases h2 : i < k
          · simp [h2]
          · have : ¬ (i - k = 0) := by omega
            simp [this]
      by_cases hn : n.getLsbD k = true
      · rw [if_pos hn]
        simp only [BitVec.getLsbD_xor, BitVec.getLsbD_and, g, gb]
        by_cases h : i = k
        · subst h; simp [hn]
        · have : decide (i < k + 1) = decide (i < k) := by simp; omega
          rw [this]; simp [h]
      · rw [if_neg hn]
        simp only [BitVec.getLsbD_and, g]
        by_cases h : i = k
        · subst h; simp [hn]
        · have : decide (i < k + 1) = decide (i < k) := by simp; omega
          rw [this]
    rw [e]
    simp only [appTo]
    by_cases hn : n.getLsbD k = true
    · rw [if_pos hn, if_pos hn, hf, ih (by omega) (by omega), hm k (by omega)]
    · rw [if_neg hn, if_neg hn, ih (by omega) (by omega)]

theorem and_all (n : BitVec 32) : n &&& BitVec.ofNat 32 (2 ^ 32 - 1) = n := by
  apply BitVec.eq_of_getLsbD_eq
  intro i hi
  rw [BitVec.getLsbD_and, BitVec.getLsbD_ofNat, Nat.testBit_two_pow_sub_one]
  simp [hi]

/-- The map of bits of so many steps. -/
def mapOf (k : Nat) (i : Nat) : BitVec 32 := stps k (bit i)
theorem appTo_mapOf (k : Nat) (n : BitVec 32) : appTo (mapOf k) n 32 = stps k n := by
  rw [appTo_lin (stps k) (stps_xor k) (stps_zero k) (mapOf k) 32 (fun _ _ => rfl) n 32 (by omega) (by omega), and_all]
theorem square_mapOf (k i : Nat) : appTo (mapOf k) (mapOf k i) 32 = mapOf (k + k) i := by
  rw [appTo_mapOf]; unfold mapOf; rw [stps_add]

end Go.Proofs.YtdkpdmpghibmmaaGreat.Crc

/- How the walk's numbers stand for words of bits: U of 32 bits, B of 8. -/
namespace Go.Proofs.YtdkpdmpghibmmaaGreat
open Go.RowKit

theorem ret_int {k : IntKind} {a b : Int} (h : a = b) : Ending.returned (.int k a) = .returned (.int k b) := by rw [h]
theorem val_int {k : IntKind} {a b : Int} (h : a = b) : Value.int k a = .int k b := by rw [h]
/-- A word of 32 bits as the model's number. -/
def U (x : BitVec 32) : Int := (x.toNat : Int)
/-- A byte as the model's number. -/
def B (x : BitVec 8) : Int := (x.toNat : Int)

theorem U_ge (x : BitVec 32) : 0 ≤ U x := by unfold U; omega
theorem U_lt (x : BitVec 32) : U x < 4294967296 := by unfold U; have := x.isLt; omega
theorem B_ge (x : BitVec 8) : 0 ≤ B x := by unfold B; omega
theorem B_lt (x : BitVec 8) : B x < 256 := by unfold B; have := x.isLt; omega
theorem U_of (n : Int) (h : (Lit.int .u32 n).wf = true) : ∃ x, n = U x := by
  simp [Lit.wf, IntKind.min, IntKind.max, IntKind.signed, IntKind.bits] at h
  refine ⟨BitVec.ofNat 32 n.toNat, ?_⟩
  unfold U
  rw [BitVec.toNat_ofNat]
  omega
theorem B_of (n : Int) (h : (Lit.int .u8 n).wf = true) : ∃ x, n = B x := by
  simp [Lit.wf, IntKind.min, IntKind.max, IntKind.signed, IntKind.bits] at h
  refine ⟨BitVec.ofNat 8 n.toNat, ?_⟩
  unfold B
  rw [BitVec.toNat_ofNat]
  omega
theorem U_inj {x y : BitVec 32} (h : U x = U y) : x = y := by
  unfold U at h
  exact BitVec.eq_of_toNat_eq (by omega)
theorem B_inj {x y : BitVec 8} (h : B x = B y) : x = y := by
  unfold B at h
  exact BitVec.eq_of_toNat_eq (by omega)
theorem U_beq (x y : BitVec 32) : (U x == U y) = decide (x = y) := by
  by_cases h : x = y
  · subst h; simp
  · have : U x ≠ U y := fun e => h (U_inj e)
    simp [this, h]
theorem B_beq (x y : BitVec 8) : (B x == B y) = decide (x = y) := by
  by_cases h : x = y
  · subst h; simp
  · have : B x ≠ B y := fun e => h (B_inj e)
    simp [this, h]

theorem U_xor (x y : BitVec 32) : bits .xor .u32 (U x) (U y) = U (x ^^^ y) := by
  unfold U
  rw [u32_xor_nat _ _ x.isLt y.isLt, BitVec.toNat_xor]
theorem U_xor_ones (x : BitVec 32) : bits .xor .u32 (U x) 4294967295 = U (x ^^^ Crc.ones) := U_xor x Crc.ones
theorem U_xor_poly (x : BitVec 32) : bits .xor .u32 (U x) 3988292384 = U (x ^^^ Crc.poly) := U_xor x Crc.poly
theorem U_and1 (x : BitVec 32) : (bits .and .u32 (U x) 1 == 1) = Crc.odd x := by
  unfold Crc.odd
  have h := u32_and_nat x.toNat 1 x.isLt (by decide)
  have e : bits .and .u32 (U x) 1 = ((x.toNat &&& 1 : Nat) : Int) := h
  rw [e, Nat.and_one_is_mod]
  have hb : x.getLsbD 0 = x.toNat.testBit 0 := rfl
  rw [hb, Nat.testBit_zero]
  have : x.toNat % 2 = 0 ∨ x.toNat % 2 = 1 := by omega
  rcases this with h | h <;> simp [h]
theorem U_shr1 (x : BitVec 32) : U x / (2 : Int) = U (x >>> 1) := by
  unfold U
  rw [BitVec.toNat_ushiftRight, Nat.shiftRight_eq_div_pow]
  simp
theorem U_shr8 (x : BitVec 32) : U x / (256 : Int) = U (x >>> 8) := by
  unfold U
  rw [BitVec.toNat_ushiftRight, Nat.shiftRight_eq_div_pow]
  simp
theorem B_xor (x y : BitVec 8) : bits .xor .u8 (B x) (B y) = B (x ^^^ y) := by
  unfold B
  rw [u8_xor_nat _ _ x.isLt y.isLt, BitVec.toNat_xor]
theorem U_low (x : BitVec 32) : U x % (256 : Int) = B (x.setWidth 8) := by
  unfold U B
  rw [BitVec.toNat_setWidth]
  omega
theorem U_mod2 (x : BitVec 32) : (U x % (2 : Int) == (1 : Int)) = Crc.odd x := by
  unfold Crc.odd
  have hb : x.getLsbD 0 = x.toNat.testBit 0 := rfl
  rw [hb, Nat.testBit_zero]
  unfold U
  have : x.toNat % 2 = 0 ∨ x.toNat % 2 = 1 := by omega
  rcases this with h | h
  · have e : (x.toNat : Int) % 2 = 0 := by omega
    simp [h, e]
  · have e : (x.toNat : Int) % 2 = 1 := by omega
    simp [h, e]
theorem B_mod32 (x : BitVec 8) : B x % (4294967296 : Int) = U (x.setWidth 32) := by
  unfold B U
  rw [BitVec.toNat_setWidth]
  have := x.isLt
  omega
theorem U_mod32 (x : BitVec 32) : U x % (4294967296 : Int) = U x := by
  unfold U
  have := x.isLt
  omega
end Go.Proofs.YtdkpdmpghibmmaaGreat

/- Words for memory: a row of cells that lies whole in a block; a table of words; a slice that reads as bytes. -/
namespace Go.Proofs.YtdkpdmpghibmmaaGreat
open Go.RowKit

/-- Block g is just these cells, none of them marked. -/
def Row (w : World) (g : Nat) (t : TypeId) (cs : Array Value) : Prop := w.heap[g]? = some (.cells cs t (0, 0))

theorem Row.lt {w : World} {g : Nat} {t : TypeId} {cs : Array Value} (h : Row w g t cs) : g < w.heap.size := (Array.getElem?_eq_some_iff.1 h).1
theorem Row.cell {w : World} {g : Nat} {t : TypeId} {cs : Array Value} (h : Row w g t cs) (i : Nat) : w.cell? ⟨g, i, none⟩ = cs[i]? := cell_of_row w g i cs t (0, 0) h
theorem Row.thaw {w : World} {g : Nat} {t : TypeId} {cs : Array Value} (h : Row w g t cs) (i : Nat) : w.frozen? ⟨g, i, none⟩ = false := frozen_of_row w g i cs t h
theorem Row.fresh (w : World) (t : TypeId) (cs : Array Value) : Row (w.alloc (.cells cs t)) w.heap.size t cs := heap_alloc_new w _
theorem Row.past {w : World} {g : Nat} {t : TypeId} {cs : Array Value} (h : Row w g t cs) (o : Obj) : Row (w.alloc o) g t cs := (Below.heap_alloc w o g h.lt).trans h
theorem Row.put {w : World} {g : Nat} {t : TypeId} {cs : Array Value} (h : Row w g t cs) (i : Nat) (v : Value) : Row (w.setCell ⟨g, i, none⟩ v) g t (cs.setIfInBounds i v) := heap_setCell_same w g i cs t v h
theorem Row.away {w : World} {g : Nat} {t : TypeId} {cs : Array Value} (h : Row w g t cs) {a : Addr} (ha : g ≠ a.block) (v : Value) : Row (w.setCell a v) g t cs := (heap_setCell_other w a g v ha).trans h
theorem Row.under {w w' : World} {K g : Nat} {t : TypeId} {cs : Array Value} (h : Row w g t cs) (hb : Below K w w') (hg : g < K) : Row w' g t cs := (hb.block g hg).trans h
theorem Row.whole {w : World} {g : Nat} {t : TypeId} {cs : Array Value} (h : Row w g t cs) (cs' : Array Value) : Row (w.setRow g cs') g t cs' := setRow_heap w g cs cs' t (0, 0) h
theorem Row.wholeAway {w : World} {g : Nat} {t : TypeId} {cs : Array Value} (h : Row w g t cs) {k : Nat} (hk : g ≠ k) (cs' : Array Value) : Row (w.setRow k cs') g t cs := (setRow_other w k g cs' hk).trans h
theorem below_setRow' {K : Nat} {a w : World} (h : Below K a w) {g : Nat} (hg : K ≤ g) (cs : Array Value) : Below K a (w.setRow g cs) :=
  h.trans ⟨rfl, rfl, rfl, by simp, fun k hk => setRow_other w g k cs (by omega)⟩

/-- n words of 32 bits, as cells. -/
def words (n : Nat) (f : Nat → BitVec 32) : Array Value := Array.ofFn (n := n) fun i => .int .u32 (U (f i.val))
theorem words_size (n : Nat) (f : Nat → BitVec 32) : (words n f).size = n := by simp [words]
theorem words_get (n : Nat) (f : Nat → BitVec 32) (i : Nat) (h : i < n) : (words n f)[i]? = some (.int .u32 (U (f i))) := by simp [words, h]
theorem words_cells (n : Nat) (f : Nat → BitVec 32) : (words n f).all (·.oneCell') = true := by
  rw [Array.all_eq_true]
  intro i hi
  simp [words, Value.oneCell']
theorem words_put (n : Nat) (f : Nat → BitVec 32) (k : Nat) (y : BitVec 32) : (words n f).setIfInBounds k (.int .u32 (U y)) = words n (fun i => if i = k then y else f i) := by
  apply Array.ext_getElem?
  intro i
  rw [Array.getElem?_setIfInBounds]
  by_cases hi : i < n
  · rw [words_get n (fun i => if i = k then y else f i) i hi]
    by_cases hk : k = i
    · subst hk; simp [words_size, hi]
    · have : ¬ i = k := fun e => hk e.symm
      rw [if_neg hk, words_get n f i hi, if_neg this]
  · have h1 : (words n f)[i]? = none := by simp [words]; omega
    have h2 : (words n (fun i => if i = k then y else f i))[i]? = none := by simp [words]; omega
    rw [h1, h2]
    split
    · rw [words_size]; rename_i e; rw [if_neg (by omega)]
    · rfl
theorem words_congr (n : Nat) (f g : Nat → BitVec 32) (h : ∀ i, i < n → f i = g i) : words n f = words n g := by
  apply Array.ext_getElem?
  intro i
  by_cases hi : i < n
  · rw [words_get n _ i hi, words_get n _ i hi, h i hi]
  · have h1 : (words n f)[i]? = none := by simp [words]; omega
    have h2 : (words n g)[i]? = none := by simp [words]; omega
    rw [h1, h2]

/-- A slice whose first cell is at a reads as these bytes. -/
def Bytes (w : World) (a : Option Addr) (l : List (BitVec 8)) : Prop :=
  l = [] ∨ ∃ b o, a = some ⟨b, o, none⟩ ∧ ∀ i x, l[i]? = some x → w.cell? ⟨b, o + i, none⟩ = some (.int .u8 (B x))

theorem Bytes.at_ {w : World} {a : Option Addr} {l : List (BitVec 8)} (h : Bytes w a l) {i : Nat} (hi : i < l.length) : ∃ b o, a = some ⟨b, o, none⟩ ∧ b < w.heap.size ∧ w.cell? ⟨b, o + i, none⟩ = some (.int .u8 (B (l[i]'hi))) := by
  rcases h with rfl | ⟨b, o, rfl, h⟩
  · simp at hi
  · have hc := h i (l[i]'hi) (List.getElem?_eq_getElem hi)
    exact ⟨b, o, rfl, block_lt_of_cell hc, hc⟩
theorem Bytes.under {w w' : World} {a : Option Addr} {l : List (BitVec 8)} (h : Bytes w a l) (hb : Below w.heap.size w w') : Bytes w' a l := by
  rcases h with h | ⟨b, o, rfl, h⟩
  · exact .inl h
  · refine .inr ⟨b, o, rfl, fun i x hx => ?_⟩
    have hc := h i x hx
    have hl : b < w.heap.size := block_lt_of_cell hc
    rw [hb.cell (p := ⟨b, o + i, none⟩) hl]
    exact hc
theorem bytes_of {w : World} {x : Addr} {len cap : Nat} {zs : List Int} (hl : len ≤ cap) (hz : zs.length = cap) (hcell : ∀ i, i < zs.length → w.cell? (x.add i) = some (.int .u8 (zs.getD i 0)))
    (hwz : ∀ n ∈ zs, (Lit.int .u8 n).wf = true) : ∃ l, l.length = len ∧ Bytes w (some x) l := by
  rcases Nat.eq_zero_or_pos len with h0 | h0
  · exact ⟨[], by rw [h0]; rfl, .inl rfl⟩
  · obtain ⟨b, o, spot⟩ := x
    have hc := hcell 0 (by omega)
    have hspot : spot = none := by simpa [Addr.add] using World.cell?_spot hc
    subst hspot
    refine ⟨(zs.take len).map (fun z => BitVec.ofNat 8 z.toNat), by simp; omega, .inr ⟨b, o, rfl, fun i v hv => ?_⟩⟩
    rw [List.getElem?_map] at hv
    have hi : i < len := by
      rcases Nat.lt_or_ge i len with h | h
      · exact h
      · rw [List.getElem?_eq_none (by simp; omega)] at hv
        simp at hv
    have hiz : i < zs.length := by omega
    rw [List.getElem?_take_of_lt hi, List.getElem?_eq_getElem hiz] at hv
    simp only [Option.map_some, Option.some.injEq] at hv
    subst hv
    have hcc := hcell i hiz
    have ea : (⟨b, o, none⟩ : Addr).add i = ⟨b, o + i, none⟩ := by
      unfold Addr.add
      split
      · simp_all
      · rfl
    rw [ea] at hcc
    rw [hcc]
    have hw := hwz zs[i] (List.getElem_mem hiz)
    obtain ⟨y, hy⟩ := B_of _ hw
    have e2 : zs.getD i 0 = zs[i] := by simp [List.getD, hiz]
    rw [e2, hy]
    congr 2
    unfold B
    have := y.isLt
    simp
theorem Bytes.nil (w : World) (a : Option Addr) : Bytes w a [] := .inl rfl
end Go.Proofs.YtdkpdmpghibmmaaGreat

/- Worlds of which only some blocks turned. -/
namespace Go.Proofs.YtdkpdmpghibmmaaGreat
open Go.RowKit

abbrev ptr (g : Nat) : Value := .pointer (some ⟨g, 0, none⟩)
/-- Nothing turned but the blocks of S. -/
structure Only (S : Nat → Prop) (w w' : World) : Prop where
  os : w'.os = w.os
  tape : w'.tape = w.tape
  output : w'.output = w.output
  size : w.heap.size ≤ w'.heap.size
  block : ∀ k, k < w.heap.size → ¬ S k → w'.heap[k]? = w.heap[k]?

theorem Only.refl (S : Nat → Prop) (w : World) : Only S w w := ⟨rfl, rfl, rfl, Nat.le_refl _, fun _ _ _ => rfl⟩
theorem Only.trans {S : Nat → Prop} {a b c : World} (h : Only S a b) {S' : Nat → Prop} (k : Only S' b c) (hS : ∀ i, S' i → S i ∨ a.heap.size ≤ i) : Only S a c :=
  ⟨k.os.trans h.os, k.tape.trans h.tape, k.output.trans h.output, Nat.le_trans h.size k.size, fun i hi hn => (k.block i (by have := h.size; omega) (fun s => by rcases hS i s with x | x; exact hn x; omega)).trans (h.block i hi hn)⟩
theorem Only.mono {S S' : Nat → Prop} {w w' : World} (h : Only S w w') (hS : ∀ k, S k → S' k ∨ w.heap.size ≤ k) : Only S' w w' :=
  ⟨h.os, h.tape, h.output, h.size, fun k hk hn => h.block k hk (fun s => by rcases hS k s with x | x; exact hn x; omega)⟩
theorem Only.of_below (S : Nat → Prop) {w w' : World} (h : Below w.heap.size w w') : Only S w w' := ⟨h.os, h.tape, h.output, h.size, fun k hk _ => h.block k hk⟩
theorem Only.alloc {S : Nat → Prop} {a w : World} (h : Only S a w) (o : Obj) : Only S a (w.alloc o) :=
  ⟨h.os, h.tape, h.output, by have := h.size; simp; omega, fun k hk hn => (Below.heap_alloc _ _ _ (by have := h.size; omega)).trans (h.block k hk hn)⟩
theorem Only.setCell {S : Nat → Prop} {a w : World} (h : Only S a w) {p : Addr} (hp : S p.block ∨ a.heap.size ≤ p.block) (u : Value) : Only S a (w.setCell p u) :=
  ⟨h.os, h.tape, h.output, by simpa [World.setCell] using h.size, fun k hk hn => (Below.heap_setCell _ _ _ _ (fun e => by subst e; rcases hp with x | x; exact hn x; omega)).trans (h.block k hk hn)⟩
theorem Only.drew {S : Nat → Prop} {a w : World} (h : Only S a w) : Only S a w.drew := ⟨h.os, h.tape, h.output, h.size, h.block⟩
theorem Only.below {S : Nat → Prop} {w w' : World} (h : Only S w w') {K : Nat} (hK : ∀ k, S k → K ≤ k) (hk : K ≤ w.heap.size) : Below K w w' :=
  ⟨h.os, h.tape, h.output, h.size, fun k hk' => h.block k (by omega) (fun s => by have := hK k s; omega)⟩
theorem Only.grown {S : Nat → Prop} {a w w' : World} {row : Option Nat} (h : Only S a w) (hg : w.grownBy w' row) (hr : ∀ k, row = some k → S k ∨ a.heap.size ≤ k) : Only S a w' :=
  h.trans (S' := fun k => row = some k) ⟨hg.os, hg.tape, hg.output, hg.size, fun k hk hn => hg.block k hk (fun e => hn e.symm)⟩ (fun i e => hr i e)
theorem Row.only {S : Nat → Prop} {w w' : World} {g : Nat} {t : TypeId} {cs : Array Value} (h : Row w g t cs) (hb : Only S w w') (hg : ¬ S g) : Row w' g t cs := (hb.block g h.lt hg).trans h

end Go.Proofs.YtdkpdmpghibmmaaGreat

