/- Walks: row, Text, Ints of a Reader. -/
import Derived.Test.YtejmcplikhglbaaCodecD
namespace Go.Proofs.Ytejmcplikhglbaa
open Go.RowKit
variable {K : Nat}
attribute [local go_sem] W_or W_shr8 W_low B_w64 W_w64 I_w64 W_shl_w W_wrap64 str_size

theorem text1_any (a : Option Addr) (l : List (BitVec 8)) (c : Nat) (w : World) (hB : Bytes w a l) :
    Calls Try.prog 38 #[.slice a l.length c] w fun e w' => e = .returned (.string (str l)) ∧ w = w' := by
  have h1 := conv_str w a l c hB
  go_enter Try.func38, Try.ntmps38
  go_wp2
  go_ret
  exact ⟨rfl, rfl⟩

/-- Ints as cells. -/
def ncells (l : List (BitVec 64)) : List Value := l.map num64
theorem ncells_length (l : List (BitVec 64)) : (ncells l).length = l.length := by simp [ncells]
theorem ncells_get (l : List (BitVec 64)) (i : Nat) : (ncells l)[i]? = (l[i]?).map num64 := by simp [ncells]
theorem ncells_set (l : List (BitVec 64)) (i : Nat) (x : BitVec 64) : (ncells l).toArray.setIfInBounds i (.int .i64 (I x)) = (ncells (l.set i x)).toArray := by
  simp [ncells, List.map_set, num64]
theorem Row.nums {w : World} {g : Nat} {l : List (BitVec 64)} (h : Row w g 3 (ncells l).toArray) : Nums w (some ⟨g, 0, none⟩) l := by
  refine .inr ⟨g, 0, rfl, fun i x hx => ?_⟩
  rw [h.cell]
  simp [ncells_get, hx]
theorem info64 : (Try.prog.info? 3).map (fun i => (i.zero, i.size, i.bytes)) = some (some (.int .i64 0), 1, 8) := by kernel_rfl
/-- 'make([]int, n)'. -/
theorem wpList_makeN {w : World} {ops : Array Oper} {rest : List Oper} {o : Oper} {a : Act} {Q : Exit → Act → World → Prop} (hgd : o.guard = none) (x y : Operand) (ho : o.op = .makeSlice 23 x y)
    (z : Int) (n : Nat) (hx : a.eval x = .int .i64 z) (hy : a.eval y = .int .i64 z) (hz : z = (n : Int)) (hn : n ≤ 10000000000)
    (K : Nat) (w0 : World) (hK : Below K w0 w) (hKw : K ≤ w.heap.size)
    (h : ∀ w', Hid (Row w' w.heap.size 3 (ncells (List.replicate n (BitVec.ofNat 64 0))).toArray) → Below K w0 w' → wpList Try.prog ops Q rest (a.put o.dst (.slice (some ⟨w.heap.size, 0, none⟩) n n)) w') : wpList Try.prog ops Q (o :: rest) a w := by
  have h := h _ (Row.fresh w _ _) (hK.alloc hKw _)
  obtain ⟨i, hi, hz0, hz1, hz2⟩ := info_parts info64
  refine wpList_plain hgd fun K' hK' => ?_
  have hr := run_make (P := Try.prog) w 23 3 i (.int .i64 0) Try.underlying23 hi hz0 .i64 .i64 z z (by omega) (by omega) (by rw [hz2]; omega) (by omega)
  subst hz
  have e : (madeCells (Value.int IntKind.i64 0).cells ((n : Int).toNat * i.size)) = (ncells (List.replicate n (BitVec.ofNat 64 0))).toArray := by
    rw [hz1]
    apply Array.toList_inj.1
    have e1 : (Value.int IntKind.i64 0).cells = #[Value.int IntKind.i64 0] := rfl
    rw [e1, toList_madeCells_one]
    simp [ncells, num64, I]
  rw [e] at hr
  unfold Oper.wp execOp
  simp only [ho, hx, hy, Sem.run_bind, hr, Result.andThen_ok, Sem.run_pure]
  exact hK' _ _ h

/-- The numbers when k of them are read. -/
def read (q : List (BitVec 8)) (n k : Nat) : List (BitVec 64) := (Cod.row q).take k ++ List.replicate (n - k) (BitVec.ofNat 64 0)
theorem read_length (q : List (BitVec 8)) (n k : Nat) (hn : q.length = 8 * n) (hk : k ≤ n) : (read q n k).length = n := by
  simp only [read, List.length_append, List.length_take, Cod.row_length, List.length_replicate]
  omega
theorem read_step (q : List (BitVec 8)) (n k : Nat) (hn : q.length = 8 * n) (hk : k < n) : (read q n k).set k (Cod.num ((q.drop (8 * k)).take 8)) = read q n (k + 1) := by
  have hl : k < (Cod.row q).length := by rw [Cod.row_length]; omega
  have hlk : ((Cod.row q).take k).length = k := by simp; omega
  unfold read
  rw [List.set_append_right _ _ (by omega), hlk, Nat.sub_self, List.take_succ_eq_append_getElem hl]
  have e : (Cod.row q)[k] = Cod.num ((q.drop (8 * k)).take 8) := by
    have := Cod.row_get q k (by omega)
    rw [List.getElem?_eq_getElem hl] at this
    injection this
  rw [e, show n - k = (n - (k + 1)) + 1 by omega, List.replicate_succ]
  simp
theorem read_all (q : List (BitVec 8)) (n : Nat) (hn : q.length = 8 * n) : read q n n = Cod.row q := by
  unfold read
  rw [List.take_of_length_le (by rw [Cod.row_length]; omega)]
  simp

theorem ints1_none (a : Option Addr) (c : Nat) (w : World) :
    Calls Try.prog 40 #[.slice a 0 c] w fun e w' => ∃ g, e = .returned (.slice (some ⟨g, 0, none⟩) 0 0) ∧ w.heap.size ≤ g ∧ Row w' g 3 (ncells []).toArray ∧ Below w.heap.size w w' := by
  go_enter Try.func40, Try.ntmps40
  go_wp2_with ((with_reducible show wpList _ _ _ (Oper.mk _ (Op.makeSlice _ _ _) _ _ _ _ :: _) _ _); refine wpList_makeN rfl _ _ rfl _ 0 rfl rfl rfl (by omega) w.heap.size w (Below.refl _ _) (Nat.le_refl _) ?_; intro w1 HR1 hb1)
  go_loop [11] (fun i => i = .int .i64 0) (fun _ => 0)
  case atStart => rfl
  case round =>
    subst hrel
    go_wp2
    go_ret
    exact ⟨w.heap.size, rfl, Nat.le_refl _, HR1.out, hb1⟩

theorem ints1_some (b o : Nat) (q : List (BitVec 8)) (n c : Nat) (w : World) (hB : Bytes w (some ⟨b, o, none⟩) q) (hn : q.length = 8 * n) (hc : 8 * n ≤ c) (hl : n ≤ 125000000) :
    Calls Try.prog 40 #[.slice (some ⟨b, o, none⟩) (8 * n) c] w fun e w' => ∃ g, e = .returned (.slice (some ⟨g, 0, none⟩) n n) ∧ w.heap.size ≤ g ∧ Row w' g 3 (ncells (Cod.row q)).toArray ∧ Below w.heap.size w w' := by
  have HN := Lib.hid hn
  have HB := Lib.hid hB
  clear hn hB
  have hdiv : (8 : Int) * (n : Int) / 8 = n := by omega
  go_enter Try.func40, Try.ntmps40
  go_wp2_with ((with_reducible show wpList _ _ _ (Oper.mk _ (Op.makeSlice _ _ _) _ _ _ _ :: _) _ _); refine wpList_makeN rfl _ _ rfl _ n rfl rfl (by omega) (by omega) w.heap.size w (Below.refl _ _) (Nat.le_refl _) ?_; intro w1 HR1 hb1)
  have HB1 := Lib.hid hb1
  clear hb1 hdiv
  go_loopw [4, 11] (fun _ i wr => ∃ k : Nat, k ≤ n ∧ i = .int .i64 k ∧ Row wr w.heap.size 3 (ncells (read q n k)).toArray ∧ Below w.heap.size w wr) (fun _ i _ => n - (intOf i).toNat)
  case atStart => exact ⟨0, by omega, rfl, by simpa [read] using HR1.out, HB1.out⟩
  case round =>
    obtain ⟨k, hk, rfl, hr, hb⟩ := hrel
    by_cases hlt : k < n
    · have hcell := hr.cell k
      obtain ⟨u, hu⟩ : ∃ v, (ncells (read q n k)).toArray[k]? = some v := ⟨_, Array.getElem?_eq_getElem (by simp only [List.size_toArray, ncells_length]; rw [read_length q n k HN.out hk]; exact hlt)⟩
      rw [hu] at hcell
      have hf := hr.thaw k
      have HS := read_step q n k HN.out hlt
      have HP := Lib.hid (((HB.out.under hb).drop (8 * k)).take 8)
      have HPl := Lib.hid (show ((q.drop (8 * k)).take 8).length = 8 by have := HN.out; simp; omega)
      generalize (q.drop (8 * k)).take 8 = p at *
      have HR := Lib.hid (hr.put k (.int .i64 (I (Cod.num p))))
      rw [ncells_set, HS] at HR
      have HG := Lib.hid (hb.setCell (p := ⟨w.heap.size, k, none⟩) (Nat.le_refl _) (.int .i64 (I (Cod.num p))))
      clear hr hb hu HS
      go_wp2_with fail
      refine (piece_any b o (8 * n) c k _ (by omega) hc (by omega)).mono ?_
      rintro e w2 ⟨rfl, rfl⟩
      go_wp2_with fail
      refine (number_at _ p 8 8 _ HP.out HPl.out (by rw [HPl.out]; omega)).mono ?_
      rintro e w3 ⟨rfl, rfl⟩
      go_wp2
      go_roundw
      case rel => exact ⟨k + 1, by omega, by go_num, HR.out, HG.out⟩
      case measure => simp [intOf]; omega
    · obtain rfl : k = n := by omega
      rw [read_all q k HN.out] at hr
      go_wp2
      go_ret
      exact ⟨w.heap.size, rfl, Nat.le_refl _, hr, hb⟩
theorem ints1_any (a : Option Addr) (q : List (BitVec 8)) (c : Nat) (w : World) (hB : Bytes w a q) (hq : q.length % 8 = 0) (hc : q.length ≤ c) (hl : q.length ≤ 1000000000) :
    Calls Try.prog 40 #[.slice a q.length c] w fun e w' => ∃ g, e = .returned (.slice (some ⟨g, 0, none⟩) (Cod.row q).length (Cod.row q).length) ∧ w.heap.size ≤ g ∧ Row w' g 3 (ncells (Cod.row q)).toArray ∧ Below w.heap.size w w' := by
  by_cases h0 : q = []
  · subst h0
    exact ints1_none a c w
  · rcases hB with h | ⟨b, o, rfl, h⟩
    · exact absurd h h0
    · have e : q.length = 8 * (q.length / 8) := by omega
      have := ints1_some b o q (q.length / 8) c w (.inr ⟨b, o, rfl, h⟩) e (by omega) (by omega)
      rw [← e] at this
      rw [Cod.row_length]
      exact this

theorem rowQ_head (s : Cod.St) (z : Int) (n : Nat) (h : (Cod.headS s).err ≠ 0) : Cod.rowQ s z n = [] ∧ Cod.rowS s z n = Cod.headS s := by simp [Cod.rowQ, Cod.rowS, h]
theorem rowQ_long (s : Cod.St) (z : Int) (n : Nat) (h : (Cod.headS s).err = 0) (hl : z < 0 ∨ z < ((Cod.headN s).toNat : Int)) : Cod.rowQ s z n = [] ∧ Cod.rowS s z n = ⟨[], 3⟩ := by simp [Cod.rowQ, Cod.rowS, h, hl]
theorem rowQ_take (s : Cod.St) (z : Int) (n : Nat) (h : (Cod.headS s).err = 0) (h0 : ¬ z < 0) (hl : ¬ z < ((Cod.headN s).toNat : Int)) : Cod.rowQ s z n = Cod.takeQ (Cod.headS s) ((Cod.headN s).toNat * n) ∧ Cod.rowS s z n = Cod.takeS (Cod.headS s) ((Cod.headN s).toNat * n) := by
  simp [Cod.rowQ, Cod.rowS, h, h0, hl]
theorem takeQ_mul (s : Cod.St) (m n : Nat) : (Cod.takeQ s (m * n)).length % n = 0 := by
  unfold Cod.takeQ
  split
  · simp
  · split
    · simp
    · rw [List.length_take, Nat.min_eq_left (by omega)]
      exact Nat.mul_mod_left m n
theorem takeQ_rest (s : Cod.St) (m : Nat) : (Cod.takeQ s m).length ≤ s.rest.length := by
  unfold Cod.takeQ
  split
  · simp
  · split
    · simp
    · simp; omega
theorem takeS_rest (s : Cod.St) (m : Nat) : (Cod.takeS s m).rest.length ≤ s.rest.length := by
  unfold Cod.takeS
  split
  · exact Nat.le_refl _
  · split
    · simp
    · simp
theorem grown2 {a b c : World} {g : Nat} (h : a.grownBy b (some g)) (k : b.grownBy c (some g)) : a.grownBy c (some g) := h.trans k
theorem grown_then {a b c : World} {g : Nat} (h : a.grownBy b (some g)) (k : Below b.heap.size b c) : a.grownBy c (some g) :=
  ⟨k.os.trans h.os, k.tape.trans h.tape, k.output.trans h.output, Nat.le_trans h.size k.size, fun i hi hne => (k.block i (by have := h.size; omega)).trans (h.block i hi hne)⟩

/-- The count is short, or an error was there. -/
theorem rowT_head (g : Nat) (s : Cod.St) (z : Int) (w : World) (h : Rd K w g s) (he : (Cod.headS s).err ≠ 0) :
    Calls Try.prog 37 #[.pointer (some ⟨g, 0, none⟩), .int .i64 z, .int .i64 1, .func (.func 38) #[] #[]] w fun e w' => e = .returned (.string (str [])) ∧ Rd K w' g (Cod.headS s) ∧ w.grownBy w' (some g) := by
  have HN := Lib.hid (num_at g s 4 4 rfl w h)
  have ht : ((Cod.headS s).err != 0) = true := by simpa using he
  clear h he
  go_enter Try.func37, Try.ntmps37
  go_wp2_with fail
  refine HN.out.mono ?_
  rintro e w1 ⟨rfl, hr1, hg1⟩
  have HR1 := Lib.hid hr1
  have HG1 := Lib.hid hg1
  clear hr1 hg1
  go_wp2_with fail
  refine (failed_any g (Cod.headS s) w1 HR1.out).mono ?_
  rintro e w2 ⟨rfl, rfl⟩
  go_wp2
  go_ret
  exact ⟨rfl, HR1.out, HG1.out⟩
/-- There are too many. -/
theorem rowT_long (g : Nat) (s : Cod.St) (z : Int) (w : World) (h : Rd K w g s) (he : (Cod.headS s).err = 0) (hz : z ≤ 9223372036854775807) (hl : z < 0 ∨ z < W (Cod.headN s)) :
    Calls Try.prog 37 #[.pointer (some ⟨g, 0, none⟩), .int .i64 z, .int .i64 1, .func (.func 38) #[] #[]] w fun e w' => e = .returned (.string (str [])) ∧ Rd K w' g ⟨[], 3⟩ ∧ w.grownBy w' (some g) := by
  have HN := Lib.hid (num_at g s 4 4 rfl w h)
  have HE := Lib.hid he
  clear h he
  have hlt := W_ge (Cod.headN s)
  change Hid (Calls Try.prog _ _ _ fun e w' => e = .returned (.int .u64 (W (Cod.headN s))) ∧ Rd K w' g (Cod.headS s) ∧ w.grownBy w' (some g)) at HN
  generalize W (Cod.headN s) = n at *
  by_cases h0 : z < 0
  · clear hl
    go_enter Try.func37, Try.ntmps37
    go_wp2_with fail
    refine HN.out.mono ?_
    rintro e w1 ⟨rfl, hr1, hg1⟩
    have HR1 := Lib.hid hr1
    have HG1 := Lib.hid hg1
    have HF := failed_any g (Cod.headS s) w1 hr1
    rw [HE.out] at HF
    obtain ⟨aa, cc, hrow⟩ := hr1.row
    have HX := Lib.hid (fail_any g _ _ 3 w1 hrow)
    clear hr1 hg1 hrow
    go_wp2_with fail
    refine HF.mono ?_
    rintro e w2 ⟨rfl, rfl⟩
    go_wp2_with fail
    refine HX.out.mono ?_
    rintro e w2 ⟨rfl, hr2, hg2⟩
    have HR2 := Lib.hid hr2
    have HG2 := Lib.hid (grown2 HG1.out hg2)
    clear hr2 hg2
    go_wp2
    go_ret
    exact ⟨rfl, .inr ⟨by decide, rfl, HR2.out⟩, HG2.out⟩
  · have hl' : z < n := by rcases hl with h | h; exact absurd h h0; exact h
    have h0' : 0 ≤ z := by omega
    have hd : decide (z < 0) = false := decide_eq_false h0
    clear hl
    go_enter Try.func37, Try.ntmps37
    go_wp2_with fail
    refine HN.out.mono ?_
    rintro e w1 ⟨rfl, hr1, hg1⟩
    have HR1 := Lib.hid hr1
    have HG1 := Lib.hid hg1
    have HF := failed_any g (Cod.headS s) w1 hr1
    rw [HE.out] at HF
    obtain ⟨aa, cc, hrow⟩ := hr1.row
    have HX := Lib.hid (fail_any g _ _ 3 w1 hrow)
    clear hr1 hg1 hrow
    go_wp2_with fail
    refine HF.mono ?_
    rintro e w2 ⟨rfl, rfl⟩
    go_wp2_with fail
    refine HX.out.mono ?_
    rintro e w2 ⟨rfl, hr2, hg2⟩
    have HR2 := Lib.hid hr2
    have HG2 := Lib.hid (grown2 HG1.out hg2)
    clear hr2 hg2
    go_wp2
    go_ret
    exact ⟨rfl, .inr ⟨by decide, rfl, HR2.out⟩, HG2.out⟩
/-- As many as may be: what there is of them is taken. -/
theorem rowT_take (g : Nat) (s : Cod.St) (z : Int) (w : World) (h : Rd K w g s) (he : (Cod.headS s).err = 0) (hz : z ≤ 9223372036854775807) (h0 : ¬ z < 0) (hl : ¬ z < W (Cod.headN s)) (m : Nat) (hm : (Cod.headN s).toNat * 1 = m) :
    Calls Try.prog 37 #[.pointer (some ⟨g, 0, none⟩), .int .i64 z, .int .i64 1, .func (.func 38) #[] #[]] w fun e w' => e = .returned (.string (str (Cod.takeQ (Cod.headS s) m))) ∧ Rd K w' g (Cod.takeS (Cod.headS s) m) ∧ w.grownBy w' (some g) := by
  have HN := Lib.hid (num_at g s 4 4 rfl w h)
  have HE := Lib.hid he
  have HM := Lib.hid hm
  have HQ := takeQ_mul (Cod.headS s) (Cod.headN s).toNat 1
  rw [hm] at HQ
  have HQ := Lib.hid HQ
  clear hm
  have HZ := Lib.hid (Nat.le_trans (takeQ_rest (Cod.headS s) m) (Nat.le_trans (takeS_rest s 4) h.small))
  clear h he
  have hlt := W_ge (Cod.headN s)
  have hlt2 : W (Cod.headN s) < 4294967296 := by have := Cod.headN_lt s; unfold W; omega
  have HW := Lib.hid (show W (Cod.headN s) = ((Cod.headN s).toNat : Int) from rfl)
  change Hid (Calls Try.prog _ _ _ fun e w' => e = .returned (.int .u64 (W (Cod.headN s))) ∧ Rd K w' g (Cod.headS s) ∧ w.grownBy w' (some g)) at HN
  generalize W (Cod.headN s) = n at *
  have h0' : 0 ≤ z := by omega
  have hd : decide (z < 0) = false := decide_eq_false h0
  go_enter Try.func37, Try.ntmps37
  go_wp2_with fail
  refine HN.out.mono ?_
  rintro e w1 ⟨rfl, hr1, hg1⟩
  have HR1 := Lib.hid hr1
  have HG1 := Lib.hid hg1
  have HF := failed_any g (Cod.headS s) w1 hr1
  rw [HE.out] at HF
  clear hr1 hg1
  go_wp2_with fail
  refine HF.mono ?_
  rintro e w2 ⟨rfl, rfl⟩
  go_wp2_with fail
  refine (take_at g (Cod.headS s) m _ (by have := HW.out; have := HM.out; omega) w1 HR1.out).mono ?_
  rintro e w2 ⟨a, c, rfl, hB, hc, hr2, hg2⟩
  have HR2 := Lib.hid hr2
  have HG2 := Lib.hid (grown2 HG1.out hg2)
  have HB := Lib.hid hB
  clear hr2 hg2 hB HF HN HG1 HR1
  go_wp2_with fail
  refine (text1_any a _ c w2 HB.out).mono ?_
  rintro e w3 ⟨rfl, rfl⟩
  go_wp2
  go_ret
  exact ⟨rfl, HR2.out, HG2.out⟩

/-- The count is short, or an error was there. -/
theorem rowN_head (g : Nat) (s : Cod.St) (z : Int) (w : World) (h : Rd K w g s) (he : (Cod.headS s).err ≠ 0) :
    Calls Try.prog 39 #[.pointer (some ⟨g, 0, none⟩), .int .i64 z, .int .i64 8, .func (.func 40) #[] #[]] w fun e w' => e = .returned (.slice none 0 0) ∧ Rd K w' g (Cod.headS s) ∧ w.grownBy w' (some g) := by
  have HN := Lib.hid (num_at g s 4 4 rfl w h)
  have ht : ((Cod.headS s).err != 0) = true := by simpa using he
  clear h he
  go_enter Try.func39, Try.ntmps39
  go_wp2_with fail
  refine HN.out.mono ?_
  rintro e w1 ⟨rfl, hr1, hg1⟩
  have HR1 := Lib.hid hr1
  have HG1 := Lib.hid hg1
  clear hr1 hg1
  go_wp2_with fail
  refine (failed_any g (Cod.headS s) w1 HR1.out).mono ?_
  rintro e w2 ⟨rfl, rfl⟩
  go_wp2
  go_ret
  exact ⟨rfl, HR1.out, HG1.out⟩
/-- There are too many. -/
theorem rowN_long (g : Nat) (s : Cod.St) (z : Int) (w : World) (h : Rd K w g s) (he : (Cod.headS s).err = 0) (hz : z ≤ 9223372036854775807) (hl : z < 0 ∨ z < W (Cod.headN s)) :
    Calls Try.prog 39 #[.pointer (some ⟨g, 0, none⟩), .int .i64 z, .int .i64 8, .func (.func 40) #[] #[]] w fun e w' => e = .returned (.slice none 0 0) ∧ Rd K w' g ⟨[], 3⟩ ∧ w.grownBy w' (some g) := by
  have HN := Lib.hid (num_at g s 4 4 rfl w h)
  have HE := Lib.hid he
  clear h he
  have hlt := W_ge (Cod.headN s)
  change Hid (Calls Try.prog _ _ _ fun e w' => e = .returned (.int .u64 (W (Cod.headN s))) ∧ Rd K w' g (Cod.headS s) ∧ w.grownBy w' (some g)) at HN
  generalize W (Cod.headN s) = n at *
  by_cases h0 : z < 0
  · clear hl
    go_enter Try.func39, Try.ntmps39
    go_wp2_with fail
    refine HN.out.mono ?_
    rintro e w1 ⟨rfl, hr1, hg1⟩
    have HR1 := Lib.hid hr1
    have HG1 := Lib.hid hg1
    have HF := failed_any g (Cod.headS s) w1 hr1
    rw [HE.out] at HF
    obtain ⟨aa, cc, hrow⟩ := hr1.row
    have HX := Lib.hid (fail_any g _ _ 3 w1 hrow)
    clear hr1 hg1 hrow
    go_wp2_with fail
    refine HF.mono ?_
    rintro e w2 ⟨rfl, rfl⟩
    go_wp2_with fail
    refine HX.out.mono ?_
    rintro e w2 ⟨rfl, hr2, hg2⟩
    have HR2 := Lib.hid hr2
    have HG2 := Lib.hid (grown2 HG1.out hg2)
    clear hr2 hg2
    go_wp2
    go_ret
    exact ⟨rfl, .inr ⟨by decide, rfl, HR2.out⟩, HG2.out⟩
  · have hl' : z < n := by rcases hl with h | h; exact absurd h h0; exact h
    have h0' : 0 ≤ z := by omega
    have hd : decide (z < 0) = false := decide_eq_false h0
    clear hl
    go_enter Try.func39, Try.ntmps39
    go_wp2_with fail
    refine HN.out.mono ?_
    rintro e w1 ⟨rfl, hr1, hg1⟩
    have HR1 := Lib.hid hr1
    have HG1 := Lib.hid hg1
    have HF := failed_any g (Cod.headS s) w1 hr1
    rw [HE.out] at HF
    obtain ⟨aa, cc, hrow⟩ := hr1.row
    have HX := Lib.hid (fail_any g _ _ 3 w1 hrow)
    clear hr1 hg1 hrow
    go_wp2_with fail
    refine HF.mono ?_
    rintro e w2 ⟨rfl, rfl⟩
    go_wp2_with fail
    refine HX.out.mono ?_
    rintro e w2 ⟨rfl, hr2, hg2⟩
    have HR2 := Lib.hid hr2
    have HG2 := Lib.hid (grown2 HG1.out hg2)
    clear hr2 hg2
    go_wp2
    go_ret
    exact ⟨rfl, .inr ⟨by decide, rfl, HR2.out⟩, HG2.out⟩
/-- As many as may be: what there is of them is taken. -/
theorem rowN_take (g : Nat) (s : Cod.St) (z : Int) (w : World) (h : Rd K w g s) (he : (Cod.headS s).err = 0) (hz : z ≤ 9223372036854775807) (h0 : ¬ z < 0) (hl : ¬ z < W (Cod.headN s)) (m : Nat) (hm : (Cod.headN s).toNat * 8 = m) :
    Calls Try.prog 39 #[.pointer (some ⟨g, 0, none⟩), .int .i64 z, .int .i64 8, .func (.func 40) #[] #[]] w fun e w' => (∃ a c, e = .returned (.slice a (Cod.row (Cod.takeQ (Cod.headS s) m)).length c) ∧ Nums w' a (Cod.row (Cod.takeQ (Cod.headS s) m)) ∧ ∀ ad, a = some ad → w.heap.size ≤ ad.block) ∧ Rd K w' g (Cod.takeS (Cod.headS s) m) ∧ w.grownBy w' (some g) := by
  have HN := Lib.hid (num_at g s 4 4 rfl w h)
  have HE := Lib.hid he
  have HM := Lib.hid hm
  have HQ := takeQ_mul (Cod.headS s) (Cod.headN s).toNat 8
  rw [hm] at HQ
  have HQ := Lib.hid HQ
  clear hm
  have HZ := Lib.hid (Nat.le_trans (takeQ_rest (Cod.headS s) m) (Nat.le_trans (takeS_rest s 4) h.small))
  clear h he
  have hlt := W_ge (Cod.headN s)
  have hlt2 : W (Cod.headN s) < 4294967296 := by have := Cod.headN_lt s; unfold W; omega
  have HW := Lib.hid (show W (Cod.headN s) = ((Cod.headN s).toNat : Int) from rfl)
  change Hid (Calls Try.prog _ _ _ fun e w' => e = .returned (.int .u64 (W (Cod.headN s))) ∧ Rd K w' g (Cod.headS s) ∧ w.grownBy w' (some g)) at HN
  generalize W (Cod.headN s) = n at *
  have h0' : 0 ≤ z := by omega
  have hd : decide (z < 0) = false := decide_eq_false h0
  go_enter Try.func39, Try.ntmps39
  go_wp2_with fail
  refine HN.out.mono ?_
  rintro e w1 ⟨rfl, hr1, hg1⟩
  have HR1 := Lib.hid hr1
  have HG1 := Lib.hid hg1
  have HF := failed_any g (Cod.headS s) w1 hr1
  rw [HE.out] at HF
  clear hr1 hg1
  go_wp2_with fail
  refine HF.mono ?_
  rintro e w2 ⟨rfl, rfl⟩
  go_wp2_with fail
  refine (take_at g (Cod.headS s) m _ (by have := HW.out; have := HM.out; omega) w1 HR1.out).mono ?_
  rintro e w2 ⟨a, c, rfl, hB, hc, hr2, hg2⟩
  have HR2 := Lib.hid hr2
  have HG2 := Lib.hid (grown2 HG1.out hg2)
  have HB := Lib.hid hB
  clear hr2 hg2 hB HF HN HG1 HR1
  go_wp2_with fail
  refine (ints1_any a _ c w2 HB.out HQ.out hc HZ.out).mono ?_
  rintro e w3 ⟨g3, rfl, hg3, hr3, hb3⟩
  have HR3 := Lib.hid hr3
  clear hr3
  go_wp2
  go_ret
  have hs2 := HG2.out.size
  exact ⟨⟨_, _, rfl, HR3.out.nums, fun ad e => by injection e with e; subst e; show w.heap.size ≤ g3; omega⟩, HR2.out.under hb3, grown_then HG2.out hb3⟩

theorem rText_any (g : Nat) (s : Cod.St) (z : Int) (w : World) (h : Rd K w g s) (hz : z ≤ 9223372036854775807) :
    Calls Try.prog 20 #[.pointer (some ⟨g, 0, none⟩), .int .i64 z] w fun e w' => e = .returned (.string (str (Cod.rowQ s z 1))) ∧ Rd K w' g (Cod.rowS s z 1) ∧ w.grownBy w' (some g) := by
  have H : Calls Try.prog 37 #[.pointer (some ⟨g, 0, none⟩), .int .i64 z, .int .i64 1, .func (.func 38) #[] #[]] w fun e w' => e = .returned (.string (str (Cod.rowQ s z 1))) ∧ Rd K w' g (Cod.rowS s z 1) ∧ w.grownBy w' (some g) := by
    by_cases he : (Cod.headS s).err = 0
    · by_cases hl : z < 0 ∨ z < W (Cod.headN s)
      · obtain ⟨e1, e2⟩ := rowQ_long s z 1 he hl
        rw [e1, e2]
        exact rowT_long g s z w h he hz hl
      · obtain ⟨e1, e2⟩ := rowQ_take s z 1 he (fun x => hl (.inl x)) (fun x => hl (.inr x))
        rw [e1, e2]
        exact rowT_take g s z w h he hz (fun x => hl (.inl x)) (fun x => hl (.inr x)) _ rfl
    · obtain ⟨e1, e2⟩ := rowQ_head s z 1 he
      rw [e1, e2]
      exact rowT_head g s z w h he
  have HH := Lib.hid H
  generalize Cod.rowQ s z 1 = q at *
  generalize Cod.rowS s z 1 = s' at *
  clear H h hz
  go_enter Try.func20, Try.ntmps20
  go_wp2_with fail
  refine HH.out.mono ?_
  rintro e w1 ⟨rfl, hr1, hg1⟩
  have HR := Lib.hid hr1
  have HG := Lib.hid hg1
  clear hr1 hg1
  go_wp2
  go_ret
  exact ⟨rfl, HR.out, HG.out⟩

theorem rInts_any (g : Nat) (s : Cod.St) (z : Int) (w : World) (h : Rd K w g s) (hz : z ≤ 9223372036854775807) :
    Calls Try.prog 23 #[.pointer (some ⟨g, 0, none⟩), .int .i64 z] w fun e w' => (∃ a c, e = .returned (.slice a (Cod.row (Cod.rowQ s z 8)).length c) ∧ Nums w' a (Cod.row (Cod.rowQ s z 8)) ∧ ∀ ad, a = some ad → w.heap.size ≤ ad.block) ∧ Rd K w' g (Cod.rowS s z 8) ∧ w.grownBy w' (some g) := by
  have H : Calls Try.prog 39 #[.pointer (some ⟨g, 0, none⟩), .int .i64 z, .int .i64 8, .func (.func 40) #[] #[]] w fun e w' => (∃ a c, e = .returned (.slice a (Cod.row (Cod.rowQ s z 8)).length c) ∧ Nums w' a (Cod.row (Cod.rowQ s z 8)) ∧ ∀ ad, a = some ad → w.heap.size ≤ ad.block) ∧ Rd K w' g (Cod.rowS s z 8) ∧ w.grownBy w' (some g) := by
    by_cases he : (Cod.headS s).err = 0
    · by_cases hl : z < 0 ∨ z < W (Cod.headN s)
      · obtain ⟨e1, e2⟩ := rowQ_long s z 8 he hl
        rw [e1, e2]
        refine (rowN_long g s z w h he hz hl).mono ?_
        rintro e w' ⟨rfl, r⟩
        exact ⟨⟨none, 0, rfl, Reads.nil _ _, fun _ e => by cases e⟩, r⟩
      · obtain ⟨e1, e2⟩ := rowQ_take s z 8 he (fun x => hl (.inl x)) (fun x => hl (.inr x))
        rw [e1, e2]
        exact rowN_take g s z w h he hz (fun x => hl (.inl x)) (fun x => hl (.inr x)) _ rfl
    · obtain ⟨e1, e2⟩ := rowQ_head s z 8 he
      rw [e1, e2]
      refine (rowN_head g s z w h he).mono ?_
      rintro e w' ⟨rfl, r⟩
      exact ⟨⟨none, 0, rfl, Reads.nil _ _, fun _ e => by cases e⟩, r⟩
  have HH := Lib.hid H
  generalize Cod.rowQ s z 8 = q at *
  generalize Cod.rowS s z 8 = s' at *
  clear H h hz
  go_enter Try.func23, Try.ntmps23
  go_wp2_with fail
  refine HH.out.mono ?_
  rintro e w1 ⟨⟨a, c, rfl, hN, hA⟩, hr1, hg1⟩
  have HA := Lib.hid hA
  have HN := Lib.hid hN
  have HR := Lib.hid hr1
  have HG := Lib.hid hg1
  clear hr1 hg1 hN hA
  go_wp2
  go_ret
  exact ⟨⟨_, _, rfl, HN.out, HA.out⟩, HR.out, HG.out⟩
end Go.Proofs.Ytejmcplikhglbaa
