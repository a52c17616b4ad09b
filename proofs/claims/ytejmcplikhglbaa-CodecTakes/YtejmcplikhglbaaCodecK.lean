/- Walks: the document's TakeInts. -/
import Derived.Test.YtejmcplikhglbaaCodecJ
namespace Go.Proofs.Ytejmcplikhglbaa
open Go.RowKit
attribute [local go_sem] W_wrap64

/-- The slice v is the call's own (its block from K on) and holds these ints. -/
def OwnsN (w : World) (K : Nat) (v : Value) (l : List (BitVec 64)) : Prop := w.ownsRow K 3 1 v l.length (ncells l)
theorem OwnsN.none (w : World) (K : Nat) : OwnsN w K (.slice none 0 0) [] := ⟨by simp [ncells], .inl ⟨rfl, rfl⟩⟩
theorem OwnsN.shape {w : World} {K : Nat} {v : Value} {l : List (BitVec 64)} (h : OwnsN w K v l) : ∃ a c, v = .slice a l.length c ∧ Nums w a l ∧ ∀ ad, a = some ad → K ≤ ad.block := by
  rcases h.2 with ⟨rfl, h0⟩ | ⟨g, cap, cur, rfl, hK, hh, hc, _, hs, ht⟩
  · have : l = [] := List.eq_nil_of_length_eq_zero h0
    subst this
    exact ⟨_, _, rfl, .inl rfl, fun _ e => by cases e⟩
  · refine ⟨_, _, rfl, .inr ⟨g, 0, rfl, fun i x hx => ?_⟩, fun ad e => by injection e with e; subst e; exact hK⟩
    have hi : i < l.length := (List.getElem?_eq_some_iff.1 hx).1
    rw [Nat.zero_add, cell_of_row w g i cur _ _ hh]
    have e : (ncells l)[i]? = some (num64 x) := by rw [ncells_get, hx]; rfl
    rw [← ht, List.getElem?_take, if_pos (by omega)] at e
    simpa using e
theorem OwnsN.kept {w w' : World} {K M : Nat} {v : Value} {l : List (BitVec 64)} (h : OwnsN w K v l) (hb : Below M w w') (hM : w.heap.size ≤ M) : OwnsN w' K v l := by
  refine World.ownsRow.kept (row := Option.none) h ⟨hb.os, hb.tape, hb.output, hb.size, fun k hk _ => hb.block k (by omega)⟩ ?_
  cases hv : v.ownBlock
  · exact .inl rfl
  · exact .inr (by simp)
theorem OwnsN.off {w w' : World} {K k : Nat} {v : Value} {l : List (BitVec 64)} (h : OwnsN w K v l) (hg : w.grownBy w' (some k)) (hk : k < K) : OwnsN w' K v l := by
  refine World.ownsRow.kept (row := some k) h hg ?_
  exact .inr (fun e => by have := (World.ownsRow.lt h k e).1; omega)
theorem ncells_one (l : List (BitVec 64)) : ∀ v ∈ ncells l, v.oneCell' = true := by
  intro v hv
  simp only [ncells, List.mem_map] at hv
  obtain ⟨x, _, rfl⟩ := hv
  rfl
/-- 'append(v, x)', v the call's own, x laid in a new block. -/
theorem wpList_appendN {w : World} {ops : Array Oper} {rest : List Oper} {o : Oper} {a : Act} {Q : Exit → Act → World → Prop} (hgd : o.guard = none) (s x : Operand)
    (ho : o.op = .call { callee := .builtin .append, args := #[s, x], argTypes := #[23, 23] })
    (K : Nat) (v : Value) (l : List (BitVec 64)) (y : BitVec 64) (ad : Addr) (hs : a.eval s = v) (hx : a.eval x = .slice (some ad) 1 1) (hown : OwnsN w K v l) (hy : w.cell? (ad.add 0) = some (num64 y)) (hlen : l.length ≤ 1000000000) (hK : K ≤ w.heap.size)
    (h : ∀ v' w', Hid (OwnsN w' K v' (l ++ [y])) → w.grownBy w' v.ownBlock → wpList Try.prog ops Q rest (a.put o.dst v') w') : wpList Try.prog ops Q (o :: rest) a w := by
  obtain ⟨i, hi, hz0, hz1, hz2⟩ := info_parts info64
  obtain ⟨v', w', hrun, h2, h3, _⟩ := run_append_own_at (P := Try.prog) w K 23 o.type 3 i (.int .i64 0) 1 8 Try.underlying23 hi hz0 hz1 hz2 rfl (by omega) v l.length (ncells l) hown ad 1 1 [num64 y] rfl (by
      intro j u hu
      match j, hu with
      | 0, hu => injection hu with hu; subst hu; exact hy
      | j + 1, hu => simp at hu) (ncells_one [y]) (by simp only [maxLen]; omega) (by omega) hK
  refine wpList_plain hgd fun K' hK' => ?_
  unfold Oper.wp execOp
  simp only [ho, resolve, invoke, builtin, Sem.run_bind, Sem.run_pure, Result.andThen_ok, List.map_toArray, List.map_cons, List.map_nil, hs, hx, hrun]
  refine hK' _ _ (h v' w' ?_ h3)
  show OwnsN w' K v' (l ++ [y])
  unfold OwnsN
  rw [List.length_append, show ncells (l ++ [y]) = ncells l ++ [num64 y] by simp [ncells]]
  exact h2

theorem tints_none (w0 : World) (v : Value) (s s' : Cod.St) (z : Int) (w : World) (h : Tv w0 v s) (hb0 : Below w0.heap.size w0 w)
    (hm : ∀ W, Below w0.heap.size w0 W → Calls Try.prog 36 #[v, .int .i64 z, .int .i64 8] W fun e' w' => (∃ v', e' = .returned (.tuple #[v', .int .i64 (-1)]) ∧ Tv w0 v' s') ∧ Below W.heap.size W w') :
    Calls Try.prog 21 #[v, .int .i64 z] w fun e' w' => (∃ v', e' = .returned (.tuple #[v', .slice none 0 0]) ∧ Tv w0 v' s') ∧ Below w.heap.size w w' := by
  obtain ⟨a, c, rfl, hB, hc0, hs0, hok⟩ := h
  have HM := Lib.hid hm
  have HB0 := Lib.hid hb0
  clear hB hc0 hs0 hok hb0 hm
  generalize s.rest.length = n0 at HM ⊢
  generalize s.err = e0 at HM ⊢
  go_enter Try.func21, Try.ntmps21
  go_wp2_with fail
  refine (HM.out _ ((HB0.out.alloc HB0.out.size _).alloc (by have := HB0.out.size; simp; omega) _)).mono ?_
  rintro e w1 ⟨⟨v1, rfl, hT1⟩, hb1⟩
  obtain ⟨a1, c1, rfl, hB1, hc1, hs1, hok1⟩ := hT1
  have HT1 := Lib.hid (show Tv w0 (.agg #[.slice a1 s'.rest.length c1, .int .i64 s'.err]) s' from ⟨a1, c1, rfl, hB1, hc1, hs1, hok1⟩)
  have hrow := Row.laid hb1
  have k0 : w1.cell? ⟨w.heap.size + 1, 0, none⟩ = some (.slice none 0 0) := hrow.cell 0
  have k1 : w1.cell? ⟨w.heap.size + 1, 1, none⟩ = some (.int .i64 0) := hrow.cell 1
  have f0 := hrow.thaw 0
  have f1 := hrow.thaw 1
  have hz : w.heap.size + 1 < w1.heap.size := hrow.lt
  have HX := Lib.hid ((((Below.refl w.heap.size w).alloc (Nat.le_refl _) _).alloc (by simp) _).trans (hb1.mono (by simp; omega)))
  clear hb1 hB1 hok1 hrow
  go_wp2
  go_loop [8, 9] (fun o i => o = .slice none 0 0 ∧ i = .int .i64 0) (fun _ _ => 0)
  case atStart => exact ⟨rfl, rfl⟩
  case round =>
    obtain ⟨rfl, rfl⟩ := hrel
    go_wp2
    refine bodyPost_ret (v := .tuple #[.agg #[.slice a1 s'.rest.length c1, .int .i64 s'.err], .slice none 0 0]) (by simp [results, Try.results21, go_sem, World.cell?_alloc_lt, hz, k0, k1]) rfl ?_
    exact ⟨⟨_, rfl, HT1.out⟩, ((HX.out.setCell (by simp) _).setCell (by simp) _).alloc (by simp; omega) _⟩

/-- What the loop of TakeInts keeps: the reader so far in block U, the answer's room in block R, the numbers so far. -/
def Midst (w0 w : World) (U R : Nat) (l : List (BitVec 8)) (k j : Nat) (out : Value) (wr : World) : Prop :=
  ∃ a c, Row wr U 35 #[.slice a (l.drop (8 * j)).length c, .int .i64 0] ∧ Tv w0 (.agg #[.slice a (l.drop (8 * j)).length c, .int .i64 0]) ⟨l.drop (8 * j), 0⟩ ∧ Row wr R 35 #[.slice none 0 0, .int .i64 0] ∧
    OwnsN wr (U + 1) out ((Cod.row (l.take (8 * k))).take j) ∧ Below w.heap.size w wr ∧ Below w0.heap.size w0 wr ∧ U + 1 ≤ wr.heap.size

theorem row_at (l : List (BitVec 8)) (k j : Nat) (hj : j < k) (hk : 8 * k ≤ l.length) : (Cod.row (l.take (8 * k))).take (j + 1) = (Cod.row (l.take (8 * k))).take j ++ [Cod.num ((l.drop (8 * j)).take 8)] := by
  have hlen : (Cod.row (l.take (8 * k))).length = k := by rw [Cod.row_length, List.length_take]; omega
  rw [List.take_succ_eq_append_getElem (by omega)]
  congr 2
  have h := Cod.row_get (l.take (8 * k)) j (by rw [List.length_take]; omega)
  rw [List.getElem?_eq_getElem (by omega)] at h
  injection h with h
  rw [h]
  congr 1
  rw [List.drop_take, List.take_take, Nat.min_eq_left (by omega)]

theorem takeQ_at (l : List (BitVec 8)) (j : Nat) (h : 8 * j + 8 ≤ l.length) : Cod.takeQ ⟨l.drop (8 * j), 0⟩ 8 = (l.drop (8 * j)).take 8 := by
  unfold Cod.takeQ
  rw [if_neg (by simp), if_neg (by simp only [List.length_drop]; omega)]
theorem takeS_at (l : List (BitVec 8)) (j : Nat) (h : 8 * j + 8 ≤ l.length) : Cod.takeS ⟨l.drop (8 * j), 0⟩ 8 = ⟨l.drop (8 * (j + 1)), 0⟩ := by
  unfold Cod.takeS
  rw [if_neg (by simp), if_neg (by simp only [List.length_drop]; omega)]
  rw [List.drop_drop]
  rfl
theorem tints_good (w0 : World) (v : Value) (s : Cod.St) (l : List (BitVec 8)) (k : Nat) (z : Int) (w : World) (h : Tv w0 v s) (hb0 : Below w0.heap.size w0 w) (hk : 8 * k ≤ l.length) (hl : l.length ≤ 1000000000)
    (hm : ∀ W, Below w0.heap.size w0 W → Calls Try.prog 36 #[v, .int .i64 z, .int .i64 8] W fun e' w' => (∃ v', e' = .returned (.tuple #[v', .int .i64 k]) ∧ Tv w0 v' ⟨l, 0⟩) ∧ Below W.heap.size W w') :
    Calls Try.prog 21 #[v, .int .i64 z] w fun e' w' => (∃ v' a c, e' = .returned (.tuple #[v', .slice a (Cod.row (l.take (8 * k))).length c]) ∧ Tv w0 v' ⟨l.drop (8 * k), 0⟩ ∧ Nums w' a (Cod.row (l.take (8 * k))) ∧ ∀ ad, a = some ad → w.heap.size ≤ ad.block) ∧ Below w.heap.size w w' := by
  obtain ⟨a, c, rfl, hB, hc0, hs0, hok⟩ := h
  have HM := Lib.hid hm
  have HB0 := Lib.hid hb0
  clear hB hc0 hs0 hok hb0 hm
  generalize s.rest.length = n0 at HM ⊢
  generalize s.err = e0 at HM ⊢
  go_enter Try.func21, Try.ntmps21
  go_wp2_with fail
  refine (HM.out _ ((HB0.out.alloc HB0.out.size _).alloc (by have := HB0.out.size; simp; omega) _)).mono ?_
  rintro e w1 ⟨⟨v1, rfl, a1, c1, rfl, hT1⟩, hb1⟩
  have HT1 := Lib.hid (show Tv w0 (.agg #[.slice a1 l.length c1, .int .i64 0]) ⟨l, 0⟩ from ⟨a1, c1, rfl, hT1⟩)
  have hrow := Row.laid hb1
  have hz : w.heap.size + 1 < w1.heap.size := hrow.lt
  have HR := Lib.hid (hrow.past (.cells #[.slice a1 l.length c1, .int .i64 0] 35))
  have HX := Lib.hid (((((Below.refl w.heap.size w).alloc (Nat.le_refl _) _).alloc (by simp) _).trans (hb1.mono (by simp; omega))).alloc (by omega) (.cells #[.slice a1 l.length c1, .int .i64 0] 35))
  have HY := then_below ((HB0.out.alloc HB0.out.size _).alloc (by have := HB0.out.size; simp; omega) _) hb1
  have HY := Lib.hid (HY.alloc HY.size (.cells #[.slice a1 l.length c1, .int .i64 0] 35))
  clear hb1 hT1 hrow
  go_wp2
  go_loopw [8, 9] (fun out i wr => ∃ j : Nat, j ≤ k ∧ i = .int .i64 j ∧ Midst w0 w w1.heap.size (w.heap.size + 1) l k j out wr) (fun _ i _ => k - (intOf i).toNat)
  case atStart => exact ⟨0, by omega, rfl, a1, c1, Row.fresh w1 _ _, HT1.out, HR.out, OwnsN.none _ _, HX.out, HY.out, by simp⟩
  case round =>
    obtain ⟨j, hj, rfl, a2, c2, hrU, hT, hrR, hO, hX, hY, hU⟩ := hrel
    have u0 : wr.cell? ⟨w1.heap.size, 0, none⟩ = some (.slice a2 (l.drop (8 * j)).length c2) := hrU.cell 0
    have u1 : wr.cell? ⟨w1.heap.size, 1, none⟩ = some (.int .i64 0) := hrU.cell 1
    have HrU := Lib.hid hrU
    have HrR := Lib.hid hrR
    have HO := Lib.hid hO
    have HT := Lib.hid hT
    have HXr := Lib.hid hX
    have HYr := Lib.hid hY
    clear hrU hrR hO hT hX hY HR HX HY HT1
    generalize hdl : (l.drop (8 * j)).length = dl at *
    have HDL := Lib.hid hdl
    clear hdl
    by_cases hlt : j < k
    · have HQ := Lib.hid (takeQ_at l j (by omega))
      have HS := Lib.hid (takeS_at l j (by omega))
      have HRow := Lib.hid (row_at l k j hlt hk)
      go_wp2_with fail
      refine (rnum_any w0 _ ⟨l.drop (8 * j), 0⟩ 8 wr (by have := HT.out; rw [← HDL.out] at this ⊢; exact this) HYr.out).mono ?_
      rintro e w2 ⟨⟨v2, rfl, hT2⟩, hb2⟩
      rw [show Cod.clip 8 = 8 from rfl, HS.out] at hT2
      rw [show Cod.clip 8 = 8 from rfl, HQ.out]
      obtain ⟨a3, c3, rfl, hT3⟩ := hT2
      have HT3 := Lib.hid (show Tv w0 (.agg #[.slice a3 (l.drop (8 * (j + 1))).length c3, .int .i64 0]) ⟨l.drop (8 * (j + 1)), 0⟩ from ⟨a3, c3, rfl, hT3⟩)
      clear hT3
      have hrU2 := HrU.out.under hb2 (by omega)
      have u0' : w2.cell? ⟨w1.heap.size, 0, none⟩ = some (.slice a2 dl c2) := hrU2.cell 0
      have u1' : w2.cell? ⟨w1.heap.size, 1, none⟩ = some (.int .i64 0) := hrU2.cell 1
      have g0 := hrU2.thaw 0
      have g1 := hrU2.thaw 1
      have s2 := hb2.size
      have hU2 : w1.heap.size < w2.heap.size := by omega
      have HO2 := Lib.hid (HO.out.kept hb2 (Nat.le_refl _))
      have HrU3 := Lib.hid ((hrU2.put 0 (.slice a3 (l.drop (8 * (j + 1))).length c3)).put 1 (.int .i64 0))
      rw [row2_set0, row2_set1] at HrU3
      have HrR3 := Lib.hid (((HrR.out.under hb2 (by omega)).away (a := ⟨w1.heap.size, 0, none⟩) (by show w.heap.size + 1 ≠ w1.heap.size; omega) (.slice a3 (l.drop (8 * (j + 1))).length c3)).away (a := ⟨w1.heap.size, 1, none⟩) (by show w.heap.size + 1 ≠ w1.heap.size; omega) (.int .i64 0))
      have HX3 := Lib.hid (((HXr.out.trans (hb2.mono HXr.out.size)).setCell (p := ⟨w1.heap.size, 0, none⟩) (by show w.heap.size ≤ w1.heap.size; omega) (.slice a3 (l.drop (8 * (j + 1))).length c3)).setCell (p := ⟨w1.heap.size, 1, none⟩) (by show w.heap.size ≤ w1.heap.size; omega) (.int .i64 0))
      have hw0 := HB0.out.size
      have HY3 := Lib.hid (((HYr.out.trans (hb2.mono HYr.out.size)).setCell (p := ⟨w1.heap.size, 0, none⟩) (by show w0.heap.size ≤ w1.heap.size; omega) (.slice a3 (l.drop (8 * (j + 1))).length c3)).setCell (p := ⟨w1.heap.size, 1, none⟩) (by show w0.heap.size ≤ w1.heap.size; omega) (.int .i64 0))
      have HO3 := Lib.hid ((HO2.out.off (grown_put' (World.grownBy.refl w2 _) 0 (.slice a3 (l.drop (8 * (j + 1))).length c3)) (Nat.lt_succ_self _)).off (grown_put' (World.grownBy.refl _ _) 1 (.int .i64 0)) (Nat.lt_succ_self _))
      clear hrU2 HO HO2 HrU HrR HXr HYr hb2 u0 u1 HT
      generalize hdl3 : (l.drop (8 * (j + 1))).length = dl3 at *
      have HDL3 := Lib.hid hdl3
      clear hdl3
      generalize Cod.num ((l.drop (8 * j)).take 8) = y at *
      have HLq := Lib.hid (show ((Cod.row (l.take (8 * k))).take j).length ≤ 1000000000 by rw [List.length_take]; omega)
      go_wp2_with (at_builtin; refine wpList_appendN rfl _ _ rfl (w1.heap.size + 1) _ ((Cod.row (l.take (8 * k))).take j) y ⟨w2.heap.size + 1, 0, none⟩ rfl rfl ((HO3.out.kept ((Below.refl _ _).alloc (Nat.le_refl _) _) (Nat.le_refl _)).kept ((Below.refl _ _).alloc (Nat.le_refl _) _) (Nat.le_refl _)) (by simp [add_plain, num64, World.cell?_alloc_at]) HLq.out (by simp; omega) ?_; intro v4 w4 HO4 hg4)
      go_roundw
      case rel =>
        have hlt4 : ∀ n, u8.ownBlock = some n → w1.heap.size + 1 ≤ n := fun n e => (World.ownsRow.lt HO3.out n e).1
        have b4 : ∀ n, n < w1.heap.size + 1 → n < w2.heap.size → w4.heap[n]? = _ := fun n hn hn2 => hg4.block n (by simp; omega) (fun e => by have := hlt4 n e.symm; omega)
        refine ⟨j + 1, by omega, by go_num, a3, c3, ?_, ?_, ?_, ?_, ?_, ?_, ?_⟩
        · rw [HDL3.out]; exact (b4 w1.heap.size (by omega) (by omega)).trans ((HrU3.out.past _).past _)
        · rw [HDL3.out]; exact HT3.out
        · exact (b4 (w.heap.size + 1) (by omega) (by omega)).trans ((HrR3.out.past _).past _)
        · rw [HRow.out]; exact HO4.out
        · exact ((HX3.out.alloc HX3.out.size _).alloc (by have := HX3.out.size; simp at this ⊢; omega) _).grown hg4 (by have := HX3.out.size; simp at this ⊢; omega) (fun n e => by have := hlt4 n e; omega)
        · exact ((HY3.out.alloc HY3.out.size _).alloc (by have := HY3.out.size; simp at this ⊢; omega) _).grown hg4 (by have := HY3.out.size; simp at this ⊢; omega) (fun n e => by have := hlt4 n e; omega)
        · have := hg4.size; simp at this; omega
      case measure => simp [intOf]; omega
    · obtain rfl : j = k := by omega
      have r0 : wr.cell? ⟨w.heap.size + 1, 0, none⟩ = some (.slice none 0 0) := HrR.out.cell 0
      have r1 : wr.cell? ⟨w.heap.size + 1, 1, none⟩ = some (.int .i64 0) := HrR.out.cell 1
      have g0 := HrR.out.thaw 0
      have g1 := HrR.out.thaw 1
      have HO5 := (HO.out.off (grown_put' (World.grownBy.refl wr _) 0 (.slice a2 dl c2)) (by show w.heap.size + 1 < w1.heap.size + 1; omega)).off (grown_put' (World.grownBy.refl _ _) 1 (.int .i64 0)) (by show w.heap.size + 1 < w1.heap.size + 1; omega)
      rw [List.take_of_length_le (by rw [Cod.row_length, List.length_take]; omega)] at HO5
      obtain ⟨a6, c6, rfl, hN6, hat6⟩ := HO5.shape
      have HN6 := Lib.hid hN6
      have HAT := Lib.hid hat6
      clear HO5 hN6 hat6 HO
      go_wp2
      refine bodyPost_ret (v := .tuple #[.agg #[.slice a2 dl c2, .int .i64 0], .slice a6 (Cod.row (l.take (8 * j))).length c6]) (by simp [results, Try.results21, go_sem, r0, r1]) rfl ?_
      refine ⟨⟨_, a6, c6, rfl, ?_, HN6.out, fun ad e => by have := HAT.out ad e; omega⟩, (HXr.out.setCell (by simp) _).setCell (by simp) _⟩
      exact HT.out

theorem tints_any (w0 : World) (v : Value) (s : Cod.St) (z : Int) (w : World) (h : Tv w0 v s) (hb0 : Below w0.heap.size w0 w) (hz : z ≤ 9223372036854775807) :
    Calls Try.prog 21 #[v, .int .i64 z] w fun e' w' => (∃ v' a c, e' = .returned (.tuple #[v', .slice a (Cod.row (Cod.rowQ s z 8)).length c]) ∧ Tv w0 v' (Cod.rowS s z 8) ∧ Nums w' a (Cod.row (Cod.rowQ s z 8)) ∧ ∀ ad, a = some ad → w.heap.size ≤ ad.block) ∧ Below w.heap.size w w' := by
  have fin : ∀ s', (Calls Try.prog 21 #[v, .int .i64 z] w fun e' w' => (∃ v', e' = .returned (.tuple #[v', .slice none 0 0]) ∧ Tv w0 v' s') ∧ Below w.heap.size w w') →
      Calls Try.prog 21 #[v, .int .i64 z] w fun e' w' => (∃ v' a c, e' = .returned (.tuple #[v', .slice a (Cod.row []).length c]) ∧ Tv w0 v' s' ∧ Nums w' a (Cod.row []) ∧ ∀ ad, a = some ad → w.heap.size ≤ ad.block) ∧ Below w.heap.size w w' := by
    intro s' H
    refine H.mono ?_
    rintro e w' ⟨⟨v', rfl, hT⟩, hb⟩
    exact ⟨⟨v', none, 0, rfl, hT, Reads.nil _ _, fun _ e => by cases e⟩, hb⟩
  by_cases he : (Cod.headS s).err = 0
  · by_cases hl : z < 0 ∨ z < W (Cod.headN s)
    · obtain ⟨e1, e2⟩ := rowQ_long s z 8 he hl
      rw [e1, e2]
      exact fin _ (tints_none w0 v s _ z w h hb0 (fun W hW => many8_long w0 v s z W h hW he hz hl))
    · obtain ⟨e1, e2⟩ := rowQ_take s z 8 he (fun x => hl (.inl x)) (fun x => hl (.inr x))
      rw [e1, e2]
      by_cases hs : ((Cod.headS s).rest.length : Int) / 8 < W (Cod.headN s)
      · have hs' : (Cod.headS s).rest.length < (Cod.headN s).toNat * 8 := by unfold W at hs; omega
        have e3 : Cod.takeQ (Cod.headS s) ((Cod.headN s).toNat * 8) = [] := by simp [Cod.takeQ, he, hs']
        have e4 : Cod.takeS (Cod.headS s) ((Cod.headN s).toNat * 8) = ⟨[], 10⟩ := by simp [Cod.takeS, he, hs']
        rw [e3, e4]
        exact fin _ (tints_none w0 v s _ z w h hb0 (fun W hW => many8_short w0 v s z W h hW he hz (fun x => hl (.inl x)) (fun x => hl (.inr x)) hs))
      · have hs' : ¬ (Cod.headS s).rest.length < (Cod.headN s).toNat * 8 := by unfold W at hs; omega
        have e3 : Cod.takeQ (Cod.headS s) ((Cod.headN s).toNat * 8) = (Cod.headS s).rest.take (8 * (Cod.headN s).toNat) := by rw [Nat.mul_comm] at hs' ⊢; simp [Cod.takeQ, he, hs']
        have e4 : Cod.takeS (Cod.headS s) ((Cod.headN s).toNat * 8) = ⟨(Cod.headS s).rest.drop (8 * (Cod.headN s).toNat), 0⟩ := by rw [Nat.mul_comm] at hs' ⊢; simp [Cod.takeS, he, hs']
        rw [e3, e4]
        have e5 : Cod.headS s = ⟨(Cod.headS s).rest, 0⟩ := by rw [← he]
        have hsm : (Cod.headS s).rest.length ≤ 1000000000 := by
          obtain ⟨_, _, _, _, _, hsm, _⟩ := h
          exact Nat.le_trans (takeS_rest s 4) hsm
        refine tints_good w0 v s (Cod.headS s).rest (Cod.headN s).toNat z w h hb0 (by omega) hsm (fun W hW => ?_)
        rw [← e5]
        exact many8_good w0 v s z W h hW he hz (fun x => hl (.inl x)) (fun x => hl (.inr x)) hs
  · obtain ⟨e1, e2⟩ := rowQ_head s z 8 he
    rw [e1, e2]
    exact fin _ (tints_none w0 v s _ z w h hb0 (fun W hW => many8_head w0 v s z W h hW he))

theorem rend_any (w0 : World) (v : Value) (s : Cod.St) (w : World) (h : Tv w0 v s) :
    Calls Try.prog 29 #[v] w fun e' w' => e' = .returned (.int .i64 (Cod.endE s)) ∧ Below w.heap.size w w' := by
  obtain ⟨a, c, rfl, hB, hc0, hs0, hok⟩ := h
  by_cases he : s.err = 0
  · by_cases h0 : s.rest = []
    · have e : Cod.endE s = 0 := by simp [Cod.endE, he, h0]
      rw [e, he, h0]
      clear hB hc0 hs0 hok e he h0
      go_enter Try.func29, Try.ntmps29
      go_wp2
      go_ret
      exact ⟨rfl, (Below.refl _ _).alloc (Nat.le_refl _) _⟩
    · have e : Cod.endE s = 5 := by simp [Cod.endE, he, h0]
      have hp : (0 : Int) < (s.rest.length : Int) := by have := List.length_pos_iff.2 h0; omega
      rw [e, he]
      clear hB hc0 hs0 hok e he h0
      go_enter Try.func29, Try.ntmps29
      go_wp2
      go_ret
      exact ⟨rfl, (Below.refl _ _).alloc (Nat.le_refl _) _⟩
  · have e : Cod.endE s = s.err := by simp [Cod.endE, he]
    have hb : (s.err == 0) = false := by simpa using he
    rw [e]
    clear hB hc0 hs0 hok e
    go_enter Try.func29, Try.ntmps29
    go_wp2
    go_ret
    exact ⟨rfl, (Below.refl _ _).alloc (Nat.le_refl _) _⟩
end Go.Proofs.Ytejmcplikhglbaa
