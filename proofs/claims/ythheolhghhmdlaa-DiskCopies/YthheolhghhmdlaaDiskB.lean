/- A file of a disk: its bytes; one more write. -/
import Derived.Test.YthheolhghhmdlaaDiskA
import Derived.Deep.RegionHeld3
namespace Go.Proofs.Ythheolhghhmdlaa
open Go.RowKit Dsk

/-- 'copy(room, b)', room a part of a row of the call's own, that has as much room at least. -/
theorem wpList_copyO {w : World} {ops : Array Oper} {rest : List Oper} {o : Oper} {a : Act} {Q : Exit → Act → World → Prop} (hgd : o.guard = none) (d s : Operand)
    (ho : o.op = .call { callee := .builtin .copy, args := #[d, s], argTypes := #[34, 34] })
    (g off n cap : Nat) (ap dp : Option Addr) (l cur : By) (c : Nat) (hd : a.eval d = .slice dp n cap) (hn : l.length ≤ n) (hdp : 0 < l.length → dp = some ⟨g, off, none⟩) (ln : Nat) (hln : ln = l.length) (hs : a.eval s = .slice ap ln c) (hB : Bytes w ap l)
    (hr : Row w g 5 (cells cur).toArray) (hfit : off + l.length ≤ cur.length)
    (h : ∀ w', Hid (Row w' g 5 (cells (splice cur off l)).toArray) → w.grownBy w' (some g) → wpList Try.prog ops Q rest (a.put o.dst (.int .i64 ln)) w') : wpList Try.prog ops Q (o :: rest) a w := by
  subst hln
  have hmin : Nat.min l.length n = l.length := Nat.min_eq_left hn
  by_cases h0 : l.length = 0
  · have hl : l = [] := List.eq_nil_of_length_eq_zero h0
    subst hl
    refine wpList_copy_nothing hgd d s 34 34 ho 5 Try.underlying34 size8 _ _ n cap _ c hd hs hmin ?_
    refine h w ?_ (World.grownBy.refl w _)
    show Row w g _ _
    simpa [splice] using hr
  · have hdp := hdp (by omega)
    subst hdp
    rcases hB with rfl | ⟨b, off', rfl, hsrc⟩
    · simp at h0
    · refine wpList_copy_own hgd d s 34 34 ho 5 Try.underlying34 size8 g off n cap ⟨b, off', none⟩ l.length c hd hs (cells cur).toArray 5 hr (cells l) (by rw [cells_length, hmin]) (Bytes.src hsrc) (by simp [cells_length]; omega) (cells_one _) ?_
      have e2 : ((cells cur).toArray.toList.take off ++ (cells l ++ (cells cur).toArray.toList.drop (off + (cells l).length))) = cells (splice cur off l) := by
        simp [splice, cells_append, cells_take, cells_drop, cells_length]
      rw [e2, cells_length]
      exact h _ (hr.whole _) ⟨rfl, rfl, rfl, by simp, fun k _ hk => setRow_other w g k _ (fun e => hk (by rw [e]))⟩

/-- Bytes, and noughts up to n. -/
def fillB (l : By) (n : Nat) : By := l ++ List.replicate (n - l.length) 0
theorem fillB_length (l : By) (n : Nat) (h : l.length ≤ n) : (fillB l n).length = n := by
  simp only [fillB, List.length_append, List.length_replicate]
  omega
theorem fillB_splice (l m : By) (n : Nat) (h : l.length + m.length ≤ n) : splice (fillB l n) l.length m = fillB (l ++ m) n := by
  unfold splice fillB
  rw [List.take_left' rfl, List.append_assoc]
  congr 1
  congr 1
  rw [List.drop_append, List.drop_eq_nil_of_le (by omega), List.nil_append, List.drop_replicate]
  congr 1
  simp
  omega
theorem Owns.of_row {w : World} {K g n : Nat} {l : By} (h : Row w g 5 (cells l).toArray) (hn : n = l.length) (hK : K ≤ g) (hm : n ≤ maxLen) : Owns w K (.slice (some ⟨g, 0, Option.none⟩) n n) l := by
  subst hn
  exact ⟨by rw [cells_length, Nat.mul_one], .inr ⟨g, l.length, _, rfl, hK, h, Nat.le_refl _, hm, by simp [cells_length], by rw [Nat.mul_one, ← cells_length]; exact List.take_length⟩⟩
/-- The first k writes, one behind the other. -/
def pre (ws : List By) (k : Nat) : By := (ws.take k).flatten
theorem pre_zero (ws : List By) : pre ws 0 = [] := rfl
theorem pre_all (ws : List By) : pre ws ws.length = ws.flatten := by simp [pre]
theorem pre_succ (ws : List By) (k : Nat) (h : k < ws.length) : pre ws (k + 1) = pre ws k ++ ws[k]'h := flatten_take_succ ws k h
theorem pre_le (ws : List By) (k : Nat) : (pre ws k).length ≤ ws.flatten.length := flatten_take_le ws k
theorem fillB_none (n : Nat) : fillB [] n = List.replicate n 0 := by simp [fillB]
theorem fillB_all (l : By) : fillB l l.length = l := by simp [fillB]


set_option maxRecDepth 100000 in
theorem fbytes_any (o : Nat → Nat) (fb : Nat) (fv wv : Value) (vs : List Value) (firm : By) (ws : List By) (w : World) (h : Fl w o fb fv wv vs firm ws) (hz : (firm ++ ws.flatten).length ≤ 1000000000) (hw : ws.length ≤ 1000000000) :
    Calls Try.prog 41 #[ptr fb] w fun e w' => ∃ v, e = .returned v ∧ Owns w' w.heap.size v (firm ++ ws.flatten) ∧ Below w.heap.size w w' := by
  obtain ⟨a, c, a', c', e1, e2, hB⟩ := h.shapes
  obtain ⟨n, hn⟩ : ∃ n, n = (firm ++ ws.flatten).length := ⟨_, rfl⟩
  have HC := Lib.hid (fsize_any o fb fv wv vs firm ws w h (by omega) (by omega) n (by rw [hn]))
  have k0 : w.cell? ⟨fb, 0, none⟩ = some (.slice a firm.length c) := by rw [← e1]; exact h.row.cell 0
  have k1 : w.cell? ⟨fb, 1, none⟩ = some (.slice a' ws.length c') := by rw [← e2]; exact h.row.cell 1
  have hl := h.lt
  have hfn : firm.length ≤ n := by rw [hn, List.length_append]; omega
  have HN := Lib.hid hn
  have HZ := Lib.hid hz
  have HW := Lib.hid hw
  have HFN := Lib.hid hfn
  have HH := Lib.hid h
  have HB := Lib.hid hB
  clear hn hz hw hfn h hB
  generalize hf0 : firm.length = f0 at *
  have HF0 := Lib.hid hf0
  clear hf0
  go_enter Try.func41, Try.ntmps41
  go_wp2_with fail
  refine HC.out.mono ?_
  rintro e w0 ⟨rfl, rfl⟩
  go_wp2_with (first
    | ((with_reducible show wpList _ _ _ (Oper.mk _ (Op.makeSlice _ _ _) _ _ _ _ :: _) _ _); refine wpList_makeB rfl _ _ rfl _ n rfl rfl rfl (by have := HZ.out; have := HN.out; omega) w0.heap.size w0 (Below.refl _ _) (Nat.le_refl _) ?_; intro w1 HR1 hb1; have HB1 := Lib.hid hb1; have hl1 : fb < w1.heap.size := (by have := hb1.size; omega); have c0 : w1.cell? ⟨fb, 0, none⟩ = some (.slice a f0 c) := (hb1.cell (p := ⟨fb, 0, none⟩) hl).trans k0; clear hb1)
    | ((with_reducible show wpList _ _ _ (Oper.mk _ (Op.call ⟨Callee.builtin Builtin.copy, _, _⟩) _ _ _ _ :: _) _ _); refine wpList_copyO rfl _ _ rfl w0.heap.size 0 n n a _ firm _ c rfl (by rw [HF0.out]; exact HFN.out) (fun _ => rfl) f0 HF0.out.symm rfl (HB.out.under HB1.out) HR1.out (by simp [HF0.out]; exact HFN.out) ?_; intro w2 HR2 hg2; have hb2 : Below w0.heap.size w0 w2 := HB1.out.grown hg2 HB1.out.size (fun k e => by cases e; exact Nat.le_refl _); have c1 : w2.cell? ⟨fb, 1, none⟩ = some (.slice a' ws.length c') := (hb2.cell (p := ⟨fb, 1, none⟩) hl).trans k1; have hl2 : fb < w2.heap.size := (by have := hb2.size; omega); have HB2 := Lib.hid hb2; clear hb2 hg2 c0))
  go_loopw [4, 21] (fun n' i wr => ∃ k : Nat, k ≤ ws.length ∧ i = .int .i64 k ∧ n' = .int .i64 ((f0 + (pre ws k).length : Nat)) ∧ Row wr w0.heap.size 5 (cells (fillB (firm ++ pre ws k) n)).toArray ∧ Below w0.heap.size w0 wr) (fun _ i _ => ws.length - (intOf i).toNat)
  case atStart =>
    refine ⟨0, by omega, rfl, by rw [pre_zero]; rfl, ?_, HB2.out⟩
    have := HR2.out
    have e := fillB_splice [] firm n (by have := HFN.out; have := HF0.out; simp; omega)
    rw [fillB_none] at e
    simp only [List.length_nil, List.nil_append] at e
    rw [pre_zero, List.append_nil]
    rw [← e]
    exact this
  case round =>
    obtain ⟨k, hk, rfl, rfl, hrow, hbw⟩ := hrel
    have HRow := Lib.hid hrow
    have HBw := Lib.hid hbw
    have hsz := hbw.size
    have d1 : wr.cell? ⟨fb, 1, none⟩ = some (.slice a' ws.length c') := (hbw.cell (p := ⟨fb, 1, none⟩) hl).trans k1
    clear hrow hbw
    by_cases hlt : k < ws.length
    · obtain ⟨g, cap, a2, c2, e3, hgl, hc, hB2, _⟩ := HH.out.write_at hlt
      rw [e2] at e3
      injection e3 with e4 _ e5
      subst e4
      have hlt' : (k : Int) < (ws.length : Int) := by omega
      have h5 := pre_succ ws k hlt
      have h6 := pre_le ws (k + 1)
      rw [h5] at h6
      have hz := HZ.out
      have hn := HN.out
      have hw := HW.out
      have hf := HF0.out
      have dc : wr.cell? ⟨g, k, none⟩ = some (.slice a2 (ws[k]'hlt).length c2) := (HBw.out.cell (p := ⟨g, k, none⟩) hgl).trans hc
      have HB2' := Lib.hid (hB2.under HBw.out)
      clear hc hB2
      simp only [List.length_append] at hz h6 hn
      have HX := Lib.hid h5
      clear h5
      generalize hx : (ws[k]'hlt) = x at *
      clear hx
      generalize hs : pre ws k = s at *
      clear hs
      have HFit := Lib.hid (show f0 + s.length + x.length ≤ n by omega)
      have he1 : (f0 : Int) + (s.length : Int) ≤ (n : Int) := by omega
      have he2 : (0 : Int) ≤ (f0 : Int) + (s.length : Int) := by omega
      have hgl' : g < wr.heap.size := by omega
      have hwI : (ws.length : Int) ≤ 1000000000 := by omega
      have hnI : (n : Int) ≤ 1000000000 := by omega
      clear hz hw hn h6 hf
      rcases Nat.lt_or_ge (f0 + s.length) n with hend | hend
      · have he3 : (f0 : Int) + (s.length : Int) < (n : Int) := by omega
        have he4 : (f0 : Int) + (s.length : Int) + (x.length : Int) ≤ (n : Int) := by have := HFit.out; omega
        go_wp2_with ((with_reducible show wpList _ _ _ (Oper.mk _ (Op.call ⟨Callee.builtin Builtin.copy, _, _⟩) _ _ _ _ :: _) _ _); refine wpList_copyO rfl _ _ rfl w0.heap.size (f0 + s.length) _ _ a2 _ x _ c2 rfl (by have := HFit.out; omega) (fun _ => rfl) x.length rfl rfl HB2'.out HRow.out (by rw [fillB_length _ _ (by have := HFit.out; have := HF0.out; simp only [List.length_append]; omega)]; exact HFit.out) ?_; intro w3 HR3 hg3)
        go_roundw
        case rel =>
          have h1 := HF0.out
          have h2 := HFit.out
          refine ⟨.int .i64 (f0 + s.length + x.length), _, .int .i64 (k + 1), ⟨k + 1, by omega, by go_num, by rw [HX.out]; simp only [List.length_append]; go_num, ?_, HBw.out.grown hg3 HBw.out.size (fun k e => by cases e; exact Nat.le_refl _)⟩, rfl, rfl, rfl⟩
          have h3 := HR3.out
          have h4 : f0 + s.length = (firm ++ s).length := by rw [List.length_append, h1]
          rw [h4, fillB_splice (firm ++ s) x _ (by rw [← h4]; exact h2)] at h3
          rw [HX.out, ← List.append_assoc]
          exact h3
        case measure => simp [intOf]; omega
      · have hx0 : x = [] := List.eq_nil_of_length_eq_zero (by have := HFit.out; omega)
        have hen : n = f0 + s.length := by have := HFit.out; omega
        subst hx0
        have HEn := Lib.hid hen
        have he3 : (f0 : Int) + (s.length : Int) = (n : Int) := by omega
        clear he1 he2 hend hen
        simp only [List.length_nil] at dc
        go_wp2_with ((with_reducible show wpList _ _ _ (Oper.mk _ (Op.call ⟨Callee.builtin Builtin.copy, _, _⟩) _ _ _ _ :: _) _ _); refine wpList_copyO rfl _ _ rfl w0.heap.size (f0 + s.length) 0 0 a2 _ [] _ c2 rfl (by simp) (fun h => by simp at h) 0 rfl rfl (.inl rfl) HRow.out (by rw [fillB_length _ _ (by have := HFit.out; have := HF0.out; simp only [List.length_append]; omega)]; exact HFit.out) ?_; intro w3 HR3 hg3)
        go_roundw
        case rel =>
          have h1 := HF0.out
          have h2 := HFit.out
          refine ⟨.int .i64 (f0 + s.length), _, .int .i64 (k + 1), ⟨k + 1, by omega, by go_num, by rw [HX.out]; first | (simp only [List.append_nil]; done) | (simp only [List.append_nil]; go_num), ?_, HBw.out.grown hg3 HBw.out.size (fun k e => by cases e; exact Nat.le_refl _)⟩, by go_num, rfl, rfl⟩
          have h3 := HR3.out
          have h4 : f0 + s.length = (firm ++ s).length := by rw [List.length_append, h1]
          rw [h4, fillB_splice (firm ++ s) [] _ (by rw [← h4]; exact h2)] at h3
          rw [HX.out, ← List.append_assoc]
          exact h3
        case measure => simp [intOf]; omega
    · have hlt' : ¬ (k : Int) < (ws.length : Int) := by omega
      have hkk : k = ws.length := by omega
      have h3 := HRow.out
      rw [hkk, pre_all, HN.out, fillB_all] at h3
      have HR3 := Lib.hid h3
      clear h3
      go_wp2
      go_ret
      exact ⟨_, rfl, Owns.of_row HR3.out HN.out (Nat.le_refl _) (by have := HZ.out; have := HN.out; simp only [maxLen]; omega), HBw.out⟩
end Go.Proofs.Ythheolhghhmdlaa
