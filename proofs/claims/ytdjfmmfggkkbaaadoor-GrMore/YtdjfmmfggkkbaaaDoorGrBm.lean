/- Arcs behind arcs; a line more, a line fewer: pure. -/
import Derived.Test.YtdjfmmfggkkbaaaDoorGrBk
import Derived.Deep.Upon
import Derived.Laws.AppendOwn
namespace Go.Proofs.YtdjfmmfggkkbaaaDoor
open Go.RowKit Go.Shelf Grm

theorem Arcs.news {w : World} {b o : Nat} : ∀ {l : List Ar} {k : Nat}, (∀ i y, l[i]? = some y → w.cell? ⟨b, o + (k + i) * 3, none⟩ = some (.int .i64 y.1) ∧ w.cell? ⟨b, o + (k + i) * 3 + 1, none⟩ = some (.int .i64 y.2.1) ∧ w.cell? ⟨b, o + (k + i) * 3 + 2, none⟩ = some (.int .i64 y.2.2)) →
    ∀ j u, (acells l)[j]? = some u → w.cell? ⟨b, o + k * 3 + j, none⟩ = some u := by
  intro l
  induction l with
  | nil => intro k _ j u hu; simp [acells] at hu
  | cons x t ih =>
    intro k h j u hu
    have h0 := h 0 x rfl
    match j with
    | 0 => simp [acells] at hu; subst hu; simpa using h0.1
    | 1 => simp [acells] at hu; subst hu; simpa using h0.2.1
    | 2 => simp [acells] at hu; subst hu; simpa using h0.2.2
    | j + 3 =>
      have := ih (k := k + 1) (fun i y hy => by
        have := h (i + 1) y hy
        rwa [show k + (i + 1) = k + 1 + i by omega] at this) j u (by simpa [acells] using hu)
      rwa [show o + (k + 1) * 3 + j = o + k * 3 + (j + 3) by omega] at this
theorem acells_one (l : List Ar) : ∀ u ∈ acells l, u.oneCell' = true := by
  induction l with
  | nil => intro u hu; cases hu
  | cons x t ih =>
    intro u hu
    simp only [acells, List.mem_cons] at hu
    rcases hu with rfl | rfl | rfl | hu
    · rfl
    · rfl
    · rfl
    · exact ih u hu
set_option maxRecDepth 100000 in
/-- 'append(v, xs...)' of arcs. -/
theorem wpList_appendA {w : World} {ops : Array Oper} {rest : List Oper} {o : Oper} {a : Act} {Q : Exit → Act → World → Prop} (hgd : o.guard = none) (s x : Operand) (ho : o.op = .call { callee := .builtin .append, args := #[s, x], argTypes := #[23, 23] })
    (K : Nat) (v : Value) (l r : List Ar) (ad : Option Addr) (c : Nat) (hs : a.eval s = v) (hv : AV w K v l) (hx : a.eval x = .slice ad r.length c) (hr : Arcs w ad r) (hl : l.length + r.length ≤ 1000000) (hK : K ≤ w.heap.size)
    (h : ∀ v' w', AV w' K v' (l ++ r) → w.grownBy w' v.ownBlock → wpList Tryd.prog ops Q rest (a.put o.dst v') w') : wpList Tryd.prog ops Q (o :: rest) a w := by
  obtain ⟨i0, hi, hz0, hz1, hz2⟩ := info_parts infoA
  rcases r with _ | ⟨y, t⟩
  · -- nothing behind it
    obtain ⟨va, vc, rfl⟩ := hv.shape
    have hle : l.length ≤ vc := by
      rcases hv.2 with ⟨e, h0⟩ | ⟨g, cap, cur, e, _, _, h3, _⟩
      · injection e with _ e1 e2; omega
      · injection e with _ e1 e2; omega
    refine wpList_plain hgd fun K' hK' => ?_
    cases ad with
    | none =>
      have hrun := run_append_nothing (P := Tryd.prog) w 23 23 o.type 50 i0 Tryd.underlying23 hi va l.length vc hle _ (Src.ofNil (w := w) Tryd.underlying23 c)
      unfold Oper.wp
      simp [execOp, ho, resolve, invoke, builtin, hs, hx, hrun, Result.andThen]
      exact hK' _ _ (h _ _ (by simpa using hv) ⟨rfl, rfl, rfl, Nat.le_refl _, fun _ _ _ => rfl⟩)
    | some b =>
      have hrun := run_append_nothing (P := Tryd.prog) w 23 23 o.type 50 i0 Tryd.underlying23 hi va l.length vc hle _ (Src.ofSlice (w := w) Tryd.underlying23 b 0 c [] (by simp) (by simp) (by simp))
      unfold Oper.wp
      simp [execOp, ho, resolve, invoke, builtin, hs, hx, hrun, Result.andThen]
      exact hK' _ _ (h _ _ (by simpa using hv) ⟨rfl, rfl, rfl, Nat.le_refl _, fun _ _ _ => rfl⟩)
  · rcases hr with hr | ⟨b, o', rfl, hr⟩
    · cases hr
    refine wpList_append_own w hgd s x 23 ho K 50 i0 (.agg #[.int .i64 0, .int .i64 0, .int .i64 0]) 3 24 Tryd.underlying23 hi hz0 hz1 hz2 rfl (by omega) v l.length (acells l) hs hv ⟨b, o', none⟩ (y :: t).length c (acells (y :: t)) hx (by rw [acells_length]) (fun j u hu => by
        have := Arcs.news (k := 0) (l := y :: t) (by simpa using hr) j u hu
        rw [Addr.add_lit]
        simpa using this) (acells_one _) (by simp only [maxLen]; omega) (by omega) hK (fun v' w' h2 h3 _ => h v' w' ?_ h3)
    unfold AV
    rw [List.length_append, acells_append]
    exact h2
/-! ### A line more, a line fewer -/
theorem linesT_app (l : List Ar) (x : Ar) : linesT (l ++ [x]) = linesT l ++ lineT x := by simp [linesT]
/-- All but the last line. -/
def fewT (n : Int) (l : List Ar) (x : Ar) : Tx := headT2 n (l ++ [x]) ++ linesT l
theorem print_more (n : Int) (l : List Ar) (x : Ar) : printL n (l ++ [x]) = fewT n l x ++ lineT x := by
  unfold printL fewT
  rw [linesT_app, List.append_assoc]
theorem few_join (n : Int) (l : List Ar) (x : Ar) : fewT n l x = joinL (headW n (l ++ [x]) :: l.map arcW) := by
  unfold fewT joinL
  rw [List.flatMap_cons]
  have : linesT l = (l.map arcW).flatMap (· ++ [10]) := by rw [List.flatMap_map]; rfl
  rw [this]
  rfl
theorem parse_few {n : Int} {l : List Ar} {x : Ar} (hc : checkL n (l ++ [x]) = 0) : parseL (fewT n l x) = .inl (l.length + 2) := by
  obtain ⟨h0, hn, hl, hb⟩ := check_ok hc
  have hrun : runL Rst.zero (headW n (l ++ [x]) :: l.map arcW) = some ⟨n.toNat, l, true, (l ++ [x]).length⟩ := by
    rw [runL_cons, take_head h0 hn hl, Option.bind_some, run_arcs hn l _ (fun y hy => hb y (by simp [hy])) rfl rfl (by simp)]
    simp
  rw [few_join, parse_run (joinL_lines (by simp) (lines_ne n l (l ++ [x]))) hrun]
  simp [Rst.whole]
  omega
theorem parse_over {n : Int} {l : List Ar} (x : Ar) (hc : checkL n l = 0) : parseL (printL n l ++ lineT x) = .inl (l.length + 2) := by
  have e : printL n l ++ lineT x = joinL ((headW n l :: l.map arcW) ++ [arcW x]) := by
    rw [joinL_app, ← printL_join]
    simp [joinL, lineT, arcW]
  have hL : linesL (printL n l ++ lineT x) = (headW n l :: l.map arcW) ++ [arcW x] := by
    rw [e]
    refine joinL_lines (by simp) (fun L hL => ?_)
    rw [List.mem_append] at hL
    rcases hL with hL | hL
    · exact lines_ne n l l L hL
    · rw [List.mem_singleton] at hL; subst hL; exact arcW_ne x
  unfold parseL
  rw [hL, goL_at [] (run_print hc) (take_over _ rfl)]
  simp
  omega
end Go.Proofs.YtdjfmmfggkkbaaaDoor
