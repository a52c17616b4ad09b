/- graph.lay: rows of numbers, and of edges: memory (written by mklay.py). -/
import Derived.Test.YtdkpdmpghibmmaaGreatGhA
import Derived.Test.YtdkpdmpghibmmaaGreatLayMath
import Derived.Laws.MakeOwn
import Derived.Deep.CutRange
import Derived.OwnWalk
namespace Go.Proofs.YtdkpdmpghibmmaaGreat
open Go.RowKit Go.Shelf Grm Lay
attribute [local go_sem] Oper.semAt_some

/-- Cells 0 to n that hold what f tells. -/
abbrev cellsF (n : Nat) (f : Nat → Nat) : Array Value := nsV ((List.range (n + 1)).map f)
theorem nsV_at {ns : List Nat} {i : Nat} (h : i < ns.length) : (nsV ns)[i]? = some (.int .i64 (ns[i]'h : Nat)) := by
  simp [List.getElem?_eq_getElem h]
theorem cellsF_at {n : Nat} {f : Nat → Nat} {i : Nat} (h : i ≤ n) : (cellsF n f)[i]? = some (.int .i64 (f i : Nat)) := by
  rw [nsV_at (by simp; omega)]
  simp
theorem nsV_set (ns : List Nat) (i m : Nat) : (nsV ns).setIfInBounds i (.int .i64 (m : Nat)) = nsV (ns.set i m) := by
  simp [List.setIfInBounds_toArray, List.map_set]
theorem cellsF_put {n : Nat} (f : Nat → Nat) (i m : Nat) : (cellsF n f).setIfInBounds i (.int .i64 (m : Nat)) = cellsF n (fun j => if j = i then m else f j) := by
  rw [nsV_set]
  congr 2
  apply List.ext_getElem?
  intro j
  by_cases hj : j < n + 1
  · rw [List.getElem?_map, List.getElem?_range hj]
    by_cases hi : j = i
    · subst hi
      rw [List.getElem?_set_self (by simpa using hj)]
      simp
    · rw [List.getElem?_set_ne (by omega), List.getElem?_map, List.getElem?_range hj]
      simp [hi]
  · rw [List.getElem?_eq_none (by simp; omega), List.getElem?_eq_none (by simp; omega)]
theorem cellsF_congr {n : Nat} {f g : Nat → Nat} (h : ∀ i, i ≤ n → f i = g i) : cellsF n f = cellsF n g := by
  have : (List.range (n + 1)).map f = (List.range (n + 1)).map g := List.map_congr_left (fun i hi => h i (by have := List.mem_range.1 hi; omega))
  unfold cellsF
  rw [this]
theorem nsV_zero (n : Nat) : (List.replicate n (Value.int .i64 0)).toArray = nsV (List.replicate n 0) := by
  unfold nsV
  rw [List.map_replicate]
  rfl
theorem cellsF_zero (n : Nat) : nsV (List.replicate (n + 1) 0) = cellsF n (fun _ => 0) := by
  unfold cellsF
  congr 2
  apply List.ext_getElem <;> simp
/-- Edges: to whom, how long, of which arc. -/
abbrev Ed := Int × Int × Nat
def ecells : List Ed → List Value
  | [] => []
  | x :: t => .int .i64 x.1 :: .int .i64 x.2.1 :: .int .i64 (x.2.2 : Nat) :: ecells t
abbrev eV (x : Ed) : Value := .agg #[.int .i64 x.1, .int .i64 x.2.1, .int .i64 (x.2.2 : Nat)]
theorem ecells_append (t s : List Ed) : ecells (t ++ s) = ecells t ++ ecells s := by
  induction t with
  | nil => rfl
  | cons x t ih => simp [ecells, ih]
theorem ecells_length (t : List Ed) : (ecells t).length = t.length * 3 := by
  induction t with
  | nil => rfl
  | cons x t ih => simp [ecells, ih]; omega
theorem ecells_get (t : List Ed) (j : Nat) (h : j < t.length) : (ecells t)[j * 3]? = some (.int .i64 (t[j]'h).1) ∧ (ecells t)[j * 3 + 1]? = some (.int .i64 (t[j]'h).2.1) ∧ (ecells t)[j * 3 + 2]? = some (.int .i64 ((t[j]'h).2.2 : Nat)) := by
  induction t generalizing j with
  | nil => simp at h
  | cons x t ih =>
    match j with
    | 0 => simp [ecells]
    | j + 1 =>
      have := ih j (by simpa using h)
      have e : (j + 1) * 3 = j * 3 + 1 + 1 + 1 := by omega
      rw [e]
      simp only [ecells, List.getElem?_cons_succ, List.getElem_cons_succ]
      exact ⟨by simpa using this.1, by simpa using this.2.1, by simpa using this.2.2⟩
theorem ecells_set (t : List Ed) (j : Nat) (y : Ed) : (((ecells t).set (j * 3) (.int .i64 y.1)).set (j * 3 + 1) (.int .i64 y.2.1)).set (j * 3 + 2) (.int .i64 (y.2.2 : Nat)) = ecells (t.set j y) := by
  induction t generalizing j with
  | nil => simp [ecells]
  | cons x t ih =>
    match j with
    | 0 => simp [ecells]
    | j + 1 =>
      have e : (j + 1) * 3 = j * 3 + 1 + 1 + 1 := by omega
      rw [e]
      simp only [ecells, List.set_cons_succ, List.cons.injEq, true_and]
      exact ih j
theorem ecells_zero (n : Nat) : (List.replicate (n * 3) (Value.int .i64 0)) = ecells (List.replicate n (0, 0, 0)) := by
  induction n with
  | zero => rfl
  | succ n ih =>
    rw [List.replicate_succ (n := n), ecells, ← ih, show (n + 1) * 3 = n * 3 + 1 + 1 + 1 by omega, List.replicate_succ, List.replicate_succ, List.replicate_succ]
    rfl
abbrev esV (l : List Ed) : Array Value := (ecells l).toArray
theorem esV_at {l : List Ed} {j : Nat} (h : j < l.length) : (esV l)[j * 3]? = some (.int .i64 (l[j]'h).1) ∧ (esV l)[j * 3 + 1]? = some (.int .i64 (l[j]'h).2.1) ∧ (esV l)[j * 3 + 2]? = some (.int .i64 ((l[j]'h).2.2 : Nat)) := by
  have := ecells_get l j h
  simpa using this
theorem esV_set (l : List Ed) (j : Nat) (y : Ed) : (((esV l).setIfInBounds (j * 3) (.int .i64 y.1)).setIfInBounds (j * 3 + 1) (.int .i64 y.2.1)).setIfInBounds (j * 3 + 2) (.int .i64 (y.2.2 : Nat)) = esV (l.set j y) := by
  simp only [List.setIfInBounds_toArray]
  rw [ecells_set]
theorem infoI : (Tryz.prog.info? 3).map (fun i => (i.zero, i.size, i.bytes)) = some (some (.int .i64 0), 1, 8) := by kernel_rfl
theorem infoE : (Tryz.prog.info? 94).map (fun i => (i.zero, i.size, i.bytes)) = some (some (.agg #[.int .i64 0, .int .i64 0, .int .i64 0]), 3, 24) := by kernel_rfl
theorem run_makeI (w : World) (z : Int) (n : Nat) (hz : z = (n : Int)) (hn : n ≤ 10000000000) :
    (Instr.makeSlice 33 (.int .i64 z) (.int .i64 z)).run Tryz.prog w = .ok (.slice (some ⟨w.heap.size, 0, none⟩) n n) (w.alloc (.cells (nsV (List.replicate n 0)) 3)) := by
  obtain ⟨i, hi, hz0, hz1, hz2⟩ := info_parts infoI
  have hr := run_make (P := Tryz.prog) w 33 3 i (.int .i64 0) Tryz.underlying33 hi hz0 .i64 .i64 z z (by omega) (by omega) (by rw [hz2]; omega) (by omega)
  subst hz
  have e : (madeCells (Value.int IntKind.i64 0).cells ((n : Int).toNat * i.size)) = nsV (List.replicate n 0) := by
    rw [hz1, ← nsV_zero]
    apply Array.toList_inj.1
    have e1 : (Value.int IntKind.i64 0).cells = #[Value.int IntKind.i64 0] := rfl
    rw [e1, toList_madeCells_one]
    simp
  rw [e] at hr
  exact hr
theorem made3 (n : Nat) : (madeCells #[Value.int IntKind.i64 0, .int .i64 0, .int .i64 0] (n * 3)).toList = List.replicate (n * 3) (.int .i64 0) := by
  apply List.ext_getElem?
  intro i
  by_cases hi : i < n * 3
  · have h3 : i % 3 < 3 := Nat.mod_lt _ (by omega)
    simp only [madeCells, Array.toList_map, Array.toList_range, List.getElem?_map, List.getElem?_range hi, Option.map_some, List.getElem?_replicate, hi, if_true]
    rcases (show i % 3 = 0 ∨ i % 3 = 1 ∨ i % 3 = 2 by omega) with h | h | h <;> simp [h]
  · rw [List.getElem?_eq_none (by simp [madeCells]; omega), List.getElem?_eq_none (by simp; omega)]
theorem run_makeE (w : World) (z : Int) (n : Nat) (hz : z = (n : Int)) (hn : n ≤ 10000000000) :
    (Instr.makeSlice 91 (.int .i64 z) (.int .i64 z)).run Tryz.prog w = .ok (.slice (some ⟨w.heap.size, 0, none⟩) n n) (w.alloc (.cells (esV (List.replicate n (0, 0, 0))) 94)) := by
  obtain ⟨i, hi, hz0, hz1, hz2⟩ := info_parts infoE
  have hr := run_make (P := Tryz.prog) w 91 94 i (.agg #[.int .i64 0, .int .i64 0, .int .i64 0]) Tryz.underlying91 hi hz0 .i64 .i64 z z (by omega) (by omega) (by rw [hz2]; omega) (by omega)
  subst hz
  have e : (madeCells (Value.agg #[.int .i64 0, .int .i64 0, .int .i64 0]).cells ((n : Int).toNat * i.size)) = esV (List.replicate n (0, 0, 0)) := by
    rw [hz1]
    apply Array.toList_inj.1
    have e1 : (Value.agg #[.int .i64 0, .int .i64 0, .int .i64 0]).cells = #[Value.int IntKind.i64 0, .int .i64 0, .int .i64 0] := rfl
    rw [e1, Int.toNat_natCast, made3, ecells_zero]
  rw [e] at hr
  exact hr
set_option maxRecDepth 100000 in
theorem step_makeI {ops : Array Oper} {o : Oper} {a : Act} {w : World} {K : Act → World → Prop} {Q : Exit → Act → World → Prop} {E : Prop} (hgd : o.guard = none) (x y : Operand) (ho : o.op = .makeSlice 33 x y)
    (z : Int) (n : Nat) (hx : a.eval x = .int .i64 z) (hy : a.eval y = .int .i64 z) (hz : z = (n : Int)) (hn : n ≤ 10000000000) (h : K (a.put o.dst (.slice (some ⟨w.heap.size, 0, none⟩) n n)) (w.alloc (.cells (nsV (List.replicate n 0)) 3))) :
    if Region.wanted o (yielded ops a.tmps) = true then Oper.wp Tryz.prog o a w K Q else E := by
  have hw : Region.wanted o (yielded ops a.tmps) = true := by simp [Region.wanted, hgd]
  rw [if_pos hw]
  have hr := run_makeI w z n hz hn
  unfold Oper.wp execOp
  simp only [ho, hx, hy, Sem.run_bind, hr, Result.andThen_ok, Sem.run_pure]
  exact h
set_option maxRecDepth 100000 in
theorem wpList_makeI {w : World} {ops : Array Oper} {rest : List Oper} {o : Oper} {a : Act} {Q : Exit → Act → World → Prop} (hgd : o.guard = none) (x y : Operand) (ho : o.op = .makeSlice 33 x y)
    (z : Int) (n : Nat) (hx : a.eval x = .int .i64 z) (hy : a.eval y = .int .i64 z) (hz : z = (n : Int)) (hn : n ≤ 10000000000)
    (h : wpList Tryz.prog ops Q rest (a.put o.dst (.slice (some ⟨w.heap.size, 0, none⟩) n n)) (w.alloc (.cells (nsV (List.replicate n 0)) 3))) : wpList Tryz.prog ops Q (o :: rest) a w := by
  refine wpList_plain hgd fun K' hK' => ?_
  have hr := run_makeI w z n hz hn
  unfold Oper.wp execOp
  simp only [ho, hx, hy, Sem.run_bind, hr, Result.andThen_ok, Sem.run_pure]
  exact hK' _ _ h
set_option maxRecDepth 100000 in
theorem step_makeE {ops : Array Oper} {o : Oper} {a : Act} {w : World} {K : Act → World → Prop} {Q : Exit → Act → World → Prop} {E : Prop} (hgd : o.guard = none) (x y : Operand) (ho : o.op = .makeSlice 91 x y)
    (z : Int) (n : Nat) (hx : a.eval x = .int .i64 z) (hy : a.eval y = .int .i64 z) (hz : z = (n : Int)) (hn : n ≤ 10000000000) (h : K (a.put o.dst (.slice (some ⟨w.heap.size, 0, none⟩) n n)) (w.alloc (.cells (esV (List.replicate n (0, 0, 0))) 94))) :
    if Region.wanted o (yielded ops a.tmps) = true then Oper.wp Tryz.prog o a w K Q else E := by
  have hw : Region.wanted o (yielded ops a.tmps) = true := by simp [Region.wanted, hgd]
  rw [if_pos hw]
  have hr := run_makeE w z n hz hn
  unfold Oper.wp execOp
  simp only [ho, hx, hy, Sem.run_bind, hr, Result.andThen_ok, Sem.run_pure]
  exact h
set_option maxRecDepth 100000 in
theorem wpList_makeE {w : World} {ops : Array Oper} {rest : List Oper} {o : Oper} {a : Act} {Q : Exit → Act → World → Prop} (hgd : o.guard = none) (x y : Operand) (ho : o.op = .makeSlice 91 x y)
    (z : Int) (n : Nat) (hx : a.eval x = .int .i64 z) (hy : a.eval y = .int .i64 z) (hz : z = (n : Int)) (hn : n ≤ 10000000000)
    (h : wpList Tryz.prog ops Q rest (a.put o.dst (.slice (some ⟨w.heap.size, 0, none⟩) n n)) (w.alloc (.cells (esV (List.replicate n (0, 0, 0))) 94))) : wpList Tryz.prog ops Q (o :: rest) a w := by
  refine wpList_plain hgd fun K' hK' => ?_
  have hr := run_makeE w z n hz hn
  unfold Oper.wp execOp
  simp only [ho, hx, hy, Sem.run_bind, hr, Result.andThen_ok, Sem.run_pure]
  exact hK' _ _ h
end Go.Proofs.YtdkpdmpghibmmaaGreat
