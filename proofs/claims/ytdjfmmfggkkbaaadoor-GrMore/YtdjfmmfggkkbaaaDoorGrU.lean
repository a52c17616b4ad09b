/- gr.lines, whole, numbers (written by mkgru.py). -/
import Derived.Test.YtdjfmmfggkkbaaaDoorGrT
namespace Go.Proofs.YtdjfmmfggkkbaaaDoor
open Go.RowKit Go.Shelf Grm

theorem lines_nil (w : World) : Calls Tryd.prog 22 #[txV []] w fun e w' => e = .returned (.func (.func 34) #[] #[]) ∧ w' = w := by
  go_enter Tryd.func22, Tryd.ntmps22
  go_wp2
  go_ret
  exact ⟨rfl, rfl⟩
def trimL (m : Tx) : Tx := Lib.trimSuffix m [10]
theorem lines_any (y : UInt8) (t : Tx) (hm : (y :: t).length ≤ 140737488351232) (w : World) :
    Calls Tryd.prog 22 #[txV (y :: t)] w fun e w' => e = .returned (splitV w.heap.size) ∧ w' = splitW (trimL (y :: t)) 10 w := by
  have h1 : Calls Tryd.prog 36 #[txV (y :: t), .string ⟨#[10]⟩] w fun e w' => e = .returned (txV (trimL (y :: t))) ∧ w' = w := Tryd.strings_TrimSuffix ⟨(y :: t).toArray⟩ ⟨#[10]⟩ w (by show (y :: t).toArray.size ≤ _; rw [List.size_toArray]; omega)
  have H1 := Lib.hid h1
  clear h1 hm
  go_enter Tryd.func22, Tryd.ntmps22
  go_wp2_with fail
  refine H1.out.mono ?_
  rintro e w1 ⟨rfl, rfl⟩
  go_wp2_with fail
  refine (splitseq_any (trimL (y :: t)) 10 _).mono ?_
  rintro e w1 ⟨rfl, rfl⟩
  go_wp2
  go_ret
  exact ⟨rfl, rfl⟩
theorem below_drewNw (w : World) (n : Nat) : Below w.heap.size w (w.drewN n) := by
  have h := Below.refl w.heap.size w
  exact ⟨h.os, h.tape, h.output, h.size, h.block⟩
set_option maxHeartbeats 1000000 in
theorem whole_any (r k c : Nat) (ad : Option Addr) (b : Bool) (many : Int) (w : World) (hr : r < w.heap.size) (k1 : w.cell? ⟨r, 1, none⟩ = some (.slice ad k c)) (k2 : w.cell? ⟨r, 2, none⟩ = some (.bool b)) (k3 : w.cell? ⟨r, 3, none⟩ = some (.int .i64 many)) :
    Calls Tryd.prog 25 #[.pointer (some ⟨r, 0, none⟩)] w fun e w' => e = .returned (.bool (b && ((k : Int) == many))) ∧ Below w.heap.size w w' := by
  cases b
  · go_enter Tryd.func25, Tryd.ntmps25
    go_wp2
    go_quiet (fail)
    go_wp2
    go_ret
    exact ⟨rfl, below_drewNw w _⟩
  · go_enter Tryd.func25, Tryd.ntmps25
    go_wp2
    go_quiet (fail)
    go_wp2
    go_ret
    exact ⟨rfl, below_drewNw w _⟩
theorem numbers_bad (a1 a2 : Option Addr) (k c n d : Nat) (hk : ¬ (k : Int) = n) (w : World) :
    Calls Tryd.prog 46 #[.slice a1 k c, .slice a2 n d] w fun e w' => e = .returned (.tuple #[.slice none 0 0, .bool false]) ∧ w' = w := by
  go_enter Tryd.func46, Tryd.ntmps46
  go_wp2
  exact bodyPost_ret (v := .tuple #[.slice none 0 0, .bool false]) (by simp [results, Tryd.results46, go_sem]) rfl ⟨rfl, rfl⟩
theorem number_some {m : Tx} {most : Int} {a : Nat} (h : numL m most = some a) (h9 : m.length ≤ 140737488351232) (w : World) :
    Calls Tryd.prog 16 #[txV m, .int .i64 most] w fun e w' => e = .returned (.tuple #[.int .i64 (a : Nat), .bool true]) ∧ w' = w := by
  have := number_any m most w h9
  rw [h] at this
  exact this
theorem number_none {m : Tx} {most : Int} (h : numL m most = none) (h9 : m.length ≤ 140737488351232) (w : World) :
    Calls Tryd.prog 16 #[txV m, .int .i64 most] w fun e w' => e = .returned (.tuple #[.int .i64 0, .bool false]) ∧ w' = w := by
  have := number_any m most w h9
  rw [h] at this
  exact this
theorem infoI : (Tryd.prog.info? 3).map (fun i => (i.zero, i.size, i.bytes)) = some (some (.int .i64 0), 1, 8) := by kernel_rfl
/-- 'make([]int, n)'. -/
theorem wpList_makeI {w : World} {ops : Array Oper} {rest : List Oper} {o : Oper} {a : Act} {Q : Exit → Act → World → Prop} (hgd : o.guard = none) (x y : Operand) (ho : o.op = .makeSlice 77 x y)
    (z : Int) (n : Nat) (hx : a.eval x = .int .i64 z) (hy : a.eval y = .int .i64 z) (hz : z = (n : Int)) (hn : n ≤ 10000000000)
    (K : Nat) (w0 : World) (hK : Below K w0 w) (hKw : K ≤ w.heap.size)
    (h : ∀ w', Hid (Row w' w.heap.size 3 (List.replicate n (Value.int .i64 0)).toArray) → Below K w0 w' → wpList Tryd.prog ops Q rest (a.put o.dst (.slice (some ⟨w.heap.size, 0, none⟩) n n)) w') : wpList Tryd.prog ops Q (o :: rest) a w := by
  have h := h _ (Row.fresh w _ _) (hK.alloc hKw _)
  obtain ⟨i, hi, hz0, hz1, hz2⟩ := info_parts infoI
  refine wpList_plain hgd fun K' hK' => ?_
  have hr := run_make (P := Tryd.prog) w 77 3 i (.int .i64 0) Tryd.underlying77 hi hz0 .i64 .i64 z z (by omega) (by omega) (by rw [hz2]; omega) (by omega)
  subst hz
  have e : (madeCells (Value.int IntKind.i64 0).cells ((n : Int).toNat * i.size)) = (List.replicate n (Value.int .i64 0)).toArray := by
    rw [hz1]
    apply Array.toList_inj.1
    have e1 : (Value.int IntKind.i64 0).cells = #[Value.int IntKind.i64 0] := rfl
    rw [e1, toList_madeCells_one]
    simp
  rw [e] at hr
  unfold Oper.wp execOp
  simp only [ho, hx, hy, Sem.run_bind, hr, Result.andThen_ok, Sem.run_pure]
  exact hK' _ _ h
def numsL : List Tx → List Int → Option (List Nat)
  | x :: xs, m :: ms => (numL x m).bind fun a => (numsL xs ms).map (a :: ·)
  | _, _ => some []
/-- What numbers tells. -/
def NumsP (w : World) (n : Nat) (r : Option (List Nat)) (e : Ending) (w' : World) : Prop :=
  Below w.heap.size w w' ∧ ((r = none ∧ e = .returned (.tuple #[.slice none 0 0, .bool false])) ∨
    ∃ ns, r = some ns ∧ e = .returned (.tuple #[.slice (some ⟨w.heap.size, 0, none⟩) n n, .bool true]) ∧ Row w' w.heap.size 3 (ns.map fun a => Value.int .i64 (a : Nat)).toArray)
set_option maxRecDepth 100000 in
set_option maxHeartbeats 4000000 in
theorem nums2 (x0 x1 : Tx) (m0 m1 : Int) (g g' : Nat) (w : World) (h0 : x0.length ≤ 140737488351232) (h1 : x1.length ≤ 140737488351232) (hg : g < w.heap.size) (hg' : g' < w.heap.size)
    (k0 : w.cell? ⟨g, 2, none⟩ = some (txV x0)) (k1 : w.cell? ⟨g, 3, none⟩ = some (txV x1)) (j0 : w.cell? ⟨g', 0, none⟩ = some (.int .i64 m0)) (j1 : w.cell? ⟨g', 1, none⟩ = some (.int .i64 m1)) :
    Calls Tryd.prog 46 #[.slice (some ⟨g, 2, none⟩) 2 3, .slice (some ⟨g', 0, none⟩) 2 2] w (NumsP w 2 (numsL [x0, x1] [m0, m1])) := by
  obtain ⟨R, hR⟩ : ∃ R, R = numsL [x0, x1] [m0, m1] := ⟨_, rfl⟩
  rw [← hR]
  have HR := Lib.hid hR
  have H0 := Lib.hid h0
  have HK0 := Lib.hid k0
  have HJ0 := Lib.hid j0
  have H1 := Lib.hid h1
  have HK1 := Lib.hid k1
  have HJ1 := Lib.hid j1
  have HG := Lib.hid (And.intro hg hg')
  clear hR hg hg' h0 k0 j0 h1 k1 j1
  go_enter Tryd.func46, Tryd.ntmps46
  go_wp2_with ((with_reducible show wpList _ _ _ (Oper.mk _ (Op.makeSlice _ _ _) _ _ _ _ :: _) _ _); refine wpList_makeI rfl _ _ rfl _ 2 rfl rfl rfl (by omega) w.heap.size w (Below.refl _ _) (Nat.le_refl _) ?_; intro w1 HR1 hb1; have HB1 := Lib.hid hb1; clear hb1)
  refine wp_loop_rounds 3 ?_
  have c0 : w1.cell? ⟨w.heap.size, 0, none⟩ = some (.int .i64 0) := HR1.out.cell 0
  have f0 : w1.frozen? ⟨w.heap.size, 0, none⟩ = false := HR1.out.thaw 0
  have q0 : w1.cell? ⟨g, 2, none⟩ = some (txV x0) := (HB1.out.cell (p := ⟨g, 2, none⟩) HG.out.1).trans HK0.out
  have p0 : w1.cell? ⟨g', 0, none⟩ = some (.int .i64 m0) := (HB1.out.cell (p := ⟨g', 0, none⟩) HG.out.2).trans HJ0.out
  rw [rounds_succ]
  rcases hn0 : numL x0 m0 with _ | a0
  · have HN0 := Lib.hid hn0
    clear hn0
    go_wp2_with fail
    refine (number_none HN0.out H0.out _).mono ?_
    rintro e w9 ⟨rfl, hw9⟩; subst w9
    go_wp2
    exact bodyPost_ret (v := .tuple #[.slice none 0 0, .bool false]) (by simp [results, Tryd.results46, go_sem]) rfl ⟨HB1.out, .inl ⟨by rw [HR.out]; simp [numsL, HN0.out], rfl⟩⟩
  have HN0 := Lib.hid hn0
  clear hn0
  go_wp2_with fail
  refine (number_some HN0.out H0.out _).mono ?_
  rintro e w9 ⟨rfl, hw9⟩; subst w9
  go_wp2_with fail
  have HR2 := Lib.hid (HR1.out.put 0 (.int .i64 (a0 : Nat)))
  have HB2 := Lib.hid (HB1.out.setCell (p := ⟨w.heap.size, 0, none⟩) (Nat.le_refl _) (.int .i64 (a0 : Nat)))
  clear c0 f0 q0 p0
  generalize w1.setCell ⟨w.heap.size, 0, none⟩ (.int .i64 (a0 : Nat)) = w2 at *
  have c1 : w2.cell? ⟨w.heap.size, 1, none⟩ = some (.int .i64 0) := HR2.out.cell 1
  have f1 : w2.frozen? ⟨w.heap.size, 1, none⟩ = false := HR2.out.thaw 1
  have q1 : w2.cell? ⟨g, 3, none⟩ = some (txV x1) := (HB2.out.cell (p := ⟨g, 3, none⟩) HG.out.1).trans HK1.out
  have p1 : w2.cell? ⟨g', 1, none⟩ = some (.int .i64 m1) := (HB2.out.cell (p := ⟨g', 1, none⟩) HG.out.2).trans HJ1.out
  rw [rounds_succ]
  rcases hn1 : numL x1 m1 with _ | a1
  · have HN1 := Lib.hid hn1
    clear hn1
    go_wp2_with fail
    refine (number_none HN1.out H1.out _).mono ?_
    rintro e w9 ⟨rfl, hw9⟩; subst w9
    go_wp2
    exact bodyPost_ret (v := .tuple #[.slice none 0 0, .bool false]) (by simp [results, Tryd.results46, go_sem]) rfl ⟨HB2.out, .inl ⟨by rw [HR.out]; simp [numsL, HN0.out, HN1.out], rfl⟩⟩
  have HN1 := Lib.hid hn1
  clear hn1
  go_wp2_with fail
  refine (number_some HN1.out H1.out _).mono ?_
  rintro e w9 ⟨rfl, hw9⟩; subst w9
  go_wp2_with fail
  have HR3 := Lib.hid (HR2.out.put 1 (.int .i64 (a1 : Nat)))
  have HB3 := Lib.hid (HB2.out.setCell (p := ⟨w.heap.size, 1, none⟩) (Nat.le_refl _) (.int .i64 (a1 : Nat)))
  clear c1 f1 q1 p1
  generalize w2.setCell ⟨w.heap.size, 1, none⟩ (.int .i64 (a1 : Nat)) = w3 at *
  rw [rounds_succ]
  go_wp2
  exact bodyPost_ret (v := .tuple #[.slice (some ⟨w.heap.size, 0, none⟩) 2 2, .bool true]) (by simp [results, Tryd.results46, go_sem]) rfl ⟨HB3.out, .inr ⟨[a0, a1], by rw [HR.out]; simp [numsL, HN0.out, HN1.out], rfl, by simpa using HR3.out⟩⟩
set_option maxRecDepth 100000 in
set_option maxHeartbeats 4000000 in
theorem nums3 (x0 x1 x2 : Tx) (m0 m1 m2 : Int) (g g' : Nat) (w : World) (h0 : x0.length ≤ 140737488351232) (h1 : x1.length ≤ 140737488351232) (h2 : x2.length ≤ 140737488351232) (hg : g < w.heap.size) (hg' : g' < w.heap.size)
    (k0 : w.cell? ⟨g, 1, none⟩ = some (txV x0)) (k1 : w.cell? ⟨g, 2, none⟩ = some (txV x1)) (k2 : w.cell? ⟨g, 3, none⟩ = some (txV x2)) (j0 : w.cell? ⟨g', 0, none⟩ = some (.int .i64 m0)) (j1 : w.cell? ⟨g', 1, none⟩ = some (.int .i64 m1)) (j2 : w.cell? ⟨g', 2, none⟩ = some (.int .i64 m2)) :
    Calls Tryd.prog 46 #[.slice (some ⟨g, 1, none⟩) 3 4, .slice (some ⟨g', 0, none⟩) 3 3] w (NumsP w 3 (numsL [x0, x1, x2] [m0, m1, m2])) := by
  obtain ⟨R, hR⟩ : ∃ R, R = numsL [x0, x1, x2] [m0, m1, m2] := ⟨_, rfl⟩
  rw [← hR]
  have HR := Lib.hid hR
  have H0 := Lib.hid h0
  have HK0 := Lib.hid k0
  have HJ0 := Lib.hid j0
  have H1 := Lib.hid h1
  have HK1 := Lib.hid k1
  have HJ1 := Lib.hid j1
  have H2 := Lib.hid h2
  have HK2 := Lib.hid k2
  have HJ2 := Lib.hid j2
  have HG := Lib.hid (And.intro hg hg')
  clear hR hg hg' h0 k0 j0 h1 k1 j1 h2 k2 j2
  go_enter Tryd.func46, Tryd.ntmps46
  go_wp2_with ((with_reducible show wpList _ _ _ (Oper.mk _ (Op.makeSlice _ _ _) _ _ _ _ :: _) _ _); refine wpList_makeI rfl _ _ rfl _ 3 rfl rfl rfl (by omega) w.heap.size w (Below.refl _ _) (Nat.le_refl _) ?_; intro w1 HR1 hb1; have HB1 := Lib.hid hb1; clear hb1)
  refine wp_loop_rounds 4 ?_
  have c0 : w1.cell? ⟨w.heap.size, 0, none⟩ = some (.int .i64 0) := HR1.out.cell 0
  have f0 : w1.frozen? ⟨w.heap.size, 0, none⟩ = false := HR1.out.thaw 0
  have q0 : w1.cell? ⟨g, 1, none⟩ = some (txV x0) := (HB1.out.cell (p := ⟨g, 1, none⟩) HG.out.1).trans HK0.out
  have p0 : w1.cell? ⟨g', 0, none⟩ = some (.int .i64 m0) := (HB1.out.cell (p := ⟨g', 0, none⟩) HG.out.2).trans HJ0.out
  rw [rounds_succ]
  rcases hn0 : numL x0 m0 with _ | a0
  · have HN0 := Lib.hid hn0
    clear hn0
    go_wp2_with fail
    refine (number_none HN0.out H0.out _).mono ?_
    rintro e w9 ⟨rfl, hw9⟩; subst w9
    go_wp2
    exact bodyPost_ret (v := .tuple #[.slice none 0 0, .bool false]) (by simp [results, Tryd.results46, go_sem]) rfl ⟨HB1.out, .inl ⟨by rw [HR.out]; simp [numsL, HN0.out], rfl⟩⟩
  have HN0 := Lib.hid hn0
  clear hn0
  go_wp2_with fail
  refine (number_some HN0.out H0.out _).mono ?_
  rintro e w9 ⟨rfl, hw9⟩; subst w9
  go_wp2_with fail
  have HR2 := Lib.hid (HR1.out.put 0 (.int .i64 (a0 : Nat)))
  have HB2 := Lib.hid (HB1.out.setCell (p := ⟨w.heap.size, 0, none⟩) (Nat.le_refl _) (.int .i64 (a0 : Nat)))
  clear c0 f0 q0 p0
  generalize w1.setCell ⟨w.heap.size, 0, none⟩ (.int .i64 (a0 : Nat)) = w2 at *
  have c1 : w2.cell? ⟨w.heap.size, 1, none⟩ = some (.int .i64 0) := HR2.out.cell 1
  have f1 : w2.frozen? ⟨w.heap.size, 1, none⟩ = false := HR2.out.thaw 1
  have q1 : w2.cell? ⟨g, 2, none⟩ = some (txV x1) := (HB2.out.cell (p := ⟨g, 2, none⟩) HG.out.1).trans HK1.out
  have p1 : w2.cell? ⟨g', 1, none⟩ = some (.int .i64 m1) := (HB2.out.cell (p := ⟨g', 1, none⟩) HG.out.2).trans HJ1.out
  rw [rounds_succ]
  rcases hn1 : numL x1 m1 with _ | a1
  · have HN1 := Lib.hid hn1
    clear hn1
    go_wp2_with fail
    refine (number_none HN1.out H1.out _).mono ?_
    rintro e w9 ⟨rfl, hw9⟩; subst w9
    go_wp2
    exact bodyPost_ret (v := .tuple #[.slice none 0 0, .bool false]) (by simp [results, Tryd.results46, go_sem]) rfl ⟨HB2.out, .inl ⟨by rw [HR.out]; simp [numsL, HN0.out, HN1.out], rfl⟩⟩
  have HN1 := Lib.hid hn1
  clear hn1
  go_wp2_with fail
  refine (number_some HN1.out H1.out _).mono ?_
  rintro e w9 ⟨rfl, hw9⟩; subst w9
  go_wp2_with fail
  have HR3 := Lib.hid (HR2.out.put 1 (.int .i64 (a1 : Nat)))
  have HB3 := Lib.hid (HB2.out.setCell (p := ⟨w.heap.size, 1, none⟩) (Nat.le_refl _) (.int .i64 (a1 : Nat)))
  clear c1 f1 q1 p1
  generalize w2.setCell ⟨w.heap.size, 1, none⟩ (.int .i64 (a1 : Nat)) = w3 at *
  have c2 : w3.cell? ⟨w.heap.size, 2, none⟩ = some (.int .i64 0) := HR3.out.cell 2
  have f2 : w3.frozen? ⟨w.heap.size, 2, none⟩ = false := HR3.out.thaw 2
  have q2 : w3.cell? ⟨g, 3, none⟩ = some (txV x2) := (HB3.out.cell (p := ⟨g, 3, none⟩) HG.out.1).trans HK2.out
  have p2 : w3.cell? ⟨g', 2, none⟩ = some (.int .i64 m2) := (HB3.out.cell (p := ⟨g', 2, none⟩) HG.out.2).trans HJ2.out
  rw [rounds_succ]
  rcases hn2 : numL x2 m2 with _ | a2
  · have HN2 := Lib.hid hn2
    clear hn2
    go_wp2_with fail
    refine (number_none HN2.out H2.out _).mono ?_
    rintro e w9 ⟨rfl, hw9⟩; subst w9
    go_wp2
    exact bodyPost_ret (v := .tuple #[.slice none 0 0, .bool false]) (by simp [results, Tryd.results46, go_sem]) rfl ⟨HB3.out, .inl ⟨by rw [HR.out]; simp [numsL, HN0.out, HN1.out, HN2.out], rfl⟩⟩
  have HN2 := Lib.hid hn2
  clear hn2
  go_wp2_with fail
  refine (number_some HN2.out H2.out _).mono ?_
  rintro e w9 ⟨rfl, hw9⟩; subst w9
  go_wp2_with fail
  have HR4 := Lib.hid (HR3.out.put 2 (.int .i64 (a2 : Nat)))
  have HB4 := Lib.hid (HB3.out.setCell (p := ⟨w.heap.size, 2, none⟩) (Nat.le_refl _) (.int .i64 (a2 : Nat)))
  clear c2 f2 q2 p2
  generalize w3.setCell ⟨w.heap.size, 2, none⟩ (.int .i64 (a2 : Nat)) = w4 at *
  rw [rounds_succ]
  go_wp2
  exact bodyPost_ret (v := .tuple #[.slice (some ⟨w.heap.size, 0, none⟩) 3 3, .bool true]) (by simp [results, Tryd.results46, go_sem]) rfl ⟨HB4.out, .inr ⟨[a0, a1, a2], by rw [HR.out]; simp [numsL, HN0.out, HN1.out, HN2.out], rfl, by simpa using HR4.out⟩⟩
end Go.Proofs.YtdjfmmfggkkbaaaDoor
