/- Arcs of the call's own; gr's reader: a line that tells an arc (written by mkgrw.py). -/
import Derived.Test.YtdjfmmfggkkbaaaDoorGrV
import Derived.Deep.AppendLies
import Derived.Deep.RegionHeld
namespace Go.Proofs.YtdjfmmfggkkbaaaDoor
open Go.RowKit Go.Shelf Grm

/-- The cells of arcs. -/
def acells : List Ar → List Value
  | [] => []
  | x :: t => .int .i64 x.1 :: .int .i64 x.2.1 :: .int .i64 x.2.2 :: acells t
theorem acells_append (t s : List Ar) : acells (t ++ s) = acells t ++ acells s := by
  induction t with
  | nil => rfl
  | cons x t ih => simp [acells, ih]
theorem acells_length (t : List Ar) : (acells t).length = t.length * 3 := by
  induction t with
  | nil => rfl
  | cons x t ih => simp [acells, ih]; omega
theorem acells_get (t : List Ar) (j : Nat) (h : j < t.length) : (acells t)[j * 3]? = some (.int .i64 (t[j]'h).1) ∧ (acells t)[j * 3 + 1]? = some (.int .i64 (t[j]'h).2.1) ∧ (acells t)[j * 3 + 2]? = some (.int .i64 (t[j]'h).2.2) := by
  induction t generalizing j with
  | nil => simp at h
  | cons x t ih =>
    cases j with
    | zero => simp [acells]
    | succ j =>
      have := ih j (by simpa using h)
      simpa [acells, Nat.succ_mul] using this
theorem infoA : (Tryd.prog.info? 50).map (fun i => (i.zero, i.size, i.bytes)) = some (some (.agg #[.int .i64 0, .int .i64 0, .int .i64 0]), 3, 24) := by kernel_rfl
/-- A slice of arcs of the call's own. -/
def AV (w : World) (K : Nat) (v : Value) (l : List Ar) : Prop := w.ownsRow K 50 3 v l.length (acells l)
theorem AV.nil (w : World) (K : Nat) : AV w K (.slice none 0 0) [] := World.ownsRow_nil _ _ _ _
theorem AV.shape {w : World} {K : Nat} {v : Value} {l : List Ar} (h : AV w K v l) : ∃ a c, v = .slice a l.length c := by
  rcases h.2 with ⟨rfl, h0⟩ | ⟨g, cap, cur, rfl, _⟩
  · exact ⟨_, _, by rw [h0]⟩
  · exact ⟨_, _, rfl⟩
theorem AV.arcs {w : World} {K : Nat} {a : Option Addr} {n c : Nat} {l : List Ar} (h : AV w K (.slice a n c) l) : Arcs w a l := by
  rcases h.2 with ⟨hv, h0⟩ | ⟨g, cap, cur, hv, h1, h2, h3, _, hs, ht⟩
  · exact .inl (List.eq_nil_of_length_eq_zero h0)
  · injection hv with hv _ _
    subst hv
    refine .inr ⟨g, 0, rfl, fun i r hr => ?_⟩
    obtain ⟨hi, rfl⟩ := List.getElem?_eq_some_iff.1 hr
    obtain ⟨e1, e2, e3⟩ := acells_get l i hi
    rw [← ht, List.getElem?_take_of_lt (by omega)] at e1 e2 e3
    rw [Nat.zero_add, cell_of_row w g _ cur _ _ h2, cell_of_row w g _ cur _ _ h2, cell_of_row w g _ cur _ _ h2]
    exact ⟨by simpa using e1, by simpa using e2, by simpa using e3⟩
theorem AV.own {w : World} {K : Nat} {v : Value} {l : List Ar} (h : AV w K v l) (k : Nat) (hk : v.ownBlock = some k) : K ≤ k ∧ k < w.heap.size := World.ownsRow.lt h k hk
theorem AV.kept {w w' : World} {K : Nat} {v : Value} {l : List Ar} (h : AV w K v l) {row : Option Nat} (hg : w.grownBy w' row) (hr : v.ownBlock = none ∨ v.ownBlock ≠ row) : AV w' K v l := World.ownsRow.kept h hg hr
theorem AV.under {w w' : World} {K B : Nat} {v : Value} {l : List Ar} (h : AV w K v l) (hb : Below B w w') (hB : w.heap.size ≤ B) : AV w' K v l := by
  refine World.ownsRow.kept (row := Option.none) h ⟨hb.os, hb.tape, hb.output, hb.size, fun k hk _ => hb.block k (by omega)⟩ ?_
  cases hv : v.ownBlock
  · exact .inl rfl
  · exact .inr (by simp)
theorem AV.cells {w : World} {K : Nat} {v : Value} {l : List Ar} (h : AV w K v l) (k : Nat) (hk : v.ownBlock = some k) (o : Obj) (ho : w.heap[k]? = some o) : o.isCells = true := by
  rcases h.2 with ⟨rfl, h0⟩ | ⟨g, cap, cur, rfl, h1, h2, _⟩
  · cases hk
  · have : g = k := by simpa [Value.ownBlock] using hk
    subst this
    rw [h2] at ho
    cases ho
    rfl
def arcL (n : Nat) (arcs : List Ar) (b : Bool) (many : Nat) : List Tx → Option Ar
  | [x, y, z] => if b = true ∧ arcs.length ≠ many then (match numsL [x, y, z] [(n : Nat), (n : Nat), 2147483648] with | some [a, c, d] => if a = 0 ∨ c = 0 then none else some ((a : Int) - 1, (c : Int) - 1, (d : Int)) | _ => none) else none
  | _ => none
theorem numsL_three {x y z : Tx} {m m' m2 : Int} {ns : List Nat} (h : numsL [x, y, z] [m, m', m2] = some ns) : ∃ a b c, ns = [a, b, c] := by
  simp only [numsL] at h
  cases hx : numL x m with
  | none => rw [hx] at h; cases h
  | some a =>
    cases hy : numL y m' with
    | none => rw [hx, hy] at h; cases h
    | some b =>
      cases hz : numL z m2 with
      | none => rw [hx, hy, hz] at h; cases h
      | some c => rw [hx, hy, hz] at h; exact ⟨a, b, c, (Option.some.inj h).symm⟩
theorem numL_le {x : Tx} {m : Int} {a : Nat} (h : numL x m = some a) : (a : Int) ≤ m := by
  unfold numL at h
  split at h
  · rename_i q; cases h; exact q.2.2
  · cases h
/-- What takeArc tells. -/
def ArcP (w : World) (K r : Nat) (n : Nat) (v : Value) (arcs : List Ar) (many : Nat) (R : Option Ar) (e : Ending) (w' : World) : Prop :=
  (R = none ∧ e = .returned (.bool false) ∧ Below w.heap.size w w') ∨ ∃ x v', R = some x ∧ e = .returned (.bool true) ∧ Row w' r 53 (rC (n : Nat) v' true (many : Nat)) ∧ AV w' K v' (arcs ++ [x]) ∧ Only (fun k => k = r ∨ v.ownBlock = some k) w w'
set_option maxRecDepth 100000 in
set_option maxHeartbeats 2000000 in
theorem arc_unbegun (r k c : Nat) (n many : Int) (av : Value) (a : Option Addr) (w : World) (hr : Row w r 53 (rC n av false many)) :
    Calls Tryd.prog 38 #[.pointer (some ⟨r, 0, none⟩), .slice a k c] w fun e w' => e = .returned (.bool false) ∧ w' = w := by
  have k2 : w.cell? ⟨r, 2, none⟩ = some (.bool false) := hr.cell 2
  have HR := Lib.hid hr
  clear hr
  go_enter Tryd.func38, Tryd.ntmps38
  go_wp2
  go_ret
  exact ⟨rfl, rfl⟩
set_option maxRecDepth 100000 in
set_option maxHeartbeats 2000000 in
theorem arc_whole (r k c K : Nat) (n many : Nat) (v : Value) (arcs : List Ar) (a : Option Addr) (w : World) (hr : Row w r 53 (rC (n : Nat) v true (many : Nat))) (ha : AV w K v arcs) (hq : arcs.length = many) :
    Calls Tryd.prog 38 #[.pointer (some ⟨r, 0, none⟩), .slice a k c] w fun e w' => e = .returned (.bool false) ∧ Below w.heap.size w w' := by
  have k2 : w.cell? ⟨r, 2, none⟩ = some (.bool true) := hr.cell 2
  obtain ⟨ad, cc, rfl⟩ := ha.shape
  have HC := Lib.hid (whole_any r arcs.length cc ad true (many : Nat) w hr.lt (hr.cell 1) k2 (hr.cell 3))
  have e1 : (true && ((arcs.length : Int) == ((many : Nat) : Int))) = true := by simp [hq]
  rw [e1] at HC
  clear hr ha hq e1
  go_enter Tryd.func38, Tryd.ntmps38
  go_wp2_with fail
  refine HC.out.mono ?_
  rintro e w1 ⟨rfl, hb⟩
  have HB := Lib.hid hb
  clear hb
  go_wp2
  go_ret
  exact ⟨rfl, HB.out⟩
set_option maxRecDepth 100000 in
set_option maxHeartbeats 2000000 in
theorem arc_odd (r k g K : Nat) (n many : Nat) (v : Value) (arcs : List Ar) (w : World) (hr : Row w r 53 (rC (n : Nat) v true (many : Nat))) (ha : AV w K v arcs) (hq : arcs.length ≠ many) (hk : k ≠ 3) :
    Calls Tryd.prog 38 #[.pointer (some ⟨r, 0, none⟩), .slice (some ⟨g, 1, none⟩) k 4] w fun e w' => e = .returned (.bool false) ∧ Below w.heap.size w w' := by
  have k2 : w.cell? ⟨r, 2, none⟩ = some (.bool true) := hr.cell 2
  obtain ⟨ad, cc, rfl⟩ := ha.shape
  have HC := Lib.hid (whole_any r arcs.length cc ad true (many : Nat) w hr.lt (hr.cell 1) k2 (hr.cell 3))
  have e1 : (true && ((arcs.length : Int) == ((many : Nat) : Int))) = false := by simp; omega
  rw [e1] at HC
  have HR := Lib.hid hr
  have HK := Lib.hid (show ¬ (k : Int) = (3 : Nat) by omega)
  clear hr ha hq e1 hk
  go_enter Tryd.func38, Tryd.ntmps38
  go_wp2_with fail
  refine HC.out.mono ?_
  rintro e w1 ⟨rfl, hb⟩
  have c0 : w1.cell? ⟨r, 0, none⟩ = some (.int .i64 (n : Nat)) := (HR.out.under hb HR.out.lt).cell 0
  have HB := Lib.hid hb
  clear hb k2
  go_upto_region 3 with (fail)
  refine wp_region_held_drew (S := fun W => W.cell? ⟨r, 0, none⟩ = some (.int .i64 (n : Nat))) (by kernel_rfl) c0 (fun hHeld => ?_)
  refine wpAnyH_take (i := 0) (oi := ⟨some 17, _, _, _, _, _⟩) (v := ?_) rfl (by kernel_rfl) (by kernel_rfl) (by kernel_rfl) (fun _ _ _ h => h) (Or.inl ⟨by rfl, ?_⟩) hHeld ?_
  rotate_left
  · intro W hSw
    have k0 := hSw
    go_simp
    with_reducible rfl
  simp only [Act.put, List.setIfInBounds_toArray, List.set_cons_zero, List.set_cons_succ]
  refine wpAnyH_take (i := 1) (oi := ⟨some 18, _, _, _, _, _⟩) (v := ?_) rfl (by kernel_rfl) (by kernel_rfl) (by kernel_rfl) (fun _ _ _ h => h) (Or.inl ⟨by rfl, ?_⟩) hHeld ?_
  rotate_left
  · intro W hSw
    have k0 := hSw
    go_simp
    with_reducible rfl
  simp only [Act.put, List.setIfInBounds_toArray, List.set_cons_zero, List.set_cons_succ]
  refine wpAnyH_take (i := 2) (oi := ⟨some 19, _, _, _, _, _⟩) (v := ?_) rfl (by kernel_rfl) (by kernel_rfl) (by kernel_rfl) (fun _ _ _ h => h) (Or.inl ⟨by rfl, ?_⟩) hHeld ?_
  rotate_left
  · intro W hSw
    have k0 := hSw
    go_simp
    with_reducible rfl
  simp only [Act.put, List.setIfInBounds_toArray, List.set_cons_zero, List.set_cons_succ]
  refine wpAnyH_take (i := 3) (oi := ⟨some 20, _, _, _, _, _⟩) (v := ?_) rfl (by kernel_rfl) (by kernel_rfl) (by kernel_rfl) (fun _ _ _ h => h) (Or.inl ⟨by rfl, ?_⟩) hHeld ?_
  rotate_left
  · intro W hSw
    have k0 := hSw
    go_simp
    with_reducible rfl
  simp only [Act.put, List.setIfInBounds_toArray, List.set_cons_zero, List.set_cons_succ]
  refine wpAnyH_take (i := 4) (oi := ⟨some 21, _, _, _, _, _⟩) (v := ?_) rfl (by kernel_rfl) (by kernel_rfl) (by kernel_rfl) (fun _ _ _ h => h) (Or.inl ⟨by rfl, ?_⟩) hHeld ?_
  rotate_left
  · intro W hSw
    have k0 := hSw
    go_simp
    with_reducible rfl
  simp only [Act.put, List.setIfInBounds_toArray, List.set_cons_zero, List.set_cons_succ]
  refine wpAnyH_take (i := 5) (oi := ⟨some 22, _, _, _, _, _⟩) (v := ?_) rfl (by kernel_rfl) (by kernel_rfl) (by kernel_rfl) (fun _ _ _ h => h) (Or.inl ⟨by rfl, ?_⟩) hHeld ?_
  rotate_left
  · intro W hSw
    have k0 := hSw
    go_simp
    with_reducible rfl
  simp only [Act.put, List.setIfInBounds_toArray, List.set_cons_zero, List.set_cons_succ]
  refine wpAnyH_take (i := 6) (oi := ⟨some 23, _, _, _, _, _⟩) (v := ?_) rfl (by kernel_rfl) (by kernel_rfl) (by kernel_rfl) (fun _ _ _ h => h) (Or.inl ⟨by rfl, ?_⟩) hHeld ?_
  rotate_left
  · intro W hSw
    have k0 := hSw
    go_simp
    with_reducible rfl
  simp only [Act.put, List.setIfInBounds_toArray, List.set_cons_zero, List.set_cons_succ]
  refine wpAnyH_take (i := 7) (oi := ⟨some 24, _, _, _, _, _⟩) (v := ?_) rfl (by kernel_rfl) (by kernel_rfl) (by kernel_rfl) (fun _ _ _ h => h) (Or.inl ⟨by rfl, ?_⟩) hHeld ?_
  rotate_left
  · intro W hSw
    have k0 := hSw
    go_simp
    with_reducible rfl
  simp only [Act.put, List.setIfInBounds_toArray, List.set_cons_zero, List.set_cons_succ]
  refine wpAnyH_take (i := 8) (oi := ⟨some 25, _, _, _, _, _⟩) (v := ?_) rfl (by kernel_rfl) (by kernel_rfl) (by kernel_rfl) (fun _ _ _ h => h) (Or.inl ⟨by rfl, ?_⟩) hHeld ?_
  rotate_left
  · intro W hSw
    have k0 := hSw
    go_simp
    with_reducible rfl
  simp only [Act.put, List.setIfInBounds_toArray, List.set_cons_zero, List.set_cons_succ]
  refine wpAnyH_take (i := 9) (oi := ⟨some 26, _, _, _, _, _⟩) (v := ?_) rfl (by kernel_rfl) (by kernel_rfl) (by kernel_rfl) (fun _ _ _ h => h) (Or.inl ⟨by rfl, ?_⟩) hHeld ?_
  rotate_left
  · intro W hSw
    have k0 := hSw
    go_simp
    with_reducible rfl
  simp only [Act.put, List.setIfInBounds_toArray, List.set_cons_zero, List.set_cons_succ]
  refine wpAnyH_take (i := 10) (oi := ⟨some 27, _, _, _, _, _⟩) (v := ?_) rfl (by kernel_rfl) (by kernel_rfl) (by kernel_rfl) (fun _ _ _ h => h) (Or.inl ⟨by rfl, ?_⟩) hHeld ?_
  rotate_left
  · intro W hSw
    have k0 := hSw
    go_simp
    with_reducible rfl
  simp only [Act.put, List.setIfInBounds_toArray, List.set_cons_zero, List.set_cons_succ]
  refine wpAnyH_ready (rs := [11]) (by kernel_rfl) (by simp) ?_
  refine (AllReadyH.cons (o := ⟨some 28, _, _, _, _, _⟩) rfl (fun K hK => ?_) AllReadyH.nil)
  go_simp
  refine hK.out _ _ ((World.cell?_alloc_lt _ _ _ (block_lt_of_cell hHeld)).trans hHeld) (fun hHeld2 => ?_)
  clear hK K hHeld
  have hHeld := hHeld2
  clear hHeld2
  refine wpAnyH_ready (rs := [12]) (by kernel_rfl) (by simp) ?_
  refine (AllReadyH.cons (o := ⟨some 29, _, _, _, _, _⟩) rfl (fun K hK => ?_) AllReadyH.nil)
  go_simp
  refine (numbers_bad _ _ k _ 3 _ HK.out _).mono ?_
  rintro e w3 ⟨rfl, hw3⟩
  subst hw3
  refine hK.out _ _ hHeld (fun hHeld2 => ?_)
  clear hK K hHeld
  have hHeld := hHeld2
  clear hHeld2
  refine wpAnyH_take (i := 13) (oi := ⟨some 16, _, _, _, _, _⟩) (v := ?_) rfl (by kernel_rfl) (by kernel_rfl) (by kernel_rfl) (fun _ _ _ h => h) (Or.inl ⟨by rfl, ?_⟩) hHeld ?_
  rotate_left
  · intro W hSw
    have k0 := hSw
    go_simp
    with_reducible rfl
  simp only [Act.put, List.setIfInBounds_toArray, List.set_cons_zero, List.set_cons_succ]
  refine wpAnyH_take (i := 14) (oi := ⟨some 30, _, _, _, _, _⟩) (v := ?_) rfl (by kernel_rfl) (by kernel_rfl) (by kernel_rfl) (fun _ _ _ h => h) (Or.inl ⟨by rfl, ?_⟩) hHeld ?_
  rotate_left
  · intro W hSw
    have k0 := hSw
    go_simp
    with_reducible rfl
  simp only [Act.put, List.setIfInBounds_toArray, List.set_cons_zero, List.set_cons_succ]
  refine wpAnyH_take (i := 15) (oi := ⟨some 31, _, _, _, _, _⟩) (v := ?_) rfl (by kernel_rfl) (by kernel_rfl) (by kernel_rfl) (fun _ _ _ h => h) (Or.inl ⟨by rfl, ?_⟩) hHeld ?_
  rotate_left
  · intro W hSw
    have k0 := hSw
    go_simp
    with_reducible rfl
  simp only [Act.put, List.setIfInBounds_toArray, List.set_cons_zero, List.set_cons_succ]
  refine wpAnyH_take (i := 16) (oi := ⟨some 5, _, _, _, _, _⟩) (v := ?_) rfl (by kernel_rfl) (by kernel_rfl) (by kernel_rfl) (fun _ _ _ h => h) (Or.inl ⟨by rfl, ?_⟩) hHeld ?_
  rotate_left
  · intro W hSw
    have k0 := hSw
    go_simp
    with_reducible rfl
  simp only [Act.put, List.setIfInBounds_toArray, List.set_cons_zero, List.set_cons_succ]
  refine wpAnyH_take (i := 17) (oi := ⟨some 6, _, _, _, _, _⟩) (v := ?_) rfl (by kernel_rfl) (by kernel_rfl) (by kernel_rfl) (fun _ _ _ h => h) (Or.inl ⟨by rfl, ?_⟩) hHeld ?_
  rotate_left
  · intro W hSw
    have k0 := hSw
    go_simp
    with_reducible rfl
  simp only [Act.put, List.setIfInBounds_toArray, List.set_cons_zero, List.set_cons_succ]
  refine wpAnyH_done (by kernel_rfl) ?_ _
  have HBd := Lib.hid (show Below w.heap.size w w1.drew from ⟨HB.out.os, HB.out.tape, HB.out.output, HB.out.size, HB.out.block⟩)
  go_wp2
  go_ret
  exact ⟨rfl, HBd.out.alloc HBd.out.size _⟩
/-- Behind the append and the store. -/
theorem arc_tail {w w4 : World} {K r n many H bn : Nat} {ad : Option Addr} {cc : Nat} {arcs : List Ar} {x : Ar} {g' cap : Nat} {o : Obj} (hr : Row w r 53 (rC (n : Nat) (.slice ad arcs.length cc) true (many : Nat))) (ha : AV w K (.slice ad arcs.length cc) arcs) (hK : r < K ∧ r ≠ bn ∧ K ≤ w.heap.size ∧ bn < w.heap.size ∧ (Value.slice ad arcs.length cc).ownBlock ≠ some bn)
    (hown : w4.ownsRow K 50 3 (.slice (some ⟨g', 0, none⟩) (arcs.length + 1) cap) (arcs.length + 1) (acells arcs ++ [.int .i64 x.1, .int .i64 x.2.1, .int .i64 x.2.2])) (hg : (w.alloc o).grownBy w4 (Value.slice ad arcs.length cc).ownBlock) (hat : (Value.slice ad arcs.length cc).ownBlock = some g' ∨ g' = H) :
    Row w4 r 53 (rC (n : Nat) (.slice ad arcs.length cc) true (many : Nat)) ∧
    (∀ {p q s : Value}, ((w.alloc o).cell? ⟨bn, 0, none⟩ = some p ∧ (w.alloc o).cell? ⟨bn, 1, none⟩ = some q ∧ (w.alloc o).cell? ⟨bn, 2, none⟩ = some s) → (w4.cell? ⟨bn, 0, none⟩ = some p ∧ w4.cell? ⟨bn, 1, none⟩ = some q ∧ w4.cell? ⟨bn, 2, none⟩ = some s)) ∧
    (∀ u {p q s : Value}, (w4.cell? ⟨bn, 0, none⟩ = some p ∧ w4.cell? ⟨bn, 1, none⟩ = some q ∧ w4.cell? ⟨bn, 2, none⟩ = some s) → ((w4.setCell ⟨r, 1, none⟩ u).cell? ⟨bn, 0, none⟩ = some p ∧ (w4.setCell ⟨r, 1, none⟩ u).cell? ⟨bn, 1, none⟩ = some q ∧ (w4.setCell ⟨r, 1, none⟩ u).cell? ⟨bn, 2, none⟩ = some s)) ∧
    Row (w4.setCell ⟨r, 1, none⟩ (.slice (some ⟨g', 0, none⟩) (arcs.length + 1) cap)) r 53 (rC (n : Nat) (.slice (some ⟨g', 0, none⟩) (arcs.length + 1) cap) true (many : Nat)) ∧
    AV (w4.setCell ⟨r, 1, none⟩ (.slice (some ⟨g', 0, none⟩) (arcs.length + 1) cap)) K (.slice (some ⟨g', 0, none⟩) (arcs.length + 1) cap) (arcs ++ [x]) ∧
    Only (fun k => k = r ∨ (Value.slice ad arcs.length cc).ownBlock = some k) w (w4.setCell ⟨r, 1, none⟩ (.slice (some ⟨g', 0, none⟩) (arcs.length + 1) cap)) := by
  have hne : ∀ k, k < w.heap.size → (Value.slice ad arcs.length cc).ownBlock ≠ some k → w4.heap[k]? = w.heap[k]? := fun k hk hn => (hg.block k (by simp; omega) (fun e => hn e.symm)).trans (Below.heap_alloc _ _ _ hk)
  have hro : (Value.slice ad arcs.length cc).ownBlock ≠ some r := fun e => by have := (ha.own r e).1; omega
  have hr4 : Row w4 r 53 (rC (n : Nat) (.slice ad arcs.length cc) true (many : Nat)) := (hne r hr.lt hro).trans hr
  have hAV : AV w4 K (.slice (some ⟨g', 0, none⟩) (arcs.length + 1) cap) (arcs ++ [x]) := by
    unfold AV
    rw [List.length_append, acells_append]
    exact hown
  refine ⟨hr4, fun h => ?_, fun u {_ _ _} h => ?_, hr4.put 1 _, ?_, ?_⟩
  · have hb : w4.heap[bn]? = (w.alloc o).heap[bn]? := hg.block bn (by simp; omega) (fun e => hK.2.2.2.2 e.symm)
    rw [World.cell?_of_block (a := ⟨bn, 0, none⟩) hb, World.cell?_of_block (a := ⟨bn, 1, none⟩) hb, World.cell?_of_block (a := ⟨bn, 2, none⟩) hb]
    exact h
  · rw [World.cell?_setCell_far _ _ _ _ hK.2.1, World.cell?_setCell_far _ _ _ _ hK.2.1, World.cell?_setCell_far _ _ _ _ hK.2.1]
    exact h
  · refine hAV.kept (row := some r) ⟨rfl, rfl, rfl, by simp [World.setCell], fun k _ hn => Below.heap_setCell _ _ _ _ (fun e => hn (by rw [e]))⟩ (.inr (fun e => by have := (hAV.own r e).1; omega))
  · have h1 : Only (fun k => k = r ∨ (Value.slice ad arcs.length cc).ownBlock = some k) w (w.alloc o) := (Only.refl _ w).alloc o
    refine (h1.grown hg (fun k e => .inl (.inr e))).setCell (.inl (.inl rfl)) _
theorem only_then {S : Nat → Prop} {a b c : World} (h : Below a.heap.size a b) (hk : Only S b c) : Only S a c := (Only.of_below S h).trans hk (fun i hi => .inl hi)
set_option maxRecDepth 100000 in
set_option maxHeartbeats 4000000 in
theorem arc_three (r g Kb : Nat) (n many : Nat) (v : Value) (arcs : List Ar) (x y z : Tx) (w : World) (hr : Row w r 53 (rC (n : Nat) v true (many : Nat))) (ha : AV w Kb v arcs) (hrK : r < Kb) (hKw : Kb ≤ w.heap.size) (hq : arcs.length ≠ many) (hn : n ≤ 16777216) (hl9 : arcs.length ≤ 67108864) (hw : Wds w g 1 [x, y, z]) :
    Calls Tryd.prog 38 #[.pointer (some ⟨r, 0, none⟩), .slice (some ⟨g, 1, none⟩) 3 4] w (ArcP w Kb r n v arcs many (arcL n arcs true many [x, y, z])) := by
  obtain ⟨R, hR⟩ : ∃ R, R = arcL n arcs true many [x, y, z] := ⟨_, rfl⟩
  rw [← hR]
  have hR' : R = match numsL [x, y, z] [(n : Nat), (n : Nat), 2147483648] with | some [a, c, d] => if a = 0 ∨ c = 0 then none else some ((a : Int) - 1, (c : Int) - 1, (d : Int)) | _ => none := by rw [hR]; simp [arcL, hq]
  have HRr0 := Lib.hid hR'
  clear hR hR'
  obtain ⟨i0, hi, hz0, hz1, hz2⟩ := info_parts infoA
  have k2 : w.cell? ⟨r, 2, none⟩ = some (.bool true) := hr.cell 2
  obtain ⟨ad, cc, rfl⟩ := ha.shape
  have HC := Lib.hid (whole_any r arcs.length cc ad true (many : Nat) w hr.lt (hr.cell 1) k2 (hr.cell 3))
  have e1 : (true && ((arcs.length : Int) == ((many : Nat) : Int))) = false := by simp; omega
  rw [e1] at HC
  have HR := Lib.hid hr
  have HA := Lib.hid ha
  have HL := Lib.hid hl9
  have HNn := Lib.hid hn
  have HK0 := Lib.hid (And.intro hrK hKw)
  have HW := Lib.hid hw
  have HX := Lib.hid (And.intro (hw.2.2 x (by simp)) (And.intro (hw.2.2 y (by simp)) (hw.2.2 z (by simp))))
  clear hr ha hq e1 hn hl9 hrK hKw hw
  go_enter Tryd.func38, Tryd.ntmps38
  go_wp2_with fail
  refine HC.out.mono ?_
  rintro e w1 ⟨rfl, hb⟩
  have c0 : w1.cell? ⟨r, 0, none⟩ = some (.int .i64 (n : Nat)) := (HR.out.under hb HR.out.lt).cell 0
  have hA := Row.fresh w1.drew 3 #[.int .i64 (n : Nat), .int .i64 (n : Nat), .int .i64 2147483648]
  have hgw : g < w1.heap.size := by have := HW.out.1; have := hb.size; omega
  have cg : ∀ i x', [x, y, z][i]? = some x' → (w1.drew.alloc (.cells #[.int .i64 (n : Nat), .int .i64 (n : Nat), .int .i64 2147483648] 3)).cell? ⟨g, 1 + i, none⟩ = some (txV x') := fun i x' hx' => (World.cell?_alloc_lt _ _ _ (show g < w1.drew.heap.size from hgw)).trans ((hb.cell (p := ⟨g, 1 + i, none⟩) HW.out.1).trans (HW.out.2.1 i x' hx'))
  have HQ := Lib.hid (And.intro (show g < (w1.drew.alloc (.cells #[.int .i64 (n : Nat), .int .i64 (n : Nat), .int .i64 2147483648] 3)).heap.size by rw [World.size_alloc]; exact Nat.lt_succ_of_lt hgw) (And.intro (show w1.heap.size < (w1.drew.alloc (.cells #[.int .i64 (n : Nat), .int .i64 (n : Nat), .int .i64 2147483648] 3)).heap.size by rw [World.size_alloc]; exact Nat.lt_succ_self _) (And.intro (cg 0 x rfl) (And.intro (cg 1 y rfl) (And.intro (cg 2 z rfl) (And.intro (hA.cell 0) (And.intro (hA.cell 1) (hA.cell 2))))))))
  have HB := Lib.hid hb
  clear hb k2 hA hgw cg
  go_upto_region 3 with (fail)
  refine wp_region_held_drew (S := fun W => W.cell? ⟨r, 0, none⟩ = some (.int .i64 (n : Nat))) (by kernel_rfl) c0 (fun hHeld => ?_)
  refine wpAnyH_take (i := 0) (oi := ⟨some 17, _, _, _, _, _⟩) (v := ?_) rfl (by kernel_rfl) (by kernel_rfl) (by kernel_rfl) (fun _ _ _ h => h) (Or.inl ⟨by rfl, ?_⟩) hHeld ?_
  rotate_left
  · intro W hSw
    have k0 := hSw
    go_simp
    with_reducible rfl
  simp only [Act.put, List.setIfInBounds_toArray, List.set_cons_zero, List.set_cons_succ]
  refine wpAnyH_take (i := 1) (oi := ⟨some 18, _, _, _, _, _⟩) (v := ?_) rfl (by kernel_rfl) (by kernel_rfl) (by kernel_rfl) (fun _ _ _ h => h) (Or.inl ⟨by rfl, ?_⟩) hHeld ?_
  rotate_left
  · intro W hSw
    have k0 := hSw
    go_simp
    with_reducible rfl
  simp only [Act.put, List.setIfInBounds_toArray, List.set_cons_zero, List.set_cons_succ]
  refine wpAnyH_take (i := 2) (oi := ⟨some 19, _, _, _, _, _⟩) (v := ?_) rfl (by kernel_rfl) (by kernel_rfl) (by kernel_rfl) (fun _ _ _ h => h) (Or.inl ⟨by rfl, ?_⟩) hHeld ?_
  rotate_left
  · intro W hSw
    have k0 := hSw
    go_simp
    with_reducible rfl
  simp only [Act.put, List.setIfInBounds_toArray, List.set_cons_zero, List.set_cons_succ]
  refine wpAnyH_take (i := 3) (oi := ⟨some 20, _, _, _, _, _⟩) (v := ?_) rfl (by kernel_rfl) (by kernel_rfl) (by kernel_rfl) (fun _ _ _ h => h) (Or.inl ⟨by rfl, ?_⟩) hHeld ?_
  rotate_left
  · intro W hSw
    have k0 := hSw
    go_simp
    with_reducible rfl
  simp only [Act.put, List.setIfInBounds_toArray, List.set_cons_zero, List.set_cons_succ]
  refine wpAnyH_take (i := 4) (oi := ⟨some 21, _, _, _, _, _⟩) (v := ?_) rfl (by kernel_rfl) (by kernel_rfl) (by kernel_rfl) (fun _ _ _ h => h) (Or.inl ⟨by rfl, ?_⟩) hHeld ?_
  rotate_left
  · intro W hSw
    have k0 := hSw
    go_simp
    with_reducible rfl
  simp only [Act.put, List.setIfInBounds_toArray, List.set_cons_zero, List.set_cons_succ]
  refine wpAnyH_take (i := 5) (oi := ⟨some 22, _, _, _, _, _⟩) (v := ?_) rfl (by kernel_rfl) (by kernel_rfl) (by kernel_rfl) (fun _ _ _ h => h) (Or.inl ⟨by rfl, ?_⟩) hHeld ?_
  rotate_left
  · intro W hSw
    have k0 := hSw
    go_simp
    with_reducible rfl
  simp only [Act.put, List.setIfInBounds_toArray, List.set_cons_zero, List.set_cons_succ]
  refine wpAnyH_take (i := 6) (oi := ⟨some 23, _, _, _, _, _⟩) (v := ?_) rfl (by kernel_rfl) (by kernel_rfl) (by kernel_rfl) (fun _ _ _ h => h) (Or.inl ⟨by rfl, ?_⟩) hHeld ?_
  rotate_left
  · intro W hSw
    have k0 := hSw
    go_simp
    with_reducible rfl
  simp only [Act.put, List.setIfInBounds_toArray, List.set_cons_zero, List.set_cons_succ]
  refine wpAnyH_take (i := 7) (oi := ⟨some 24, _, _, _, _, _⟩) (v := ?_) rfl (by kernel_rfl) (by kernel_rfl) (by kernel_rfl) (fun _ _ _ h => h) (Or.inl ⟨by rfl, ?_⟩) hHeld ?_
  rotate_left
  · intro W hSw
    have k0 := hSw
    go_simp
    with_reducible rfl
  simp only [Act.put, List.setIfInBounds_toArray, List.set_cons_zero, List.set_cons_succ]
  refine wpAnyH_take (i := 8) (oi := ⟨some 25, _, _, _, _, _⟩) (v := ?_) rfl (by kernel_rfl) (by kernel_rfl) (by kernel_rfl) (fun _ _ _ h => h) (Or.inl ⟨by rfl, ?_⟩) hHeld ?_
  rotate_left
  · intro W hSw
    have k0 := hSw
    go_simp
    with_reducible rfl
  simp only [Act.put, List.setIfInBounds_toArray, List.set_cons_zero, List.set_cons_succ]
  refine wpAnyH_take (i := 9) (oi := ⟨some 26, _, _, _, _, _⟩) (v := ?_) rfl (by kernel_rfl) (by kernel_rfl) (by kernel_rfl) (fun _ _ _ h => h) (Or.inl ⟨by rfl, ?_⟩) hHeld ?_
  rotate_left
  · intro W hSw
    have k0 := hSw
    go_simp
    with_reducible rfl
  simp only [Act.put, List.setIfInBounds_toArray, List.set_cons_zero, List.set_cons_succ]
  refine wpAnyH_take (i := 10) (oi := ⟨some 27, _, _, _, _, _⟩) (v := ?_) rfl (by kernel_rfl) (by kernel_rfl) (by kernel_rfl) (fun _ _ _ h => h) (Or.inl ⟨by rfl, ?_⟩) hHeld ?_
  rotate_left
  · intro W hSw
    have k0 := hSw
    go_simp
    with_reducible rfl
  simp only [Act.put, List.setIfInBounds_toArray, List.set_cons_zero, List.set_cons_succ]
  refine wpAnyH_ready (rs := [11]) (by kernel_rfl) (by simp) ?_
  refine (AllReadyH.cons (o := ⟨some 28, _, _, _, _, _⟩) rfl (fun K hK => ?_) AllReadyH.nil)
  go_simp
  refine hK.out _ _ ((World.cell?_alloc_lt _ _ _ (block_lt_of_cell hHeld)).trans hHeld) (fun hHeld2 => ?_)
  clear hK K hHeld
  have hHeld := hHeld2
  clear hHeld2
  refine wpAnyH_ready (rs := [12]) (by kernel_rfl) (by simp) ?_
  refine (AllReadyH.cons (o := ⟨some 29, _, _, _, _, _⟩) rfl (fun K hK => ?_) AllReadyH.nil)
  go_simp
  refine (nums3 x y z (n : Nat) (n : Nat) 2147483648 g w1.heap.size (w1.drew.alloc (.cells #[.int .i64 (n : Nat), .int .i64 (n : Nat), .int .i64 2147483648] 3)) HX.out.1 HX.out.2.1 HX.out.2.2 HQ.out.1 HQ.out.2.1 HQ.out.2.2.1 HQ.out.2.2.2.1 HQ.out.2.2.2.2.1 HQ.out.2.2.2.2.2.1 HQ.out.2.2.2.2.2.2.1 HQ.out.2.2.2.2.2.2.2).mono ?_
  rintro e w3 hN
  have HN := Lib.hid hN
  have hb3 := hN.1
  have hc3 := (hb3.cell (p := ⟨r, 0, none⟩) (block_lt_of_cell hHeld)).trans hHeld
  obtain ⟨s3, o3, rfl⟩ : ∃ s3 o3, e = .returned (.tuple #[s3, .bool o3]) := by rcases hN.2 with ⟨_, q⟩ | ⟨_, _, q, _⟩ <;> exact ⟨_, _, q⟩
  clear hN hb3
  refine hK.out _ _ hc3 (fun hHeld2 => ?_)
  clear hK K hHeld
  have hHeld := hHeld2
  clear hHeld2
  refine wpAnyH_take (i := 13) (oi := ⟨some 16, _, _, _, _, _⟩) (v := ?_) rfl (by kernel_rfl) (by kernel_rfl) (by kernel_rfl) (fun _ _ _ h => h) (Or.inl ⟨by rfl, ?_⟩) hHeld ?_
  rotate_left
  · intro W hSw
    have k0 := hSw
    go_simp
    with_reducible rfl
  simp only [Act.put, List.setIfInBounds_toArray, List.set_cons_zero, List.set_cons_succ]
  refine wpAnyH_take (i := 14) (oi := ⟨some 30, _, _, _, _, _⟩) (v := ?_) rfl (by kernel_rfl) (by kernel_rfl) (by kernel_rfl) (fun _ _ _ h => h) (Or.inl ⟨by rfl, ?_⟩) hHeld ?_
  rotate_left
  · intro W hSw
    have k0 := hSw
    go_simp
    with_reducible rfl
  simp only [Act.put, List.setIfInBounds_toArray, List.set_cons_zero, List.set_cons_succ]
  refine wpAnyH_take (i := 15) (oi := ⟨some 31, _, _, _, _, _⟩) (v := ?_) rfl (by kernel_rfl) (by kernel_rfl) (by kernel_rfl) (fun _ _ _ h => h) (Or.inl ⟨by rfl, ?_⟩) hHeld ?_
  rotate_left
  · intro W hSw
    have k0 := hSw
    go_simp
    with_reducible rfl
  simp only [Act.put, List.setIfInBounds_toArray, List.set_cons_zero, List.set_cons_succ]
  refine wpAnyH_take (i := 16) (oi := ⟨some 5, _, _, _, _, _⟩) (v := ?_) rfl (by kernel_rfl) (by kernel_rfl) (by kernel_rfl) (fun _ _ _ h => h) (Or.inl ⟨by rfl, ?_⟩) hHeld ?_
  rotate_left
  · intro W hSw
    have k0 := hSw
    go_simp
    with_reducible rfl
  simp only [Act.put, List.setIfInBounds_toArray, List.set_cons_zero, List.set_cons_succ]
  refine wpAnyH_take (i := 17) (oi := ⟨some 6, _, _, _, _, _⟩) (v := ?_) rfl (by kernel_rfl) (by kernel_rfl) (by kernel_rfl) (fun _ _ _ h => h) (Or.inl ⟨by rfl, ?_⟩) hHeld ?_
  rotate_left
  · intro W hSw
    have k0 := hSw
    go_simp
    with_reducible rfl
  simp only [Act.put, List.setIfInBounds_toArray, List.set_cons_zero, List.set_cons_succ]
  refine wpAnyH_done (by kernel_rfl) ?_ _
  obtain ⟨bn, hbn⟩ : ∃ bn, bn = (w1.drew.alloc (.cells #[.int .i64 (n : Nat), .int .i64 (n : Nat), .int .i64 2147483648] 3)).heap.size := ⟨_, rfl⟩
  have HBN := Lib.hid (show bn = w1.heap.size + 1 by rw [hbn, World.size_alloc]; rfl)
  have hN := HN.out
  unfold NumsP at hN
  rw [← hbn] at hN
  obtain ⟨hb3, ⟨hNn, hv3⟩ | ⟨ns, hNn, hv3, hrow⟩⟩ := hN
  · have hb4 : Below w.heap.size w w3 := by
      have h1 : Below w.heap.size w w1.drew := ⟨HB.out.os, HB.out.tape, HB.out.output, HB.out.size, HB.out.block⟩
      exact (h1.alloc h1.size _).trans (hb3.mono (by have := HBN.out; have := HB.out.size; omega))
    have HRr := Lib.hid (show R = none by rw [HRr0.out, hNn])
    have HB4 := Lib.hid hb4
    obtain ⟨rfl, rfl⟩ : _ ∧ _ := by simpa using hv3
    clear hNn hb3 hb4 hc3 hbn HN
    go_wp2
    go_ret
    exact .inl ⟨HRr.out, rfl, HB4.out⟩
  · obtain ⟨a, b, c, rfl⟩ := numsL_three hNn
    have l0 : w3.cell? ⟨bn, 0, none⟩ = some (.int .i64 (a : Nat)) := hrow.cell 0
    have l1 : w3.cell? ⟨bn, 1, none⟩ = some (.int .i64 (b : Nat)) := hrow.cell 1
    have l2 : w3.cell? ⟨bn, 2, none⟩ = some (.int .i64 (c : Nat)) := hrow.cell 2
    have h1 : Below w.heap.size w w1.drew := ⟨HB.out.os, HB.out.tape, HB.out.output, HB.out.size, HB.out.block⟩
    have hb4 : Below w.heap.size w w3 := (h1.alloc h1.size _).trans (hb3.mono (by have := HBN.out; have := HB.out.size; omega))
    have HB3 := Lib.hid (show Below w.heap.size w w3.drew from ⟨hb4.os, hb4.tape, hb4.output, hb4.size, hb4.block⟩)
    have HR3 := Lib.hid (show Row w3.drew r 53 (rC (n : Nat) (.slice ad arcs.length cc) true (many : Nat)) from HR.out.under HB3.out HR.out.lt)
    have HA3 := Lib.hid (show AV w3.drew Kb (.slice ad arcs.length cc) arcs from HA.out.under HB3.out (Nat.le_refl _))
    have hsz4 := hb4.size
    have HAd := Lib.hid (show AV (w3.alloc (.cells #[.int .i64 ((a : Int) - 1), .int .i64 ((b : Int) - 1), .int .i64 (c : Int)] 50)).drew Kb (.slice ad arcs.length cc) arcs from HA3.out.under (w' := w3.drew.alloc _) ((Below.refl w3.drew.heap.size w3.drew).alloc (Nat.le_refl _) _) (Nat.le_refl _))
    have HKs := Lib.hid (show Kb ≤ (w3.alloc (.cells #[.int .i64 ((a : Int) - 1), .int .i64 ((b : Int) - 1), .int .i64 (c : Int)] 50)).drew.heap.size by have h5 : (w3.alloc (.cells #[.int .i64 ((a : Int) - 1), .int .i64 ((b : Int) - 1), .int .i64 (c : Int)] 50)).drew.heap.size = w3.heap.size + 1 := World.size_alloc _ _; have := HK0.out.2; omega)
    have HF := Lib.hid (show (w3.alloc (.cells #[.int .i64 ((a : Int) - 1), .int .i64 ((b : Int) - 1), .int .i64 (c : Int)] 50)).drew.heap[w3.heap.size]? = some (.cells #[.int .i64 ((a : Int) - 1), .int .i64 ((b : Int) - 1), .int .i64 (c : Int)] 50 (0, 0)) from Row.fresh w3 _ _)
    have HKr := Lib.hid (show r < Kb ∧ r ≠ bn ∧ Kb ≤ w3.drew.heap.size ∧ bn < w3.drew.heap.size ∧ (Value.slice ad arcs.length cc).ownBlock ≠ some bn by
      have h5 : w3.drew.heap.size = w3.heap.size := rfl
      have h6 := HK0.out
      have h7 := HBN.out
      have h8 := HB.out.size
      refine ⟨h6.1, by omega, by omega, hrow.lt, fun e => ?_⟩
      have := (HA.out.own bn e).2
      omega)
    have d1 : w3.cell? ⟨r, 1, none⟩ = some (.slice ad arcs.length cc) := HR3.out.cell 1
    have d1' : (w3.alloc (.cells #[.int .i64 ((a : Int) - 1), .int .i64 ((b : Int) - 1), .int .i64 (c : Int)] 50)).drew.cell? ⟨r, 1, none⟩ = some (.slice ad arcs.length cc) := (World.cell?_alloc_lt w3 _ _ HR3.out.lt).trans d1
    obtain ⟨hna, hnb, hnc⟩ : (a : Int) ≤ n ∧ (b : Int) ≤ n ∧ (c : Int) ≤ 2147483648 := by
      simp only [numsL] at hNn
      cases hx : numL x (n : Nat) with
      | none => rw [hx] at hNn; cases hNn
      | some a' =>
        cases hy : numL y (n : Nat) with
        | none => rw [hx, hy] at hNn; cases hNn
        | some b' =>
          cases hz : numL z 2147483648 with
          | none => rw [hx, hy, hz] at hNn; cases hNn
          | some c' =>
            rw [hx, hy, hz] at hNn
            have := Option.some.inj hNn
            injection this with q1 q2
            injection q2 with q2 q3
            injection q3 with q3 q4
            subst q1 q2 q3
            exact ⟨numL_le hx, numL_le hy, numL_le hz⟩
    have HRr1 := Lib.hid (show R = if a = 0 ∨ b = 0 then none else some ((a : Int) - 1, (b : Int) - 1, (c : Int)) by rw [HRr0.out, hNn])
    obtain ⟨rfl, rfl⟩ : _ ∧ _ := by simpa using hv3
    have hn9 := HNn.out
    have HB4 := Lib.hid hb4
    clear hNn hb3 hb4 hc3 hbn HN hrow h1 hHeld
    by_cases ha0 : a = 0
    · subst ha0
      have HRr := Lib.hid (show R = none by rw [HRr1.out]; simp)
      go_wp2
      go_ret
      exact .inl ⟨HRr.out, rfl, HB4.out⟩
    by_cases hb0 : b = 0
    · subst hb0
      have HRr := Lib.hid (show R = none by rw [HRr1.out]; simp)
      have ha1 : ((a : Int) == 0) = false := beq_eq_false_iff_ne.2 (by omega)
      go_wp2
      go_ret
      exact .inl ⟨HRr.out, rfl, HB4.out⟩
    · have HRr := Lib.hid (show R = some ((a : Int) - 1, (b : Int) - 1, (c : Int)) by rw [HRr1.out]; simp [ha0, hb0])
      have ha1 : ((a : Int) == 0) = false := beq_eq_false_iff_ne.2 (by omega)
      have hb1 : ((b : Int) == 0) = false := beq_eq_false_iff_ne.2 (by omega)
      have i1 : (1 : Int) ≤ a := by omega
      have i2 : (1 : Int) ≤ b := by omega
      have i3 : (a : Int) ≤ 16777216 := by omega
      have i4 : (b : Int) ≤ 16777216 := by omega
      have hwa : IntKind.i64.wrap ((a : Int) - 1) = (a : Int) - 1 := by rw [IntKind.wrap_i64]; omega
      have hwb : IntKind.i64.wrap ((b : Int) - 1) = (b : Int) - 1 := by rw [IntKind.wrap_i64]; omega
      clear ha0 hb0 hna hnb
      go_upto_region 6 with (fail)
      refine wp_region_held_drew (S := fun W => W.cell? ⟨bn, 0, none⟩ = some (.int .i64 (a : Nat)) ∧ W.cell? ⟨bn, 1, none⟩ = some (.int .i64 (b : Nat)) ∧ W.cell? ⟨bn, 2, none⟩ = some (.int .i64 (c : Nat))) (by kernel_rfl) ⟨l0, l1, l2⟩ (fun hHeld => ?_)
      refine wpAnyH_take (i := 0) (oi := ⟨some 46, _, _, _, _, _⟩) (v := ?_) rfl (by kernel_rfl) (by kernel_rfl) (by kernel_rfl) (fun _ _ _ h => h) (Or.inl ⟨by rfl, ?_⟩) hHeld ?_
      rotate_left
      · intro W hSw
        obtain ⟨s0, s1, s2⟩ := hSw
        go_simp
        with_reducible rfl
      simp only [Act.put, List.setIfInBounds_toArray, List.set_cons_zero, List.set_cons_succ]
      refine wpAnyH_take (i := 1) (oi := ⟨some 47, _, _, _, _, _⟩) (v := ?_) rfl (by kernel_rfl) (by kernel_rfl) (by kernel_rfl) (fun _ _ _ h => h) (Or.inl ⟨by rfl, ?_⟩) hHeld ?_
      rotate_left
      · intro W hSw
        obtain ⟨s0, s1, s2⟩ := hSw
        go_simp
        with_reducible rfl
      simp only [Act.put, List.setIfInBounds_toArray, List.set_cons_zero, List.set_cons_succ]
      refine wpAnyH_take (i := 2) (oi := ⟨some 48, _, _, _, _, _⟩) (v := ?_) rfl (by kernel_rfl) (by kernel_rfl) (by kernel_rfl) (fun _ _ _ h => h) (Or.inl ⟨by rfl, ?_⟩) hHeld ?_
      rotate_left
      · intro W hSw
        obtain ⟨s0, s1, s2⟩ := hSw
        go_simp
        with_reducible rfl
      simp only [Act.put, List.setIfInBounds_toArray, List.set_cons_zero, List.set_cons_succ]
      refine wpAnyH_take (i := 3) (oi := ⟨some 49, _, _, _, _, _⟩) (v := ?_) rfl (by kernel_rfl) (by kernel_rfl) (by kernel_rfl) (fun _ _ _ h => h) (Or.inl ⟨by rfl, ?_⟩) hHeld ?_
      rotate_left
      · intro W hSw
        obtain ⟨s0, s1, s2⟩ := hSw
        go_simp
        with_reducible rfl
      simp only [Act.put, List.setIfInBounds_toArray, List.set_cons_zero, List.set_cons_succ]
      refine wpAnyH_take (i := 4) (oi := ⟨some 50, _, _, _, _, _⟩) (v := ?_) rfl (by kernel_rfl) (by kernel_rfl) (by kernel_rfl) (fun _ _ _ h => h) (Or.inl ⟨by rfl, ?_⟩) hHeld ?_
      rotate_left
      · intro W hSw
        obtain ⟨s0, s1, s2⟩ := hSw
        go_simp
        with_reducible rfl
      simp only [Act.put, List.setIfInBounds_toArray, List.set_cons_zero, List.set_cons_succ]
      refine wpAnyH_take (i := 6) (oi := ⟨some 52, _, _, _, _, _⟩) (v := ?_) rfl (by kernel_rfl) (by kernel_rfl) (by kernel_rfl) (fun _ _ _ h => h) (Or.inl ⟨by rfl, ?_⟩) hHeld ?_
      rotate_left
      · intro W hSw
        obtain ⟨s0, s1, s2⟩ := hSw
        go_simp
        with_reducible rfl
      simp only [Act.put, List.setIfInBounds_toArray, List.set_cons_zero, List.set_cons_succ]
      refine wpAnyH_take (i := 7) (oi := ⟨some 53, _, _, _, _, _⟩) (v := ?_) rfl (by kernel_rfl) (by kernel_rfl) (by kernel_rfl) (fun _ _ _ h => h) (Or.inl ⟨by rfl, ?_⟩) hHeld ?_
      rotate_left
      · intro W hSw
        obtain ⟨s0, s1, s2⟩ := hSw
        go_simp
        with_reducible rfl
      simp only [Act.put, List.setIfInBounds_toArray, List.set_cons_zero, List.set_cons_succ]
      refine wpAnyH_take (i := 8) (oi := ⟨some 54, _, _, _, _, _⟩) (v := ?_) rfl (by kernel_rfl) (by kernel_rfl) (by kernel_rfl) (fun _ _ _ h => h) (Or.inl ⟨by rfl, ?_⟩) hHeld ?_
      rotate_left
      · intro W hSw
        obtain ⟨s0, s1, s2⟩ := hSw
        go_simp
        with_reducible rfl
      simp only [Act.put, List.setIfInBounds_toArray, List.set_cons_zero, List.set_cons_succ]
      refine wpAnyH_take (i := 9) (oi := ⟨some 55, _, _, _, _, _⟩) (v := ?_) rfl (by kernel_rfl) (by kernel_rfl) (by kernel_rfl) (fun _ _ _ h => h) (Or.inl ⟨by rfl, ?_⟩) hHeld ?_
      rotate_left
      · intro W hSw
        obtain ⟨s0, s1, s2⟩ := hSw
        go_simp
        with_reducible rfl
      simp only [Act.put, List.setIfInBounds_toArray, List.set_cons_zero, List.set_cons_succ]
      try rw [hwa]
      refine wpAnyH_take (i := 10) (oi := ⟨some 56, _, _, _, _, _⟩) (v := ?_) rfl (by kernel_rfl) (by kernel_rfl) (by kernel_rfl) (fun _ _ _ h => h) (Or.inl ⟨by rfl, ?_⟩) hHeld ?_
      rotate_left
      · intro W hSw
        obtain ⟨s0, s1, s2⟩ := hSw
        go_simp
        with_reducible rfl
      simp only [Act.put, List.setIfInBounds_toArray, List.set_cons_zero, List.set_cons_succ]
      refine wpAnyH_take (i := 11) (oi := ⟨some 57, _, _, _, _, _⟩) (v := ?_) rfl (by kernel_rfl) (by kernel_rfl) (by kernel_rfl) (fun _ _ _ h => h) (Or.inl ⟨by rfl, ?_⟩) hHeld ?_
      rotate_left
      · intro W hSw
        obtain ⟨s0, s1, s2⟩ := hSw
        go_simp
        with_reducible rfl
      simp only [Act.put, List.setIfInBounds_toArray, List.set_cons_zero, List.set_cons_succ]
      refine wpAnyH_take (i := 12) (oi := ⟨some 58, _, _, _, _, _⟩) (v := ?_) rfl (by kernel_rfl) (by kernel_rfl) (by kernel_rfl) (fun _ _ _ h => h) (Or.inl ⟨by rfl, ?_⟩) hHeld ?_
      rotate_left
      · intro W hSw
        obtain ⟨s0, s1, s2⟩ := hSw
        go_simp
        with_reducible rfl
      simp only [Act.put, List.setIfInBounds_toArray, List.set_cons_zero, List.set_cons_succ]
      refine wpAnyH_take (i := 13) (oi := ⟨some 59, _, _, _, _, _⟩) (v := ?_) rfl (by kernel_rfl) (by kernel_rfl) (by kernel_rfl) (fun _ _ _ h => h) (Or.inl ⟨by rfl, ?_⟩) hHeld ?_
      rotate_left
      · intro W hSw
        obtain ⟨s0, s1, s2⟩ := hSw
        go_simp
        with_reducible rfl
      simp only [Act.put, List.setIfInBounds_toArray, List.set_cons_zero, List.set_cons_succ]
      try rw [hwb]
      refine wpAnyH_take (i := 14) (oi := ⟨some 60, _, _, _, _, _⟩) (v := ?_) rfl (by kernel_rfl) (by kernel_rfl) (by kernel_rfl) (fun _ _ _ h => h) (Or.inl ⟨by rfl, ?_⟩) hHeld ?_
      rotate_left
      · intro W hSw
        obtain ⟨s0, s1, s2⟩ := hSw
        go_simp
        with_reducible rfl
      simp only [Act.put, List.setIfInBounds_toArray, List.set_cons_zero, List.set_cons_succ]
      refine wpAnyH_take (i := 15) (oi := ⟨some 61, _, _, _, _, _⟩) (v := ?_) rfl (by kernel_rfl) (by kernel_rfl) (by kernel_rfl) (fun _ _ _ h => h) (Or.inl ⟨by rfl, ?_⟩) hHeld ?_
      rotate_left
      · intro W hSw
        obtain ⟨s0, s1, s2⟩ := hSw
        go_simp
        with_reducible rfl
      simp only [Act.put, List.setIfInBounds_toArray, List.set_cons_zero, List.set_cons_succ]
      refine wpAnyH_take (i := 16) (oi := ⟨some 62, _, _, _, _, _⟩) (v := ?_) rfl (by kernel_rfl) (by kernel_rfl) (by kernel_rfl) (fun _ _ _ h => h) (Or.inl ⟨by rfl, ?_⟩) hHeld ?_
      rotate_left
      · intro W hSw
        obtain ⟨s0, s1, s2⟩ := hSw
        go_simp
        with_reducible rfl
      simp only [Act.put, List.setIfInBounds_toArray, List.set_cons_zero, List.set_cons_succ]
      refine wpAnyH_take (i := 17) (oi := ⟨some 63, _, _, _, _, _⟩) (v := ?_) rfl (by kernel_rfl) (by kernel_rfl) (by kernel_rfl) (fun _ _ _ h => h) (Or.inl ⟨by rfl, ?_⟩) hHeld ?_
      rotate_left
      · intro W hSw
        obtain ⟨s0, s1, s2⟩ := hSw
        go_simp
        with_reducible rfl
      simp only [Act.put, List.setIfInBounds_toArray, List.set_cons_zero, List.set_cons_succ]
      refine wpAnyH_ready (rs := [5, 18]) (by kernel_rfl) (by simp) ?_
      refine (AllReadyH.cons (o := ⟨some 51, _, _, _, _, _⟩) rfl (fun K hK => ?_) (AllReadyH.cons (o := ⟨some 64, _, _, _, _, _⟩) rfl (fun K hK => ?_) AllReadyH.nil))
      · skip
        go_simp
        refine hK.out _ _ hHeld (fun hHeld2 => ?_)
        clear hK K hHeld
        have hHeld := hHeld2
        clear hHeld2
        refine wpAnyH_ready (rs := [18]) (by kernel_rfl) (by simp) ?_
        refine (AllReadyH.cons (o := ⟨some 64, _, _, _, _, _⟩) rfl (fun K hK => ?_) AllReadyH.nil)
        go_simp
        refine hK.out _ _ ⟨(World.cell?_alloc_lt _ _ _ (block_lt_of_cell hHeld.1)).trans hHeld.1, (World.cell?_alloc_lt _ _ _ (block_lt_of_cell hHeld.2.1)).trans hHeld.2.1, (World.cell?_alloc_lt _ _ _ (block_lt_of_cell hHeld.2.2)).trans hHeld.2.2⟩ (fun hHeld2 => ?_)
        clear hK K hHeld
        have hHeld := hHeld2
        clear hHeld2
        refine wpAnyH_ready (rs := [19]) (by kernel_rfl) (by simp) ?_
        refine (AllReadyH.cons (o := ⟨some 65, _, _, _, _, _⟩) rfl (fun K hK => ?_) AllReadyH.nil)
        refine step_append_lies _ rfl (.tmp 51) (.tmp 64) 23 rfl Kb 50 i0 (.agg #[.int .i64 0, .int .i64 0, .int .i64 0]) 3 24 Tryd.underlying23 hi hz0 hz1 hz2 rfl (by omega) (.slice ad arcs.length cc) arcs.length (acells arcs) (by rfl) HAd.out ⟨w3.heap.size, 0, none⟩ 1 1 [.int .i64 ((a : Int) - 1), .int .i64 ((b : Int) - 1), .int .i64 (c : Int)] (by rfl) rfl (World.news_of_block (cs := #[.int .i64 ((a : Int) - 1), .int .i64 ((b : Int) - 1), .int .i64 (c : Int)]) HF.out) (by intro u hu; simp at hu; rcases hu with rfl | rfl | rfl <;> rfl) (by omega) (by simp only [maxLen]; have := HL.out; omega) (by have := HL.out; omega) HKs.out _ rfl ?_
        intro g' cap w4 hown hgrow hat hlt
        have HT := Lib.hid (arc_tail (x := ((a : Int) - 1, (b : Int) - 1, (c : Int))) (o := .cells #[.int .i64 ((a : Int) - 1), .int .i64 ((b : Int) - 1), .int .i64 (c : Int)] 50) HR3.out HA3.out HKr.out hown hgrow hat)
        have hr4 := HT.out.1
        have t1 := hr4.cell 1
        have t2 := hr4.thaw 1
        have hs4 := HT.out.2.1 hHeld
        clear hr4 hown hgrow hat hlt
        refine hK.out _ _ hs4 (fun hHeld2 => ?_)
        clear hK K hHeld
        have hHeld := hHeld2
        clear hHeld2
        refine wpAnyH_take (i := 20) (oi := ⟨some 66, _, _, _, _, _⟩) (v := ?_) rfl (by kernel_rfl) (by kernel_rfl) (by kernel_rfl) (fun _ _ _ h => h) (Or.inl ⟨by rfl, ?_⟩) hHeld ?_
        rotate_left
        · intro W hSw
          obtain ⟨s0, s1, s2⟩ := hSw
          go_simp
          with_reducible rfl
        simp only [Act.put, List.setIfInBounds_toArray, List.set_cons_zero, List.set_cons_succ]
        refine wpAnyH_take (i := 21) (oi := ⟨some 67, _, _, _, _, _⟩) (v := ?_) rfl (by kernel_rfl) (by kernel_rfl) (by kernel_rfl) (fun _ _ _ h => h) (Or.inl ⟨by rfl, ?_⟩) hHeld ?_
        rotate_left
        · intro W hSw
          obtain ⟨s0, s1, s2⟩ := hSw
          go_simp
          with_reducible rfl
        simp only [Act.put, List.setIfInBounds_toArray, List.set_cons_zero, List.set_cons_succ]
        refine wpAnyH_take (i := 22) (oi := ⟨some 68, _, _, _, _, _⟩) (v := ?_) rfl (by kernel_rfl) (by kernel_rfl) (by kernel_rfl) (fun _ _ _ h => h) (Or.inl ⟨by rfl, ?_⟩) hHeld ?_
        rotate_left
        · intro W hSw
          obtain ⟨s0, s1, s2⟩ := hSw
          go_simp
          with_reducible rfl
        simp only [Act.put, List.setIfInBounds_toArray, List.set_cons_zero, List.set_cons_succ]
        refine wpAnyH_ready (rs := [23]) (by kernel_rfl) (by simp) ?_
        refine (AllReadyH.cons (o := ⟨none, _, _, _, _, _⟩) rfl (fun K hK => ?_) AllReadyH.nil)
        go_simp
        refine hK.out _ _ (HT.out.2.2.1 _ hHeld) (fun hHeld2 => ?_)
        clear hK K hHeld hHeld2
        refine wpAnyH_done (by kernel_rfl) ?_ _
        go_wp2
        go_ret
        exact .inr ⟨_, _, HRr.out, rfl, HT.out.2.2.2.1, HT.out.2.2.2.2.1, only_then HB3.out HT.out.2.2.2.2.2⟩
      · skip
        go_simp
        refine hK.out _ _ ⟨(World.cell?_alloc_lt _ _ _ (block_lt_of_cell hHeld.1)).trans hHeld.1, (World.cell?_alloc_lt _ _ _ (block_lt_of_cell hHeld.2.1)).trans hHeld.2.1, (World.cell?_alloc_lt _ _ _ (block_lt_of_cell hHeld.2.2)).trans hHeld.2.2⟩ (fun hHeld2 => ?_)
        clear hK K hHeld
        have hHeld := hHeld2
        clear hHeld2
        refine wpAnyH_ready (rs := [5]) (by kernel_rfl) (by simp) ?_
        refine (AllReadyH.cons (o := ⟨some 51, _, _, _, _, _⟩) rfl (fun K hK => ?_) AllReadyH.nil)
        go_simp
        refine hK.out _ _ hHeld (fun hHeld2 => ?_)
        clear hK K hHeld
        have hHeld := hHeld2
        clear hHeld2
        refine wpAnyH_ready (rs := [19]) (by kernel_rfl) (by simp) ?_
        refine (AllReadyH.cons (o := ⟨some 65, _, _, _, _, _⟩) rfl (fun K hK => ?_) AllReadyH.nil)
        refine step_append_lies _ rfl (.tmp 51) (.tmp 64) 23 rfl Kb 50 i0 (.agg #[.int .i64 0, .int .i64 0, .int .i64 0]) 3 24 Tryd.underlying23 hi hz0 hz1 hz2 rfl (by omega) (.slice ad arcs.length cc) arcs.length (acells arcs) (by rfl) HAd.out ⟨w3.heap.size, 0, none⟩ 1 1 [.int .i64 ((a : Int) - 1), .int .i64 ((b : Int) - 1), .int .i64 (c : Int)] (by rfl) rfl (World.news_of_block (cs := #[.int .i64 ((a : Int) - 1), .int .i64 ((b : Int) - 1), .int .i64 (c : Int)]) HF.out) (by intro u hu; simp at hu; rcases hu with rfl | rfl | rfl <;> rfl) (by omega) (by simp only [maxLen]; have := HL.out; omega) (by have := HL.out; omega) HKs.out _ rfl ?_
        intro g' cap w4 hown hgrow hat hlt
        have HT := Lib.hid (arc_tail (x := ((a : Int) - 1, (b : Int) - 1, (c : Int))) (o := .cells #[.int .i64 ((a : Int) - 1), .int .i64 ((b : Int) - 1), .int .i64 (c : Int)] 50) HR3.out HA3.out HKr.out hown hgrow hat)
        have hr4 := HT.out.1
        have t1 := hr4.cell 1
        have t2 := hr4.thaw 1
        have hs4 := HT.out.2.1 hHeld
        clear hr4 hown hgrow hat hlt
        refine hK.out _ _ hs4 (fun hHeld2 => ?_)
        clear hK K hHeld
        have hHeld := hHeld2
        clear hHeld2
        refine wpAnyH_take (i := 20) (oi := ⟨some 66, _, _, _, _, _⟩) (v := ?_) rfl (by kernel_rfl) (by kernel_rfl) (by kernel_rfl) (fun _ _ _ h => h) (Or.inl ⟨by rfl, ?_⟩) hHeld ?_
        rotate_left
        · intro W hSw
          obtain ⟨s0, s1, s2⟩ := hSw
          go_simp
          with_reducible rfl
        simp only [Act.put, List.setIfInBounds_toArray, List.set_cons_zero, List.set_cons_succ]
        refine wpAnyH_take (i := 21) (oi := ⟨some 67, _, _, _, _, _⟩) (v := ?_) rfl (by kernel_rfl) (by kernel_rfl) (by kernel_rfl) (fun _ _ _ h => h) (Or.inl ⟨by rfl, ?_⟩) hHeld ?_
        rotate_left
        · intro W hSw
          obtain ⟨s0, s1, s2⟩ := hSw
          go_simp
          with_reducible rfl
        simp only [Act.put, List.setIfInBounds_toArray, List.set_cons_zero, List.set_cons_succ]
        refine wpAnyH_take (i := 22) (oi := ⟨some 68, _, _, _, _, _⟩) (v := ?_) rfl (by kernel_rfl) (by kernel_rfl) (by kernel_rfl) (fun _ _ _ h => h) (Or.inl ⟨by rfl, ?_⟩) hHeld ?_
        rotate_left
        · intro W hSw
          obtain ⟨s0, s1, s2⟩ := hSw
          go_simp
          with_reducible rfl
        simp only [Act.put, List.setIfInBounds_toArray, List.set_cons_zero, List.set_cons_succ]
        refine wpAnyH_ready (rs := [23]) (by kernel_rfl) (by simp) ?_
        refine (AllReadyH.cons (o := ⟨none, _, _, _, _, _⟩) rfl (fun K hK => ?_) AllReadyH.nil)
        go_simp
        refine hK.out _ _ (HT.out.2.2.1 _ hHeld) (fun hHeld2 => ?_)
        clear hK K hHeld hHeld2
        refine wpAnyH_done (by kernel_rfl) ?_ _
        go_wp2
        go_ret
        exact .inr ⟨_, _, HRr.out, rfl, HT.out.2.2.2.1, HT.out.2.2.2.2.1, only_then HB3.out HT.out.2.2.2.2.2⟩
end Go.Proofs.YtdjfmmfggkkbaaaDoor
