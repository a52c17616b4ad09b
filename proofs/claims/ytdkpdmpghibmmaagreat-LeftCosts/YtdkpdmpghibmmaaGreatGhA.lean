/- graph: an arc's ends, and by which of them things are laid (written by mkgha.py). -/
import Derived.Test.YtdkpdmpghibmmaaGreatArcH
import Derived.Test.YtdkpdmpghibmmaaGreatSep
import Derived.Deep.RegionHeld
import Derived.Deep.AppendLies
import Derived.BigRegionIn
namespace Go.Proofs.YtdkpdmpghibmmaaGreat
open Go.RowKit Go.Shelf Grm

abbrev nsV (ns : List Nat) : Array Value := (ns.map fun n => Value.int .i64 (n : Nat)).toArray
abbrev aV (x : Ar) : Value := .agg #[.int .i64 x.1, .int .i64 x.2.1, .int .i64 x.2.2]
theorem from_any (x : Ar) (w : World) : Calls Tryz.prog 62 #[aV x] w fun e w' => e = .returned (.int .i64 x.1) ∧ Below w.heap.size w w' := by
  obtain ⟨x0, x1, x2⟩ := x
  show Calls Tryz.prog 62 #[.agg #[.int .i64 x0, .int .i64 x1, .int .i64 x2]] w fun e w' => e = .returned (.int .i64 x0) ∧ Below w.heap.size w w'
  go_enter Tryz.func62, Tryz.ntmps62
  go_wp2
  go_ret
  exact ⟨rfl, (Below.refl _ _).alloc (Nat.le_refl _) _⟩
theorem to_any (x : Ar) (w : World) : Calls Tryz.prog 63 #[aV x] w fun e w' => e = .returned (.int .i64 x.2.1) ∧ Below w.heap.size w w' := by
  obtain ⟨x0, x1, x2⟩ := x
  show Calls Tryz.prog 63 #[.agg #[.int .i64 x0, .int .i64 x1, .int .i64 x2]] w fun e w' => e = .returned (.int .i64 x1) ∧ Below w.heap.size w w'
  go_enter Tryz.func63, Tryz.ntmps63
  go_wp2
  go_ret
  exact ⟨rfl, (Below.refl _ _).alloc (Nat.le_refl _) _⟩
/-- A graph's own block. -/
def Gb (w : World) (gb : Nat) (n : Nat) (a : Option Addr) (l : List Ar) (c : Nat) (oi oc ii ic : Value) : Prop := Row w gb 110 #[.int .i64 (n : Nat), .slice a l.length c, oi, oc, ii, ic]
set_option maxRecDepth 100000 in
set_option maxHeartbeats 1000000 in
theorem ends_from {w : World} {gb n : Nat} {a : Option Addr} {l : List Ar} {c : Nat} {oi oc ii ic : Value} (eb pb k : Nat) (hg : Gb w gb n a l c oi oc ii ic) (hA : Arcs w a l) (hk : k < l.length) (he : w.cell? ⟨eb, 0, none⟩ = some (.func (.func 62) #[] #[])) (hp : w.cell? ⟨pb, 0, none⟩ = some (ptr gb)) :
    Calls Tryz.prog 110 #[.int .i64 (k : Nat), ptr eb, ptr pb] w fun e w' => e = .returned (.int .i64 (l[k]'hk).1) ∧ Below w.heap.size w w' := by
  obtain ⟨ba, oa, rfl, x0, x1, x2⟩ := hA.at_ hk
  have hk' : (k : Int) < (l.length : Int) := by omega
  generalize l[k]'hk = x at *
  have HSt := Lib.hid (show ∀ W, Below w.heap.size w W → ((W.cell? ⟨eb, 0, none⟩ = some (.func (.func 62) #[] #[]) ∧ W.cell? ⟨pb, 0, none⟩ = some (ptr gb)) ∧ W.cell? ⟨gb, 1, none⟩ = some (.slice (some ⟨ba, oa, none⟩) l.length c) ∧ W.cell? ⟨ba, oa + k * 3, none⟩ = some (.int .i64 x.1) ∧ W.cell? ⟨ba, oa + k * 3 + 1, none⟩ = some (.int .i64 x.2.1) ∧ W.cell? ⟨ba, oa + k * 3 + 2, none⟩ = some (.int .i64 x.2.2)) from fun W hW => ⟨⟨(hW.cell (block_lt_of_cell he)).trans he, (hW.cell (block_lt_of_cell hp)).trans hp⟩, (hW.cell (p := ⟨gb, 1, none⟩) hg.lt).trans (hg.cell 1), (hW.cell (block_lt_of_cell x0)).trans x0, (hW.cell (block_lt_of_cell x1)).trans x1, (hW.cell (block_lt_of_cell x2)).trans x2⟩)
  have HB := Lib.hid (show Below w.heap.size w w.drew from (Below.refl _ _).drew)
  clear hg hA he hp x0 x1 x2 hk
  go_enter Tryz.func110, Tryz.ntmps110
  go_upto_region 1 with (fail)
  refine wp_region_held_drew (S := fun W => (W.cell? ⟨eb, 0, none⟩ = some (.func (.func 62) #[] #[]) ∧ W.cell? ⟨pb, 0, none⟩ = some (ptr gb)) ∧ W.cell? ⟨gb, 1, none⟩ = some (.slice (some ⟨ba, oa, none⟩) l.length c) ∧ W.cell? ⟨ba, oa + k * 3, none⟩ = some (.int .i64 x.1) ∧ W.cell? ⟨ba, oa + k * 3 + 1, none⟩ = some (.int .i64 x.2.1) ∧ W.cell? ⟨ba, oa + k * 3 + 2, none⟩ = some (.int .i64 x.2.2)) (by kernel_rfl) (HSt.out _ HB.out) (fun hHeld => ?_)
  refine wpAnyH_take (i := 0) (oi := ⟨some 5, _, _, _, _, _⟩) (v := ?_) rfl (by kernel_rfl) (by kernel_rfl) (by kernel_rfl) (fun _ _ _ h => h) (Or.inl ⟨by rfl, ?_⟩) hHeld ?_
  rotate_left
  · intro W hSw
    obtain ⟨⟨s0, s1⟩, s2, s3, s4, s5⟩ := hSw
    go_simp
    with_reducible rfl
  simp only [Act.put, List.setIfInBounds_toArray, List.set_cons_zero, List.set_cons_succ]
  refine wpAnyH_take (i := 1) (oi := ⟨some 6, _, _, _, _, _⟩) (v := ?_) rfl (by kernel_rfl) (by kernel_rfl) (by kernel_rfl) (fun _ _ _ h => h) (Or.inl ⟨by rfl, ?_⟩) hHeld ?_
  rotate_left
  · intro W hSw
    obtain ⟨⟨s0, s1⟩, s2, s3, s4, s5⟩ := hSw
    go_simp
    with_reducible rfl
  simp only [Act.put, List.setIfInBounds_toArray, List.set_cons_zero, List.set_cons_succ]
  refine wpAnyH_take (i := 2) (oi := ⟨some 7, _, _, _, _, _⟩) (v := ?_) rfl (by kernel_rfl) (by kernel_rfl) (by kernel_rfl) (fun _ _ _ h => h) (Or.inl ⟨by rfl, ?_⟩) hHeld ?_
  rotate_left
  · intro W hSw
    obtain ⟨⟨s0, s1⟩, s2, s3, s4, s5⟩ := hSw
    go_simp
    with_reducible rfl
  simp only [Act.put, List.setIfInBounds_toArray, List.set_cons_zero, List.set_cons_succ]
  refine wpAnyH_take (i := 3) (oi := ⟨some 8, _, _, _, _, _⟩) (v := ?_) rfl (by kernel_rfl) (by kernel_rfl) (by kernel_rfl) (fun _ _ _ h => h) (Or.inl ⟨by rfl, ?_⟩) hHeld ?_
  rotate_left
  · intro W hSw
    obtain ⟨⟨s0, s1⟩, s2, s3, s4, s5⟩ := hSw
    go_simp
    with_reducible rfl
  simp only [Act.put, List.setIfInBounds_toArray, List.set_cons_zero, List.set_cons_succ]
  refine wpAnyH_take (i := 4) (oi := ⟨some 9, _, _, _, _, _⟩) (v := ?_) rfl (by kernel_rfl) (by kernel_rfl) (by kernel_rfl) (fun _ _ _ h => h) (Or.inl ⟨by rfl, ?_⟩) hHeld ?_
  rotate_left
  · intro W hSw
    obtain ⟨⟨s0, s1⟩, s2, s3, s4, s5⟩ := hSw
    go_simp
    with_reducible rfl
  simp only [Act.put, List.setIfInBounds_toArray, List.set_cons_zero, List.set_cons_succ]
  refine wpAnyH_take (i := 5) (oi := ⟨some 10, _, _, _, _, _⟩) (v := ?_) rfl (by kernel_rfl) (by kernel_rfl) (by kernel_rfl) (fun _ _ _ h => h) (Or.inl ⟨by rfl, ?_⟩) hHeld ?_
  rotate_left
  · intro W hSw
    obtain ⟨⟨s0, s1⟩, s2, s3, s4, s5⟩ := hSw
    go_simp
    with_reducible rfl
  simp only [Act.put, List.setIfInBounds_toArray, List.set_cons_zero, List.set_cons_succ]
  refine wpAnyH_take (i := 6) (oi := ⟨some 11, _, _, _, _, _⟩) (v := ?_) rfl (by kernel_rfl) (by kernel_rfl) (by kernel_rfl) (fun _ _ _ h => h) (Or.inl ⟨by rfl, ?_⟩) hHeld ?_
  rotate_left
  · intro W hSw
    obtain ⟨⟨s0, s1⟩, s2, s3, s4, s5⟩ := hSw
    go_simp
    with_reducible rfl
  simp only [Act.put, List.setIfInBounds_toArray, List.set_cons_zero, List.set_cons_succ]
  refine wpAnyH_take (i := 7) (oi := ⟨some 12, _, _, _, _, _⟩) (v := ?_) rfl (by kernel_rfl) (by kernel_rfl) (by kernel_rfl) (fun _ _ _ h => h) (Or.inl ⟨by rfl, ?_⟩) hHeld ?_
  rotate_left
  · intro W hSw
    obtain ⟨⟨s0, s1⟩, s2, s3, s4, s5⟩ := hSw
    go_simp
    with_reducible rfl
  simp only [Act.put, List.setIfInBounds_toArray, List.set_cons_zero, List.set_cons_succ]
  refine wpAnyH_ready (rs := [8]) (by kernel_rfl) (by simp) ?_
  refine (AllReadyH.cons (o := ⟨some 13, _, _, _, _, _⟩) rfl (fun K hK => ?_) AllReadyH.nil)
  go_simp
  refine (from_any x _).mono ?_
  rintro e w2 ⟨rfl, hbx⟩
  have HB2 := Lib.hid (HB.out.trans (hbx.mono HB.out.size))
  have hSn := HSt.out _ HB2.out
  clear hbx
  refine hK.out _ _ hSn (fun hHeld2 => ?_)
  clear hK K hHeld hSn
  have hHeld := hHeld2
  clear hHeld2
  refine wpAnyH_take (i := 9) (oi := ⟨some 4, _, _, _, _, _⟩) (v := ?_) rfl (by kernel_rfl) (by kernel_rfl) (by kernel_rfl) (fun _ _ _ h => h) (Or.inl ⟨by rfl, ?_⟩) hHeld ?_
  rotate_left
  · intro W hSw
    obtain ⟨⟨s0, s1⟩, s2, s3, s4, s5⟩ := hSw
    go_simp
    with_reducible rfl
  simp only [Act.put, List.setIfInBounds_toArray, List.set_cons_zero, List.set_cons_succ]
  refine wpAnyH_done (by kernel_rfl) ?_ _
  go_wp2
  go_ret
  exact ⟨rfl, HB2.out⟩
set_option maxRecDepth 100000 in
set_option maxHeartbeats 1000000 in
theorem side_from {w : World} {gb n : Nat} {a : Option Addr} {l : List Ar} {c : Nat} {oi oc ii ic : Value} (eb pb k : Nat) (v0 v1 : Int) (hg : Gb w gb n a l c oi oc ii ic) (hA : Arcs w a l) (hk : k < l.length) (he : w.cell? ⟨eb, 0, none⟩ = some (.func (.func 62) #[] #[])) (hp : w.cell? ⟨pb, 0, none⟩ = some (ptr gb)) :
    Calls Tryz.prog 112 #[.agg #[.int .i64 v0, .int .i64 v1, .int .i64 (k : Nat)], ptr eb, ptr pb] w fun e w' => e = .returned (.int .i64 (l[k]'hk).1) ∧ Below w.heap.size w w' := by
  obtain ⟨ba, oa, rfl, x0, x1, x2⟩ := hA.at_ hk
  have hk' : (k : Int) < (l.length : Int) := by omega
  generalize l[k]'hk = x at *
  obtain ⟨w1, hw1⟩ : ∃ w1, w1 = w.alloc (.cells #[.int .i64 v0, .int .i64 v1, .int .i64 (k : Nat)] 94) := ⟨_, rfl⟩
  obtain ⟨bx, hbx⟩ : ∃ bx, bx = w.heap.size := ⟨_, rfl⟩
  have hb1 : Below w.heap.size w w1 := by rw [hw1]; exact (Below.refl _ _).alloc (Nat.le_refl _) _
  have hr1 : Row w1 bx 94 #[.int .i64 v0, .int .i64 v1, .int .i64 (k : Nat)] := by rw [hw1, hbx]; exact Row.fresh w _ _
  have HSt := Lib.hid (show ∀ W, Below w1.heap.size w1 W → ((W.cell? ⟨eb, 0, none⟩ = some (.func (.func 62) #[] #[]) ∧ W.cell? ⟨pb, 0, none⟩ = some (ptr gb)) ∧ W.cell? ⟨gb, 1, none⟩ = some (.slice (some ⟨ba, oa, none⟩) l.length c) ∧ W.cell? ⟨ba, oa + k * 3, none⟩ = some (.int .i64 x.1) ∧ W.cell? ⟨ba, oa + k * 3 + 1, none⟩ = some (.int .i64 x.2.1) ∧ W.cell? ⟨ba, oa + k * 3 + 2, none⟩ = some (.int .i64 x.2.2) ∧ W.cell? ⟨bx, 2, none⟩ = some (.int .i64 (k : Nat))) from fun W hW => by
    have hW2 := hb1.trans (hW.mono hb1.size)
    exact ⟨⟨(hW2.cell (block_lt_of_cell he)).trans he, (hW2.cell (block_lt_of_cell hp)).trans hp⟩, (hW2.cell (p := ⟨gb, 1, none⟩) hg.lt).trans (hg.cell 1), (hW2.cell (block_lt_of_cell x0)).trans x0, (hW2.cell (block_lt_of_cell x1)).trans x1, (hW2.cell (block_lt_of_cell x2)).trans x2, (hr1.under hW hr1.lt).cell 2⟩)
  have HB := Lib.hid (show Below w1.heap.size w1 w1.drew from (Below.refl _ _).drew)
  have HB1 := Lib.hid hb1
  have HW := Lib.hid hw1
  have HX := Lib.hid hbx
  clear hg hA he hp x0 x1 x2 hk hb1 hr1 hw1 hbx
  go_enter Tryz.func112, Tryz.ntmps112
  go_upto_region 1 with (fail)
  rw [← HW.out, ← HX.out]
  refine wp_region_held_drew (S := fun W => (W.cell? ⟨eb, 0, none⟩ = some (.func (.func 62) #[] #[]) ∧ W.cell? ⟨pb, 0, none⟩ = some (ptr gb)) ∧ W.cell? ⟨gb, 1, none⟩ = some (.slice (some ⟨ba, oa, none⟩) l.length c) ∧ W.cell? ⟨ba, oa + k * 3, none⟩ = some (.int .i64 x.1) ∧ W.cell? ⟨ba, oa + k * 3 + 1, none⟩ = some (.int .i64 x.2.1) ∧ W.cell? ⟨ba, oa + k * 3 + 2, none⟩ = some (.int .i64 x.2.2) ∧ W.cell? ⟨bx, 2, none⟩ = some (.int .i64 (k : Nat))) (by kernel_rfl) (HSt.out _ HB.out) (fun hHeld => ?_)
  refine wpAnyH_take (i := 0) (oi := ⟨some 5, _, _, _, _, _⟩) (v := ?_) rfl (by kernel_rfl) (by kernel_rfl) (by kernel_rfl) (fun _ _ _ h => h) (Or.inl ⟨by rfl, ?_⟩) hHeld ?_
  rotate_left
  · intro W hSw
    obtain ⟨⟨s0, s1⟩, s2, s3, s4, s5, s6⟩ := hSw
    go_simp
    with_reducible rfl
  simp only [Act.put, List.setIfInBounds_toArray, List.set_cons_zero, List.set_cons_succ]
  refine wpAnyH_take (i := 1) (oi := ⟨some 6, _, _, _, _, _⟩) (v := ?_) rfl (by kernel_rfl) (by kernel_rfl) (by kernel_rfl) (fun _ _ _ h => h) (Or.inl ⟨by rfl, ?_⟩) hHeld ?_
  rotate_left
  · intro W hSw
    obtain ⟨⟨s0, s1⟩, s2, s3, s4, s5, s6⟩ := hSw
    go_simp
    with_reducible rfl
  simp only [Act.put, List.setIfInBounds_toArray, List.set_cons_zero, List.set_cons_succ]
  refine wpAnyH_take (i := 2) (oi := ⟨some 7, _, _, _, _, _⟩) (v := ?_) rfl (by kernel_rfl) (by kernel_rfl) (by kernel_rfl) (fun _ _ _ h => h) (Or.inl ⟨by rfl, ?_⟩) hHeld ?_
  rotate_left
  · intro W hSw
    obtain ⟨⟨s0, s1⟩, s2, s3, s4, s5, s6⟩ := hSw
    go_simp
    with_reducible rfl
  simp only [Act.put, List.setIfInBounds_toArray, List.set_cons_zero, List.set_cons_succ]
  refine wpAnyH_take (i := 3) (oi := ⟨some 8, _, _, _, _, _⟩) (v := ?_) rfl (by kernel_rfl) (by kernel_rfl) (by kernel_rfl) (fun _ _ _ h => h) (Or.inl ⟨by rfl, ?_⟩) hHeld ?_
  rotate_left
  · intro W hSw
    obtain ⟨⟨s0, s1⟩, s2, s3, s4, s5, s6⟩ := hSw
    go_simp
    with_reducible rfl
  simp only [Act.put, List.setIfInBounds_toArray, List.set_cons_zero, List.set_cons_succ]
  refine wpAnyH_take (i := 4) (oi := ⟨some 9, _, _, _, _, _⟩) (v := ?_) rfl (by kernel_rfl) (by kernel_rfl) (by kernel_rfl) (fun _ _ _ h => h) (Or.inl ⟨by rfl, ?_⟩) hHeld ?_
  rotate_left
  · intro W hSw
    obtain ⟨⟨s0, s1⟩, s2, s3, s4, s5, s6⟩ := hSw
    go_simp
    with_reducible rfl
  simp only [Act.put, List.setIfInBounds_toArray, List.set_cons_zero, List.set_cons_succ]
  refine wpAnyH_take (i := 5) (oi := ⟨some 10, _, _, _, _, _⟩) (v := ?_) rfl (by kernel_rfl) (by kernel_rfl) (by kernel_rfl) (fun _ _ _ h => h) (Or.inl ⟨by rfl, ?_⟩) hHeld ?_
  rotate_left
  · intro W hSw
    obtain ⟨⟨s0, s1⟩, s2, s3, s4, s5, s6⟩ := hSw
    go_simp
    with_reducible rfl
  simp only [Act.put, List.setIfInBounds_toArray, List.set_cons_zero, List.set_cons_succ]
  refine wpAnyH_take (i := 6) (oi := ⟨some 11, _, _, _, _, _⟩) (v := ?_) rfl (by kernel_rfl) (by kernel_rfl) (by kernel_rfl) (fun _ _ _ h => h) (Or.inl ⟨by rfl, ?_⟩) hHeld ?_
  rotate_left
  · intro W hSw
    obtain ⟨⟨s0, s1⟩, s2, s3, s4, s5, s6⟩ := hSw
    go_simp
    with_reducible rfl
  simp only [Act.put, List.setIfInBounds_toArray, List.set_cons_zero, List.set_cons_succ]
  refine wpAnyH_take (i := 7) (oi := ⟨some 12, _, _, _, _, _⟩) (v := ?_) rfl (by kernel_rfl) (by kernel_rfl) (by kernel_rfl) (fun _ _ _ h => h) (Or.inl ⟨by rfl, ?_⟩) hHeld ?_
  rotate_left
  · intro W hSw
    obtain ⟨⟨s0, s1⟩, s2, s3, s4, s5, s6⟩ := hSw
    go_simp
    with_reducible rfl
  simp only [Act.put, List.setIfInBounds_toArray, List.set_cons_zero, List.set_cons_succ]
  refine wpAnyH_take (i := 8) (oi := ⟨some 13, _, _, _, _, _⟩) (v := ?_) rfl (by kernel_rfl) (by kernel_rfl) (by kernel_rfl) (fun _ _ _ h => h) (Or.inl ⟨by rfl, ?_⟩) hHeld ?_
  rotate_left
  · intro W hSw
    obtain ⟨⟨s0, s1⟩, s2, s3, s4, s5, s6⟩ := hSw
    go_simp
    with_reducible rfl
  simp only [Act.put, List.setIfInBounds_toArray, List.set_cons_zero, List.set_cons_succ]
  refine wpAnyH_ready (rs := [9]) (by kernel_rfl) (by simp) ?_
  refine (AllReadyH.cons (o := ⟨some 14, _, _, _, _, _⟩) rfl (fun K hK => ?_) AllReadyH.nil)
  go_simp
  refine (from_any x _).mono ?_
  rintro e w2 ⟨rfl, hbx⟩
  have HB2 := Lib.hid (HB.out.trans (hbx.mono HB.out.size))
  have hSn := HSt.out _ HB2.out
  clear hbx
  refine hK.out _ _ hSn (fun hHeld2 => ?_)
  clear hK K hHeld hSn
  have hHeld := hHeld2
  clear hHeld2
  refine wpAnyH_take (i := 10) (oi := ⟨some 4, _, _, _, _, _⟩) (v := ?_) rfl (by kernel_rfl) (by kernel_rfl) (by kernel_rfl) (fun _ _ _ h => h) (Or.inl ⟨by rfl, ?_⟩) hHeld ?_
  rotate_left
  · intro W hSw
    obtain ⟨⟨s0, s1⟩, s2, s3, s4, s5, s6⟩ := hSw
    go_simp
    with_reducible rfl
  simp only [Act.put, List.setIfInBounds_toArray, List.set_cons_zero, List.set_cons_succ]
  refine wpAnyH_done (by kernel_rfl) ?_ _
  go_wp2
  go_ret
  exact ⟨rfl, HB1.out.trans (HB2.out.mono HB1.out.size)⟩
set_option maxRecDepth 100000 in
set_option maxHeartbeats 1000000 in
theorem ends_to {w : World} {gb n : Nat} {a : Option Addr} {l : List Ar} {c : Nat} {oi oc ii ic : Value} (eb pb k : Nat) (hg : Gb w gb n a l c oi oc ii ic) (hA : Arcs w a l) (hk : k < l.length) (he : w.cell? ⟨eb, 0, none⟩ = some (.func (.func 63) #[] #[])) (hp : w.cell? ⟨pb, 0, none⟩ = some (ptr gb)) :
    Calls Tryz.prog 110 #[.int .i64 (k : Nat), ptr eb, ptr pb] w fun e w' => e = .returned (.int .i64 (l[k]'hk).2.1) ∧ Below w.heap.size w w' := by
  obtain ⟨ba, oa, rfl, x0, x1, x2⟩ := hA.at_ hk
  have hk' : (k : Int) < (l.length : Int) := by omega
  generalize l[k]'hk = x at *
  have HSt := Lib.hid (show ∀ W, Below w.heap.size w W → ((W.cell? ⟨eb, 0, none⟩ = some (.func (.func 63) #[] #[]) ∧ W.cell? ⟨pb, 0, none⟩ = some (ptr gb)) ∧ W.cell? ⟨gb, 1, none⟩ = some (.slice (some ⟨ba, oa, none⟩) l.length c) ∧ W.cell? ⟨ba, oa + k * 3, none⟩ = some (.int .i64 x.1) ∧ W.cell? ⟨ba, oa + k * 3 + 1, none⟩ = some (.int .i64 x.2.1) ∧ W.cell? ⟨ba, oa + k * 3 + 2, none⟩ = some (.int .i64 x.2.2)) from fun W hW => ⟨⟨(hW.cell (block_lt_of_cell he)).trans he, (hW.cell (block_lt_of_cell hp)).trans hp⟩, (hW.cell (p := ⟨gb, 1, none⟩) hg.lt).trans (hg.cell 1), (hW.cell (block_lt_of_cell x0)).trans x0, (hW.cell (block_lt_of_cell x1)).trans x1, (hW.cell (block_lt_of_cell x2)).trans x2⟩)
  have HB := Lib.hid (show Below w.heap.size w w.drew from (Below.refl _ _).drew)
  clear hg hA he hp x0 x1 x2 hk
  go_enter Tryz.func110, Tryz.ntmps110
  go_upto_region 1 with (fail)
  refine wp_region_held_drew (S := fun W => (W.cell? ⟨eb, 0, none⟩ = some (.func (.func 63) #[] #[]) ∧ W.cell? ⟨pb, 0, none⟩ = some (ptr gb)) ∧ W.cell? ⟨gb, 1, none⟩ = some (.slice (some ⟨ba, oa, none⟩) l.length c) ∧ W.cell? ⟨ba, oa + k * 3, none⟩ = some (.int .i64 x.1) ∧ W.cell? ⟨ba, oa + k * 3 + 1, none⟩ = some (.int .i64 x.2.1) ∧ W.cell? ⟨ba, oa + k * 3 + 2, none⟩ = some (.int .i64 x.2.2)) (by kernel_rfl) (HSt.out _ HB.out) (fun hHeld => ?_)
  refine wpAnyH_take (i := 0) (oi := ⟨some 5, _, _, _, _, _⟩) (v := ?_) rfl (by kernel_rfl) (by kernel_rfl) (by kernel_rfl) (fun _ _ _ h => h) (Or.inl ⟨by rfl, ?_⟩) hHeld ?_
  rotate_left
  · intro W hSw
    obtain ⟨⟨s0, s1⟩, s2, s3, s4, s5⟩ := hSw
    go_simp
    with_reducible rfl
  simp only [Act.put, List.setIfInBounds_toArray, List.set_cons_zero, List.set_cons_succ]
  refine wpAnyH_take (i := 1) (oi := ⟨some 6, _, _, _, _, _⟩) (v := ?_) rfl (by kernel_rfl) (by kernel_rfl) (by kernel_rfl) (fun _ _ _ h => h) (Or.inl ⟨by rfl, ?_⟩) hHeld ?_
  rotate_left
  · intro W hSw
    obtain ⟨⟨s0, s1⟩, s2, s3, s4, s5⟩ := hSw
    go_simp
    with_reducible rfl
  simp only [Act.put, List.setIfInBounds_toArray, List.set_cons_zero, List.set_cons_succ]
  refine wpAnyH_take (i := 2) (oi := ⟨some 7, _, _, _, _, _⟩) (v := ?_) rfl (by kernel_rfl) (by kernel_rfl) (by kernel_rfl) (fun _ _ _ h => h) (Or.inl ⟨by rfl, ?_⟩) hHeld ?_
  rotate_left
  · intro W hSw
    obtain ⟨⟨s0, s1⟩, s2, s3, s4, s5⟩ := hSw
    go_simp
    with_reducible rfl
  simp only [Act.put, List.setIfInBounds_toArray, List.set_cons_zero, List.set_cons_succ]
  refine wpAnyH_take (i := 3) (oi := ⟨some 8, _, _, _, _, _⟩) (v := ?_) rfl (by kernel_rfl) (by kernel_rfl) (by kernel_rfl) (fun _ _ _ h => h) (Or.inl ⟨by rfl, ?_⟩) hHeld ?_
  rotate_left
  · intro W hSw
    obtain ⟨⟨s0, s1⟩, s2, s3, s4, s5⟩ := hSw
    go_simp
    with_reducible rfl
  simp only [Act.put, List.setIfInBounds_toArray, List.set_cons_zero, List.set_cons_succ]
  refine wpAnyH_take (i := 4) (oi := ⟨some 9, _, _, _, _, _⟩) (v := ?_) rfl (by kernel_rfl) (by kernel_rfl) (by kernel_rfl) (fun _ _ _ h => h) (Or.inl ⟨by rfl, ?_⟩) hHeld ?_
  rotate_left
  · intro W hSw
    obtain ⟨⟨s0, s1⟩, s2, s3, s4, s5⟩ := hSw
    go_simp
    with_reducible rfl
  simp only [Act.put, List.setIfInBounds_toArray, List.set_cons_zero, List.set_cons_succ]
  refine wpAnyH_take (i := 5) (oi := ⟨some 10, _, _, _, _, _⟩) (v := ?_) rfl (by kernel_rfl) (by kernel_rfl) (by kernel_rfl) (fun _ _ _ h => h) (Or.inl ⟨by rfl, ?_⟩) hHeld ?_
  rotate_left
  · intro W hSw
    obtain ⟨⟨s0, s1⟩, s2, s3, s4, s5⟩ := hSw
    go_simp
    with_reducible rfl
  simp only [Act.put, List.setIfInBounds_toArray, List.set_cons_zero, List.set_cons_succ]
  refine wpAnyH_take (i := 6) (oi := ⟨some 11, _, _, _, _, _⟩) (v := ?_) rfl (by kernel_rfl) (by kernel_rfl) (by kernel_rfl) (fun _ _ _ h => h) (Or.inl ⟨by rfl, ?_⟩) hHeld ?_
  rotate_left
  · intro W hSw
    obtain ⟨⟨s0, s1⟩, s2, s3, s4, s5⟩ := hSw
    go_simp
    with_reducible rfl
  simp only [Act.put, List.setIfInBounds_toArray, List.set_cons_zero, List.set_cons_succ]
  refine wpAnyH_take (i := 7) (oi := ⟨some 12, _, _, _, _, _⟩) (v := ?_) rfl (by kernel_rfl) (by kernel_rfl) (by kernel_rfl) (fun _ _ _ h => h) (Or.inl ⟨by rfl, ?_⟩) hHeld ?_
  rotate_left
  · intro W hSw
    obtain ⟨⟨s0, s1⟩, s2, s3, s4, s5⟩ := hSw
    go_simp
    with_reducible rfl
  simp only [Act.put, List.setIfInBounds_toArray, List.set_cons_zero, List.set_cons_succ]
  refine wpAnyH_ready (rs := [8]) (by kernel_rfl) (by simp) ?_
  refine (AllReadyH.cons (o := ⟨some 13, _, _, _, _, _⟩) rfl (fun K hK => ?_) AllReadyH.nil)
  go_simp
  refine (to_any x _).mono ?_
  rintro e w2 ⟨rfl, hbx⟩
  have HB2 := Lib.hid (HB.out.trans (hbx.mono HB.out.size))
  have hSn := HSt.out _ HB2.out
  clear hbx
  refine hK.out _ _ hSn (fun hHeld2 => ?_)
  clear hK K hHeld hSn
  have hHeld := hHeld2
  clear hHeld2
  refine wpAnyH_take (i := 9) (oi := ⟨some 4, _, _, _, _, _⟩) (v := ?_) rfl (by kernel_rfl) (by kernel_rfl) (by kernel_rfl) (fun _ _ _ h => h) (Or.inl ⟨by rfl, ?_⟩) hHeld ?_
  rotate_left
  · intro W hSw
    obtain ⟨⟨s0, s1⟩, s2, s3, s4, s5⟩ := hSw
    go_simp
    with_reducible rfl
  simp only [Act.put, List.setIfInBounds_toArray, List.set_cons_zero, List.set_cons_succ]
  refine wpAnyH_done (by kernel_rfl) ?_ _
  go_wp2
  go_ret
  exact ⟨rfl, HB2.out⟩
set_option maxRecDepth 100000 in
set_option maxHeartbeats 1000000 in
theorem side_to {w : World} {gb n : Nat} {a : Option Addr} {l : List Ar} {c : Nat} {oi oc ii ic : Value} (eb pb k : Nat) (v0 v1 : Int) (hg : Gb w gb n a l c oi oc ii ic) (hA : Arcs w a l) (hk : k < l.length) (he : w.cell? ⟨eb, 0, none⟩ = some (.func (.func 63) #[] #[])) (hp : w.cell? ⟨pb, 0, none⟩ = some (ptr gb)) :
    Calls Tryz.prog 112 #[.agg #[.int .i64 v0, .int .i64 v1, .int .i64 (k : Nat)], ptr eb, ptr pb] w fun e w' => e = .returned (.int .i64 (l[k]'hk).2.1) ∧ Below w.heap.size w w' := by
  obtain ⟨ba, oa, rfl, x0, x1, x2⟩ := hA.at_ hk
  have hk' : (k : Int) < (l.length : Int) := by omega
  generalize l[k]'hk = x at *
  obtain ⟨w1, hw1⟩ : ∃ w1, w1 = w.alloc (.cells #[.int .i64 v0, .int .i64 v1, .int .i64 (k : Nat)] 94) := ⟨_, rfl⟩
  obtain ⟨bx, hbx⟩ : ∃ bx, bx = w.heap.size := ⟨_, rfl⟩
  have hb1 : Below w.heap.size w w1 := by rw [hw1]; exact (Below.refl _ _).alloc (Nat.le_refl _) _
  have hr1 : Row w1 bx 94 #[.int .i64 v0, .int .i64 v1, .int .i64 (k : Nat)] := by rw [hw1, hbx]; exact Row.fresh w _ _
  have HSt := Lib.hid (show ∀ W, Below w1.heap.size w1 W → ((W.cell? ⟨eb, 0, none⟩ = some (.func (.func 63) #[] #[]) ∧ W.cell? ⟨pb, 0, none⟩ = some (ptr gb)) ∧ W.cell? ⟨gb, 1, none⟩ = some (.slice (some ⟨ba, oa, none⟩) l.length c) ∧ W.cell? ⟨ba, oa + k * 3, none⟩ = some (.int .i64 x.1) ∧ W.cell? ⟨ba, oa + k * 3 + 1, none⟩ = some (.int .i64 x.2.1) ∧ W.cell? ⟨ba, oa + k * 3 + 2, none⟩ = some (.int .i64 x.2.2) ∧ W.cell? ⟨bx, 2, none⟩ = some (.int .i64 (k : Nat))) from fun W hW => by
    have hW2 := hb1.trans (hW.mono hb1.size)
    exact ⟨⟨(hW2.cell (block_lt_of_cell he)).trans he, (hW2.cell (block_lt_of_cell hp)).trans hp⟩, (hW2.cell (p := ⟨gb, 1, none⟩) hg.lt).trans (hg.cell 1), (hW2.cell (block_lt_of_cell x0)).trans x0, (hW2.cell (block_lt_of_cell x1)).trans x1, (hW2.cell (block_lt_of_cell x2)).trans x2, (hr1.under hW hr1.lt).cell 2⟩)
  have HB := Lib.hid (show Below w1.heap.size w1 w1.drew from (Below.refl _ _).drew)
  have HB1 := Lib.hid hb1
  have HW := Lib.hid hw1
  have HX := Lib.hid hbx
  clear hg hA he hp x0 x1 x2 hk hb1 hr1 hw1 hbx
  go_enter Tryz.func112, Tryz.ntmps112
  go_upto_region 1 with (fail)
  rw [← HW.out, ← HX.out]
  refine wp_region_held_drew (S := fun W => (W.cell? ⟨eb, 0, none⟩ = some (.func (.func 63) #[] #[]) ∧ W.cell? ⟨pb, 0, none⟩ = some (ptr gb)) ∧ W.cell? ⟨gb, 1, none⟩ = some (.slice (some ⟨ba, oa, none⟩) l.length c) ∧ W.cell? ⟨ba, oa + k * 3, none⟩ = some (.int .i64 x.1) ∧ W.cell? ⟨ba, oa + k * 3 + 1, none⟩ = some (.int .i64 x.2.1) ∧ W.cell? ⟨ba, oa + k * 3 + 2, none⟩ = some (.int .i64 x.2.2) ∧ W.cell? ⟨bx, 2, none⟩ = some (.int .i64 (k : Nat))) (by kernel_rfl) (HSt.out _ HB.out) (fun hHeld => ?_)
  refine wpAnyH_take (i := 0) (oi := ⟨some 5, _, _, _, _, _⟩) (v := ?_) rfl (by kernel_rfl) (by kernel_rfl) (by kernel_rfl) (fun _ _ _ h => h) (Or.inl ⟨by rfl, ?_⟩) hHeld ?_
  rotate_left
  · intro W hSw
    obtain ⟨⟨s0, s1⟩, s2, s3, s4, s5, s6⟩ := hSw
    go_simp
    with_reducible rfl
  simp only [Act.put, List.setIfInBounds_toArray, List.set_cons_zero, List.set_cons_succ]
  refine wpAnyH_take (i := 1) (oi := ⟨some 6, _, _, _, _, _⟩) (v := ?_) rfl (by kernel_rfl) (by kernel_rfl) (by kernel_rfl) (fun _ _ _ h => h) (Or.inl ⟨by rfl, ?_⟩) hHeld ?_
  rotate_left
  · intro W hSw
    obtain ⟨⟨s0, s1⟩, s2, s3, s4, s5, s6⟩ := hSw
    go_simp
    with_reducible rfl
  simp only [Act.put, List.setIfInBounds_toArray, List.set_cons_zero, List.set_cons_succ]
  refine wpAnyH_take (i := 2) (oi := ⟨some 7, _, _, _, _, _⟩) (v := ?_) rfl (by kernel_rfl) (by kernel_rfl) (by kernel_rfl) (fun _ _ _ h => h) (Or.inl ⟨by rfl, ?_⟩) hHeld ?_
  rotate_left
  · intro W hSw
    obtain ⟨⟨s0, s1⟩, s2, s3, s4, s5, s6⟩ := hSw
    go_simp
    with_reducible rfl
  simp only [Act.put, List.setIfInBounds_toArray, List.set_cons_zero, List.set_cons_succ]
  refine wpAnyH_take (i := 3) (oi := ⟨some 8, _, _, _, _, _⟩) (v := ?_) rfl (by kernel_rfl) (by kernel_rfl) (by kernel_rfl) (fun _ _ _ h => h) (Or.inl ⟨by rfl, ?_⟩) hHeld ?_
  rotate_left
  · intro W hSw
    obtain ⟨⟨s0, s1⟩, s2, s3, s4, s5, s6⟩ := hSw
    go_simp
    with_reducible rfl
  simp only [Act.put, List.setIfInBounds_toArray, List.set_cons_zero, List.set_cons_succ]
  refine wpAnyH_take (i := 4) (oi := ⟨some 9, _, _, _, _, _⟩) (v := ?_) rfl (by kernel_rfl) (by kernel_rfl) (by kernel_rfl) (fun _ _ _ h => h) (Or.inl ⟨by rfl, ?_⟩) hHeld ?_
  rotate_left
  · intro W hSw
    obtain ⟨⟨s0, s1⟩, s2, s3, s4, s5, s6⟩ := hSw
    go_simp
    with_reducible rfl
  simp only [Act.put, List.setIfInBounds_toArray, List.set_cons_zero, List.set_cons_succ]
  refine wpAnyH_take (i := 5) (oi := ⟨some 10, _, _, _, _, _⟩) (v := ?_) rfl (by kernel_rfl) (by kernel_rfl) (by kernel_rfl) (fun _ _ _ h => h) (Or.inl ⟨by rfl, ?_⟩) hHeld ?_
  rotate_left
  · intro W hSw
    obtain ⟨⟨s0, s1⟩, s2, s3, s4, s5, s6⟩ := hSw
    go_simp
    with_reducible rfl
  simp only [Act.put, List.setIfInBounds_toArray, List.set_cons_zero, List.set_cons_succ]
  refine wpAnyH_take (i := 6) (oi := ⟨some 11, _, _, _, _, _⟩) (v := ?_) rfl (by kernel_rfl) (by kernel_rfl) (by kernel_rfl) (fun _ _ _ h => h) (Or.inl ⟨by rfl, ?_⟩) hHeld ?_
  rotate_left
  · intro W hSw
    obtain ⟨⟨s0, s1⟩, s2, s3, s4, s5, s6⟩ := hSw
    go_simp
    with_reducible rfl
  simp only [Act.put, List.setIfInBounds_toArray, List.set_cons_zero, List.set_cons_succ]
  refine wpAnyH_take (i := 7) (oi := ⟨some 12, _, _, _, _, _⟩) (v := ?_) rfl (by kernel_rfl) (by kernel_rfl) (by kernel_rfl) (fun _ _ _ h => h) (Or.inl ⟨by rfl, ?_⟩) hHeld ?_
  rotate_left
  · intro W hSw
    obtain ⟨⟨s0, s1⟩, s2, s3, s4, s5, s6⟩ := hSw
    go_simp
    with_reducible rfl
  simp only [Act.put, List.setIfInBounds_toArray, List.set_cons_zero, List.set_cons_succ]
  refine wpAnyH_take (i := 8) (oi := ⟨some 13, _, _, _, _, _⟩) (v := ?_) rfl (by kernel_rfl) (by kernel_rfl) (by kernel_rfl) (fun _ _ _ h => h) (Or.inl ⟨by rfl, ?_⟩) hHeld ?_
  rotate_left
  · intro W hSw
    obtain ⟨⟨s0, s1⟩, s2, s3, s4, s5, s6⟩ := hSw
    go_simp
    with_reducible rfl
  simp only [Act.put, List.setIfInBounds_toArray, List.set_cons_zero, List.set_cons_succ]
  refine wpAnyH_ready (rs := [9]) (by kernel_rfl) (by simp) ?_
  refine (AllReadyH.cons (o := ⟨some 14, _, _, _, _, _⟩) rfl (fun K hK => ?_) AllReadyH.nil)
  go_simp
  refine (to_any x _).mono ?_
  rintro e w2 ⟨rfl, hbx⟩
  have HB2 := Lib.hid (HB.out.trans (hbx.mono HB.out.size))
  have hSn := HSt.out _ HB2.out
  clear hbx
  refine hK.out _ _ hSn (fun hHeld2 => ?_)
  clear hK K hHeld hSn
  have hHeld := hHeld2
  clear hHeld2
  refine wpAnyH_take (i := 10) (oi := ⟨some 4, _, _, _, _, _⟩) (v := ?_) rfl (by kernel_rfl) (by kernel_rfl) (by kernel_rfl) (fun _ _ _ h => h) (Or.inl ⟨by rfl, ?_⟩) hHeld ?_
  rotate_left
  · intro W hSw
    obtain ⟨⟨s0, s1⟩, s2, s3, s4, s5, s6⟩ := hSw
    go_simp
    with_reducible rfl
  simp only [Act.put, List.setIfInBounds_toArray, List.set_cons_zero, List.set_cons_succ]
  refine wpAnyH_done (by kernel_rfl) ?_ _
  go_wp2
  go_ret
  exact ⟨rfl, HB1.out.trans (HB2.out.mono HB1.out.size)⟩
end Go.Proofs.YtdkpdmpghibmmaaGreat
