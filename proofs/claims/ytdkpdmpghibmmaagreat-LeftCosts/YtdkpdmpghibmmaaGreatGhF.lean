/- graph.sameEnds (written by mksame.py). -/
import Derived.Test.YtdkpdmpghibmmaaGreatGhE
namespace Go.Proofs.YtdkpdmpghibmmaaGreat
open Go.RowKit Go.Shelf Grm Lay
attribute [local go_sem] Oper.semAt_some

/-- Whether two arcs go from the same place to the same place. -/
def sameE (l : List Ar) (j k : Nat) : Bool := decide ((l[j]?.getD (0, 0, 0)).1 = (l[k]?.getD (0, 0, 0)).1) && decide ((l[j]?.getD (0, 0, 0)).2.1 = (l[k]?.getD (0, 0, 0)).2.1)
set_option maxRecDepth 100000 in
set_option maxHeartbeats 4000000 in
theorem same_any {w : World} {gb n : Nat} {a : Option Addr} {l : List Ar} {c : Nat} {oi oc ii ic : Value} {j k : Nat} (hg : Gb w gb n a l c oi oc ii ic) (hA : Arcs w a l) (hj : j < l.length) (hk : k < l.length) :
    Calls Tryz.prog 132 #[ptr gb, .int .i64 (j : Nat), .int .i64 (k : Nat)] w fun e w' => e = .returned (.bool (sameE l j k)) ∧ Below w.heap.size w w' := by
  obtain ⟨ba, oa, ha1, x0, x1, x2⟩ := hA.at_ hj
  subst ha1
  obtain ⟨ba', oa', ha1, y0, y1, y2⟩ := hA.at_ hk
  cases ha1
  have hj' : (j : Int) < (l.length : Int) := by omega
  have hk' : (k : Int) < (l.length : Int) := by omega
  have hse : sameE l j k = (decide ((l[j]'hj).1 = (l[k]'hk).1) && decide ((l[j]'hj).2.1 = (l[k]'hk).2.1)) := by
    unfold sameE
    rw [List.getElem?_eq_getElem hj, List.getElem?_eq_getElem hk]
    rfl
  rw [hse]
  clear hse
  generalize l[j]'hj = x at *
  generalize l[k]'hk = y at *
  have HSt := Lib.hid (show ∀ W, Below w.heap.size w W → (W.cell? ⟨gb, 1, none⟩ = some (.slice (some ⟨ba, oa, none⟩) l.length c) ∧ (W.cell? ⟨ba, oa + j * 3, none⟩ = some (.int .i64 x.1) ∧ W.cell? ⟨ba, oa + j * 3 + 1, none⟩ = some (.int .i64 x.2.1) ∧ W.cell? ⟨ba, oa + j * 3 + 2, none⟩ = some (.int .i64 x.2.2)) ∧ W.cell? ⟨ba, oa + k * 3, none⟩ = some (.int .i64 y.1) ∧ W.cell? ⟨ba, oa + k * 3 + 1, none⟩ = some (.int .i64 y.2.1) ∧ W.cell? ⟨ba, oa + k * 3 + 2, none⟩ = some (.int .i64 y.2.2)) from fun W hW => ⟨(hW.cell (p := ⟨gb, 1, none⟩) (Row.lt hg)).trans (Row.cell hg 1), ⟨(hW.cell (block_lt_of_cell x0)).trans x0, (hW.cell (block_lt_of_cell x1)).trans x1, (hW.cell (block_lt_of_cell x2)).trans x2⟩, (hW.cell (block_lt_of_cell y0)).trans y0, (hW.cell (block_lt_of_cell y1)).trans y1, (hW.cell (block_lt_of_cell y2)).trans y2⟩)
  clear hg hA hj hk x0 x1 x2 y0 y1 y2
  go_enter Tryz.func132, Tryz.ntmps132
  go_upto_region 1 with (fail)
  go_cut [7, 8] from 9 to 22 (fun p q wx => ∃ b1 b2, p = ptr b1 ∧ q = ptr b2 ∧ Below w.heap.size w wx ∧ Row wx b1 88 #[.int .i64 x.1, .int .i64 x.2.1, .int .i64 x.2.2] ∧ Row wx b2 88 #[.int .i64 y.1, .int .i64 y.2.1, .int .i64 y.2.2])
  case first =>
    refine wp_region_held_drew (S := fun W => W.cell? ⟨gb, 1, none⟩ = some (.slice (some ⟨ba, oa, none⟩) l.length c) ∧ (W.cell? ⟨ba, oa + j * 3, none⟩ = some (.int .i64 x.1) ∧ W.cell? ⟨ba, oa + j * 3 + 1, none⟩ = some (.int .i64 x.2.1) ∧ W.cell? ⟨ba, oa + j * 3 + 2, none⟩ = some (.int .i64 x.2.2)) ∧ W.cell? ⟨ba, oa + k * 3, none⟩ = some (.int .i64 y.1) ∧ W.cell? ⟨ba, oa + k * 3 + 1, none⟩ = some (.int .i64 y.2.1) ∧ W.cell? ⟨ba, oa + k * 3 + 2, none⟩ = some (.int .i64 y.2.2)) (by kernel_rfl) (HSt.out _ (Below.refl _ _).drew) (fun hHeld => ?_)
    refine wpAnyH_take (i := 0) (oi := ⟨some 9, _, _, _, _, _⟩) (v := ?_) rfl (by kernel_rfl) (by kernel_rfl) (by kernel_rfl) (fun _ _ _ h => h) (Or.inl ⟨by rfl, ?_⟩) hHeld ?_
    rotate_left
    · intro W hSw
      obtain ⟨s0, ⟨s1, s2, s3⟩, s4, s5, s6⟩ := hSw
      go_simp
      with_reducible rfl
    simp only [Act.put, List.setIfInBounds_toArray, List.set_cons_zero, List.set_cons_succ]
    refine wpAnyH_take (i := 1) (oi := ⟨some 10, _, _, _, _, _⟩) (v := ?_) rfl (by kernel_rfl) (by kernel_rfl) (by kernel_rfl) (fun _ _ _ h => h) (Or.inl ⟨by rfl, ?_⟩) hHeld ?_
    rotate_left
    · intro W hSw
      obtain ⟨s0, ⟨s1, s2, s3⟩, s4, s5, s6⟩ := hSw
      go_simp
      with_reducible rfl
    simp only [Act.put, List.setIfInBounds_toArray, List.set_cons_zero, List.set_cons_succ]
    refine wpAnyH_take (i := 2) (oi := ⟨some 11, _, _, _, _, _⟩) (v := ?_) rfl (by kernel_rfl) (by kernel_rfl) (by kernel_rfl) (fun _ _ _ h => h) (Or.inl ⟨by rfl, ?_⟩) hHeld ?_
    rotate_left
    · intro W hSw
      obtain ⟨s0, ⟨s1, s2, s3⟩, s4, s5, s6⟩ := hSw
      go_simp
      with_reducible rfl
    simp only [Act.put, List.setIfInBounds_toArray, List.set_cons_zero, List.set_cons_succ]
    refine wpAnyH_take (i := 3) (oi := ⟨some 12, _, _, _, _, _⟩) (v := ?_) rfl (by kernel_rfl) (by kernel_rfl) (by kernel_rfl) (fun _ _ _ h => h) (Or.inl ⟨by rfl, ?_⟩) hHeld ?_
    rotate_left
    · intro W hSw
      obtain ⟨s0, ⟨s1, s2, s3⟩, s4, s5, s6⟩ := hSw
      go_simp
      with_reducible rfl
    simp only [Act.put, List.setIfInBounds_toArray, List.set_cons_zero, List.set_cons_succ]
    refine wpAnyH_take (i := 4) (oi := ⟨some 13, _, _, _, _, _⟩) (v := ?_) rfl (by kernel_rfl) (by kernel_rfl) (by kernel_rfl) (fun _ _ _ h => h) (Or.inl ⟨by rfl, ?_⟩) hHeld ?_
    rotate_left
    · intro W hSw
      obtain ⟨s0, ⟨s1, s2, s3⟩, s4, s5, s6⟩ := hSw
      go_simp
      with_reducible rfl
    simp only [Act.put, List.setIfInBounds_toArray, List.set_cons_zero, List.set_cons_succ]
    refine wpAnyH_take (i := 5) (oi := ⟨some 14, _, _, _, _, _⟩) (v := ?_) rfl (by kernel_rfl) (by kernel_rfl) (by kernel_rfl) (fun _ _ _ h => h) (Or.inl ⟨by rfl, ?_⟩) hHeld ?_
    rotate_left
    · intro W hSw
      obtain ⟨s0, ⟨s1, s2, s3⟩, s4, s5, s6⟩ := hSw
      go_simp
      with_reducible rfl
    simp only [Act.put, List.setIfInBounds_toArray, List.set_cons_zero, List.set_cons_succ]
    refine wpAnyH_take (i := 6) (oi := ⟨some 15, _, _, _, _, _⟩) (v := ?_) rfl (by kernel_rfl) (by kernel_rfl) (by kernel_rfl) (fun _ _ _ h => h) (Or.inl ⟨by rfl, ?_⟩) hHeld ?_
    rotate_left
    · intro W hSw
      obtain ⟨s0, ⟨s1, s2, s3⟩, s4, s5, s6⟩ := hSw
      go_simp
      with_reducible rfl
    simp only [Act.put, List.setIfInBounds_toArray, List.set_cons_zero, List.set_cons_succ]
    refine wpAnyH_take (i := 7) (oi := ⟨some 16, _, _, _, _, _⟩) (v := ?_) rfl (by kernel_rfl) (by kernel_rfl) (by kernel_rfl) (fun _ _ _ h => h) (Or.inl ⟨by rfl, ?_⟩) hHeld ?_
    rotate_left
    · intro W hSw
      obtain ⟨s0, ⟨s1, s2, s3⟩, s4, s5, s6⟩ := hSw
      go_simp
      with_reducible rfl
    simp only [Act.put, List.setIfInBounds_toArray, List.set_cons_zero, List.set_cons_succ]
    refine wpAnyH_take (i := 8) (oi := ⟨some 17, _, _, _, _, _⟩) (v := ?_) rfl (by kernel_rfl) (by kernel_rfl) (by kernel_rfl) (fun _ _ _ h => h) (Or.inl ⟨by rfl, ?_⟩) hHeld ?_
    rotate_left
    · intro W hSw
      obtain ⟨s0, ⟨s1, s2, s3⟩, s4, s5, s6⟩ := hSw
      go_simp
      with_reducible rfl
    simp only [Act.put, List.setIfInBounds_toArray, List.set_cons_zero, List.set_cons_succ]
    refine wpAnyH_take (i := 9) (oi := ⟨some 18, _, _, _, _, _⟩) (v := ?_) rfl (by kernel_rfl) (by kernel_rfl) (by kernel_rfl) (fun _ _ _ h => h) (Or.inl ⟨by rfl, ?_⟩) hHeld ?_
    rotate_left
    · intro W hSw
      obtain ⟨s0, ⟨s1, s2, s3⟩, s4, s5, s6⟩ := hSw
      go_simp
      with_reducible rfl
    simp only [Act.put, List.setIfInBounds_toArray, List.set_cons_zero, List.set_cons_succ]
    refine wpAnyH_take (i := 10) (oi := ⟨some 19, _, _, _, _, _⟩) (v := ?_) rfl (by kernel_rfl) (by kernel_rfl) (by kernel_rfl) (fun _ _ _ h => h) (Or.inl ⟨by rfl, ?_⟩) hHeld ?_
    rotate_left
    · intro W hSw
      obtain ⟨s0, ⟨s1, s2, s3⟩, s4, s5, s6⟩ := hSw
      go_simp
      with_reducible rfl
    simp only [Act.put, List.setIfInBounds_toArray, List.set_cons_zero, List.set_cons_succ]
    refine wpAnyH_take (i := 11) (oi := ⟨some 20, _, _, _, _, _⟩) (v := ?_) rfl (by kernel_rfl) (by kernel_rfl) (by kernel_rfl) (fun _ _ _ h => h) (Or.inl ⟨by rfl, ?_⟩) hHeld ?_
    rotate_left
    · intro W hSw
      obtain ⟨s0, ⟨s1, s2, s3⟩, s4, s5, s6⟩ := hSw
      go_simp
      with_reducible rfl
    simp only [Act.put, List.setIfInBounds_toArray, List.set_cons_zero, List.set_cons_succ]
    refine wpAnyH_take (i := 12) (oi := ⟨some 21, _, _, _, _, _⟩) (v := ?_) rfl (by kernel_rfl) (by kernel_rfl) (by kernel_rfl) (fun _ _ _ h => h) (Or.inl ⟨by rfl, ?_⟩) hHeld ?_
    rotate_left
    · intro W hSw
      obtain ⟨s0, ⟨s1, s2, s3⟩, s4, s5, s6⟩ := hSw
      go_simp
      with_reducible rfl
    simp only [Act.put, List.setIfInBounds_toArray, List.set_cons_zero, List.set_cons_succ]
    refine wpAnyH_take (i := 13) (oi := ⟨some 22, _, _, _, _, _⟩) (v := ?_) rfl (by kernel_rfl) (by kernel_rfl) (by kernel_rfl) (fun _ _ _ h => h) (Or.inl ⟨by rfl, ?_⟩) hHeld ?_
    rotate_left
    · intro W hSw
      obtain ⟨s0, ⟨s1, s2, s3⟩, s4, s5, s6⟩ := hSw
      go_simp
      with_reducible rfl
    simp only [Act.put, List.setIfInBounds_toArray, List.set_cons_zero, List.set_cons_succ]
    refine wpAnyH_ready (rs := [14, 15]) (by kernel_rfl) (by simp) ?_
    refine (AllReadyH.cons (o := ⟨some 7, _, _, _, _, _⟩) rfl (fun K hK => ?_) (AllReadyH.cons (o := ⟨some 8, _, _, _, _, _⟩) rfl (fun K hK => ?_) AllReadyH.nil))
    · skip
      go_simp
      refine hK.out _ _ (HSt.out _ (by first | exact ((Below.refl _ _).alloc (Nat.le_refl _) _).drew | exact (((Below.refl _ _).alloc (Nat.le_refl _) _).alloc (by simp) _).drew)) (fun hHeld2 => ?_)
      clear hK K hHeld
      have hHeld := hHeld2
      clear hHeld2
      try simp only [Act.put, List.setIfInBounds_toArray, List.set_cons_zero, List.set_cons_succ]
      refine wpAnyH_ready (rs := [15]) (by kernel_rfl) (by simp) ?_
      refine (AllReadyH.cons (o := ⟨some 8, _, _, _, _, _⟩) rfl (fun K hK => ?_) AllReadyH.nil)
      go_simp
      refine hK.out _ _ (HSt.out _ (by first | exact ((Below.refl _ _).alloc (Nat.le_refl _) _).drew | exact (((Below.refl _ _).alloc (Nat.le_refl _) _).alloc (by simp) _).drew)) (fun hHeld2 => ?_)
      clear hK K hHeld
      have hHeld := hHeld2
      clear hHeld2
      try simp only [Act.put, List.setIfInBounds_toArray, List.set_cons_zero, List.set_cons_succ]
      refine wpAnyH_ready (rs := [16]) (by kernel_rfl) (by simp) ?_
      refine (AllReadyH.cons (o := ⟨none, _, _, _, _, _⟩) rfl (fun K hK => ?_) AllReadyH.nil)
      have g7 : Row ((w.alloc (.cells #[.int .i64 0, .int .i64 0, .int .i64 0] 88)).alloc (.cells #[.int .i64 0, .int .i64 0, .int .i64 0] 88)) (w.heap.size) 88 #[.int .i64 0, .int .i64 0, .int .i64 0] := by
        have := (Row.fresh w 88 #[.int .i64 0, .int .i64 0, .int .i64 0]).past (.cells #[.int .i64 0, .int .i64 0, .int .i64 0] 88)
        exact this
      have m0 := g7.thaw 0
      have m1 := g7.thaw 1
      have m2 := g7.thaw 2
      have z0 := g7.cell 0
      have z1 := g7.cell 1
      have z2 := g7.cell 2
      simp only [List.getElem?_toArray, List.getElem?_cons_zero, List.getElem?_cons_succ, Nat.add_zero] at z0 z1 z2 m0 m1 m2
      clear g7
      go_simp
      refine hK.out _ _ (HSt.out _ (by first | exact ((Below.refl _ _).alloc (Nat.le_refl _) _).drew | exact (((Below.refl _ _).alloc (Nat.le_refl _) _).alloc (by simp) _).drew)) (fun hHeld2 => ?_)
      clear hK K hHeld
      have hHeld := hHeld2
      clear hHeld2
      clear m0 m1 m2 z0 z1 z2
      refine wpAnyH_ready (rs := [17]) (by kernel_rfl) (by simp) ?_
      refine (AllReadyH.cons (o := ⟨none, _, _, _, _, _⟩) rfl (fun K hK => ?_) AllReadyH.nil)
      have g7 : Row ((w.alloc (.cells #[.int .i64 x.1, .int .i64 x.2.1, .int .i64 x.2.2] 88)).alloc (.cells #[.int .i64 0, .int .i64 0, .int .i64 0] 88)) (w.heap.size + 1) 88 #[.int .i64 0, .int .i64 0, .int .i64 0] := by
        have := Row.fresh (w.alloc (.cells #[.int .i64 x.1, .int .i64 x.2.1, .int .i64 x.2.2] 88)) 88 #[.int .i64 0, .int .i64 0, .int .i64 0]
        rw [World.size_alloc] at this
        exact this
      have m0 := g7.thaw 0
      have m1 := g7.thaw 1
      have m2 := g7.thaw 2
      have z0 := g7.cell 0
      have z1 := g7.cell 1
      have z2 := g7.cell 2
      simp only [List.getElem?_toArray, List.getElem?_cons_zero, List.getElem?_cons_succ, Nat.add_zero] at z0 z1 z2 m0 m1 m2
      clear g7
      go_simp
      refine hK.out _ _ (HSt.out _ (by first | exact ((Below.refl _ _).alloc (Nat.le_refl _) _).drew | exact (((Below.refl _ _).alloc (Nat.le_refl _) _).alloc (by simp) _).drew)) (fun hHeld2 => ?_)
      clear hK K hHeld
      have hHeld := hHeld2
      clear hHeld2
      clear m0 m1 m2 z0 z1 z2
      refine wpAnyH_done (by kernel_rfl) ?_ _
      go_wp2_with fail
      go_meet
      have r1 : Row ((w.alloc (.cells #[.int .i64 x.1, .int .i64 x.2.1, .int .i64 x.2.2] 88)).alloc (.cells #[.int .i64 y.1, .int .i64 y.2.1, .int .i64 y.2.2] 88)) (w.heap.size) 88 #[.int .i64 x.1, .int .i64 x.2.1, .int .i64 x.2.2] := by
        have := (Row.fresh w 88 #[.int .i64 x.1, .int .i64 x.2.1, .int .i64 x.2.2]).past (.cells #[.int .i64 y.1, .int .i64 y.2.1, .int .i64 y.2.2] 88)
        exact this
      have r2 : Row ((w.alloc (.cells #[.int .i64 x.1, .int .i64 x.2.1, .int .i64 x.2.2] 88)).alloc (.cells #[.int .i64 y.1, .int .i64 y.2.1, .int .i64 y.2.2] 88)) (w.heap.size + 1) 88 #[.int .i64 y.1, .int .i64 y.2.1, .int .i64 y.2.2] := by
        have := Row.fresh (w.alloc (.cells #[.int .i64 x.1, .int .i64 x.2.1, .int .i64 x.2.2] 88)) 88 #[.int .i64 y.1, .int .i64 y.2.1, .int .i64 y.2.2]
        rw [World.size_alloc] at this
        exact this
      refine ⟨w.heap.size, w.heap.size + 1, rfl, rfl, (((Below.refl w.heap.size w).alloc (Nat.le_refl _) _).alloc (by simp) _).drew, r1, r2⟩
    · skip
      go_simp
      refine hK.out _ _ (HSt.out _ (by first | exact ((Below.refl _ _).alloc (Nat.le_refl _) _).drew | exact (((Below.refl _ _).alloc (Nat.le_refl _) _).alloc (by simp) _).drew)) (fun hHeld2 => ?_)
      clear hK K hHeld
      have hHeld := hHeld2
      clear hHeld2
      try simp only [Act.put, List.setIfInBounds_toArray, List.set_cons_zero, List.set_cons_succ]
      refine wpAnyH_ready (rs := [14]) (by kernel_rfl) (by simp) ?_
      refine (AllReadyH.cons (o := ⟨some 7, _, _, _, _, _⟩) rfl (fun K hK => ?_) AllReadyH.nil)
      go_simp
      refine hK.out _ _ (HSt.out _ (by first | exact ((Below.refl _ _).alloc (Nat.le_refl _) _).drew | exact (((Below.refl _ _).alloc (Nat.le_refl _) _).alloc (by simp) _).drew)) (fun hHeld2 => ?_)
      clear hK K hHeld
      have hHeld := hHeld2
      clear hHeld2
      try simp only [Act.put, List.setIfInBounds_toArray, List.set_cons_zero, List.set_cons_succ]
      refine wpAnyH_ready (rs := [16]) (by kernel_rfl) (by simp) ?_
      refine (AllReadyH.cons (o := ⟨none, _, _, _, _, _⟩) rfl (fun K hK => ?_) AllReadyH.nil)
      have g7 : Row ((w.alloc (.cells #[.int .i64 0, .int .i64 0, .int .i64 0] 88)).alloc (.cells #[.int .i64 0, .int .i64 0, .int .i64 0] 88)) (w.heap.size + 1) 88 #[.int .i64 0, .int .i64 0, .int .i64 0] := by
        have := Row.fresh (w.alloc (.cells #[.int .i64 0, .int .i64 0, .int .i64 0] 88)) 88 #[.int .i64 0, .int .i64 0, .int .i64 0]
        rw [World.size_alloc] at this
        exact this
      have m0 := g7.thaw 0
      have m1 := g7.thaw 1
      have m2 := g7.thaw 2
      have z0 := g7.cell 0
      have z1 := g7.cell 1
      have z2 := g7.cell 2
      simp only [List.getElem?_toArray, List.getElem?_cons_zero, List.getElem?_cons_succ, Nat.add_zero] at z0 z1 z2 m0 m1 m2
      clear g7
      go_simp
      refine hK.out _ _ (HSt.out _ (by first | exact ((Below.refl _ _).alloc (Nat.le_refl _) _).drew | exact (((Below.refl _ _).alloc (Nat.le_refl _) _).alloc (by simp) _).drew)) (fun hHeld2 => ?_)
      clear hK K hHeld
      have hHeld := hHeld2
      clear hHeld2
      clear m0 m1 m2 z0 z1 z2
      refine wpAnyH_ready (rs := [17]) (by kernel_rfl) (by simp) ?_
      refine (AllReadyH.cons (o := ⟨none, _, _, _, _, _⟩) rfl (fun K hK => ?_) AllReadyH.nil)
      have g7 : Row ((w.alloc (.cells #[.int .i64 0, .int .i64 0, .int .i64 0] 88)).alloc (.cells #[.int .i64 x.1, .int .i64 x.2.1, .int .i64 x.2.2] 88)) (w.heap.size) 88 #[.int .i64 0, .int .i64 0, .int .i64 0] := by
        have := (Row.fresh w 88 #[.int .i64 0, .int .i64 0, .int .i64 0]).past (.cells #[.int .i64 x.1, .int .i64 x.2.1, .int .i64 x.2.2] 88)
        exact this
      have m0 := g7.thaw 0
      have m1 := g7.thaw 1
      have m2 := g7.thaw 2
      have z0 := g7.cell 0
      have z1 := g7.cell 1
      have z2 := g7.cell 2
      simp only [List.getElem?_toArray, List.getElem?_cons_zero, List.getElem?_cons_succ, Nat.add_zero] at z0 z1 z2 m0 m1 m2
      clear g7
      go_simp
      refine hK.out _ _ (HSt.out _ (by first | exact ((Below.refl _ _).alloc (Nat.le_refl _) _).drew | exact (((Below.refl _ _).alloc (Nat.le_refl _) _).alloc (by simp) _).drew)) (fun hHeld2 => ?_)
      clear hK K hHeld
      have hHeld := hHeld2
      clear hHeld2
      clear m0 m1 m2 z0 z1 z2
      refine wpAnyH_done (by kernel_rfl) ?_ _
      go_wp2_with fail
      go_meet
      have r1 : Row ((w.alloc (.cells #[.int .i64 y.1, .int .i64 y.2.1, .int .i64 y.2.2] 88)).alloc (.cells #[.int .i64 x.1, .int .i64 x.2.1, .int .i64 x.2.2] 88)) (w.heap.size + 1) 88 #[.int .i64 x.1, .int .i64 x.2.1, .int .i64 x.2.2] := by
        have := Row.fresh (w.alloc (.cells #[.int .i64 y.1, .int .i64 y.2.1, .int .i64 y.2.2] 88)) 88 #[.int .i64 x.1, .int .i64 x.2.1, .int .i64 x.2.2]
        rw [World.size_alloc] at this
        exact this
      have r2 : Row ((w.alloc (.cells #[.int .i64 y.1, .int .i64 y.2.1, .int .i64 y.2.2] 88)).alloc (.cells #[.int .i64 x.1, .int .i64 x.2.1, .int .i64 x.2.2] 88)) (w.heap.size) 88 #[.int .i64 y.1, .int .i64 y.2.1, .int .i64 y.2.2] := by
        have := (Row.fresh w 88 #[.int .i64 y.1, .int .i64 y.2.1, .int .i64 y.2.2]).past (.cells #[.int .i64 x.1, .int .i64 x.2.1, .int .i64 x.2.2] 88)
        exact this
      refine ⟨w.heap.size + 1, w.heap.size, rfl, rfl, (((Below.refl w.heap.size w).alloc (Nat.le_refl _) _).alloc (by simp) _).drew, r1, r2⟩
  case rest =>
    obtain ⟨b1, b2, rfl, rfl, hb, h1, h2⟩ := hcut
    have p0 := h1.cell 0
    have p1 := h1.cell 1
    have q0 := h2.cell 0
    have q1 := h2.cell 1
    simp only [List.getElem?_toArray, List.getElem?_cons_zero, List.getElem?_cons_succ] at p0 p1 q0 q1
    have HB := Lib.hid hb
    clear h1 h2 hb
    by_cases hxy : x.1 = y.1
    · go_wp2
      go_ret
      exact ⟨by by_cases h2 : x.2.1 = y.2.1 <;> simp [hxy, h2], HB.out⟩
    · go_wp2
      go_ret
      exact ⟨by by_cases h2 : x.2.1 = y.2.1 <;> simp [hxy, h2], HB.out⟩
end Go.Proofs.YtdkpdmpghibmmaaGreat
