/- graph.lay of numbers (written by mklay.py). -/
import Derived.Test.YtdkpdmpghibmmaaGreatGhBw
import Derived.Test.YtdkpdmpghibmmaaGreatRound
namespace Go.Proofs.YtdkpdmpghibmmaaGreat
open Go.RowKit Go.Shelf Grm Lay
attribute [local go_sem] Oper.semAt_some

/-- Between two rounds of the last loop. -/
def LayII (w : World) (xs : List Nat) (p : Nat → Nat) (n ib cb rb eb pb : Nat) (pre : List Nat) (_ : Foot) (W : World) : Prop :=
  ∃ R, pre.length ≤ xs.length ∧ Row W cb 3 (cellsF n (fun i => lt p i xs + cnt p i (xs.take (xs.length - pre.length)))) ∧ Row W ib 3 (nsV R) ∧ Fill p n xs (xs.length - pre.length) R ∧ Row W rb 162 #[.slice (some ⟨ib, 0, none⟩) xs.length xs.length, .slice (some ⟨cb, 0, none⟩) (n + 1) (n + 1)] ∧
    Row W w.heap.size 61 #[.func (.func 110) #[] #[ptr eb, ptr pb]] ∧ Row W (w.heap.size + 1) 162 #[.slice none 0 0, .slice none 0 0] ∧ Below w.heap.size w W
theorem LayII.abide {w : World} {xs : List Nat} {p : Nat → Nat} {n ib cb rb eb pb B : Nat} (h : cb < B ∧ ib < B ∧ rb < B ∧ w.heap.size + 1 < B) : Abide B (LayII w xs p n ib cb rb eb pb) := by
  rintro pre T A A' ⟨R, h0, h1, h2, h3, h4, h5, h6, h7⟩ _ ho
  exact ⟨R, h0, h1.only ho (by omega), h2.only ho (by omega), h3, h4.only ho (by omega), h5.only ho (by omega), h6.only ho (by omega), h7.trans (ho.below (K := w.heap.size) (fun k q => by omega) h7.size)⟩
set_option maxRecDepth 100000 in
set_option maxHeartbeats 4000000 in
theorem layI_any (n : Nat) (xs : List Nat) (p : Nat → Nat) (sb c eb pb : Nat) (w : World) (hs : Row w sb 3 (nsV xs)) (hp : ∀ x ∈ xs, p x < n)
    (HP : Hid (∀ W, Below w.heap.size w W → ∀ x ∈ xs, Calls Tryz.prog 110 #[.int .i64 (x : Nat), ptr eb, ptr pb] W fun e W' => e = .returned (.int .i64 (p x : Nat)) ∧ Below W.heap.size W W')) (hn : n ≤ 16777216) (hl : xs.length ≤ 67108864) :
    Calls Tryz.prog 109 #[.int .i64 (n : Nat), .slice (some ⟨sb, 0, none⟩) xs.length c, .func (.func 110) #[] #[ptr eb, ptr pb]] w fun e w' => Below w.heap.size w w' ∧
      ∃ ib cb, e = .returned (.agg #[.slice (some ⟨ib, 0, none⟩) xs.length xs.length, .slice (some ⟨cb, 0, none⟩) (n + 1) (n + 1)]) ∧ w.heap.size ≤ ib ∧ w.heap.size ≤ cb ∧ Row w' ib 3 (nsV (layL p n xs)) ∧ Row w' cb 3 (cellsF n (fun i => lt p i xs)) := by
  have i1 : (n : Int) ≤ 16777216 := by omega
  have i2 : (xs.length : Int) ≤ 67108864 := by omega
  have HS := Lib.hid hs
  have HPn := Lib.hid hp
  have HNL := Lib.hid (And.intro hn hl)
  have hw0 : IntKind.i64.wrap ((n : Int) + 1) = (n : Int) + 1 := by rw [IntKind.wrap_i64]; omega
  clear hs hp hn hl
  refine (callsIn_wide (n := 6)).1 ?_
  refine callsIn_of_wp_marks Tryz.func109 rfl trivial ?_ rfl
  simp only [Tryz.ntmps109, List.size_toArray, List.length_cons, List.length_nil, Nat.reduceAdd, Nat.reduceSub, Array.replicate_succ, Array.replicate_zero, List.push_toArray, List.append_toArray, List.nil_append, List.cons_append]
  refine wpIn_mono ?_ noP_le
  rw [wpIn_wide]
  go_upto_region 1 with (fail)
  obtain ⟨wA, hwA⟩ : ∃ wA, wA = ((w.alloc (.cells #[.func (.func 110) #[] #[ptr eb, ptr pb]] 61)).alloc (.cells #[.slice none 0 0, .slice none 0 0] 162)) := ⟨_, rfl⟩
  have hA : Below w.heap.size w wA := by rw [hwA]; exact ((Below.refl _ _).alloc (Nat.le_refl _) _).alloc (by simp) _
  have hF : Row wA w.heap.size 61 #[.func (.func 110) #[] #[ptr eb, ptr pb]] := by rw [hwA]; exact (Row.fresh w _ _).past _
  have hR : Row wA (w.heap.size + 1) 162 #[.slice none 0 0, .slice none 0 0] := by
    rw [hwA]
    have := Row.fresh (w.alloc (.cells #[.func (.func 110) #[] #[ptr eb, ptr pb]] 61)) 162 #[.slice none 0 0, .slice none 0 0]
    rwa [World.size_alloc] at this
  have hsA : wA.heap.size = w.heap.size + 2 := by rw [hwA]; simp
  rw [← hwA]
  have HA := Lib.hid (And.intro hA (And.intro hF (And.intro hR hsA)))
  clear hwA hA hF hR hsA
  go_cut [7] from 14 to 20 (fun r wx => ∃ ib cb rb, r = ptr rb ∧ Row wx ib 3 (nsV (List.replicate xs.length 0)) ∧ Row wx cb 3 (cellsF n (fun _ => 0)) ∧ Row wx rb 162 #[.slice (some ⟨ib, 0, none⟩) xs.length xs.length, .slice (some ⟨cb, 0, none⟩) (n + 1) (n + 1)] ∧ Below wA.heap.size wA wx ∧ wA.heap.size ≤ ib ∧ wA.heap.size ≤ cb ∧ wA.heap.size ≤ rb ∧ ib ≠ cb ∧ ib ≠ rb ∧ cb ≠ rb)
  case first =>
    refine wp_region_held_drew (S := fun _ => True) (by kernel_rfl) trivial (fun _ => ?_)
    refine wpAnyH_take (i := 0) (oi := ⟨some 14, _, _, _, _, _⟩) (v := ?_) rfl (by kernel_rfl) (by kernel_rfl) (by kernel_rfl) (fun _ _ _ h => h) (Or.inl ⟨by rfl, ?_⟩) trivial ?_
    rotate_left
    · intro W _
      go_simp
      with_reducible rfl
    simp only [Act.put, List.setIfInBounds_toArray, List.set_cons_zero, List.set_cons_succ]
    refine wpAnyH_take (i := 1) (oi := ⟨some 15, _, _, _, _, _⟩) (v := ?_) rfl (by kernel_rfl) (by kernel_rfl) (by kernel_rfl) (fun _ _ _ h => h) (Or.inl ⟨by rfl, ?_⟩) trivial ?_
    rotate_left
    · intro W _
      go_simp
      with_reducible rfl
    simp only [Act.put, List.setIfInBounds_toArray, List.set_cons_zero, List.set_cons_succ]
    refine wpAnyH_take (i := 3) (oi := ⟨some 17, _, _, _, _, _⟩) (v := ?_) rfl (by kernel_rfl) (by kernel_rfl) (by kernel_rfl) (fun _ _ _ h => h) (Or.inl ⟨by rfl, ?_⟩) trivial ?_
    rotate_left
    · intro W _
      go_simp
      with_reducible rfl
    simp only [Act.put, List.setIfInBounds_toArray, List.set_cons_zero, List.set_cons_succ]
    refine wpAnyH_take (i := 4) (oi := ⟨some 18, _, _, _, _, _⟩) (v := ?_) rfl (by kernel_rfl) (by kernel_rfl) (by kernel_rfl) (fun _ _ _ h => h) (Or.inl ⟨by rfl, ?_⟩) trivial ?_
    rotate_left
    · intro W _
      go_simp
      with_reducible rfl
    simp only [Act.put, List.setIfInBounds_toArray, List.set_cons_zero, List.set_cons_succ]
    refine wpAnyH_ready (rs := [2, 5, 7]) (by kernel_rfl) (by simp) ?_
    refine (AllReadyH.cons (o := ⟨some 16, _, _, _, _, _⟩) rfl (fun K hK => ?_) (AllReadyH.cons (o := ⟨some 19, _, _, _, _, _⟩) rfl (fun K hK => ?_) (AllReadyH.cons (o := ⟨some 7, _, _, _, _, _⟩) rfl (fun K hK => ?_) AllReadyH.nil)))
    · skip
      refine step_makeI rfl (.tmp 15) (.tmp 15) rfl _ xs.length rfl rfl rfl (by omega) ?_
      refine hK.out _ _ trivial (fun _ => ?_)
      clear hK K
      simp only [Act.put, List.setIfInBounds_toArray, List.set_cons_zero, List.set_cons_succ]
      refine wpAnyH_ready (rs := [5, 7]) (by kernel_rfl) (by simp) ?_
      refine (AllReadyH.cons (o := ⟨some 19, _, _, _, _, _⟩) rfl (fun K hK => ?_) (AllReadyH.cons (o := ⟨some 7, _, _, _, _, _⟩) rfl (fun K hK => ?_) AllReadyH.nil))
      · skip
        refine step_makeI rfl (.tmp 18) (.tmp 18) rfl _ (n + 1) rfl rfl (by omega) (by omega) ?_
        refine hK.out _ _ trivial (fun _ => ?_)
        clear hK K
        simp only [Act.put, List.setIfInBounds_toArray, List.set_cons_zero, List.set_cons_succ]
        refine wpAnyH_take (i := 6) (oi := ⟨some 20, _, _, _, _, _⟩) (v := ?_) rfl (by kernel_rfl) (by kernel_rfl) (by kernel_rfl) (fun _ _ _ h => h) (Or.inl ⟨by rfl, ?_⟩) trivial ?_
        rotate_left
        · intro W _
          go_simp
          with_reducible rfl
        simp only [Act.put, List.setIfInBounds_toArray, List.set_cons_zero, List.set_cons_succ]
        refine wpAnyH_ready (rs := [7]) (by kernel_rfl) (by simp) ?_
        refine (AllReadyH.cons (o := ⟨some 7, _, _, _, _, _⟩) rfl (fun K hK => ?_) AllReadyH.nil)
        go_simp
        refine hK.out _ _ trivial (fun _ => ?_)
        clear hK K
        have g7 : Row (((wA.alloc (.cells (nsV (List.replicate xs.length 0)) 3)).alloc (.cells (nsV (List.replicate (n + 1) 0)) 3)).alloc (.cells #[.slice none 0 0, .slice none 0 0] 162)) (wA.heap.size + 1 + 1) 162 #[.slice none 0 0, .slice none 0 0] := by
          have := Row.fresh ((wA.alloc (.cells (nsV (List.replicate xs.length 0)) 3)).alloc (.cells (nsV (List.replicate (n + 1) 0)) 3)) 162 #[.slice none 0 0, .slice none 0 0]
          rw [World.size_alloc, World.size_alloc] at this
          exact this
        have m0 := g7.thaw 0
        have m1 := g7.thaw 1
        have z0 := g7.cell 0
        have z1 := g7.cell 1
        simp only [List.getElem?_toArray, List.getElem?_cons_zero, List.getElem?_cons_succ, Nat.add_zero] at z0 z1 m0 m1
        clear g7
        refine wpAnyH_ready (rs := [8]) (by kernel_rfl) (by simp) ?_
        refine (AllReadyH.cons (o := ⟨none, _, _, _, _, _⟩) rfl (fun K hK => ?_) AllReadyH.nil)
        go_simp
        refine hK.out _ _ trivial (fun _ => ?_)
        clear hK K
        refine wpAnyH_done (by kernel_rfl) ?_ _
        go_wp2_with fail
        go_meet
        have h16 : Row (((wA.alloc (.cells (nsV (List.replicate xs.length 0)) 3)).alloc (.cells (nsV (List.replicate (n + 1) 0)) 3)).alloc (.cells #[.slice (some ⟨wA.heap.size, 0, none⟩) xs.length xs.length, .slice (some ⟨wA.heap.size + 1, 0, none⟩) (n + 1) (n + 1)] 162)) (wA.heap.size) 3 (nsV (List.replicate xs.length 0)) := by
          have := ((Row.fresh wA 3 (nsV (List.replicate xs.length 0))).past (.cells (nsV (List.replicate (n + 1) 0)) 3)).past (.cells #[.slice (some ⟨wA.heap.size, 0, none⟩) xs.length xs.length, .slice (some ⟨wA.heap.size + 1, 0, none⟩) (n + 1) (n + 1)] 162)
          exact this
        have h19 : Row (((wA.alloc (.cells (nsV (List.replicate xs.length 0)) 3)).alloc (.cells (nsV (List.replicate (n + 1) 0)) 3)).alloc (.cells #[.slice (some ⟨wA.heap.size, 0, none⟩) xs.length xs.length, .slice (some ⟨wA.heap.size + 1, 0, none⟩) (n + 1) (n + 1)] 162)) (wA.heap.size + 1) 3 (nsV (List.replicate (n + 1) 0)) := by
          have := (Row.fresh (wA.alloc (.cells (nsV (List.replicate xs.length 0)) 3)) 3 (nsV (List.replicate (n + 1) 0))).past (.cells #[.slice (some ⟨wA.heap.size, 0, none⟩) xs.length xs.length, .slice (some ⟨wA.heap.size + 1, 0, none⟩) (n + 1) (n + 1)] 162)
          rw [World.size_alloc] at this
          exact this
        have h7 : Row (((wA.alloc (.cells (nsV (List.replicate xs.length 0)) 3)).alloc (.cells (nsV (List.replicate (n + 1) 0)) 3)).alloc (.cells #[.slice (some ⟨wA.heap.size, 0, none⟩) xs.length xs.length, .slice (some ⟨wA.heap.size + 1, 0, none⟩) (n + 1) (n + 1)] 162)) (wA.heap.size + 1 + 1) 162 #[.slice (some ⟨wA.heap.size, 0, none⟩) xs.length xs.length, .slice (some ⟨wA.heap.size + 1, 0, none⟩) (n + 1) (n + 1)] := by
          have := Row.fresh ((wA.alloc (.cells (nsV (List.replicate xs.length 0)) 3)).alloc (.cells (nsV (List.replicate (n + 1) 0)) 3)) 162 #[.slice (some ⟨wA.heap.size, 0, none⟩) xs.length xs.length, .slice (some ⟨wA.heap.size + 1, 0, none⟩) (n + 1) (n + 1)]
          rw [World.size_alloc, World.size_alloc] at this
          exact this
        have hb3 : Below wA.heap.size wA (((wA.alloc (.cells (nsV (List.replicate xs.length 0)) 3)).alloc (.cells (nsV (List.replicate (n + 1) 0)) 3)).alloc (.cells #[.slice (some ⟨wA.heap.size, 0, none⟩) xs.length xs.length, .slice (some ⟨wA.heap.size + 1, 0, none⟩) (n + 1) (n + 1)] 162)) := (((Below.refl wA.heap.size wA).alloc (Nat.le_refl _) _).alloc (by simp) _).alloc (by simp; omega) _
        refine ⟨wA.heap.size, wA.heap.size + 1, wA.heap.size + 1 + 1, rfl, h16, ?_, h7, hb3.drew, by omega, by omega, by omega, by omega, by omega, by omega⟩
        rw [← cellsF_zero]
        exact h19
      · skip
        go_simp
        refine hK.out _ _ trivial (fun _ => ?_)
        clear hK K
        refine wpAnyH_ready (rs := [5]) (by kernel_rfl) (by simp) ?_
        refine (AllReadyH.cons (o := ⟨some 19, _, _, _, _, _⟩) rfl (fun K hK => ?_) AllReadyH.nil)
        refine step_makeI rfl (.tmp 18) (.tmp 18) rfl _ (n + 1) rfl rfl (by omega) (by omega) ?_
        refine hK.out _ _ trivial (fun _ => ?_)
        clear hK K
        simp only [Act.put, List.setIfInBounds_toArray, List.set_cons_zero, List.set_cons_succ]
        refine wpAnyH_take (i := 6) (oi := ⟨some 20, _, _, _, _, _⟩) (v := ?_) rfl (by kernel_rfl) (by kernel_rfl) (by kernel_rfl) (fun _ _ _ h => h) (Or.inl ⟨by rfl, ?_⟩) trivial ?_
        rotate_left
        · intro W _
          go_simp
          with_reducible rfl
        simp only [Act.put, List.setIfInBounds_toArray, List.set_cons_zero, List.set_cons_succ]
        have g7 : Row (((wA.alloc (.cells (nsV (List.replicate xs.length 0)) 3)).alloc (.cells #[.slice none 0 0, .slice none 0 0] 162)).alloc (.cells (nsV (List.replicate (n + 1) 0)) 3)) (wA.heap.size + 1) 162 #[.slice none 0 0, .slice none 0 0] := by
          have := (Row.fresh (wA.alloc (.cells (nsV (List.replicate xs.length 0)) 3)) 162 #[.slice none 0 0, .slice none 0 0]).past (.cells (nsV (List.replicate (n + 1) 0)) 3)
          rw [World.size_alloc] at this
          exact this
        have m0 := g7.thaw 0
        have m1 := g7.thaw 1
        have z0 := g7.cell 0
        have z1 := g7.cell 1
        simp only [List.getElem?_toArray, List.getElem?_cons_zero, List.getElem?_cons_succ, Nat.add_zero] at z0 z1 m0 m1
        clear g7
        refine wpAnyH_ready (rs := [8]) (by kernel_rfl) (by simp) ?_
        refine (AllReadyH.cons (o := ⟨none, _, _, _, _, _⟩) rfl (fun K hK => ?_) AllReadyH.nil)
        go_simp
        refine hK.out _ _ trivial (fun _ => ?_)
        clear hK K
        refine wpAnyH_done (by kernel_rfl) ?_ _
        go_wp2_with fail
        go_meet
        have h16 : Row (((wA.alloc (.cells (nsV (List.replicate xs.length 0)) 3)).alloc (.cells #[.slice (some ⟨wA.heap.size, 0, none⟩) xs.length xs.length, .slice (some ⟨wA.heap.size + 1 + 1, 0, none⟩) (n + 1) (n + 1)] 162)).alloc (.cells (nsV (List.replicate (n + 1) 0)) 3)) (wA.heap.size) 3 (nsV (List.replicate xs.length 0)) := by
          have := ((Row.fresh wA 3 (nsV (List.replicate xs.length 0))).past (.cells #[.slice (some ⟨wA.heap.size, 0, none⟩) xs.length xs.length, .slice (some ⟨wA.heap.size + 1 + 1, 0, none⟩) (n + 1) (n + 1)] 162)).past (.cells (nsV (List.replicate (n + 1) 0)) 3)
          exact this
        have h19 : Row (((wA.alloc (.cells (nsV (List.replicate xs.length 0)) 3)).alloc (.cells #[.slice (some ⟨wA.heap.size, 0, none⟩) xs.length xs.length, .slice (some ⟨wA.heap.size + 1 + 1, 0, none⟩) (n + 1) (n + 1)] 162)).alloc (.cells (nsV (List.replicate (n + 1) 0)) 3)) (wA.heap.size + 1 + 1) 3 (nsV (List.replicate (n + 1) 0)) := by
          have := Row.fresh ((wA.alloc (.cells (nsV (List.replicate xs.length 0)) 3)).alloc (.cells #[.slice (some ⟨wA.heap.size, 0, none⟩) xs.length xs.length, .slice (some ⟨wA.heap.size + 1 + 1, 0, none⟩) (n + 1) (n + 1)] 162)) 3 (nsV (List.replicate (n + 1) 0))
          rw [World.size_alloc, World.size_alloc] at this
          exact this
        have h7 : Row (((wA.alloc (.cells (nsV (List.replicate xs.length 0)) 3)).alloc (.cells #[.slice (some ⟨wA.heap.size, 0, none⟩) xs.length xs.length, .slice (some ⟨wA.heap.size + 1 + 1, 0, none⟩) (n + 1) (n + 1)] 162)).alloc (.cells (nsV (List.replicate (n + 1) 0)) 3)) (wA.heap.size + 1) 162 #[.slice (some ⟨wA.heap.size, 0, none⟩) xs.length xs.length, .slice (some ⟨wA.heap.size + 1 + 1, 0, none⟩) (n + 1) (n + 1)] := by
          have := (Row.fresh (wA.alloc (.cells (nsV (List.replicate xs.length 0)) 3)) 162 #[.slice (some ⟨wA.heap.size, 0, none⟩) xs.length xs.length, .slice (some ⟨wA.heap.size + 1 + 1, 0, none⟩) (n + 1) (n + 1)]).past (.cells (nsV (List.replicate (n + 1) 0)) 3)
          rw [World.size_alloc] at this
          exact this
        have hb3 : Below wA.heap.size wA (((wA.alloc (.cells (nsV (List.replicate xs.length 0)) 3)).alloc (.cells #[.slice (some ⟨wA.heap.size, 0, none⟩) xs.length xs.length, .slice (some ⟨wA.heap.size + 1 + 1, 0, none⟩) (n + 1) (n + 1)] 162)).alloc (.cells (nsV (List.replicate (n + 1) 0)) 3)) := (((Below.refl wA.heap.size wA).alloc (Nat.le_refl _) _).alloc (by simp) _).alloc (by simp; omega) _
        refine ⟨wA.heap.size, wA.heap.size + 1 + 1, wA.heap.size + 1, rfl, h16, ?_, h7, hb3.drew, by omega, by omega, by omega, by omega, by omega, by omega⟩
        rw [← cellsF_zero]
        exact h19
    · skip
      refine step_makeI rfl (.tmp 18) (.tmp 18) rfl _ (n + 1) rfl rfl (by omega) (by omega) ?_
      refine hK.out _ _ trivial (fun _ => ?_)
      clear hK K
      simp only [Act.put, List.setIfInBounds_toArray, List.set_cons_zero, List.set_cons_succ]
      refine wpAnyH_ready (rs := [2, 7]) (by kernel_rfl) (by simp) ?_
      refine (AllReadyH.cons (o := ⟨some 16, _, _, _, _, _⟩) rfl (fun K hK => ?_) (AllReadyH.cons (o := ⟨some 7, _, _, _, _, _⟩) rfl (fun K hK => ?_) AllReadyH.nil))
      · skip
        refine step_makeI rfl (.tmp 15) (.tmp 15) rfl _ xs.length rfl rfl rfl (by omega) ?_
        refine hK.out _ _ trivial (fun _ => ?_)
        clear hK K
        simp only [Act.put, List.setIfInBounds_toArray, List.set_cons_zero, List.set_cons_succ]
        refine wpAnyH_take (i := 6) (oi := ⟨some 20, _, _, _, _, _⟩) (v := ?_) rfl (by kernel_rfl) (by kernel_rfl) (by kernel_rfl) (fun _ _ _ h => h) (Or.inl ⟨by rfl, ?_⟩) trivial ?_
        rotate_left
        · intro W _
          go_simp
          with_reducible rfl
        simp only [Act.put, List.setIfInBounds_toArray, List.set_cons_zero, List.set_cons_succ]
        refine wpAnyH_ready (rs := [7]) (by kernel_rfl) (by simp) ?_
        refine (AllReadyH.cons (o := ⟨some 7, _, _, _, _, _⟩) rfl (fun K hK => ?_) AllReadyH.nil)
        go_simp
        refine hK.out _ _ trivial (fun _ => ?_)
        clear hK K
        have g7 : Row (((wA.alloc (.cells (nsV (List.replicate (n + 1) 0)) 3)).alloc (.cells (nsV (List.replicate xs.length 0)) 3)).alloc (.cells #[.slice none 0 0, .slice none 0 0] 162)) (wA.heap.size + 1 + 1) 162 #[.slice none 0 0, .slice none 0 0] := by
          have := Row.fresh ((wA.alloc (.cells (nsV (List.replicate (n + 1) 0)) 3)).alloc (.cells (nsV (List.replicate xs.length 0)) 3)) 162 #[.slice none 0 0, .slice none 0 0]
          rw [World.size_alloc, World.size_alloc] at this
          exact this
        have m0 := g7.thaw 0
        have m1 := g7.thaw 1
        have z0 := g7.cell 0
        have z1 := g7.cell 1
        simp only [List.getElem?_toArray, List.getElem?_cons_zero, List.getElem?_cons_succ, Nat.add_zero] at z0 z1 m0 m1
        clear g7
        refine wpAnyH_ready (rs := [8]) (by kernel_rfl) (by simp) ?_
        refine (AllReadyH.cons (o := ⟨none, _, _, _, _, _⟩) rfl (fun K hK => ?_) AllReadyH.nil)
        go_simp
        refine hK.out _ _ trivial (fun _ => ?_)
        clear hK K
        refine wpAnyH_done (by kernel_rfl) ?_ _
        go_wp2_with fail
        go_meet
        have h16 : Row (((wA.alloc (.cells (nsV (List.replicate (n + 1) 0)) 3)).alloc (.cells (nsV (List.replicate xs.length 0)) 3)).alloc (.cells #[.slice (some ⟨wA.heap.size + 1, 0, none⟩) xs.length xs.length, .slice (some ⟨wA.heap.size, 0, none⟩) (n + 1) (n + 1)] 162)) (wA.heap.size + 1) 3 (nsV (List.replicate xs.length 0)) := by
          have := (Row.fresh (wA.alloc (.cells (nsV (List.replicate (n + 1) 0)) 3)) 3 (nsV (List.replicate xs.length 0))).past (.cells #[.slice (some ⟨wA.heap.size + 1, 0, none⟩) xs.length xs.length, .slice (some ⟨wA.heap.size, 0, none⟩) (n + 1) (n + 1)] 162)
          rw [World.size_alloc] at this
          exact this
        have h19 : Row (((wA.alloc (.cells (nsV (List.replicate (n + 1) 0)) 3)).alloc (.cells (nsV (List.replicate xs.length 0)) 3)).alloc (.cells #[.slice (some ⟨wA.heap.size + 1, 0, none⟩) xs.length xs.length, .slice (some ⟨wA.heap.size, 0, none⟩) (n + 1) (n + 1)] 162)) (wA.heap.size) 3 (nsV (List.replicate (n + 1) 0)) := by
          have := ((Row.fresh wA 3 (nsV (List.replicate (n + 1) 0))).past (.cells (nsV (List.replicate xs.length 0)) 3)).past (.cells #[.slice (some ⟨wA.heap.size + 1, 0, none⟩) xs.length xs.length, .slice (some ⟨wA.heap.size, 0, none⟩) (n + 1) (n + 1)] 162)
          exact this
        have h7 : Row (((wA.alloc (.cells (nsV (List.replicate (n + 1) 0)) 3)).alloc (.cells (nsV (List.replicate xs.length 0)) 3)).alloc (.cells #[.slice (some ⟨wA.heap.size + 1, 0, none⟩) xs.length xs.length, .slice (some ⟨wA.heap.size, 0, none⟩) (n + 1) (n + 1)] 162)) (wA.heap.size + 1 + 1) 162 #[.slice (some ⟨wA.heap.size + 1, 0, none⟩) xs.length xs.length, .slice (some ⟨wA.heap.size, 0, none⟩) (n + 1) (n + 1)] := by
          have := Row.fresh ((wA.alloc (.cells (nsV (List.replicate (n + 1) 0)) 3)).alloc (.cells (nsV (List.replicate xs.length 0)) 3)) 162 #[.slice (some ⟨wA.heap.size + 1, 0, none⟩) xs.length xs.length, .slice (some ⟨wA.heap.size, 0, none⟩) (n + 1) (n + 1)]
          rw [World.size_alloc, World.size_alloc] at this
          exact this
        have hb3 : Below wA.heap.size wA (((wA.alloc (.cells (nsV (List.replicate (n + 1) 0)) 3)).alloc (.cells (nsV (List.replicate xs.length 0)) 3)).alloc (.cells #[.slice (some ⟨wA.heap.size + 1, 0, none⟩) xs.length xs.length, .slice (some ⟨wA.heap.size, 0, none⟩) (n + 1) (n + 1)] 162)) := (((Below.refl wA.heap.size wA).alloc (Nat.le_refl _) _).alloc (by simp) _).alloc (by simp; omega) _
        refine ⟨wA.heap.size + 1, wA.heap.size, wA.heap.size + 1 + 1, rfl, h16, ?_, h7, hb3.drew, by omega, by omega, by omega, by omega, by omega, by omega⟩
        rw [← cellsF_zero]
        exact h19
      · skip
        go_simp
        refine hK.out _ _ trivial (fun _ => ?_)
        clear hK K
        refine wpAnyH_ready (rs := [2]) (by kernel_rfl) (by simp) ?_
        refine (AllReadyH.cons (o := ⟨some 16, _, _, _, _, _⟩) rfl (fun K hK => ?_) AllReadyH.nil)
        refine step_makeI rfl (.tmp 15) (.tmp 15) rfl _ xs.length rfl rfl rfl (by omega) ?_
        refine hK.out _ _ trivial (fun _ => ?_)
        clear hK K
        simp only [Act.put, List.setIfInBounds_toArray, List.set_cons_zero, List.set_cons_succ]
        refine wpAnyH_take (i := 6) (oi := ⟨some 20, _, _, _, _, _⟩) (v := ?_) rfl (by kernel_rfl) (by kernel_rfl) (by kernel_rfl) (fun _ _ _ h => h) (Or.inl ⟨by rfl, ?_⟩) trivial ?_
        rotate_left
        · intro W _
          go_simp
          with_reducible rfl
        simp only [Act.put, List.setIfInBounds_toArray, List.set_cons_zero, List.set_cons_succ]
        have g7 : Row (((wA.alloc (.cells (nsV (List.replicate (n + 1) 0)) 3)).alloc (.cells #[.slice none 0 0, .slice none 0 0] 162)).alloc (.cells (nsV (List.replicate xs.length 0)) 3)) (wA.heap.size + 1) 162 #[.slice none 0 0, .slice none 0 0] := by
          have := (Row.fresh (wA.alloc (.cells (nsV (List.replicate (n + 1) 0)) 3)) 162 #[.slice none 0 0, .slice none 0 0]).past (.cells (nsV (List.replicate xs.length 0)) 3)
          rw [World.size_alloc] at this
          exact this
        have m0 := g7.thaw 0
        have m1 := g7.thaw 1
        have z0 := g7.cell 0
        have z1 := g7.cell 1
        simp only [List.getElem?_toArray, List.getElem?_cons_zero, List.getElem?_cons_succ, Nat.add_zero] at z0 z1 m0 m1
        clear g7
        refine wpAnyH_ready (rs := [8]) (by kernel_rfl) (by simp) ?_
        refine (AllReadyH.cons (o := ⟨none, _, _, _, _, _⟩) rfl (fun K hK => ?_) AllReadyH.nil)
        go_simp
        refine hK.out _ _ trivial (fun _ => ?_)
        clear hK K
        refine wpAnyH_done (by kernel_rfl) ?_ _
        go_wp2_with fail
        go_meet
        have h16 : Row (((wA.alloc (.cells (nsV (List.replicate (n + 1) 0)) 3)).alloc (.cells #[.slice (some ⟨wA.heap.size + 1 + 1, 0, none⟩) xs.length xs.length, .slice (some ⟨wA.heap.size, 0, none⟩) (n + 1) (n + 1)] 162)).alloc (.cells (nsV (List.replicate xs.length 0)) 3)) (wA.heap.size + 1 + 1) 3 (nsV (List.replicate xs.length 0)) := by
          have := Row.fresh ((wA.alloc (.cells (nsV (List.replicate (n + 1) 0)) 3)).alloc (.cells #[.slice (some ⟨wA.heap.size + 1 + 1, 0, none⟩) xs.length xs.length, .slice (some ⟨wA.heap.size, 0, none⟩) (n + 1) (n + 1)] 162)) 3 (nsV (List.replicate xs.length 0))
          rw [World.size_alloc, World.size_alloc] at this
          exact this
        have h19 : Row (((wA.alloc (.cells (nsV (List.replicate (n + 1) 0)) 3)).alloc (.cells #[.slice (some ⟨wA.heap.size + 1 + 1, 0, none⟩) xs.length xs.length, .slice (some ⟨wA.heap.size, 0, none⟩) (n + 1) (n + 1)] 162)).alloc (.cells (nsV (List.replicate xs.length 0)) 3)) (wA.heap.size) 3 (nsV (List.replicate (n + 1) 0)) := by
          have := ((Row.fresh wA 3 (nsV (List.replicate (n + 1) 0))).past (.cells #[.slice (some ⟨wA.heap.size + 1 + 1, 0, none⟩) xs.length xs.length, .slice (some ⟨wA.heap.size, 0, none⟩) (n + 1) (n + 1)] 162)).past (.cells (nsV (List.replicate xs.length 0)) 3)
          exact this
        have h7 : Row (((wA.alloc (.cells (nsV (List.replicate (n + 1) 0)) 3)).alloc (.cells #[.slice (some ⟨wA.heap.size + 1 + 1, 0, none⟩) xs.length xs.length, .slice (some ⟨wA.heap.size, 0, none⟩) (n + 1) (n + 1)] 162)).alloc (.cells (nsV (List.replicate xs.length 0)) 3)) (wA.heap.size + 1) 162 #[.slice (some ⟨wA.heap.size + 1 + 1, 0, none⟩) xs.length xs.length, .slice (some ⟨wA.heap.size, 0, none⟩) (n + 1) (n + 1)] := by
          have := (Row.fresh (wA.alloc (.cells (nsV (List.replicate (n + 1) 0)) 3)) 162 #[.slice (some ⟨wA.heap.size + 1 + 1, 0, none⟩) xs.length xs.length, .slice (some ⟨wA.heap.size, 0, none⟩) (n + 1) (n + 1)]).past (.cells (nsV (List.replicate xs.length 0)) 3)
          rw [World.size_alloc] at this
          exact this
        have hb3 : Below wA.heap.size wA (((wA.alloc (.cells (nsV (List.replicate (n + 1) 0)) 3)).alloc (.cells #[.slice (some ⟨wA.heap.size + 1 + 1, 0, none⟩) xs.length xs.length, .slice (some ⟨wA.heap.size, 0, none⟩) (n + 1) (n + 1)] 162)).alloc (.cells (nsV (List.replicate xs.length 0)) 3)) := (((Below.refl wA.heap.size wA).alloc (Nat.le_refl _) _).alloc (by simp) _).alloc (by simp; omega) _
        refine ⟨wA.heap.size + 1 + 1, wA.heap.size, wA.heap.size + 1, rfl, h16, ?_, h7, hb3.drew, by omega, by omega, by omega, by omega, by omega, by omega⟩
        rw [← cellsF_zero]
        exact h19
    · skip
      go_simp
      refine hK.out _ _ trivial (fun _ => ?_)
      clear hK K
      refine wpAnyH_ready (rs := [2, 5]) (by kernel_rfl) (by simp) ?_
      refine (AllReadyH.cons (o := ⟨some 16, _, _, _, _, _⟩) rfl (fun K hK => ?_) (AllReadyH.cons (o := ⟨some 19, _, _, _, _, _⟩) rfl (fun K hK => ?_) AllReadyH.nil))
      · skip
        refine step_makeI rfl (.tmp 15) (.tmp 15) rfl _ xs.length rfl rfl rfl (by omega) ?_
        refine hK.out _ _ trivial (fun _ => ?_)
        clear hK K
        simp only [Act.put, List.setIfInBounds_toArray, List.set_cons_zero, List.set_cons_succ]
        refine wpAnyH_ready (rs := [5]) (by kernel_rfl) (by simp) ?_
        refine (AllReadyH.cons (o := ⟨some 19, _, _, _, _, _⟩) rfl (fun K hK => ?_) AllReadyH.nil)
        refine step_makeI rfl (.tmp 18) (.tmp 18) rfl _ (n + 1) rfl rfl (by omega) (by omega) ?_
        refine hK.out _ _ trivial (fun _ => ?_)
        clear hK K
        simp only [Act.put, List.setIfInBounds_toArray, List.set_cons_zero, List.set_cons_succ]
        refine wpAnyH_take (i := 6) (oi := ⟨some 20, _, _, _, _, _⟩) (v := ?_) rfl (by kernel_rfl) (by kernel_rfl) (by kernel_rfl) (fun _ _ _ h => h) (Or.inl ⟨by rfl, ?_⟩) trivial ?_
        rotate_left
        · intro W _
          go_simp
          with_reducible rfl
        simp only [Act.put, List.setIfInBounds_toArray, List.set_cons_zero, List.set_cons_succ]
        have g7 : Row (((wA.alloc (.cells #[.slice none 0 0, .slice none 0 0] 162)).alloc (.cells (nsV (List.replicate xs.length 0)) 3)).alloc (.cells (nsV (List.replicate (n + 1) 0)) 3)) (wA.heap.size) 162 #[.slice none 0 0, .slice none 0 0] := by
          have := ((Row.fresh wA 162 #[.slice none 0 0, .slice none 0 0]).past (.cells (nsV (List.replicate xs.length 0)) 3)).past (.cells (nsV (List.replicate (n + 1) 0)) 3)
          exact this
        have m0 := g7.thaw 0
        have m1 := g7.thaw 1
        have z0 := g7.cell 0
        have z1 := g7.cell 1
        simp only [List.getElem?_toArray, List.getElem?_cons_zero, List.getElem?_cons_succ, Nat.add_zero] at z0 z1 m0 m1
        clear g7
        refine wpAnyH_ready (rs := [8]) (by kernel_rfl) (by simp) ?_
        refine (AllReadyH.cons (o := ⟨none, _, _, _, _, _⟩) rfl (fun K hK => ?_) AllReadyH.nil)
        go_simp
        refine hK.out _ _ trivial (fun _ => ?_)
        clear hK K
        refine wpAnyH_done (by kernel_rfl) ?_ _
        go_wp2_with fail
        go_meet
        have h16 : Row (((wA.alloc (.cells #[.slice (some ⟨wA.heap.size + 1, 0, none⟩) xs.length xs.length, .slice (some ⟨wA.heap.size + 1 + 1, 0, none⟩) (n + 1) (n + 1)] 162)).alloc (.cells (nsV (List.replicate xs.length 0)) 3)).alloc (.cells (nsV (List.replicate (n + 1) 0)) 3)) (wA.heap.size + 1) 3 (nsV (List.replicate xs.length 0)) := by
          have := (Row.fresh (wA.alloc (.cells #[.slice (some ⟨wA.heap.size + 1, 0, none⟩) xs.length xs.length, .slice (some ⟨wA.heap.size + 1 + 1, 0, none⟩) (n + 1) (n + 1)] 162)) 3 (nsV (List.replicate xs.length 0))).past (.cells (nsV (List.replicate (n + 1) 0)) 3)
          rw [World.size_alloc] at this
          exact this
        have h19 : Row (((wA.alloc (.cells #[.slice (some ⟨wA.heap.size + 1, 0, none⟩) xs.length xs.length, .slice (some ⟨wA.heap.size + 1 + 1, 0, none⟩) (n + 1) (n + 1)] 162)).alloc (.cells (nsV (List.replicate xs.length 0)) 3)).alloc (.cells (nsV (List.replicate (n + 1) 0)) 3)) (wA.heap.size + 1 + 1) 3 (nsV (List.replicate (n + 1) 0)) := by
          have := Row.fresh ((wA.alloc (.cells #[.slice (some ⟨wA.heap.size + 1, 0, none⟩) xs.length xs.length, .slice (some ⟨wA.heap.size + 1 + 1, 0, none⟩) (n + 1) (n + 1)] 162)).alloc (.cells (nsV (List.replicate xs.length 0)) 3)) 3 (nsV (List.replicate (n + 1) 0))
          rw [World.size_alloc, World.size_alloc] at this
          exact this
        have h7 : Row (((wA.alloc (.cells #[.slice (some ⟨wA.heap.size + 1, 0, none⟩) xs.length xs.length, .slice (some ⟨wA.heap.size + 1 + 1, 0, none⟩) (n + 1) (n + 1)] 162)).alloc (.cells (nsV (List.replicate xs.length 0)) 3)).alloc (.cells (nsV (List.replicate (n + 1) 0)) 3)) (wA.heap.size) 162 #[.slice (some ⟨wA.heap.size + 1, 0, none⟩) xs.length xs.length, .slice (some ⟨wA.heap.size + 1 + 1, 0, none⟩) (n + 1) (n + 1)] := by
          have := ((Row.fresh wA 162 #[.slice (some ⟨wA.heap.size + 1, 0, none⟩) xs.length xs.length, .slice (some ⟨wA.heap.size + 1 + 1, 0, none⟩) (n + 1) (n + 1)]).past (.cells (nsV (List.replicate xs.length 0)) 3)).past (.cells (nsV (List.replicate (n + 1) 0)) 3)
          exact this
        have hb3 : Below wA.heap.size wA (((wA.alloc (.cells #[.slice (some ⟨wA.heap.size + 1, 0, none⟩) xs.length xs.length, .slice (some ⟨wA.heap.size + 1 + 1, 0, none⟩) (n + 1) (n + 1)] 162)).alloc (.cells (nsV (List.replicate xs.length 0)) 3)).alloc (.cells (nsV (List.replicate (n + 1) 0)) 3)) := (((Below.refl wA.heap.size wA).alloc (Nat.le_refl _) _).alloc (by simp) _).alloc (by simp; omega) _
        refine ⟨wA.heap.size + 1, wA.heap.size + 1 + 1, wA.heap.size, rfl, h16, ?_, h7, hb3.drew, by omega, by omega, by omega, by omega, by omega, by omega⟩
        rw [← cellsF_zero]
        exact h19
      · skip
        refine step_makeI rfl (.tmp 18) (.tmp 18) rfl _ (n + 1) rfl rfl (by omega) (by omega) ?_
        refine hK.out _ _ trivial (fun _ => ?_)
        clear hK K
        simp only [Act.put, List.setIfInBounds_toArray, List.set_cons_zero, List.set_cons_succ]
        refine wpAnyH_ready (rs := [2]) (by kernel_rfl) (by simp) ?_
        refine (AllReadyH.cons (o := ⟨some 16, _, _, _, _, _⟩) rfl (fun K hK => ?_) AllReadyH.nil)
        refine step_makeI rfl (.tmp 15) (.tmp 15) rfl _ xs.length rfl rfl rfl (by omega) ?_
        refine hK.out _ _ trivial (fun _ => ?_)
        clear hK K
        simp only [Act.put, List.setIfInBounds_toArray, List.set_cons_zero, List.set_cons_succ]
        refine wpAnyH_take (i := 6) (oi := ⟨some 20, _, _, _, _, _⟩) (v := ?_) rfl (by kernel_rfl) (by kernel_rfl) (by kernel_rfl) (fun _ _ _ h => h) (Or.inl ⟨by rfl, ?_⟩) trivial ?_
        rotate_left
        · intro W _
          go_simp
          with_reducible rfl
        simp only [Act.put, List.setIfInBounds_toArray, List.set_cons_zero, List.set_cons_succ]
        have g7 : Row (((wA.alloc (.cells #[.slice none 0 0, .slice none 0 0] 162)).alloc (.cells (nsV (List.replicate (n + 1) 0)) 3)).alloc (.cells (nsV (List.replicate xs.length 0)) 3)) (wA.heap.size) 162 #[.slice none 0 0, .slice none 0 0] := by
          have := ((Row.fresh wA 162 #[.slice none 0 0, .slice none 0 0]).past (.cells (nsV (List.replicate (n + 1) 0)) 3)).past (.cells (nsV (List.replicate xs.length 0)) 3)
          exact this
        have m0 := g7.thaw 0
        have m1 := g7.thaw 1
        have z0 := g7.cell 0
        have z1 := g7.cell 1
        simp only [List.getElem?_toArray, List.getElem?_cons_zero, List.getElem?_cons_succ, Nat.add_zero] at z0 z1 m0 m1
        clear g7
        refine wpAnyH_ready (rs := [8]) (by kernel_rfl) (by simp) ?_
        refine (AllReadyH.cons (o := ⟨none, _, _, _, _, _⟩) rfl (fun K hK => ?_) AllReadyH.nil)
        go_simp
        refine hK.out _ _ trivial (fun _ => ?_)
        clear hK K
        refine wpAnyH_done (by kernel_rfl) ?_ _
        go_wp2_with fail
        go_meet
        have h16 : Row (((wA.alloc (.cells #[.slice (some ⟨wA.heap.size + 1 + 1, 0, none⟩) xs.length xs.length, .slice (some ⟨wA.heap.size + 1, 0, none⟩) (n + 1) (n + 1)] 162)).alloc (.cells (nsV (List.replicate (n + 1) 0)) 3)).alloc (.cells (nsV (List.replicate xs.length 0)) 3)) (wA.heap.size + 1 + 1) 3 (nsV (List.replicate xs.length 0)) := by
          have := Row.fresh ((wA.alloc (.cells #[.slice (some ⟨wA.heap.size + 1 + 1, 0, none⟩) xs.length xs.length, .slice (some ⟨wA.heap.size + 1, 0, none⟩) (n + 1) (n + 1)] 162)).alloc (.cells (nsV (List.replicate (n + 1) 0)) 3)) 3 (nsV (List.replicate xs.length 0))
          rw [World.size_alloc, World.size_alloc] at this
          exact this
        have h19 : Row (((wA.alloc (.cells #[.slice (some ⟨wA.heap.size + 1 + 1, 0, none⟩) xs.length xs.length, .slice (some ⟨wA.heap.size + 1, 0, none⟩) (n + 1) (n + 1)] 162)).alloc (.cells (nsV (List.replicate (n + 1) 0)) 3)).alloc (.cells (nsV (List.replicate xs.length 0)) 3)) (wA.heap.size + 1) 3 (nsV (List.replicate (n + 1) 0)) := by
          have := (Row.fresh (wA.alloc (.cells #[.slice (some ⟨wA.heap.size + 1 + 1, 0, none⟩) xs.length xs.length, .slice (some ⟨wA.heap.size + 1, 0, none⟩) (n + 1) (n + 1)] 162)) 3 (nsV (List.replicate (n + 1) 0))).past (.cells (nsV (List.replicate xs.length 0)) 3)
          rw [World.size_alloc] at this
          exact this
        have h7 : Row (((wA.alloc (.cells #[.slice (some ⟨wA.heap.size + 1 + 1, 0, none⟩) xs.length xs.length, .slice (some ⟨wA.heap.size + 1, 0, none⟩) (n + 1) (n + 1)] 162)).alloc (.cells (nsV (List.replicate (n + 1) 0)) 3)).alloc (.cells (nsV (List.replicate xs.length 0)) 3)) (wA.heap.size) 162 #[.slice (some ⟨wA.heap.size + 1 + 1, 0, none⟩) xs.length xs.length, .slice (some ⟨wA.heap.size + 1, 0, none⟩) (n + 1) (n + 1)] := by
          have := ((Row.fresh wA 162 #[.slice (some ⟨wA.heap.size + 1 + 1, 0, none⟩) xs.length xs.length, .slice (some ⟨wA.heap.size + 1, 0, none⟩) (n + 1) (n + 1)]).past (.cells (nsV (List.replicate (n + 1) 0)) 3)).past (.cells (nsV (List.replicate xs.length 0)) 3)
          exact this
        have hb3 : Below wA.heap.size wA (((wA.alloc (.cells #[.slice (some ⟨wA.heap.size + 1 + 1, 0, none⟩) xs.length xs.length, .slice (some ⟨wA.heap.size + 1, 0, none⟩) (n + 1) (n + 1)] 162)).alloc (.cells (nsV (List.replicate (n + 1) 0)) 3)).alloc (.cells (nsV (List.replicate xs.length 0)) 3)) := (((Below.refl wA.heap.size wA).alloc (Nat.le_refl _) _).alloc (by simp) _).alloc (by simp; omega) _
        refine ⟨wA.heap.size + 1 + 1, wA.heap.size + 1, wA.heap.size, rfl, h16, ?_, h7, hb3.drew, by omega, by omega, by omega, by omega, by omega, by omega⟩
        rw [← cellsF_zero]
        exact h19
  case rest =>
    obtain ⟨ib, cb, rb, rfl, h1, h2, h3, h4, h5, h6, h7, h8, h9, h10⟩ := hcut
    obtain ⟨hA, hF, hR, hsA⟩ := HA.out
    have hF1 := hF.under h4 (by omega)
    have hR1 := hR.under h4 (by omega)
    have hbc := hA.trans (h4.mono (by omega))
    have hS1 := HS.out.under hbc HS.out.lt
    have HC := Lib.hid (And.intro h1 (And.intro h3 (And.intro hF1 (And.intro hR1 (And.intro hS1 hbc)))))
    have HI := Lib.hid (show (w.heap.size < ib ∧ w.heap.size < cb ∧ w.heap.size < rb ∧ w.heap.size + 1 < ib ∧ w.heap.size + 1 < cb ∧ w.heap.size + 1 < rb) ∧ ib ≠ cb ∧ ib ≠ rb ∧ cb ≠ rb ∧ sb < w.heap.size from ⟨⟨by omega, by omega, by omega, by omega, by omega, by omega⟩, h8, h9, h10, HS.out.lt⟩)
    have HCu := Lib.hid h2
    clear h1 h2 h3 h4 h5 h6 h7 h8 h9 h10 hA hF hR hsA hF1 hR1 hbc hS1
    go_wp2
    go_loopw [23] (fun i wr => ∃ k : Nat, k ≤ xs.length ∧ i = .int .i64 k ∧ Row wr cb 3 (cellsF n (fun v => cnt p v (xs.take k))) ∧ Only (fun j => j = cb) wc wr) (fun i _ => xs.length - (intOf i).toNat)
    case atStart => exact ⟨0, by omega, rfl, by simpa [cnt] using HCu.out, Only.refl _ _⟩
    case round =>
      obtain ⟨k, hk, rfl, hcu, ho⟩ := hrel
      have HO := Lib.hid ho
      have HU := Lib.hid hcu
      have hBw := HC.out.2.2.2.2.2.trans (ho.below (K := w.heap.size) (fun j e => by subst e; have := HI.out; omega) (HC.out.2.2.2.2.2.size))
      have HBw := Lib.hid hBw
      have hrr := HC.out.2.1.only ho (by have := HI.out; omega)
      have hff := HC.out.2.2.1.only ho (by have := HI.out; omega)
      have hss := HC.out.2.2.2.2.1.only ho (by have := HI.out; omega)
      clear ho hBw
      by_cases hlt : k < xs.length
      · have hlt' : (k : Int) < (xs.length : Int) := by omega
        have HM := Lib.hid (List.getElem_mem hlt)
        have HT := Lib.hid (fun v => cnt_take p (v := v) hlt)
        have x0 := hss.cell k
        rw [nsV_at hlt] at x0
        generalize xs[k]'hlt = x at *
        have hpx := HPn.out x HM.out
        have hwc : IntKind.i64.wrap ((cnt p (p x) (xs.take k) : Nat) + 1 : Int) = (cnt p (p x) (xs.take k) : Nat) + 1 := by
          have h1 := cnt_le p (p x) (xs.take k)
          have h2 := List.length_take_le' k xs
          rw [IntKind.wrap_i64]; omega
        have hp1 : (p x : Int) < (n : Int) + 1 := by omega
        have c1 := hcu.cell (p x)
        rw [cellsF_at (by omega)] at c1
        have HQ := Lib.hid hcu
        have HPx := Lib.hid (HP.out wr HBw.out x HM.out)
        have hf9 : cnt p (p x) (xs.take k) ≤ xs.length := Nat.le_trans (cnt_le p _ _) (List.length_take_le' _ _)
        have hf8 : ((cnt p (p x) (xs.take k) : Nat) : Int) ≤ 67108864 := by omega
        clear hcu hpx
        go_upto_region 5 with (fail)
        have HSt := Lib.hid (show ∀ W, Only (fun j => j = cb) wr W → (W.cell? ⟨rb, 1, none⟩ = some (.slice (some ⟨cb, 0, none⟩) (n + 1) (n + 1)) ∧ W.cell? ⟨w.heap.size, 0, none⟩ = some (.func (.func 110) #[] #[ptr eb, ptr pb])) from fun W hW => ⟨(hrr.only hW (by have := HI.out; omega)).cell 1, (hff.only hW (by have := HI.out; omega)).cell 0⟩)
        clear c1 hrr hff hss
        refine wp_region_held_drew (S := fun W => W.cell? ⟨rb, 1, none⟩ = some (.slice (some ⟨cb, 0, none⟩) (n + 1) (n + 1)) ∧ W.cell? ⟨w.heap.size, 0, none⟩ = some (.func (.func 110) #[] #[ptr eb, ptr pb])) (by kernel_rfl) (HSt.out _ (Only.refl _ _).drew) (fun hHeld => ?_)
        refine wpAnyH_take (i := 0) (oi := ⟨some 27, _, _, _, _, _⟩) (v := ?_) rfl (by kernel_rfl) (by kernel_rfl) (by kernel_rfl) (fun _ _ _ h => h) (Or.inl ⟨by rfl, ?_⟩) hHeld ?_
        rotate_left
        · intro W hSw
          obtain ⟨s0, s1⟩ := hSw
          go_simp
          with_reducible rfl
        simp only [Act.put, List.setIfInBounds_toArray, List.set_cons_zero, List.set_cons_succ]
        refine wpAnyH_take (i := 1) (oi := ⟨some 28, _, _, _, _, _⟩) (v := ?_) rfl (by kernel_rfl) (by kernel_rfl) (by kernel_rfl) (fun _ _ _ h => h) (Or.inl ⟨by rfl, ?_⟩) hHeld ?_
        rotate_left
        · intro W hSw
          obtain ⟨s0, s1⟩ := hSw
          go_simp
          with_reducible rfl
        simp only [Act.put, List.setIfInBounds_toArray, List.set_cons_zero, List.set_cons_succ]
        refine wpAnyH_take (i := 2) (oi := ⟨some 29, _, _, _, _, _⟩) (v := ?_) rfl (by kernel_rfl) (by kernel_rfl) (by kernel_rfl) (fun _ _ _ h => h) (Or.inl ⟨by rfl, ?_⟩) hHeld ?_
        rotate_left
        · intro W hSw
          obtain ⟨s0, s1⟩ := hSw
          go_simp
          with_reducible rfl
        simp only [Act.put, List.setIfInBounds_toArray, List.set_cons_zero, List.set_cons_succ]
        refine wpAnyH_take (i := 3) (oi := ⟨some 30, _, _, _, _, _⟩) (v := ?_) rfl (by kernel_rfl) (by kernel_rfl) (by kernel_rfl) (fun _ _ _ h => h) (Or.inl ⟨by rfl, ?_⟩) hHeld ?_
        rotate_left
        · intro W hSw
          obtain ⟨s0, s1⟩ := hSw
          go_simp
          with_reducible rfl
        simp only [Act.put, List.setIfInBounds_toArray, List.set_cons_zero, List.set_cons_succ]
        refine wpAnyH_ready (rs := [4]) (by kernel_rfl) (by simp) ?_
        refine (AllReadyH.cons (o := ⟨some 31, _, _, _, _, _⟩) rfl (fun K hK => ?_) AllReadyH.nil)
        go_simp
        refine (HP.out _ HBw.out.drew x HM.out).mono ?_
        rintro e w2 ⟨rfl, hbx⟩
        have HB2 := Lib.hid (show Below wr.heap.size wr w2 from ((Below.refl wr.heap.size wr).drew).trans hbx)
        have hSn := HSt.out _ (Only.of_below _ HB2.out)
        have mm := (HQ.out.under HB2.out HQ.out.lt).thaw (p x)
        have c2 := (HQ.out.under HB2.out HQ.out.lt).cell (p x)
        rw [cellsF_at (by omega)] at c2
        clear hbx
        refine hK.out _ _ hSn (fun hHeld2 => ?_)
        clear hK K hHeld hSn
        have hHeld := hHeld2
        clear hHeld2
        refine wpAnyH_take (i := 5) (oi := ⟨some 32, _, _, _, _, _⟩) (v := ?_) rfl (by kernel_rfl) (by kernel_rfl) (by kernel_rfl) (fun _ _ _ h => h) (Or.inl ⟨by rfl, ?_⟩) hHeld ?_
        rotate_left
        · intro W hSw
          obtain ⟨s0, s1⟩ := hSw
          go_simp
          with_reducible rfl
        simp only [Act.put, List.setIfInBounds_toArray, List.set_cons_zero, List.set_cons_succ]
        refine wpAnyH_ready (rs := [6]) (by kernel_rfl) (by simp) ?_
        refine (AllReadyH.cons (o := ⟨some 33, _, _, _, _, _⟩) rfl (fun K hK => ?_) AllReadyH.nil)
        go_simp
        refine hK.out _ _ hHeld (fun hHeld2 => ?_)
        clear hK K hHeld
        have hHeld := hHeld2
        clear hHeld2
        refine wpAnyH_take (i := 7) (oi := ⟨some 34, _, _, _, _, _⟩) (v := ?_) rfl (by kernel_rfl) (by kernel_rfl) (by kernel_rfl) (fun _ _ _ h => h) (Or.inl ⟨by rfl, ?_⟩) hHeld ?_
        rotate_left
        · intro W hSw
          obtain ⟨s0, s1⟩ := hSw
          go_simp
          with_reducible rfl
        simp only [Act.put, List.setIfInBounds_toArray, List.set_cons_zero, List.set_cons_succ]
        refine wpAnyH_take (i := 8) (oi := ⟨some 35, _, _, _, _, _⟩) (v := ?_) rfl (by kernel_rfl) (by kernel_rfl) (by kernel_rfl) (fun _ _ _ h => h) (Or.inl ⟨by rfl, ?_⟩) hHeld ?_
        rotate_left
        · intro W hSw
          obtain ⟨s0, s1⟩ := hSw
          go_simp
          with_reducible rfl
        simp only [Act.put, List.setIfInBounds_toArray, List.set_cons_zero, List.set_cons_succ]
        refine wpAnyH_ready (rs := [9]) (by kernel_rfl) (by simp) ?_
        refine (AllReadyH.cons (o := ⟨none, _, _, _, _, _⟩) rfl (fun K hK => ?_) AllReadyH.nil)
        go_simp
        refine hK.out _ _ (HSt.out _ (Only.setCell (S := fun j => j = cb) (p := ⟨cb, p x, none⟩) (Only.of_below _ HB2.out) (.inl rfl) _)) (fun _ => ?_)
        clear hK K
        refine wpAnyH_done (by kernel_rfl) ?_ _
        go_wp2
        refine ⟨⟨k + 1, by omega, by go_num, ?_, (HO.out.trans (Only.of_below (fun _ => False) HB2.out) (fun i h => h.elim)).setCell (.inl rfl) _⟩, by simp [intOf]; omega⟩
        have hq := (HQ.out.under HB2.out HQ.out.lt).put (p x) (.int .i64 ((cnt p (p x) (xs.take k) + 1 : Nat)))
        rw [cellsF_put] at hq
        have e : (fun j => if j = p x then cnt p (p x) (xs.take k) + 1 else cnt p j (xs.take k)) = fun j => cnt p j (xs.take (k + 1)) := by
          funext j
          rw [HT.out j]
          by_cases hj : j = p x
          · subst hj; simp
          · rw [if_neg hj, if_neg (fun h => hj h.symm), Nat.add_zero]
        rw [e] at hq
        exact hq
      · obtain rfl : k = xs.length := by omega
        have hlt' : ¬ (xs.length : Int) < (xs.length : Int) := by omega
        rw [List.take_length] at hcu
        have HCu2 := Lib.hid hcu
        obtain ⟨w2, hw2⟩ : ∃ w2, w2 = wr := ⟨_, rfl⟩
        subst hw2
        have HC2 := Lib.hid (And.intro (HC.out.1.only HO.out (by have := HI.out; omega)) (And.intro hrr (And.intro hff (And.intro (HC.out.2.2.2.1.only HO.out (by have := HI.out; omega)) (And.intro hss HBw.out)))))
        clear hcu hrr hff hss HO HCu HC
        go_wp2
        go_loopw [38] (fun i wr => ∃ v : Nat, v ≤ n ∧ i = .int .i64 v ∧ Row wr cb 3 (cellsF n (fun j => if j ≤ v then lt p (j + 1) xs else cnt p j xs)) ∧ Only (fun j => j = cb) w2 wr) (fun i _ => n - (intOf i).toNat)
        case atStart =>
          refine ⟨0, by omega, rfl, ?_, Only.refl _ _⟩
          have e : cellsF n (fun j => if j ≤ 0 then lt p (j + 1) xs else cnt p j xs) = cellsF n (fun j => cnt p j xs) := cellsF_congr fun i hi => by
            by_cases h0 : i = 0
            · subst h0; simp [lt_succ, lt_zero]
            · rw [if_neg (by omega)]
          rw [e]
          exact HCu2.out
        case round =>
          obtain ⟨v, hv, rfl, hcu, ho⟩ := hrel
          have HO := Lib.hid ho
          have HQ := Lib.hid hcu
          have hrr := HC2.out.2.1.only ho (by have := HI.out; omega)
          clear ho
          by_cases hlt : v < n
          · have hlt' : (v : Int) < (n : Int) := by omega
            have c0 := hcu.cell v
            have c1 := hcu.cell (v + 1)
            rw [cellsF_at (by omega)] at c0 c1
            rw [if_pos (Nat.le_refl _)] at c0
            rw [if_neg (by omega)] at c1
            have m1 := hcu.thaw (v + 1)
            have r1 := hrr.cell 1
            simp only [List.getElem?_toArray, List.getElem?_cons_zero, List.getElem?_cons_succ] at r1
            have hsum := lt_succ p (v + 1) xs
            have hle : lt p (v + 1 + 1) xs ≤ xs.length := List.length_filter_le _ _
            have HSu := Lib.hid (And.intro hsum hle)
            have q0 : ((lt p (v + 1) xs : Nat) : Int) ≤ 67108864 := by have := lt_mono p (show v + 1 ≤ v + 1 + 1 by omega) xs; omega
            have q1 : ((cnt p (v + 1) xs : Nat) : Int) ≤ 67108864 := by have := cnt_le p (v + 1) xs; omega
            have hv1 : ((v : Int) + 1) < (n : Int) + 1 := by omega
            have hv2 : (v : Int) < (n : Int) + 1 := by omega
            have hv3 : (v : Int) ≤ 16777216 := by omega
            clear hcu hrr hsum hle
            generalize lt p (v + 1) xs = A at *
            generalize cnt p (v + 1) xs = C at *
            have hw1 : IntKind.i64.wrap ((v : Int) + 1) = (v : Int) + 1 := by rw [IntKind.wrap_i64]; omega
            have hw2 : IntKind.i64.wrap ((C : Int) + (A : Int)) = (C : Int) + (A : Int) := by rw [IntKind.wrap_i64]; omega
            go_upto_region 10 with (fail)
            go_region
            go_wp2
            refine ⟨⟨v + 1, by omega, by go_num, ?_, (HO.out.setCell (p := ⟨cb, v + 1, none⟩) (.inl rfl) _).drew⟩, by simp [intOf]; omega⟩
            have hq := HQ.out.put (v + 1) (.int .i64 ((C + A : Nat)))
            rw [cellsF_put] at hq
            rw [cellsF_congr (f := fun j => if j = v + 1 then C + A else if j ≤ v then lt p (j + 1) xs else cnt p j xs) (g := fun j => if j ≤ v + 1 then lt p (j + 1) xs else cnt p j xs) (fun i hi => by
              by_cases h1 : i = v + 1
              · subst h1; rw [if_pos rfl, if_pos (Nat.le_refl _)]; have := HSu.out; omega
              · rw [if_neg h1]
                by_cases h2 : i ≤ v
                · rw [if_pos h2, if_pos (by omega)]
                · rw [if_neg h2, if_neg (by omega)])] at hq
            exact hq
          · obtain rfl : v = n := by omega
            have hlt' : ¬ (v : Int) < (v : Int) := by omega
            rw [cellsF_congr (g := fun j => lt p (j + 1) xs) (fun i hi => by rw [if_pos hi])] at hcu
            obtain ⟨w3, hw3⟩ : ∃ w3, w3 = wr := ⟨_, rfl⟩
            subst hw3
            have HC3 := Lib.hid (And.intro (HC2.out.1.only HO.out (by have := HI.out; omega)) (And.intro hrr (And.intro (HC2.out.2.2.1.only HO.out (by have := HI.out; omega)) (And.intro (HC2.out.2.2.2.1.only HO.out (by have := HI.out; omega)) (And.intro (HC2.out.2.2.2.2.1.only HO.out (by have := HI.out; omega)) (HC2.out.2.2.2.2.2.trans (HO.out.below (K := w.heap.size) (fun j e => by subst e; have := HI.out; omega) (HC2.out.2.2.2.2.2.size))))))))
            have HCu3 := Lib.hid hcu
            clear hcu hrr HO HC2 HQ
            go_wp2_with fail
            refine (backI_any _ _ _ w3).mono ?_
            rintro e w4 ⟨rfl, hw4⟩
            have hb4 : Below w3.heap.size w3 w4 := by rw [hw4]; exact (Below.refl _ _).alloc (Nat.le_refl _) _
            have hbb : Row w4 w3.heap.size 33 #[.slice (some ⟨sb, 0, none⟩) xs.length c] := by rw [hw4]; exact Row.fresh w3 _ _
            have hs4 : w4.heap.size = w3.heap.size + 1 := by rw [hw4]; simp
            have hcb4 := HCu3.out.under hb4 HCu3.out.lt
            have HL := Lib.hid (show cb < w4.heap.size ∧ ib < w4.heap.size ∧ rb < w4.heap.size ∧ w.heap.size + 1 < w4.heap.size from ⟨by have := HCu3.out.lt; omega, by have := HC3.out.1.lt; omega, by have := HC3.out.2.1.lt; omega, by have := HC3.out.2.2.2.1.lt; omega⟩)
            have hseq := backI_seq (6 - 1) sb w3.heap.size c xs (fun j => j = cb ∨ j = ib) (by omega) w4 hbb (HC3.out.2.2.2.2.1.under hb4 HC3.out.2.2.2.2.1.lt) (by have := HCu3.out.lt; have := HC3.out.1.lt; omega) (by have := HI.out; omega) HNL.out.2
            have h0 : LayII w xs p v ib cb rb eb pb [] (fun _ => False) w4 := by
              refine ⟨List.replicate xs.length 0, by simp, ?_, HC3.out.1.under hb4 HC3.out.1.lt, ?_, HC3.out.2.1.under hb4 HC3.out.2.1.lt, HC3.out.2.2.1.under hb4 HC3.out.2.2.1.lt, HC3.out.2.2.2.1.under hb4 HC3.out.2.2.2.1.lt, HC3.out.2.2.2.2.2.trans (hb4.mono (HC3.out.2.2.2.2.2.size))⟩
              · rw [cellsF_congr (g := fun j => lt p (j + 1) xs) (fun i hi => by simp [lt_succ])]
                exact hcb4
              · exact Fill.start p (by simp)
            have H0 := Lib.hid h0
            clear hw4 hb4 hbb hcb4 h0
            generalize w3.heap.size = bb at *
            go_wp2_with fail
            refine (wpIn_wide (n := 6)).1 ?_
            refine wpIn_rangeFunc_sep1 (F := Fence.wide) rfl (by omega) (gf := 162) (lb := #[ptr bb]) rfl trivial (enters_of Tryz.func162 (by kernel_rfl) rfl) hseq (fun k h => by have := HL.out; omega) (fun _ => rfl)
              (LayII w xs p v ib cb rb eb pb) (fun _ _ _ _ => False) (LayII.abide HL.out) (fun _ _ _ _ _ h _ _ => h.elim) H0.out (mk := ?mk) ?assign ?body ?done ?stop
            case assign =>
              intro l x W K hK
              gi_wp2
              exact hK
            case body =>
              rintro l pre k T W ⟨R, hpl, hcu, hit, hfill, hrr, hff, hres, hbw⟩ hR hT hW
              have hlt : k < xs.length := by omega
              have hk1 : xs.length - pre.length = k + 1 := by omega
              rw [hk1] at hcu hfill
              have hM := List.getElem_mem hlt
              have hstep := Fill.step p hlt HPn.out hfill
              have hsp := spot_lt p hlt HPn.out
              have hct := cnt_take p (v := p (xs[k]'hlt)) hlt
              rw [if_pos rfl] at hct
              have hge : xs[k]?.getD 0 = xs[k]'hlt := by rw [List.getElem?_eq_getElem hlt]; rfl
              have hpx := HPn.out _ hM
              have hcn := fun u => cnt_take p (v := u) hlt
              generalize hxe : xs[k]'hlt = x at *
              have hspd : spot p xs k x = lt p (p x) xs + cnt p (p x) (xs.take k) := rfl
              generalize spot p xs k x = q at *
              have HP2 := Lib.hid (HP.out W hbw x hM)
              have HH := Lib.hid (And.intro hcu (And.intro hit (And.intro hrr (And.intro hff (And.intro hres (And.intro hbw (And.intro hT hW)))))))
              have HF := Lib.hid (And.intro hstep (And.intro hct (And.intro hspd (And.intro hcn (And.intro hfill.1 (And.intro hR hpl))))))
              have hf5 := hff.cell 0
              simp only [List.getElem?_toArray, List.getElem?_cons_zero] at hf5
              have hp1 : (p x : Int) < (v : Int) + 1 := by omega
              have hq1 : (q : Int) < (xs.length : Int) := by omega
              rw [hge]
              clear hcu hit hrr hff hres hbw hT hW hstep hct hspd hcn hR hpl hM hfill hge hpx
              have hfP : Fence.wide.fn 110 := trivial
              have hn1 : ¬ cb = rb := by have := HI.out; omega
              have hn2 : ¬ ib = cb := by have := HI.out; omega
              have hn3 : ¬ rb = cb := by have := HI.out; omega
              have hn4 : ¬ cb = ib := by have := HI.out; omega
              gi_wp2_with (first
                | (gi_at_call 110; refine ((callsIn_wide (n := 3).2 HP2.out).inRound l).mono ?_; rintro e w5 ⟨rfl, hb5⟩; have hcu5 := HH.out.1.under hb5 HH.out.1.lt; have hit5 := HH.out.2.1.under hb5 HH.out.2.1.lt; have hrr5 := HH.out.2.2.1.under hb5 HH.out.2.2.1.lt; have r0 := hrr5.cell 0; have r1 := hrr5.cell 1; have c5 : w5.cell? ⟨cb, p x, none⟩ = some (.int .i64 ((q : Int) + 1)) := (by rw [hcu5.cell (p x), cellsF_at (by omega), HF.out.2.1]; congr 2; have := HF.out.2.2.1; omega); have m5 := hcu5.thaw (p x); have mi := hit5.thaw q; have ci := hit5.cell q; rw [nsV_at (show q < R.length by have := HF.out.2.2.2.2.1; omega)] at ci; simp only [List.getElem?_toArray, List.getElem?_cons_zero, List.getElem?_cons_succ] at r0 r1; have HH5 := Lib.hid (And.intro hcu5 (And.intro hit5 hb5)); clear hb5 hcu5 hit5 hrr5)
                | gi_in)
              obtain ⟨w6, hw6⟩ : ∃ w6, w6 = w5.setCell ⟨cb, p x, none⟩ (.int .i64 (q : Int)) := ⟨_, rfl⟩
              rw [← hw6]
              have hcu6 := HH5.out.1.put (p x) (.int .i64 (q : Int))
              have hit6 := HH5.out.2.1.away (a := ⟨cb, p x, none⟩) hn2 (.int .i64 (q : Int))
              have hrr6 := (HH.out.2.2.1.under HH5.out.2.2 HH.out.2.2.1.lt).away (a := ⟨cb, p x, none⟩) hn3 (.int .i64 (q : Int))
              have hox : Only (fun j => j = cb ∨ j = ib) W w6 := by rw [hw6]; exact (Only.of_below _ HH5.out.2.2).setCell (.inl (.inl rfl)) _
              rw [← hw6] at hcu6 hit6 hrr6
              rw [cellsF_put] at hcu6
              have HSt := Lib.hid (show ∀ W', Only (fun j => j = ib) w6 W' → (W'.cell? ⟨rb, 0, none⟩ = some (.slice (some ⟨ib, 0, none⟩) xs.length xs.length) ∧ W'.cell? ⟨rb, 1, none⟩ = some (.slice (some ⟨cb, 0, none⟩) (v + 1) (v + 1)) ∧ W'.cell? ⟨cb, p x, none⟩ = some (.int .i64 (q : Nat))) from fun W' hW => ⟨(hrr6.only hW (by have := HI.out; omega)).cell 0, (hrr6.only hW (by have := HI.out; omega)).cell 1, by rw [(hcu6.only hW hn4).cell (p x), cellsF_at (by omega), if_pos rfl]⟩)
              have mi6 := hit6.thaw q
              have ci6 := hit6.cell q
              rw [nsV_at (show q < R.length by have := HF.out.2.2.2.2.1; omega)] at ci6
              have H6 := Lib.hid (And.intro hcu6 (And.intro hit6 (And.intro hrr6 hox)))
              clear hcu6 hit6 hrr6 hox hw6 c5 m5 mi ci r0 r1 hf5
              refine wpIn_region_held_round (S := fun W => W.cell? ⟨rb, 0, none⟩ = some (.slice (some ⟨ib, 0, none⟩) xs.length xs.length) ∧ W.cell? ⟨rb, 1, none⟩ = some (.slice (some ⟨cb, 0, none⟩) (v + 1) (v + 1)) ∧ W.cell? ⟨cb, p x, none⟩ = some (.int .i64 (q : Nat))) (by kernel_rfl) (by rintro ⟨a, w, h⟩; exact h) (by kernel_rfl) (HSt.out _ (Only.refl _ _).drew) (fun hHeld => ?_)
              refine wpAnyH_take (i := 0) (oi := ⟨some 69, _, _, _, _, _⟩) (v := ?_) rfl (by kernel_rfl) (by kernel_rfl) (by kernel_rfl) (fun _ _ _ h => h) (Or.inl ⟨by rfl, ?_⟩) hHeld ?_
              rotate_left
              · intro W hSw
                obtain ⟨s0, s1, s2⟩ := hSw
                go_simp
                with_reducible rfl
              simp only [Act.put, List.setIfInBounds_toArray, List.set_cons_zero, List.set_cons_succ]
              refine wpAnyH_take (i := 1) (oi := ⟨some 70, _, _, _, _, _⟩) (v := ?_) rfl (by kernel_rfl) (by kernel_rfl) (by kernel_rfl) (fun _ _ _ h => h) (Or.inl ⟨by rfl, ?_⟩) hHeld ?_
              rotate_left
              · intro W hSw
                obtain ⟨s0, s1, s2⟩ := hSw
                go_simp
                with_reducible rfl
              simp only [Act.put, List.setIfInBounds_toArray, List.set_cons_zero, List.set_cons_succ]
              refine wpAnyH_take (i := 2) (oi := ⟨some 71, _, _, _, _, _⟩) (v := ?_) rfl (by kernel_rfl) (by kernel_rfl) (by kernel_rfl) (fun _ _ _ h => h) (Or.inl ⟨by rfl, ?_⟩) hHeld ?_
              rotate_left
              · intro W hSw
                obtain ⟨s0, s1, s2⟩ := hSw
                go_simp
                with_reducible rfl
              simp only [Act.put, List.setIfInBounds_toArray, List.set_cons_zero, List.set_cons_succ]
              refine wpAnyH_take (i := 3) (oi := ⟨some 72, _, _, _, _, _⟩) (v := ?_) rfl (by kernel_rfl) (by kernel_rfl) (by kernel_rfl) (fun _ _ _ h => h) (Or.inl ⟨by rfl, ?_⟩) hHeld ?_
              rotate_left
              · intro W hSw
                obtain ⟨s0, s1, s2⟩ := hSw
                go_simp
                with_reducible rfl
              simp only [Act.put, List.setIfInBounds_toArray, List.set_cons_zero, List.set_cons_succ]
              refine wpAnyH_take (i := 4) (oi := ⟨some 73, _, _, _, _, _⟩) (v := ?_) rfl (by kernel_rfl) (by kernel_rfl) (by kernel_rfl) (fun _ _ _ h => h) (Or.inl ⟨by rfl, ?_⟩) hHeld ?_
              rotate_left
              · intro W hSw
                obtain ⟨s0, s1, s2⟩ := hSw
                go_simp
                with_reducible rfl
              simp only [Act.put, List.setIfInBounds_toArray, List.set_cons_zero, List.set_cons_succ]
              refine wpAnyH_take (i := 5) (oi := ⟨some 74, _, _, _, _, _⟩) (v := ?_) rfl (by kernel_rfl) (by kernel_rfl) (by kernel_rfl) (fun _ _ _ h => h) (Or.inl ⟨by rfl, ?_⟩) hHeld ?_
              rotate_left
              · intro W hSw
                obtain ⟨s0, s1, s2⟩ := hSw
                go_simp
                with_reducible rfl
              simp only [Act.put, List.setIfInBounds_toArray, List.set_cons_zero, List.set_cons_succ]
              refine wpAnyH_take (i := 6) (oi := ⟨some 75, _, _, _, _, _⟩) (v := ?_) rfl (by kernel_rfl) (by kernel_rfl) (by kernel_rfl) (fun _ _ _ h => h) (Or.inl ⟨by rfl, ?_⟩) hHeld ?_
              rotate_left
              · intro W hSw
                obtain ⟨s0, s1, s2⟩ := hSw
                go_simp
                with_reducible rfl
              simp only [Act.put, List.setIfInBounds_toArray, List.set_cons_zero, List.set_cons_succ]
              refine wpAnyH_take (i := 7) (oi := ⟨some 76, _, _, _, _, _⟩) (v := ?_) rfl (by kernel_rfl) (by kernel_rfl) (by kernel_rfl) (fun _ _ _ h => h) (Or.inl ⟨by rfl, ?_⟩) hHeld ?_
              rotate_left
              · intro W hSw
                obtain ⟨s0, s1, s2⟩ := hSw
                go_simp
                with_reducible rfl
              simp only [Act.put, List.setIfInBounds_toArray, List.set_cons_zero, List.set_cons_succ]
              refine wpAnyH_take (i := 8) (oi := ⟨some 77, _, _, _, _, _⟩) (v := ?_) rfl (by kernel_rfl) (by kernel_rfl) (by kernel_rfl) (fun _ _ _ h => h) (Or.inl ⟨by rfl, ?_⟩) hHeld ?_
              rotate_left
              · intro W hSw
                obtain ⟨s0, s1, s2⟩ := hSw
                go_simp
                with_reducible rfl
              simp only [Act.put, List.setIfInBounds_toArray, List.set_cons_zero, List.set_cons_succ]

              refine wpAnyH_ready (rs := [9]) (by kernel_rfl) (by simp) ?_
              refine (AllReadyH.cons (o := ⟨none, _, _, _, _, _⟩) rfl (fun K hK => ?_) AllReadyH.nil)
              go_simp
              refine hK.out _ _ (HSt.out _ (Only.setCell (S := fun j => j = ib) (p := ⟨ib, q, none⟩) (Only.refl _ _).drew (.inl rfl) _)) (fun _ => ?_)
              clear hK K
              refine wpAnyH_done (by kernel_rfl) ?_ _
              gi_wp2
              have hW9 := (H6.out.2.2.2.setCell (p := ⟨ib, q, none⟩) (.inl (.inr rfl)) (.int .i64 (x : Nat))).drew
              refine ⟨T, ⟨R.set q x, by have := HF.out.2.2.2.2.2.1; simp; omega, ?_, ?_, ?_, H6.out.2.2.1.away (a := ⟨ib, q, none⟩) (by show rb ≠ ib; have := HI.out; omega) _, HH.out.2.2.2.1.only hW9 (by have := HI.out; omega), HH.out.2.2.2.2.1.only hW9 (by have := HI.out; omega), HH.out.2.2.2.2.2.1.trans (hW9.below (K := w.heap.size) (fun j e => by have := HI.out; omega) HH.out.2.2.2.2.2.1.size)⟩, ⟨fun _ h => h, fun _ h => .inl h, fun j h => Nat.lt_of_lt_of_le (HH.out.2.2.2.2.2.2.1 j h).2 hW9.size, hW9.mono (fun j h => .inl (.inl h))⟩⟩
              · have hk0 : xs.length - (pre ++ [k]).length = k := by have := HF.out.2.2.2.2.2.1; simp; omega
                rw [hk0]
                have hq := H6.out.1.away (a := ⟨ib, q, none⟩) (by show cb ≠ ib; have := HI.out; omega) (.int .i64 (x : Nat))
                rw [cellsF_congr (g := fun i => lt p i xs + cnt p i (xs.take k)) (fun i hi => by
                  have h1 := HF.out.2.2.2.1 i
                  by_cases hj : i = p x
                  · subst hj; rw [if_pos rfl]; exact HF.out.2.2.1
                  · rw [if_neg hj, h1, if_neg (fun e => hj e.symm), Nat.add_zero])] at hq
                exact hq
              · have hq := H6.out.2.1.put q (.int .i64 (x : Nat))
                rw [nsV_set] at hq
                exact hq
              · have hk0 : xs.length - (pre ++ [k]).length = k := by have := HF.out.2.2.2.2.2.1; simp; omega
                rw [hk0]
                exact HF.out.1
            case done =>
              rintro D pre T W hD hpre ⟨R, h0, h1, h2, h3, h4, h5, h6, h7⟩ hT hK
              have hz : xs.length - pre.length = 0 := by omega
              rw [hz] at h1 h3
              have r0 := h4.cell 0
              have r1 := h4.cell 1
              have e0 := h6.cell 0
              have e1 := h6.cell 1
              have m0 := h6.thaw 0
              have m1 := h6.thaw 1
              simp only [List.getElem?_toArray, List.getElem?_cons_zero, List.getElem?_cons_succ] at r0 r1 e0 e1
              have HZ := Lib.hid (And.intro h1 (And.intro h2 (And.intro h3 (And.intro h6 (And.intro h7 (And.intro hK hD))))))
              clear h0 h1 h2 h3 h4 h5 h6 h7 hT hK hD hpre hz
              go_wp2
              refine noP_ret ?_
              obtain ⟨q1, q2, q3⟩ := ret_two (v0 := .slice (some ⟨ib, 0, none⟩) xs.length xs.length) (v1 := .slice (some ⟨cb, 0, none⟩) (v + 1) (v + 1)) HZ.out.2.2.2.1 HZ.out.2.2.2.2.2.1 (by have := HZ.out.2.2.2.2.2.2; have := HL.out; omega)
              refine ⟨by simp, .inl ⟨_, _, rfl, run_takeDeferred q1, ?_⟩⟩
              have r0 := q2.cell 0
              have r1 := q2.cell 1
              simp only [List.getElem?_toArray, List.getElem?_cons_zero, List.getElem?_cons_succ] at r0 r1
              have hD := HZ.out.2.2.2.2.2.2
              have z1 := HZ.out.1.only q3 (by have := HL.out; have := HI.out; omega)
              have z2 := HZ.out.2.1.only q3 (by have := HL.out; have := HI.out; omega)
              have z3 := HZ.out.2.2.2.2.1.trans (q3.below (K := w.heap.size) (fun j e => by have := HL.out; omega) HZ.out.2.2.2.2.1.size)
              generalize World.putObj _ D (.deferred none) = WF at *
              refine ⟨.agg #[.slice (some ⟨ib, 0, none⟩) xs.length xs.length, .slice (some ⟨cb, 0, none⟩) (v + 1) (v + 1)], by simp [results, Tryz.results109, go_sem, r0, r1], ?_⟩
              refine ⟨z3, ib, cb, rfl, by have := HI.out; omega, by have := HI.out; omega, ?_, ?_⟩
              · rw [← Fill.all p HZ.out.2.2.1 HPn.out]; exact z2
              · rw [cellsF_congr (g := fun i => lt p i xs + cnt p i (xs.take 0)) (fun i _ => by simp [cnt])]
                exact z1
            case stop =>
              rintro D c pre T W _ h
              exact h.elim
end Go.Proofs.YtdkpdmpghibmmaaGreat
