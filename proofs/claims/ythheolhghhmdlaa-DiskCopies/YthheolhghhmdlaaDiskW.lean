/- The document's disk: without a file. -/
import Derived.Test.YthheolhghhmdlaaDiskV
namespace Go.Proofs.Ythheolhghhmdlaa
open Go.RowKit Dsk

/-- A disk of the call's own in the making: it lies in block B, its files are of blocks from K on. -/
structure Mak (w0 : World) (K B : Nat) (room : Int) (T : Nat → Prop) (rs : List Rf) (wr : World) : Prop where
  row : ∃ a c, Row wr B 27 #[.int .i64 room, .slice a rs.length c] ∧ FV wr K (.slice a rs.length c) rs
  ok : ∀ r ∈ rs, r.ok w0 T
theorem del_skip {rs : List Rf} {n : Nm} {j : Nat} (h : j < rs.length) (e : (rs[j]'h).name = n) : del Rf.name n (rs.take (j + 1)) = del Rf.name n (rs.take j) := by
  unfold del
  rw [List.take_succ_eq_append_getElem h, List.filter_append]
  simp [e]
theorem del_keep {rs : List Rf} {n : Nm} {j : Nat} (h : j < rs.length) (e : (rs[j]'h).name ≠ n) : del Rf.name n (rs.take (j + 1)) = del Rf.name n (rs.take j) ++ [rs[j]'h] := by
  unfold del
  rw [List.take_succ_eq_append_getElem h, List.filter_append]
  simp [e]
/-- What the loop of without keeps. -/
def WoR (w : World) (room : Int) (v : Value) (rs : List Rf) (n : Nm) (j : Nat) (wr : World) : Prop :=
  ∃ a c, Row wr (w.heap.size + 1 + 1) 27 #[.int .i64 room, .slice a (del Rf.name n (rs.take j)).length c] ∧ FV wr (w.heap.size + 3) (.slice a (del Rf.name n (rs.take j)).length c) (del Rf.name n (rs.take j)) ∧ Row wr w.heap.size 27 #[.int .i64 room, v] ∧ Row wr (w.heap.size + 1) 27 #[.int .i64 0, .slice none 0 0] ∧ Below w.heap.size w wr
/-- What comes back: a disk of the document. -/
def RDisk (w : World) (T : Nat → Prop) (room : Int) (rs : List Rf) (v : Value) (w' : World) : Prop := ∃ a c, v = dV room a rs.length c ∧ Fs3 w' (moreT T w.heap.size w'.heap.size) a rs ∧ Below w.heap.size w w'
set_option maxRecDepth 100000 in
set_option maxHeartbeats 1000000 in
theorem rwithout_any {w : World} {T : Nat → Prop} {ad : Option Addr} {rs : List Rf} (room : Int) (c : Nat) (n : Nm) (h : Fs3 w T ad rs) (hT : ∀ k, T k → k < w.heap.size) (hL : rs.length ≤ 1000000) :
    Calls Try.prog 40 #[dV room ad rs.length c, .string ⟨n.toArray⟩] w fun e w' => ∃ v, e = .returned v ∧ RDisk w T room (del Rf.name n rs) v w' := by
  have HH := Lib.hid h
  have HT := Lib.hid hT
  have hlI : (rs.length : Int) ≤ 1000000 := by omega
  clear h hT
  go_enter Try.func40, Try.ntmps40
  go_wp2
  have H0 := Lib.hid (show WoR w room (.slice ad rs.length c) rs n 0 (((w.alloc (.cells #[.int .i64 room, .slice ad rs.length c] 27)).alloc (.cells #[.int .i64 0, .slice none 0 0] 27)).alloc (.cells #[.int .i64 room, .slice none 0 0] 27)) from by
    refine ⟨none, 0, ?_, FV.nil _ _, ((Row.fresh w _ _).past _).past _, ?_, ((Below.refl _ _).alloc (Nat.le_refl _) _ |>.alloc (by simp) _).alloc (by simp; omega) _⟩
    · have := Row.fresh ((w.alloc (.cells #[.int .i64 room, .slice ad rs.length c] 27)).alloc (.cells #[.int .i64 0, .slice none 0 0] 27)) 27 #[.int .i64 room, .slice none 0 0]
      simpa [del] using this
    · have := (Row.fresh (w.alloc (.cells #[.int .i64 room, .slice ad rs.length c] 27)) 27 #[.int .i64 0, .slice none 0 0]).past (.cells #[.int .i64 room, .slice none 0 0] 27)
      simpa using this)
  go_loopw [6] (fun i wr => ∃ j : Nat, j ≤ rs.length ∧ i = .int .i64 j ∧ WoR w room (.slice ad rs.length c) rs n j wr) (fun i _ => rs.length - (intOf i).toNat)
  case atStart => exact ⟨0, by omega, rfl, H0.out⟩
  case round =>
    obtain ⟨j, hj, rfl, hR⟩ := hrel
    clear H0
    obtain ⟨ua, uc, ru, hiv, rb, rr, hb⟩ := hR
    have r1 : wr.cell? ⟨w.heap.size, 1, none⟩ = some (.slice ad rs.length c) := rb.cell 1
    have u1 : wr.cell? ⟨w.heap.size + 1 + 1, 1, none⟩ = some (.slice ua (del Rf.name n (rs.take j)).length uc) := ru.cell 1
    have uf1 := ru.thaw 1
    have ul := ru.lt
    by_cases hlt : j < rs.length
    · have hlt' : (j : Int) < (rs.length : Int) := by omega
      obtain ⟨b, o, ea, hbl2, hTb, c0, c1, c2, hok⟩ := (HH.out.kept (kept_below HT.out hb)).at_ hlt
      subst ea
      by_cases he : (rs[j]'hlt).name = n
      · have HN := Lib.hid (show WoR w room (.slice (some ⟨b, o, none⟩) rs.length c) rs n (j + 1) wr from ⟨ua, uc, by rw [del_skip hlt he]; exact ru, by rw [del_skip hlt he]; exact hiv, rb, rr, hb⟩)
        have hq : ((rs[j]'hlt).name == n) = true := by simp [he]
        have hq2 : ((rs[j]'hlt).name != n) = false := by simp [he]
        clear ru hiv rb rr hb he hok c1 c2
        generalize (rs[j]'hlt).name = x at *
        go_wp2
        go_roundw
        case rel => exact ⟨j + 1, by omega, by go_num, HN.out⟩
        case measure => simp [intOf]; omega
      · have HKp := Lib.hid (del_keep hlt he)
        have hlen : (del Rf.name n (rs.take j)).length ≤ 1000000 := by
          have := del_length (key := Rf.name) n (rs.take j)
          rw [List.length_take] at this
          omega
        have hq : ((rs[j]'hlt).name == n) = false := by simp [he]
        have hq2 : ((rs[j]'hlt).name != n) = true := by simp [he]
        have hone := hok.one
        obtain ⟨⟨af, cf, ef, _⟩, aw, cw, ew, _⟩ := hok
        clear he
        generalize rs[j]'hlt = y at *
        obtain ⟨yf, yw, yn, yfi, yws⟩ := y
        simp only at ef ew
        subst ef
        subst ew
        simp only [Rf.name] at c0 c1 c2 hq hq2
        obtain ⟨v', w4, hrun, hiv4, hg4, hat4⟩ := run_appendF (w := (wr.alloc (.cells #[.string ⟨yn.toArray⟩, .slice af yfi.length cf, .slice aw yws.length cw] 73)).drew) (w.heap.size + 3) 25 (.slice ua (del Rf.name n (rs.take j)).length uc) (del Rf.name n (rs.take j)) wr.heap.size ⟨.slice af yfi.length cf, .slice aw yws.length cw, ⟨yn, yfi, yws⟩⟩
          (ownsRow_same hiv fun k hk => Below.heap_alloc _ _ _ (World.ownsRow.lt hiv k hk).2) hlen ((Row.fresh wr _ _).cell 0) ((Row.fresh wr _ _).cell 1) ((Row.fresh wr _ _).cell 2) hone (by simp; omega)
        obtain ⟨a4, c4, hv4⟩ := hiv4.shape
        subst hv4
        have hfr : ∀ k, (Value.slice ua (del Rf.name n (rs.take j)).length uc).ownBlock = some k → w.heap.size + 3 ≤ k := fun k hk => (World.ownsRow.lt hiv k hk).1
        have ru4 : Row w4 (w.heap.size + 1 + 1) 27 #[.int .i64 room, .slice ua (del Rf.name n (rs.take j)).length uc] := (hg4.block _ (by simp; omega) (fun e => by have := hfr _ e.symm; omega)).trans (ru.past _)
        have rb4 : Row w4 w.heap.size 27 #[.int .i64 room, .slice (some ⟨b, o, none⟩) rs.length c] := (hg4.block _ (by simp; omega) (fun e => by have := hfr _ e.symm; omega)).trans (rb.past _)
        have rr4 : Row w4 (w.heap.size + 1) 27 #[.int .i64 0, .slice none 0 0] := (hg4.block _ (by simp; omega) (fun e => by have := hfr _ e.symm; omega)).trans (rr.past _)
        have hb4 : Below w.heap.size w w4 := ((hb.alloc hb.size _).drew).grown hg4 (by have := hb.size; simp; omega) (fun k hk => by have := hfr k hk; omega)
        have HN := Lib.hid (show WoR w room (.slice (some ⟨b, o, none⟩) rs.length c) rs n (j + 1) (w4.setCell ⟨w.heap.size + 1 + 1, 1, none⟩ (.slice a4 (del Rf.name n (rs.take j) ++ [(⟨.slice af yfi.length cf, .slice aw yws.length cw, ⟨yn, yfi, yws⟩⟩ : Rf)]).length c4)) from by
          refine ⟨a4, c4, by rw [HKp.out]; exact ru4.put 1 _, by rw [HKp.out]; exact ownsRow_same hiv4 fun k hk => Below.heap_setCell _ _ _ _ (fun e => by have := (World.ownsRow.lt hiv4 k hk).1; have e' : k = w.heap.size + 1 + 1 := e; omega), rb4.away (by show w.heap.size ≠ w.heap.size + 1 + 1; omega) _, rr4.away (by show w.heap.size + 1 ≠ w.heap.size + 1 + 1; omega) _, hb4.setCell (by show w.heap.size ≤ w.heap.size + 1 + 1; omega) _⟩)
        have m1 : w4.cell? ⟨w.heap.size + 1 + 1, 1, none⟩ = some (.slice ua (del Rf.name n (rs.take j)).length uc) := ru4.cell 1
        have mf := ru4.thaw 1
        have ml := ru4.lt
        have HRUN := Lib.hid hrun
        clear hrun hiv4 hg4 hat4 ru4 rb4 rr4 hb4 hfr ru hiv rb rr hb HKp hone
        generalize (del Rf.name n (rs.take j) ++ [(⟨.slice af yfi.length cf, .slice aw yws.length cw, ⟨yn, yfi, yws⟩⟩ : Rf)]).length = m4 at *
        generalize (del Rf.name n (rs.take j)).length = m3 at *
        go_wp2
        refine wp_region_held_drew (S := fun _ => True) (by kernel_rfl) trivial (fun _ => ?_)
        refine wpAnyH_take (i := 0) (oi := ⟨some 25, _, _, _, _, _⟩) (v := ?_) rfl (by kernel_rfl) (by kernel_rfl) (by kernel_rfl) (fun _ _ _ h => h) (Or.inl ⟨by rfl, ?_⟩) trivial ?_
        rotate_left
        · intro W _
          go_simp
          with_reducible rfl
        simp only [Act.put, List.setIfInBounds_toArray, List.set_cons_zero, List.set_cons_succ]
        refine wpAnyH_take (i := 2) (oi := ⟨some 27, _, _, _, _, _⟩) (v := ?_) rfl (by kernel_rfl) (by kernel_rfl) (by kernel_rfl) (fun _ _ _ h => h) (Or.inl ⟨by rfl, ?_⟩) trivial ?_
        rotate_left
        · intro W _
          go_simp
          with_reducible rfl
        simp only [Act.put, List.setIfInBounds_toArray, List.set_cons_zero, List.set_cons_succ]
        refine wpAnyH_take (i := 4) (oi := ⟨some 29, _, _, _, _, _⟩) (v := ?_) rfl (by kernel_rfl) (by kernel_rfl) (by kernel_rfl) (fun _ _ _ h => h) (Or.inl ⟨by rfl, ?_⟩) trivial ?_
        rotate_left
        · intro W _
          go_simp
          with_reducible rfl
        simp only [Act.put, List.setIfInBounds_toArray, List.set_cons_zero, List.set_cons_succ]
        refine wpAnyH_ready (rs := [1, 3]) (by kernel_rfl) (by simp) ?_
        refine AllReadyH.cons (o := ⟨some 26, _, _, _, _, _⟩) rfl (fun K hK => ?_) (AllReadyH.cons (o := ⟨some 28, _, _, _, _, _⟩) rfl (fun K hK => ?_) AllReadyH.nil)
        · skip
          go_simp
          refine hK.out _ _ trivial (fun _ => ?_)
          clear hK K
          refine wpAnyH_ready (rs := [3]) (by kernel_rfl) (by simp) ?_
          refine AllReadyH.cons (o := ⟨some 28, _, _, _, _, _⟩) rfl (fun K hK => ?_) AllReadyH.nil
          go_simp
          refine hK.out _ _ trivial (fun _ => ?_)
          clear hK K
          refine wpAnyH_take (i := 5) (oi := ⟨some 30, _, _, _, _, _⟩) (v := ?_) rfl (by kernel_rfl) (by kernel_rfl) (by kernel_rfl) (fun _ _ _ h => h) (Or.inl ⟨by rfl, ?_⟩) trivial ?_
          rotate_left
          · intro W _
            go_simp
            with_reducible rfl
          simp only [Act.put, List.setIfInBounds_toArray, List.set_cons_zero, List.set_cons_succ]
          refine wpAnyH_ready (rs := [6]) (by kernel_rfl) (by simp) ?_
          refine AllReadyH.cons (o := ⟨some 31, _, _, _, _, _⟩) rfl (fun K hK => ?_) AllReadyH.nil
          go_simp
          refine hK.out _ _ trivial (fun _ => ?_)
          clear hK K
          refine wpAnyH_ready (rs := [7]) (by kernel_rfl) (by simp) ?_
          refine AllReadyH.cons (o := ⟨some 32, _, _, _, _, _⟩) rfl (fun K hK => ?_) AllReadyH.nil
          go_simp
          refine hK.out _ _ trivial (fun _ => ?_)
          clear hK K
          refine wpAnyH_ready (rs := [8]) (by kernel_rfl) (by simp) ?_
          refine AllReadyH.cons (o := ⟨some 33, _, _, _, _, _⟩) rfl (fun K hK => ?_) AllReadyH.nil
          rw [if_pos (by rfl)]
          refine wp_append2 _ _ _ _ rfl _ _ rfl rfl HRUN.out ?_
          simp only [Act.put, List.setIfInBounds_toArray, List.set_cons_zero, List.set_cons_succ]
          refine hK.out _ _ trivial (fun _ => ?_)
          clear hK K
          refine wpAnyH_take (i := 9) (oi := ⟨some 34, _, _, _, _, _⟩) (v := ?_) rfl (by kernel_rfl) (by kernel_rfl) (by kernel_rfl) (fun _ _ _ h => h) (Or.inl ⟨by rfl, ?_⟩) trivial ?_
          rotate_left
          · intro W _
            go_simp
            with_reducible rfl
          simp only [Act.put, List.setIfInBounds_toArray, List.set_cons_zero, List.set_cons_succ]
          refine wpAnyH_ready (rs := [10]) (by kernel_rfl) (by simp) ?_
          refine AllReadyH.cons (o := ⟨none, _, _, _, _, _⟩) rfl (fun K hK => ?_) AllReadyH.nil
          go_simp
          refine hK.out _ _ trivial (fun _ => ?_)
          clear hK K
          refine wpAnyH_done (by kernel_rfl) ?_ _
          clear r1 u1
          go_wp2
          go_roundw
          case rel => exact ⟨j + 1, by omega, by go_num, HN.out⟩
          case measure => simp [intOf]; omega
        · skip
          go_simp
          refine hK.out _ _ trivial (fun _ => ?_)
          clear hK K
          refine wpAnyH_take (i := 5) (oi := ⟨some 30, _, _, _, _, _⟩) (v := ?_) rfl (by kernel_rfl) (by kernel_rfl) (by kernel_rfl) (fun _ _ _ h => h) (Or.inl ⟨by rfl, ?_⟩) trivial ?_
          rotate_left
          · intro W _
            go_simp
            with_reducible rfl
          simp only [Act.put, List.setIfInBounds_toArray, List.set_cons_zero, List.set_cons_succ]
          refine wpAnyH_ready (rs := [1, 6]) (by kernel_rfl) (by simp) ?_
          refine AllReadyH.cons (o := ⟨some 26, _, _, _, _, _⟩) rfl (fun K hK => ?_) (AllReadyH.cons (o := ⟨some 31, _, _, _, _, _⟩) rfl (fun K hK => ?_) AllReadyH.nil)
          · skip
            go_simp
            refine hK.out _ _ trivial (fun _ => ?_)
            clear hK K
            refine wpAnyH_ready (rs := [6]) (by kernel_rfl) (by simp) ?_
            refine AllReadyH.cons (o := ⟨some 31, _, _, _, _, _⟩) rfl (fun K hK => ?_) AllReadyH.nil
            go_simp
            refine hK.out _ _ trivial (fun _ => ?_)
            clear hK K
            refine wpAnyH_ready (rs := [7]) (by kernel_rfl) (by simp) ?_
            refine AllReadyH.cons (o := ⟨some 32, _, _, _, _, _⟩) rfl (fun K hK => ?_) AllReadyH.nil
            go_simp
            refine hK.out _ _ trivial (fun _ => ?_)
            clear hK K
            refine wpAnyH_ready (rs := [8]) (by kernel_rfl) (by simp) ?_
            refine AllReadyH.cons (o := ⟨some 33, _, _, _, _, _⟩) rfl (fun K hK => ?_) AllReadyH.nil
            rw [if_pos (by rfl)]
            refine wp_append2 _ _ _ _ rfl _ _ rfl rfl HRUN.out ?_
            simp only [Act.put, List.setIfInBounds_toArray, List.set_cons_zero, List.set_cons_succ]
            refine hK.out _ _ trivial (fun _ => ?_)
            clear hK K
            refine wpAnyH_take (i := 9) (oi := ⟨some 34, _, _, _, _, _⟩) (v := ?_) rfl (by kernel_rfl) (by kernel_rfl) (by kernel_rfl) (fun _ _ _ h => h) (Or.inl ⟨by rfl, ?_⟩) trivial ?_
            rotate_left
            · intro W _
              go_simp
              with_reducible rfl
            simp only [Act.put, List.setIfInBounds_toArray, List.set_cons_zero, List.set_cons_succ]
            refine wpAnyH_ready (rs := [10]) (by kernel_rfl) (by simp) ?_
            refine AllReadyH.cons (o := ⟨none, _, _, _, _, _⟩) rfl (fun K hK => ?_) AllReadyH.nil
            go_simp
            refine hK.out _ _ trivial (fun _ => ?_)
            clear hK K
            refine wpAnyH_done (by kernel_rfl) ?_ _
            clear r1 u1
            go_wp2
            go_roundw
            case rel => exact ⟨j + 1, by omega, by go_num, HN.out⟩
            case measure => simp [intOf]; omega
          · skip
            go_simp
            refine hK.out _ _ trivial (fun _ => ?_)
            clear hK K
            refine wpAnyH_ready (rs := [1, 7]) (by kernel_rfl) (by simp) ?_
            refine AllReadyH.cons (o := ⟨some 26, _, _, _, _, _⟩) rfl (fun K hK => ?_) (AllReadyH.cons (o := ⟨some 32, _, _, _, _, _⟩) rfl (fun K hK => ?_) AllReadyH.nil)
            · skip
              go_simp
              refine hK.out _ _ trivial (fun _ => ?_)
              clear hK K
              refine wpAnyH_ready (rs := [7]) (by kernel_rfl) (by simp) ?_
              refine AllReadyH.cons (o := ⟨some 32, _, _, _, _, _⟩) rfl (fun K hK => ?_) AllReadyH.nil
              go_simp
              refine hK.out _ _ trivial (fun _ => ?_)
              clear hK K
              refine wpAnyH_ready (rs := [8]) (by kernel_rfl) (by simp) ?_
              refine AllReadyH.cons (o := ⟨some 33, _, _, _, _, _⟩) rfl (fun K hK => ?_) AllReadyH.nil
              rw [if_pos (by rfl)]
              refine wp_append2 _ _ _ _ rfl _ _ rfl rfl HRUN.out ?_
              simp only [Act.put, List.setIfInBounds_toArray, List.set_cons_zero, List.set_cons_succ]
              refine hK.out _ _ trivial (fun _ => ?_)
              clear hK K
              refine wpAnyH_take (i := 9) (oi := ⟨some 34, _, _, _, _, _⟩) (v := ?_) rfl (by kernel_rfl) (by kernel_rfl) (by kernel_rfl) (fun _ _ _ h => h) (Or.inl ⟨by rfl, ?_⟩) trivial ?_
              rotate_left
              · intro W _
                go_simp
                with_reducible rfl
              simp only [Act.put, List.setIfInBounds_toArray, List.set_cons_zero, List.set_cons_succ]
              refine wpAnyH_ready (rs := [10]) (by kernel_rfl) (by simp) ?_
              refine AllReadyH.cons (o := ⟨none, _, _, _, _, _⟩) rfl (fun K hK => ?_) AllReadyH.nil
              go_simp
              refine hK.out _ _ trivial (fun _ => ?_)
              clear hK K
              refine wpAnyH_done (by kernel_rfl) ?_ _
              clear r1 u1
              go_wp2
              go_roundw
              case rel => exact ⟨j + 1, by omega, by go_num, HN.out⟩
              case measure => simp [intOf]; omega
            · skip
              go_simp
              refine hK.out _ _ trivial (fun _ => ?_)
              clear hK K
              refine wpAnyH_ready (rs := [1]) (by kernel_rfl) (by simp) ?_
              refine AllReadyH.cons (o := ⟨some 26, _, _, _, _, _⟩) rfl (fun K hK => ?_) AllReadyH.nil
              go_simp
              refine hK.out _ _ trivial (fun _ => ?_)
              clear hK K
              refine wpAnyH_ready (rs := [8]) (by kernel_rfl) (by simp) ?_
              refine AllReadyH.cons (o := ⟨some 33, _, _, _, _, _⟩) rfl (fun K hK => ?_) AllReadyH.nil
              rw [if_pos (by rfl)]
              refine wp_append2 _ _ _ _ rfl _ _ rfl rfl HRUN.out ?_
              simp only [Act.put, List.setIfInBounds_toArray, List.set_cons_zero, List.set_cons_succ]
              refine hK.out _ _ trivial (fun _ => ?_)
              clear hK K
              refine wpAnyH_take (i := 9) (oi := ⟨some 34, _, _, _, _, _⟩) (v := ?_) rfl (by kernel_rfl) (by kernel_rfl) (by kernel_rfl) (fun _ _ _ h => h) (Or.inl ⟨by rfl, ?_⟩) trivial ?_
              rotate_left
              · intro W _
                go_simp
                with_reducible rfl
              simp only [Act.put, List.setIfInBounds_toArray, List.set_cons_zero, List.set_cons_succ]
              refine wpAnyH_ready (rs := [10]) (by kernel_rfl) (by simp) ?_
              refine AllReadyH.cons (o := ⟨none, _, _, _, _, _⟩) rfl (fun K hK => ?_) AllReadyH.nil
              go_simp
              refine hK.out _ _ trivial (fun _ => ?_)
              clear hK K
              refine wpAnyH_done (by kernel_rfl) ?_ _
              clear r1 u1
              go_wp2
              go_roundw
              case rel => exact ⟨j + 1, by omega, by go_num, HN.out⟩
              case measure => simp [intOf]; omega
    · have hlt' : ¬ (j : Int) < (rs.length : Int) := by omega
      have hjl : j = rs.length := by omega
      clear u1 uf1
      rw [hjl, List.take_length] at ru hiv
      have HI := Lib.hid hiv
      have HB := Lib.hid hb
      have u0 : wr.cell? ⟨w.heap.size + 1 + 1, 0, none⟩ = some (.int .i64 room) := ru.cell 0
      have u1 : wr.cell? ⟨w.heap.size + 1 + 1, 1, none⟩ = some (.slice ua (del Rf.name n rs).length uc) := ru.cell 1
      have q0 : wr.cell? ⟨w.heap.size + 1, 0, none⟩ = some (.int .i64 0) := rr.cell 0
      have q1 : wr.cell? ⟨w.heap.size + 1, 1, none⟩ = some (.slice none 0 0) := rr.cell 1
      have qf0 := rr.thaw 0
      have qf1 := rr.thaw 1
      have ql := rr.lt
      have HRs := Lib.hid (show ∀ r ∈ del Rf.name n rs, r.ok w T from fun r hr => HH.out.2 r (mem_del.1 hr).1)
      clear hiv hb ru rb rr
      generalize hdl : (del Rf.name n rs).length = dl at *
      have HDL := Lib.hid hdl
      clear hdl
      go_wp2
      refine bodyPost_ret (v := dV room ua dl uc) (by simp [results, Try.results40, go_sem, q0, q1]) rfl ?_
      have hb5 : Below w.heap.size w ((wr.setCell ⟨w.heap.size + 1, 0, none⟩ (.int .i64 room)).setCell ⟨w.heap.size + 1, 1, none⟩ (.slice ua dl uc)) := (HB.out.setCell (by show w.heap.size ≤ w.heap.size + 1; omega) _).setCell (by show w.heap.size ≤ w.heap.size + 1; omega) _
      have hi5 : FV ((wr.setCell ⟨w.heap.size + 1, 0, none⟩ (.int .i64 room)).setCell ⟨w.heap.size + 1, 1, none⟩ (.slice ua dl uc)) (w.heap.size + 3) (.slice ua dl uc) (del Rf.name n rs) := ownsRow_same HI.out fun k hk => by
        have := (World.ownsRow.lt HI.out k hk).1
        exact (Below.heap_setCell _ _ _ _ (fun e => by have e' : k = w.heap.size + 1 := e; omega)).trans (Below.heap_setCell _ _ _ _ (fun e => by have e' : k = w.heap.size + 1 := e; omega))
      refine ⟨_, rfl, ua, uc, by rw [HDL.out], hi5.fs3 (fun r hr => ((HRs.out r hr).kept (kept_below HT.out hb5)).mono fun k hk => .inl hk) (fun k h1 h2 => .inr ⟨by omega, h2⟩), hb5⟩
end Go.Proofs.Ythheolhghhmdlaa
