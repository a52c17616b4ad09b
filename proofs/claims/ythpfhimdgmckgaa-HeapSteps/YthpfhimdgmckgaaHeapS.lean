/- Walks: the document's Drop. -/
import Derived.Test.YthpfhimdgmckgaaHeapR
import Derived.RegionTactic
namespace Go.Proofs.Ythpfhimdgmckgaa
open Go.RowKit Hp

/-- What the loop of Drop keeps. -/
def DropRel (w : World) (n : Int) (v : Value) (t : List (Int × Int)) (id : Int) (j : Nat) (wr : World) : Prop :=
  ∃ uv, Row wr (w.heap.size + 1 + 1) 26 #[.int .i64 n, uv] ∧ IV wr uv (dropL (t.take j) id) ∧ (∀ k, uv.ownBlock = some k → w.heap.size + 3 ≤ k) ∧ Row wr w.heap.size 26 #[.int .i64 n, v] ∧ Row wr (w.heap.size + 1) 26 #[.int .i64 0, .slice none 0 0] ∧ Below w.heap.size w wr
set_option maxHeartbeats 1000000 in
theorem rdrop_any (n id : Int) (v : Value) (t : List (Int × Int)) (w : World) (h : IV w v t) (hl : t.length ≤ 1000000) : Calls Try.prog 26 #[tV n v, .int .i64 id] w fun e w' => ∃ v', e = .returned (.tuple #[tV n v', .bool (decide ((dropL t id).length < t.length))]) ∧ IV w' v' (dropL t id) ∧ (∀ k, v'.ownBlock = some k → w.heap.size ≤ k) ∧ Below w.heap.size w w' := by
  obtain ⟨ad, c, rfl⟩ := h.shape
  have HV := Lib.hid h
  clear h
  go_enter Try.func26, Try.ntmps26
  go_wp2
  have H0 := Lib.hid (show DropRel w n (.slice ad t.length c) t id 0 (((w.alloc (.cells #[.int .i64 n, .slice ad t.length c] 26)).alloc (.cells #[.int .i64 0, .slice none 0 0] 26)).alloc (.cells #[.int .i64 n, .slice none 0 0] 26)) from by
    refine ⟨.slice none 0 0, ?_, IV.nil _, fun k hk => by simp [Value.ownBlock] at hk, ((Row.fresh w _ _).past _).past _, ?_, ((Below.refl _ _).alloc (Nat.le_refl _) _ |>.alloc (by simp) _).alloc (by simp; omega) _⟩
    · have := Row.fresh ((w.alloc (.cells #[.int .i64 n, .slice ad t.length c] 26)).alloc (.cells #[.int .i64 0, .slice none 0 0] 26)) 26 #[.int .i64 n, .slice none 0 0]
      simpa using this
    · have := (Row.fresh (w.alloc (.cells #[.int .i64 n, .slice ad t.length c] 26)) 26 #[.int .i64 0, .slice none 0 0]).past (.cells #[.int .i64 n, .slice none 0 0] 26)
      simpa using this)
  go_loopw [7] (fun i wr => ∃ j : Nat, j ≤ t.length ∧ i = .int .i64 j ∧ DropRel w n (.slice ad t.length c) t id j wr) (fun i _ => t.length - (intOf i).toNat)
  case atStart => exact ⟨0, by omega, rfl, H0.out⟩
  case round =>
    obtain ⟨j, hj, rfl, hR⟩ := hrel
    clear H0
    have HR := Lib.hid hR
    obtain ⟨uv, ru, hiv, hfr, rb, rr, hb⟩ := hR
    have r0 : wr.cell? ⟨w.heap.size, 0, none⟩ = some (.int .i64 n) := rb.cell 0
    have r1 : wr.cell? ⟨w.heap.size, 1, none⟩ = some (.slice ad t.length c) := rb.cell 1
    have u0 : wr.cell? ⟨w.heap.size + 1 + 1, 0, none⟩ = some (.int .i64 n) := ru.cell 0
    have u1 : wr.cell? ⟨w.heap.size + 1 + 1, 1, none⟩ = some uv := ru.cell 1
    have uf1 := ru.thaw 1
    have ul := ru.lt
    by_cases hlt : j < t.length
    · have hlt' : (j : Int) < (t.length : Int) := by omega
      obtain ⟨b, c', e1, hbl, c0, c1⟩ := HV.out.at_ hb hlt
      injection e1 with e1 _ e2
      subst e1 e2
      have hbl2 : b < wr.heap.size := Nat.lt_of_lt_of_le hbl hb.size
      by_cases he : (t[j]'hlt).1 = id
      · have HN := Lib.hid (show DropRel w n (.slice (some ⟨b, 0, none⟩) t.length c) t id (j + 1) wr from ⟨uv, ru, by rw [dropL_skip t id j hlt he]; exact hiv, hfr, rb, rr, hb⟩)
        rw [he] at c0
        clear ru hiv hfr rb rr hb he HR
        go_wp2
        go_roundw
        case rel => exact ⟨j + 1, by omega, by go_num, HN.out⟩
        case measure => simp [intOf]; omega
      · have hne : ((t[j]'hlt).1 != id) = true := by simpa using he
        have HKp := Lib.hid (dropL_keep t id j hlt he)
        have hlen : (dropL (t.take j) id).length ≤ 16777216 := by
          have := dropL_le (t.take j) id
          rw [List.length_take] at this
          omega
        clear he
        generalize t[j]'hlt = y at *
        obtain ⟨yi, yk⟩ := y
        dsimp only at c0 c1 hne
        obtain ⟨v', w4, hrun, hiv4, hg4, hat4⟩ := run_appendI (w := (wr.alloc (.cells #[.int .i64 yi, .int .i64 yk] 33)).drew) 24 uv (dropL (t.take j) id) wr.heap.size (yi, yk) (hiv.under ((Below.refl _ _).alloc (Nat.le_refl _) _).drew) hlen ((Row.fresh wr _ _).cell 0) ((Row.fresh wr _ _).cell 1)
        obtain ⟨a4, c4, hv4⟩ := hiv4.shape
        subst hv4
        have hub : uv.ownBlock ≠ some (w.heap.size + 1 + 1) := fun e => by have := hfr _ e; omega
        have huB : uv.ownBlock ≠ some w.heap.size := fun e => by have := hfr _ e; omega
        have huR : uv.ownBlock ≠ some (w.heap.size + 1) := fun e => by have := hfr _ e; omega
        have ru4 : Row w4 (w.heap.size + 1 + 1) 26 #[.int .i64 n, uv] := (hg4.block _ (by simp; omega) (fun e => hub e.symm)).trans (ru.past _)
        have rb4 : Row w4 w.heap.size 26 #[.int .i64 n, .slice (some ⟨b, 0, none⟩) t.length c] := (hg4.block _ (by simp; omega) (fun e => huB e.symm)).trans (rb.past _)
        have rr4 : Row w4 (w.heap.size + 1) 26 #[.int .i64 0, .slice none 0 0] := (hg4.block _ (by simp; omega) (fun e => huR e.symm)).trans (rr.past _)
        have hb4 : Below w.heap.size w w4 := ((hb.alloc hb.size _).drew).grown hg4 (by have := hb.size; simp; omega) (fun k hk => by have := hfr k hk; omega)
        have hfr4 : ∀ k, (Value.slice a4 (dropL (t.take j) id ++ [(yi, yk)]).length c4).ownBlock = some k → w.heap.size + 3 ≤ k := fun k hk => by
          rcases hat4 with h | h
          · exact hfr k (h ▸ hk)
          · rw [h] at hk; injection hk with hk; simp at hk; omega
        have hn4 : (Value.slice a4 (dropL (t.take j) id ++ [(yi, yk)]).length c4).ownBlock ≠ some (w.heap.size + 1 + 1) := fun e => by have := hfr4 _ e; omega
        have HN := Lib.hid (show DropRel w n (.slice (some ⟨b, 0, none⟩) t.length c) t id (j + 1) (w4.setCell ⟨w.heap.size + 1 + 1, 1, none⟩ (.slice a4 (dropL (t.take j) id ++ [(yi, yk)]).length c4)) from by
          have hg5 : w4.grownBy (w4.setCell ⟨w.heap.size + 1 + 1, 1, none⟩ (.slice a4 (dropL (t.take j) id ++ [(yi, yk)]).length c4)) (some (w.heap.size + 1 + 1)) := ⟨rfl, rfl, rfl, by simp [World.setCell], fun k hk hne => Below.heap_setCell _ _ _ _ (fun e => hne (by rw [e]))⟩
          refine ⟨_, ru4.put 1 _, by rw [HKp.out]; exact hiv4.off hg5 hn4, hfr4, rb4.away (by show w.heap.size ≠ w.heap.size + 1 + 1; omega) _, rr4.away (by show w.heap.size + 1 ≠ w.heap.size + 1 + 1; omega) _, hb4.setCell (by show w.heap.size ≤ w.heap.size + 1 + 1; omega) _⟩)
        have m1 : w4.cell? ⟨w.heap.size + 1 + 1, 1, none⟩ = some uv := ru4.cell 1
        have mf := ru4.thaw 1
        have HRUN := Lib.hid hrun
        clear hrun hiv4 hg4 hat4 ru4 rb4 rr4 hb4 hfr4 hn4 ru hiv hfr rb rr hb HR hub huB huR HKp
        go_wp2
        refine wp_region_held_drew (S := fun W => True) (by kernel_rfl) trivial (fun hHeld => ?_)
        refine wpAnyH_take (i := 0) (oi := ⟨some 26, _, _, _, _, _⟩) (v := ?_) rfl (by kernel_rfl) (by kernel_rfl) (by kernel_rfl) (fun _ _ _ h => h) (Or.inl ⟨by rfl, ?_⟩) trivial ?_
        rotate_left
        · intro W hSw
          go_simp
          with_reducible rfl
        simp only [Act.put, List.setIfInBounds_toArray, List.set_cons_zero, List.set_cons_succ]
        refine wpAnyH_take (i := 2) (oi := ⟨some 28, _, _, _, _, _⟩) (v := ?_) rfl (by kernel_rfl) (by kernel_rfl) (by kernel_rfl) (fun _ _ _ h => h) (Or.inl ⟨by rfl, ?_⟩) trivial ?_
        rotate_left
        · intro W hSw
          go_simp
          with_reducible rfl
        simp only [Act.put, List.setIfInBounds_toArray, List.set_cons_zero, List.set_cons_succ]
        refine wpAnyH_take (i := 4) (oi := ⟨some 30, _, _, _, _, _⟩) (v := ?_) rfl (by kernel_rfl) (by kernel_rfl) (by kernel_rfl) (fun _ _ _ h => h) (Or.inl ⟨by rfl, ?_⟩) trivial ?_
        rotate_left
        · intro W hSw
          go_simp
          with_reducible rfl
        simp only [Act.put, List.setIfInBounds_toArray, List.set_cons_zero, List.set_cons_succ]
        refine wpAnyH_ready (rs := [1, 3]) (by kernel_rfl) (by simp) ?_
        refine AllReadyH.cons (o := ⟨some 27, _, _, _, _, _⟩) rfl (fun K hK => ?_) (AllReadyH.cons (o := ⟨some 29, _, _, _, _, _⟩) rfl (fun K hK => ?_) AllReadyH.nil)
        · skip
          go_simp
          refine hK.out _ _ trivial (fun _ => ?_)
          clear hK K
          refine wpAnyH_ready (rs := [3]) (by kernel_rfl) (by simp) ?_
          refine AllReadyH.cons (o := ⟨some 29, _, _, _, _, _⟩) rfl (fun K hK => ?_) AllReadyH.nil
          go_simp
          refine hK.out _ _ trivial (fun _ => ?_)
          clear hK K
          refine wpAnyH_take (i := 5) (oi := ⟨some 31, _, _, _, _, _⟩) (v := ?_) rfl (by kernel_rfl) (by kernel_rfl) (by kernel_rfl) (fun _ _ _ h => h) (Or.inl ⟨by rfl, ?_⟩) trivial ?_
          rotate_left
          · intro W hSw
            go_simp
            with_reducible rfl
          simp only [Act.put, List.setIfInBounds_toArray, List.set_cons_zero, List.set_cons_succ]
          refine wpAnyH_ready (rs := [6]) (by kernel_rfl) (by simp) ?_
          refine AllReadyH.cons (o := ⟨some 32, _, _, _, _, _⟩) rfl (fun K hK => ?_) AllReadyH.nil
          go_simp
          refine hK.out _ _ trivial (fun _ => ?_)
          clear hK K
          refine wpAnyH_ready (rs := [7]) (by kernel_rfl) (by simp) ?_
          refine AllReadyH.cons (o := ⟨some 33, _, _, _, _, _⟩) rfl (fun K hK => ?_) AllReadyH.nil
          go_simp
          refine hK.out _ _ trivial (fun _ => ?_)
          clear hK K
          refine wpAnyH_ready (rs := [8]) (by kernel_rfl) (by simp) ?_
          refine AllReadyH.cons (o := ⟨some 34, _, _, _, _, _⟩) rfl (fun K hK => ?_) AllReadyH.nil
          rw [if_pos (by rfl)]
          refine wp_appendI _ _ rfl _ _ rfl rfl HRUN.out ?_
          simp only [Act.put, List.setIfInBounds_toArray, List.set_cons_zero, List.set_cons_succ]
          refine hK.out _ _ trivial (fun _ => ?_)
          clear hK K
          refine wpAnyH_take (i := 9) (oi := ⟨some 35, _, _, _, _, _⟩) (v := ?_) rfl (by kernel_rfl) (by kernel_rfl) (by kernel_rfl) (fun _ _ _ h => h) (Or.inl ⟨by rfl, ?_⟩) trivial ?_
          rotate_left
          · intro W hSw
            go_simp
            with_reducible rfl
          simp only [Act.put, List.setIfInBounds_toArray, List.set_cons_zero, List.set_cons_succ]
          refine wpAnyH_ready (rs := [10]) (by kernel_rfl) (by simp) ?_
          refine AllReadyH.cons (o := ⟨none, _, _, _, _, _⟩) rfl (fun K hK => ?_) AllReadyH.nil
          go_simp
          refine hK.out _ _ trivial (fun _ => ?_)
          clear hK K
          refine wpAnyH_done (by kernel_rfl) ?_ _
          clear r1 u1 c0 c1
          go_wp2
          go_roundw
          case rel => exact ⟨j + 1, by omega, by go_num, by have h := HN.out; rw [List.length_append] at h; exact h⟩
          case measure => simp [intOf]; omega
        · skip
          go_simp
          refine hK.out _ _ trivial (fun _ => ?_)
          clear hK K
          refine wpAnyH_take (i := 5) (oi := ⟨some 31, _, _, _, _, _⟩) (v := ?_) rfl (by kernel_rfl) (by kernel_rfl) (by kernel_rfl) (fun _ _ _ h => h) (Or.inl ⟨by rfl, ?_⟩) trivial ?_
          rotate_left
          · intro W hSw
            go_simp
            with_reducible rfl
          simp only [Act.put, List.setIfInBounds_toArray, List.set_cons_zero, List.set_cons_succ]
          refine wpAnyH_ready (rs := [1, 6]) (by kernel_rfl) (by simp) ?_
          refine AllReadyH.cons (o := ⟨some 27, _, _, _, _, _⟩) rfl (fun K hK => ?_) (AllReadyH.cons (o := ⟨some 32, _, _, _, _, _⟩) rfl (fun K hK => ?_) AllReadyH.nil)
          · skip
            go_simp
            refine hK.out _ _ trivial (fun _ => ?_)
            clear hK K
            refine wpAnyH_ready (rs := [6]) (by kernel_rfl) (by simp) ?_
            refine AllReadyH.cons (o := ⟨some 32, _, _, _, _, _⟩) rfl (fun K hK => ?_) AllReadyH.nil
            go_simp
            refine hK.out _ _ trivial (fun _ => ?_)
            clear hK K
            refine wpAnyH_ready (rs := [7]) (by kernel_rfl) (by simp) ?_
            refine AllReadyH.cons (o := ⟨some 33, _, _, _, _, _⟩) rfl (fun K hK => ?_) AllReadyH.nil
            go_simp
            refine hK.out _ _ trivial (fun _ => ?_)
            clear hK K
            refine wpAnyH_ready (rs := [8]) (by kernel_rfl) (by simp) ?_
            refine AllReadyH.cons (o := ⟨some 34, _, _, _, _, _⟩) rfl (fun K hK => ?_) AllReadyH.nil
            rw [if_pos (by rfl)]
            refine wp_appendI _ _ rfl _ _ rfl rfl HRUN.out ?_
            simp only [Act.put, List.setIfInBounds_toArray, List.set_cons_zero, List.set_cons_succ]
            refine hK.out _ _ trivial (fun _ => ?_)
            clear hK K
            refine wpAnyH_take (i := 9) (oi := ⟨some 35, _, _, _, _, _⟩) (v := ?_) rfl (by kernel_rfl) (by kernel_rfl) (by kernel_rfl) (fun _ _ _ h => h) (Or.inl ⟨by rfl, ?_⟩) trivial ?_
            rotate_left
            · intro W hSw
              go_simp
              with_reducible rfl
            simp only [Act.put, List.setIfInBounds_toArray, List.set_cons_zero, List.set_cons_succ]
            refine wpAnyH_ready (rs := [10]) (by kernel_rfl) (by simp) ?_
            refine AllReadyH.cons (o := ⟨none, _, _, _, _, _⟩) rfl (fun K hK => ?_) AllReadyH.nil
            go_simp
            refine hK.out _ _ trivial (fun _ => ?_)
            clear hK K
            refine wpAnyH_done (by kernel_rfl) ?_ _
            clear r1 u1 c0 c1
            go_wp2
            go_roundw
            case rel => exact ⟨j + 1, by omega, by go_num, by have h := HN.out; rw [List.length_append] at h; exact h⟩
            case measure => simp [intOf]; omega
          · skip
            go_simp
            refine hK.out _ _ trivial (fun _ => ?_)
            clear hK K
            refine wpAnyH_ready (rs := [1, 7]) (by kernel_rfl) (by simp) ?_
            refine AllReadyH.cons (o := ⟨some 27, _, _, _, _, _⟩) rfl (fun K hK => ?_) (AllReadyH.cons (o := ⟨some 33, _, _, _, _, _⟩) rfl (fun K hK => ?_) AllReadyH.nil)
            · skip
              go_simp
              refine hK.out _ _ trivial (fun _ => ?_)
              clear hK K
              refine wpAnyH_ready (rs := [7]) (by kernel_rfl) (by simp) ?_
              refine AllReadyH.cons (o := ⟨some 33, _, _, _, _, _⟩) rfl (fun K hK => ?_) AllReadyH.nil
              go_simp
              refine hK.out _ _ trivial (fun _ => ?_)
              clear hK K
              refine wpAnyH_ready (rs := [8]) (by kernel_rfl) (by simp) ?_
              refine AllReadyH.cons (o := ⟨some 34, _, _, _, _, _⟩) rfl (fun K hK => ?_) AllReadyH.nil
              rw [if_pos (by rfl)]
              refine wp_appendI _ _ rfl _ _ rfl rfl HRUN.out ?_
              simp only [Act.put, List.setIfInBounds_toArray, List.set_cons_zero, List.set_cons_succ]
              refine hK.out _ _ trivial (fun _ => ?_)
              clear hK K
              refine wpAnyH_take (i := 9) (oi := ⟨some 35, _, _, _, _, _⟩) (v := ?_) rfl (by kernel_rfl) (by kernel_rfl) (by kernel_rfl) (fun _ _ _ h => h) (Or.inl ⟨by rfl, ?_⟩) trivial ?_
              rotate_left
              · intro W hSw
                go_simp
                with_reducible rfl
              simp only [Act.put, List.setIfInBounds_toArray, List.set_cons_zero, List.set_cons_succ]
              refine wpAnyH_ready (rs := [10]) (by kernel_rfl) (by simp) ?_
              refine AllReadyH.cons (o := ⟨none, _, _, _, _, _⟩) rfl (fun K hK => ?_) AllReadyH.nil
              go_simp
              refine hK.out _ _ trivial (fun _ => ?_)
              clear hK K
              refine wpAnyH_done (by kernel_rfl) ?_ _
              clear r1 u1 c0 c1
              go_wp2
              go_roundw
              case rel => exact ⟨j + 1, by omega, by go_num, by have h := HN.out; rw [List.length_append] at h; exact h⟩
              case measure => simp [intOf]; omega
            · skip
              go_simp
              refine hK.out _ _ trivial (fun _ => ?_)
              clear hK K
              refine wpAnyH_ready (rs := [1]) (by kernel_rfl) (by simp) ?_
              refine AllReadyH.cons (o := ⟨some 27, _, _, _, _, _⟩) rfl (fun K hK => ?_) AllReadyH.nil
              go_simp
              refine hK.out _ _ trivial (fun _ => ?_)
              clear hK K
              refine wpAnyH_ready (rs := [8]) (by kernel_rfl) (by simp) ?_
              refine AllReadyH.cons (o := ⟨some 34, _, _, _, _, _⟩) rfl (fun K hK => ?_) AllReadyH.nil
              rw [if_pos (by rfl)]
              refine wp_appendI _ _ rfl _ _ rfl rfl HRUN.out ?_
              simp only [Act.put, List.setIfInBounds_toArray, List.set_cons_zero, List.set_cons_succ]
              refine hK.out _ _ trivial (fun _ => ?_)
              clear hK K
              refine wpAnyH_take (i := 9) (oi := ⟨some 35, _, _, _, _, _⟩) (v := ?_) rfl (by kernel_rfl) (by kernel_rfl) (by kernel_rfl) (fun _ _ _ h => h) (Or.inl ⟨by rfl, ?_⟩) trivial ?_
              rotate_left
              · intro W hSw
                go_simp
                with_reducible rfl
              simp only [Act.put, List.setIfInBounds_toArray, List.set_cons_zero, List.set_cons_succ]
              refine wpAnyH_ready (rs := [10]) (by kernel_rfl) (by simp) ?_
              refine AllReadyH.cons (o := ⟨none, _, _, _, _, _⟩) rfl (fun K hK => ?_) AllReadyH.nil
              go_simp
              refine hK.out _ _ trivial (fun _ => ?_)
              clear hK K
              refine wpAnyH_done (by kernel_rfl) ?_ _
              clear r1 u1 c0 c1
              go_wp2
              go_roundw
              case rel => exact ⟨j + 1, by omega, by go_num, by have h := HN.out; rw [List.length_append] at h; exact h⟩
              case measure => simp [intOf]; omega
    · obtain rfl : j = t.length := by omega
      have hge : ¬ ((t.length : Nat) : Int) < (t.length : Int) := by omega
      have HIv := hiv
      rw [List.take_length] at HIv
      obtain ⟨ua, uc, huv⟩ := HIv.shape
      subst huv
      have HI := Lib.hid HIv
      have HFr := Lib.hid hfr
      have HB := Lib.hid hb
      have q0 : wr.cell? ⟨w.heap.size + 1, 0, none⟩ = some (.int .i64 0) := rr.cell 0
      have q1 : wr.cell? ⟨w.heap.size + 1, 1, none⟩ = some (.slice none 0 0) := rr.cell 1
      have qf0 := rr.thaw 0
      have qf1 := rr.thaw 1
      have ql := rr.lt
      have HRr := Lib.hid rr
      clear HIv hiv hfr hb HR ru rb rr
      generalize hdl : (dropL t id).length = dl at *
      have HDL := Lib.hid hdl
      clear hdl
      go_wp2
      go_region
      go_wp2
      have hno : (Value.slice ua dl uc).ownBlock ≠ some (w.heap.size + 1) := fun e => by have := HFr.out _ e; omega
      have hgr : wr.grownBy ((wr.setCell ⟨w.heap.size + 1, 0, none⟩ (.int .i64 n)).setCell ⟨w.heap.size + 1, 1, none⟩ (.slice ua dl uc)) (some (w.heap.size + 1)) := ⟨rfl, rfl, rfl, by simp [World.setCell], fun k hk hne => (Below.heap_setCell _ _ _ _ (fun e => hne (by rw [e]))).trans (Below.heap_setCell _ _ _ _ (fun e => hne (by rw [e])))⟩
      refine bodyPost_ret (v := .tuple #[tV n (.slice ua dl uc), .bool (decide (dl < t.length))]) (by simp [results, Try.results26, go_sem, q0, q1]) rfl ?_
      exact ⟨.slice ua dl uc, by rw [HDL.out], (by have h := HI.out.off hgr hno; exact h), fun k hk => by have := HFr.out k hk; omega, ((HB.out.setCell (by show w.heap.size ≤ w.heap.size + 1; omega) _).setCell (by show w.heap.size ≤ w.heap.size + 1; omega) _).drew⟩
end Go.Proofs.Ythpfhimdgmckgaa
