/- A disk: New, Size, Read; a file taken out. -/
import Derived.Test.YthheolhghhmdlaaDiskF
namespace Go.Proofs.Ythheolhghhmdlaa
open Go.RowKit Dsk
open Go.Maps (Keyed)

theorem isName_any (s : ByteArray) (w : World) : Calls Try.prog 50 #[.string s] w fun e w' => e = .returned (.bool (decide (1 ≤ s.size ∧ s.size ≤ 60))) ∧ w' = w := by
  by_cases h1 : 1 ≤ s.size
  · by_cases h2 : s.size ≤ 60
    · rw [decide_eq_true (And.intro h1 h2)]
      have h3 : (1 : Int) ≤ (s.size : Int) := by omega
      have h4 : (s.size : Int) ≤ 60 := by omega
      go_enter Try.func50, Try.ntmps50
      go_wp2
      go_ret
      exact ⟨rfl, rfl⟩
    · rw [decide_eq_false (fun h => h2 h.2)]
      have h3 : (1 : Int) ≤ (s.size : Int) := by omega
      have h4 : ¬ (s.size : Int) ≤ 60 := by omega
      go_enter Try.func50, Try.ntmps50
      go_wp2
      go_ret
      exact ⟨rfl, rfl⟩
  · rw [decide_eq_false (fun h => h1 h.1)]
    have h3 : ¬ (1 : Int) ≤ (s.size : Int) := by omega
    go_enter Try.func50, Try.ntmps50
    go_wp2
    go_ret
    exact ⟨rfl, rfl⟩
theorem arr_size (n : Nm) : (⟨n.toArray⟩ : ByteArray).size = n.length := by show n.toArray.size = _; simp
theorem isName_nm (n : Nm) (w : World) : Calls Try.prog 50 #[.string ⟨n.toArray⟩] w fun e w' => e = .returned (.bool (named n)) ∧ w' = w := by
  have := isName_any ⟨n.toArray⟩ w
  rw [arr_size] at this
  exact this

/-- Something to do, as a value. -/
abbrev opV (x : Ope) (a : Option Addr) (c : Nat) : Value := .agg #[.int .i64 x.kind, .string ⟨x.name.toArray⟩, .string ⟨x.to.toArray⟩, .slice a x.data.length c]

theorem mayBe_any (x : Ope) (a : Option Addr) (c : Nat) (w : World) : Calls Try.prog 30 #[opV x a c] w fun e w' => e = .returned (.bool (mayBe x)) ∧ Below w.heap.size w w' := by
  obtain ⟨k, n, t, d⟩ := x
  have HN := Lib.hid (fun w => isName_nm n w)
  have HT := Lib.hid (fun w => isName_nm t w)
  have hb : Below w.heap.size w (w.alloc (.cells #[.int .i64 k, .string ⟨n.toArray⟩, .string ⟨t.toArray⟩, .slice a d.length c] 36)) := (Below.refl _ _).alloc (Nat.le_refl _) _
  have HB := Lib.hid hb
  clear hb
  have hm : mayBe ⟨k, n, t, d⟩ = ((decide (k = 1 ∨ k = 2 ∨ k = 4) && named n) || (decide (k = 3) && named n && named t)) := rfl
  rw [hm]
  clear hm
  generalize named n = bn at *
  generalize named t = bt at *
  by_cases h1 : k = 1 ∨ k = 2 ∨ k = 4
  · have h3 : ¬ k = 3 := by omega
    rw [decide_eq_true h1, decide_eq_false h3]
    simp only [Bool.true_and, Bool.false_and, Bool.or_false]
    clear h3
    rcases h1 with rfl | rfl | rfl
    all_goals
      go_enter Try.func30, Try.ntmps30
      go_wp2_with fail
      refine (HN.out _).mono ?_
      rintro e w1 ⟨rfl, rfl⟩
      go_wp2
      go_ret
      exact ⟨rfl, HB.out⟩
  · rw [decide_eq_false h1]
    by_cases h3 : k = 3
    · subst h3
      clear h1
      rw [decide_eq_true rfl]
      simp only [Bool.true_and, Bool.false_and, Bool.false_or]
      cases bn
      · go_enter Try.func30, Try.ntmps30
        go_wp2_with fail
        refine (HN.out _).mono ?_
        rintro e w1 ⟨rfl, rfl⟩
        go_wp2
        go_ret
        exact ⟨rfl, HB.out⟩
      · go_enter Try.func30, Try.ntmps30
        go_wp2_with fail
        refine (HN.out _).mono ?_
        rintro e w1 ⟨rfl, rfl⟩
        go_wp2_with fail
        refine (HT.out _).mono ?_
        rintro e w1 ⟨rfl, rfl⟩
        go_wp2
        go_ret
        exact ⟨rfl, HB.out⟩
    · rw [decide_eq_false h3]
      simp only [Bool.false_and, Bool.or_false]
      have q1 : (k == 1) = false := by simp; omega
      have q2 : (k == 2) = false := by simp; omega
      have q3 : (k == 3) = false := by simp; omega
      have q4 : (k == 4) = false := by simp; omega
      clear h1 h3
      go_enter Try.func30, Try.ntmps30
      go_wp2
      go_ret
      exact ⟨rfl, HB.out⟩

theorem new_out (z : Int) (w : World) (h : z < 0 ∨ 1099511627776 < z) : Calls Try.prog 13 #[.int .i64 z] w fun e w' => e = .returned (.pointer none) ∧ w' = w := by
  rcases h with h | h
  · go_enter Try.func13, Try.ntmps13
    go_wp2
    go_ret
    exact ⟨rfl, rfl⟩
  · have h0 : ¬ z < 0 := by omega
    go_enter Try.func13, Try.ntmps13
    go_wp2
    go_ret
    exact ⟨rfl, rfl⟩
theorem new_in (z : Int) (w : World) (h0 : 0 ≤ z) (h1 : z ≤ 1099511627776) : Calls Try.prog 13 #[.int .i64 z] w fun e w' => e = .returned (ptr w.heap.size) ∧ Dk w' w.heap.size (fun k => k = w.heap.size) z [] (.map none) (fun k => k) 0 ∧ Below w.heap.size w w' := by
  have HD := Lib.hid (show Dk (w.alloc (.cells #[.int .i64 z, .int .i64 (0 : Nat), .map none] 64)) w.heap.size (fun k => k = w.heap.size) z [] (.map none) (fun k => k) 0 from
    ⟨Row.fresh w _ _, .inl ⟨rfl, rfl⟩, fun e he => (by cases he), fun a ha => (by cases ha), List.Pairwise.nil, fun e he => (by cases he), rfl, fun mb e => (by cases e), fun e he => (by cases he), rfl, fun mb e => (by cases e), fun e he => (by cases he), fun k hk => (by rw [hk]; simp), fun k hk => hk⟩)
  have HB := Lib.hid (show Below w.heap.size w (w.alloc (.cells #[.int .i64 z, .int .i64 (0 : Nat), .map none] 64)) from (Below.refl _ _).alloc (Nat.le_refl _) _)
  have h2 : ¬ z < 0 := by omega
  have h3 : ¬ 1099511627776 < z := by omega
  clear h0 h1
  go_enter Try.func13, Try.ntmps13
  go_wp2
  go_ret
  exact ⟨rfl, HD.out, HB.out⟩
theorem size_nil (w : World) : Calls Try.prog 29 #[.pointer none] w fun e w' => e = .returned (.int .i64 0) ∧ w' = w := by
  go_enter Try.func29, Try.ntmps29
  go_wp2
  go_ret
  exact ⟨rfl, rfl⟩
theorem size_row (g : Nat) (room used : Int) (mv : Value) (w : World) (h : Row w g 64 #[.int .i64 room, .int .i64 used, mv]) : Calls Try.prog 29 #[ptr g] w fun e w' => e = .returned (.int .i64 used) ∧ w' = w := by
  have k1 : w.cell? ⟨g, 1, none⟩ = some (.int .i64 used) := h.cell 1
  clear h
  go_enter Try.func29, Try.ntmps29
  go_wp2
  go_ret
  exact ⟨rfl, rfl⟩
theorem read_nil (n : Nm) (w : World) : Calls Try.prog 16 #[.pointer none, .string ⟨n.toArray⟩] w fun e w' => e = .returned (.tuple #[.slice none 0 0, .int .i64 1]) ∧ w' = w := by
  go_enter Try.func16, Try.ntmps16
  go_wp2
  exact bodyPost_ret (v := .tuple #[.slice none 0 0, .int .i64 1]) (by simp [results, Try.results16, go_sem]) rfl ⟨rfl, rfl⟩
section
variable {w w' : World} {g : Nat} {S : Nat → Prop} {room : Int} {L : List Ent} {mv : Value} {o : Nat → Nat} {used : Nat}
theorem read_none (n : Nm) (h : Dk w g S room L mv o used) (hn : n.length ≤ maxLen) (hg : get Ent.name n L = none) :
    Calls Try.prog 16 #[ptr g, .string ⟨n.toArray⟩] w fun e w' => e = .returned (.tuple #[.slice none 0 0, .int .i64 4]) ∧ w' = w := by
  have k2 : w.cell? ⟨g, 2, none⟩ = some mv := h.row.cell 2
  have hlk := look_any h.map hn
  rw [look_none hg] at hlk
  obtain ⟨r, rfl⟩ := h.map.shape
  clear h hn hg
  go_enter Try.func16, Try.ntmps16
  go_wp2
  exact bodyPost_ret (v := .tuple #[.slice none 0 0, .int .i64 4]) (by simp [results, Try.results16, go_sem]) rfl ⟨rfl, rfl⟩
theorem read_some (n : Nm) (h : Dk w g S room L mv o used) (hn : n.length ≤ maxLen) (e : Ent) (hg : get Ent.name n L = some e) (hz : (e.firm ++ e.ws.flatten).length ≤ 1000000000) (hw : e.ws.length ≤ 1000000000) :
    Calls Try.prog 16 #[ptr g, .string ⟨n.toArray⟩] w fun r w' => ∃ v, r = .returned (.tuple #[v, .int .i64 0]) ∧ Owns w' w.heap.size v (e.firm ++ e.ws.flatten) ∧ Below w.heap.size w w' := by
  have k2 : w.cell? ⟨g, 2, none⟩ = some mv := h.row.cell 2
  have hlk := look_any h.map hn
  rw [look_some hg] at hlk
  obtain ⟨r, rfl⟩ := h.map.shape
  have HC := Lib.hid (fbytes_any o e.blk e.fv e.wv e.vs e.firm e.ws w (h.fl e (get_some hg).1) hz hw)
  clear h hn hg hz hw
  go_enter Try.func16, Try.ntmps16
  go_wp2_with fail
  refine HC.out.mono ?_
  rintro r' w1 ⟨v, rfl, hO, hb⟩
  have HO := Lib.hid hO
  have HB := Lib.hid hb
  clear hO hb
  go_wp2
  exact bodyPost_ret (v := .tuple #[v, .int .i64 0]) (by simp [results, Try.results16, go_sem]) rfl ⟨v, rfl, HO.out, HB.out⟩
theorem MapV.some {w : World} {mb : Nat} {L : List Ent} (h : MapV w (.map (some mb)) L) : w.ownsMap Try.prog 9 pE mb L.length (.map (L.map Ent.E)) := by
  rcases h with ⟨h, _⟩ | ⟨m, h, ho⟩
  · cases h
  · cases h; exact ho
theorem remove_none (n : Nm) (h : Dk w g S room L mv o used) (hn : n.length ≤ maxLen) (hg : get Ent.name n L = none) :
    Calls Try.prog 34 #[ptr g, .string ⟨n.toArray⟩] w fun e w' => e = .returned (.tuple #[]) ∧ w' = w := by
  have k2 : w.cell? ⟨g, 2, none⟩ = some mv := h.row.cell 2
  have hlk := look_any h.map hn
  rw [look_none hg] at hlk
  obtain ⟨r, rfl⟩ := h.map.shape
  clear h hn hg
  go_enter Try.func34, Try.ntmps34
  go_wp2
  exact bodyPost_ret (results_none rfl _ _ _) rfl ⟨rfl, rfl⟩
set_option maxRecDepth 100000 in
theorem remove_some (n : Nm) (h : Dk w g S room L mv o used) (hn : n.length ≤ maxLen) (e : Ent) (hg : get Ent.name n L = some e) (hz : (e.firm ++ e.ws.flatten).length ≤ 1000000000) (hw : e.ws.length ≤ 1000000000) (hu : (e.firm ++ e.ws.flatten).length ≤ used) (hu2 : used ≤ 1000000000) :
    Calls Try.prog 34 #[ptr g, .string ⟨n.toArray⟩] w fun r w' => r = .returned (.tuple #[]) ∧ ∃ o', Dk w' g S room (del Ent.name n L) mv o' (used - (e.firm ++ e.ws.flatten).length) ∧ Only (fun k => k = g ∨ mv = .map (some k)) w w' := by
  obtain ⟨z, hze⟩ : ∃ z, z = (e.firm ++ e.ws.flatten).length := ⟨_, rfl⟩
  rw [← hze] at hz hu ⊢
  have k2 : w.cell? ⟨g, 2, none⟩ = some mv := h.row.cell 2
  have k1 : w.cell? ⟨g, 1, none⟩ = some (.int .i64 used) := h.row.cell 1
  have hf1 := h.row.thaw 1
  have hl := h.lt
  have hlk := look_any h.map hn
  rw [look_some hg] at hlk
  obtain ⟨mb, rfl⟩ : ∃ mb, mv = .map (some mb) := by
    rcases h.map with ⟨_, h1⟩ | ⟨mb, h1, _⟩
    · rw [h1] at hg; cases hg
    · exact ⟨mb, h1⟩
  have HFl := Lib.hid (h.fl e (get_some hg).1)
  have HZ := Lib.hid (show (e.firm ++ e.ws.flatten).length ≤ 1000000000000 by omega)
  have HW := Lib.hid (show e.ws.length ≤ 1000000000000 by omega)
  have HZe := Lib.hid (show (z : Int) = ((e.firm ++ e.ws.flatten).length : Nat) by omega)
  have HNm := Lib.hid hn
  have HUz := Lib.hid hu
  have HD := Lib.hid h
  have hI1 : (z : Int) ≤ (used : Int) := by omega
  have hI2 : (used : Int) ≤ 1000000000 := by omega
  clear h hn hg hz hw hu hu2 hze
  generalize used = u at *
  suffices hh : Calls Try.prog 34 #[ptr g, .string ⟨n.toArray⟩] w fun r w' => r = .returned (.tuple #[]) ∧ ∃ o', Dk w' g S room (del Ent.name n L) (.map (some mb)) o' (u - z) ∧ Only (fun k => k = g ∨ k = mb) w w' by
    refine hh.mono ?_
    rintro r w' ⟨rfl, o', h1, h2⟩
    exact ⟨rfl, o', h1, h2.mono fun k hk => .inl (hk.imp id fun q => by rw [q])⟩
  go_enter Try.func34, Try.ntmps34
  go_wp2
  refine wp_region_held_drew (S := fun _ => True) (by kernel_rfl) trivial (fun _ => ?_)
  refine wpAnyH_take (i := 0) (oi := ⟨some 13, _, _, _, _, _⟩) (v := ?_) rfl (by kernel_rfl) (by kernel_rfl) (by kernel_rfl) (fun _ _ _ h => h) (Or.inl ⟨by rfl, ?_⟩) trivial ?_
  rotate_left
  · intro W _
    go_simp
    with_reducible rfl
  simp only [Act.put, List.setIfInBounds_toArray, List.set_cons_zero, List.set_cons_succ]
  refine wpAnyH_take (i := 1) (oi := ⟨some 14, _, _, _, _, _⟩) (v := ?_) rfl (by kernel_rfl) (by kernel_rfl) (by kernel_rfl) (fun _ _ _ h => h) (Or.inl ⟨by rfl, ?_⟩) trivial ?_
  rotate_left
  · intro W _
    go_simp
    with_reducible rfl
  simp only [Act.put, List.setIfInBounds_toArray, List.set_cons_zero, List.set_cons_succ]
  refine wpAnyH_take (i := 2) (oi := ⟨some 15, _, _, _, _, _⟩) (v := ?_) rfl (by kernel_rfl) (by kernel_rfl) (by kernel_rfl) (fun _ _ _ h => h) (Or.inl ⟨by rfl, ?_⟩) trivial ?_
  rotate_left
  · intro W _
    go_simp
    with_reducible rfl
  simp only [Act.put, List.setIfInBounds_toArray, List.set_cons_zero, List.set_cons_succ]
  refine wpAnyH_take (i := 4) (oi := ⟨some 17, _, _, _, _, _⟩) (v := ?_) rfl (by kernel_rfl) (by kernel_rfl) (by kernel_rfl) (fun _ _ _ h => h) (Or.inl ⟨by rfl, ?_⟩) trivial ?_
  rotate_left
  · intro W _
    go_simp
    with_reducible rfl
  simp only [Act.put, List.setIfInBounds_toArray, List.set_cons_zero, List.set_cons_succ]
  refine wpAnyH_ready (rs := [3, 5]) (by kernel_rfl) (by simp) ?_
  refine (AllReadyH.cons (o := ⟨some 16, _, _, _, _, _⟩) rfl (fun K hK => ?_) (AllReadyH.cons (o := ⟨some 18, _, _, _, _, _⟩) rfl (fun K hK => ?_) AllReadyH.nil))
  · skip
    go_simp
    refine hK.out _ _ trivial (fun _ => ?_)
    clear hK K
    refine wpAnyH_ready (rs := [5]) (by kernel_rfl) (by simp) ?_
    refine (AllReadyH.cons (o := ⟨some 18, _, _, _, _, _⟩) rfl (fun K hK => ?_) AllReadyH.nil)
    go_simp
    refine (fsize_any o e.blk e.fv e.wv e.vs e.firm e.ws w.drew HFl.out.drew HZ.out HW.out (z : Int) HZe.out).mono ?_
    rintro r' w1 ⟨rfl, rfl⟩
    refine hK.out _ _ trivial (fun _ => ?_)
    clear hK K
    refine wpAnyH_take (i := 6) (oi := ⟨some 19, _, _, _, _, _⟩) (v := ?_) rfl (by kernel_rfl) (by kernel_rfl) (by kernel_rfl) (fun _ _ _ h => h) (Or.inl ⟨by rfl, ?_⟩) trivial ?_
    rotate_left
    · intro W _
      go_simp
      with_reducible rfl
    simp only [Act.put, List.setIfInBounds_toArray, List.set_cons_zero, List.set_cons_succ]
    refine wpAnyH_take (i := 7) (oi := ⟨some 20, _, _, _, _, _⟩) (v := ?_) rfl (by kernel_rfl) (by kernel_rfl) (by kernel_rfl) (fun _ _ _ h => h) (Or.inl ⟨by rfl, ?_⟩) trivial ?_
    rotate_left
    · intro W _
      go_simp
      with_reducible rfl
    simp only [Act.put, List.setIfInBounds_toArray, List.set_cons_zero, List.set_cons_succ]
    refine wpAnyH_take (i := 8) (oi := ⟨some 21, _, _, _, _, _⟩) (v := ?_) rfl (by kernel_rfl) (by kernel_rfl) (by kernel_rfl) (fun _ _ _ h => h) (Or.inl ⟨by rfl, ?_⟩) trivial ?_
    rotate_left
    · intro W _
      go_simp
      with_reducible rfl
    simp only [Act.put, List.setIfInBounds_toArray, List.set_cons_zero, List.set_cons_succ]
    refine wpAnyH_ready (rs := [9]) (by kernel_rfl) (by simp) ?_
    refine (AllReadyH.cons (o := ⟨none, _, _, _, _, _⟩) rfl (fun K hK => ?_) AllReadyH.nil)
    go_simp
    refine hK.out _ _ trivial (fun _ => ?_)
    clear hK K
    refine wpAnyH_done (by kernel_rfl) ?_ _
    have HD1 := Lib.hid ((HD.out.count (u - z)).drew)
    have hl' : g < (w.setCell ⟨g, 1, none⟩ (.int .i64 ((u : Int) - (z : Int)))).drew.heap.size := by simp [World.setCell]; exact hl
    have hon1 : Only (fun k => k = g ∨ k = mb) w (w.setCell ⟨g, 1, none⟩ (.int .i64 ((u : Int) - (z : Int)))).drew := ((Only.refl _ w).setCell (p := ⟨g, 1, none⟩) (.inl (.inl rfl)) _).drew
    have hsz1 : (w.setCell ⟨g, 1, none⟩ (.int .i64 ((u : Int) - (z : Int)))).drew.heap.size = w.heap.size := by simp [World.setCell]
    have HOn := Lib.hid (And.intro hon1 hsz1)
    have e5 : (((u - z : Nat) : Int)) = (u : Int) - (z : Int) := by have := HUz.out; omega
    rw [e5] at HD1
    have k2' : (w.setCell ⟨g, 1, none⟩ (.int .i64 ((u : Int) - (z : Int)))).drew.cell? ⟨g, 2, none⟩ = some (.map (some mb)) := HD1.out.row.cell 2
    clear hon1 hsz1 e5
    have HOm := Lib.hid (MapV.some HD1.out.map)
    go_wp2_with (at_delete; refine wpList_delete_own _ rfl _ _ 62 9 rfl 67 keyS Try.underlying62 pE mb L.length _ rfl HOm.out _ _ rfl (key_of HNm.out) ?_; intro w3 ho3 ht3; have HT3 := Lib.hid (And.intro ho3 ht3); clear ho3 ht3)
    go_end0
    have ht := HT3.out
    have hd := HD1.out.gone rfl ht.1 ht.2.grown
    have hst := ht.2
    have hs3 : w3.heap.size = (w.setCell ⟨g, 1, none⟩ (.int .i64 ((u : Int) - (z : Int)))).drew.heap.size := by
      obtain ⟨_, _, _, _, _, rfl⟩ := ht.2
      simp [ChangeMaps.setBlock]
    exact ⟨rfl, ⟨_, hd.narrow (by rw [hs3]; exact Nat.le_refl _)⟩, HOn.out.1.grown ht.2.grown (fun k q => .inl (.inr (by injection q with q; exact q.symm)))⟩
  · skip
    go_simp
    refine (fsize_any o e.blk e.fv e.wv e.vs e.firm e.ws w.drew HFl.out.drew HZ.out HW.out (z : Int) HZe.out).mono ?_
    rintro r' w1 ⟨rfl, rfl⟩
    refine hK.out _ _ trivial (fun _ => ?_)
    clear hK K
    refine wpAnyH_ready (rs := [3]) (by kernel_rfl) (by simp) ?_
    refine (AllReadyH.cons (o := ⟨some 16, _, _, _, _, _⟩) rfl (fun K hK => ?_) AllReadyH.nil)
    go_simp
    refine hK.out _ _ trivial (fun _ => ?_)
    clear hK K
    refine wpAnyH_take (i := 6) (oi := ⟨some 19, _, _, _, _, _⟩) (v := ?_) rfl (by kernel_rfl) (by kernel_rfl) (by kernel_rfl) (fun _ _ _ h => h) (Or.inl ⟨by rfl, ?_⟩) trivial ?_
    rotate_left
    · intro W _
      go_simp
      with_reducible rfl
    simp only [Act.put, List.setIfInBounds_toArray, List.set_cons_zero, List.set_cons_succ]
    refine wpAnyH_take (i := 7) (oi := ⟨some 20, _, _, _, _, _⟩) (v := ?_) rfl (by kernel_rfl) (by kernel_rfl) (by kernel_rfl) (fun _ _ _ h => h) (Or.inl ⟨by rfl, ?_⟩) trivial ?_
    rotate_left
    · intro W _
      go_simp
      with_reducible rfl
    simp only [Act.put, List.setIfInBounds_toArray, List.set_cons_zero, List.set_cons_succ]
    refine wpAnyH_take (i := 8) (oi := ⟨some 21, _, _, _, _, _⟩) (v := ?_) rfl (by kernel_rfl) (by kernel_rfl) (by kernel_rfl) (fun _ _ _ h => h) (Or.inl ⟨by rfl, ?_⟩) trivial ?_
    rotate_left
    · intro W _
      go_simp
      with_reducible rfl
    simp only [Act.put, List.setIfInBounds_toArray, List.set_cons_zero, List.set_cons_succ]
    refine wpAnyH_ready (rs := [9]) (by kernel_rfl) (by simp) ?_
    refine (AllReadyH.cons (o := ⟨none, _, _, _, _, _⟩) rfl (fun K hK => ?_) AllReadyH.nil)
    go_simp
    refine hK.out _ _ trivial (fun _ => ?_)
    clear hK K
    refine wpAnyH_done (by kernel_rfl) ?_ _
    have HD1 := Lib.hid ((HD.out.count (u - z)).drew)
    have hl' : g < (w.setCell ⟨g, 1, none⟩ (.int .i64 ((u : Int) - (z : Int)))).drew.heap.size := by simp [World.setCell]; exact hl
    have hon1 : Only (fun k => k = g ∨ k = mb) w (w.setCell ⟨g, 1, none⟩ (.int .i64 ((u : Int) - (z : Int)))).drew := ((Only.refl _ w).setCell (p := ⟨g, 1, none⟩) (.inl (.inl rfl)) _).drew
    have hsz1 : (w.setCell ⟨g, 1, none⟩ (.int .i64 ((u : Int) - (z : Int)))).drew.heap.size = w.heap.size := by simp [World.setCell]
    have HOn := Lib.hid (And.intro hon1 hsz1)
    have e5 : (((u - z : Nat) : Int)) = (u : Int) - (z : Int) := by have := HUz.out; omega
    rw [e5] at HD1
    have k2' : (w.setCell ⟨g, 1, none⟩ (.int .i64 ((u : Int) - (z : Int)))).drew.cell? ⟨g, 2, none⟩ = some (.map (some mb)) := HD1.out.row.cell 2
    clear hon1 hsz1 e5
    have HOm := Lib.hid (MapV.some HD1.out.map)
    go_wp2_with (at_delete; refine wpList_delete_own _ rfl _ _ 62 9 rfl 67 keyS Try.underlying62 pE mb L.length _ rfl HOm.out _ _ rfl (key_of HNm.out) ?_; intro w3 ho3 ht3; have HT3 := Lib.hid (And.intro ho3 ht3); clear ho3 ht3)
    go_end0
    have ht := HT3.out
    have hd := HD1.out.gone rfl ht.1 ht.2.grown
    have hst := ht.2
    have hs3 : w3.heap.size = (w.setCell ⟨g, 1, none⟩ (.int .i64 ((u : Int) - (z : Int)))).drew.heap.size := by
      obtain ⟨_, _, _, _, _, rfl⟩ := ht.2
      simp [ChangeMaps.setBlock]
    exact ⟨rfl, ⟨_, hd.narrow (by rw [hs3]; exact Nat.le_refl _)⟩, HOn.out.1.grown ht.2.grown (fun k q => .inl (.inr (by injection q with q; exact q.symm)))⟩

end
end Go.Proofs.Ythheolhghhmdlaa
