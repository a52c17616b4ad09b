/- A disk: something done. -/
import Derived.Test.YthheolhghhmdlaaDiskI
namespace Go.Proofs.Ythheolhghhmdlaa
open Go.RowKit Dsk
open Go.Maps (Keyed)
section
variable {w w' w2 : World} {g : Nat} {S : Nat → Prop} {room : Int} {L : List Ent} {mv : Value} {o : Nat → Nat} {used : Nat} {fs : List Fil}
/-- What lies in memory behind the first look at what is to be done. -/
structure Seen (w : World) (g : Nat) (S : Nat → Prop) (room : Int) (L : List Ent) (mv : Value) (used : Nat) (x : Ope) (a : Option Addr) (c : Nat) (w2 : World) : Prop where
  dk : ∃ o, Dk w2 g S room L mv o used
  row : Row w2 w.heap.size 36 #[.int .i64 x.kind, .string ⟨x.name.toArray⟩, .string ⟨x.to.toArray⟩, .slice a x.data.length c]
  b : Below w.heap.size w w2
theorem seen (x : Ope) (a : Option Addr) (c : Nat) (h : Dk w g S room L mv o used) (hb : Below (w.heap.size + 1) (w.alloc (.cells #[.int .i64 x.kind, .string ⟨x.name.toArray⟩, .string ⟨x.to.toArray⟩, .slice a x.data.length c] 36)) w2) : Seen w g S room L mv used x a c w2 := by
  have hb2 : Below w.heap.size w w2 := ((Below.refl _ w).alloc (Nat.le_refl _) _).trans (hb.mono (by omega))
  exact ⟨⟨_, h.below hb2⟩, (Row.fresh w _ _).under hb (by omega), hb2⟩
/-- The disk stays. -/
theorem Seen.stay {x : Ope} {a : Option Addr} {c : Nat} (h : Seen w g S room L mv used x a c w2) (hu : used = sizeL (L.map Ent.fil)) (ho : Only S w2 w') (hd : ∃ o, Dk w' g S room L mv o used) : Dd w g S room (L.map Ent.fil) w' := by
  obtain ⟨o', h1⟩ := hd
  exact Dd.of h1 hu rfl (fun k hk => .inl hk) ((Only.of_below S h.b).trans (S' := S) ho (fun i hi => .inl hi))
theorem do_arg (x : Ope) (a : Option Addr) (c : Nat) (h : Dk w g S room L mv o used) (hu : used = sizeL (L.map Ent.fil)) (hs : Sm (L.map Ent.fil)) (hr0 : 0 ≤ room) (hr1 : room ≤ 1099511627776) (hB : Bytes w a x.data) (hBS : 0 < x.data.length → ∀ k, (Value.slice a x.data.length c).ownBlock = some k → ¬ S k) (hl9 : x.data.length ≤ 1000000000) (hm : mayBe x = false) :
    Calls Try.prog 14 #[ptr g, opV x a c] w fun e w' => e = .returned (.int .i64 ((doL room (L.map Ent.fil) x).2 : Nat)) ∧ Dd w g S room (doL room (L.map Ent.fil) x).1 w' := by
  have HM := Lib.hid (mayBe_any x a c (w.alloc (.cells #[.int .i64 x.kind, .string ⟨x.name.toArray⟩, .string ⟨x.to.toArray⟩, .slice a x.data.length c] 36)))
  have HH := Lib.hid h
  have HU := Lib.hid hu
  have HSm := Lib.hid hs
  have HB := Lib.hid hB
  have HBS := Lib.hid hBS
  have HL9 := Lib.hid hl9
  have hl := h.lt
  clear h hu hs hB hBS hl9
  have e1 : doL room (L.map Ent.fil) x = (L.map Ent.fil, 2) := by unfold doL; rw [if_pos hm]
  rw [e1]
  rw [hm] at HM
  clear e1 hm
  go_enter Try.func14, Try.ntmps14
  go_wp2_with fail
  refine HM.out.mono ?_
  rintro e w2 ⟨rfl, hb2⟩
  have hsn : Seen w g S room L mv used x a c w2 := seen x a c HH.out (by simpa using hb2)
  have HSn := Lib.hid hsn
  have q0 : w2.cell? ⟨w.heap.size, 0, none⟩ = some (.int .i64 x.kind) := hsn.row.cell 0
  have q1 : w2.cell? ⟨w.heap.size, 1, none⟩ = some (.string ⟨x.name.toArray⟩) := hsn.row.cell 1
  have q2 : w2.cell? ⟨w.heap.size, 2, none⟩ = some (.string ⟨x.to.toArray⟩) := hsn.row.cell 2
  have q3 : w2.cell? ⟨w.heap.size, 3, none⟩ = some (.slice a x.data.length c) := hsn.row.cell 3
  have ql := hsn.row.lt
  obtain ⟨o2, hd2⟩ := hsn.dk
  have q5 : w2.cell? ⟨g, 2, none⟩ = some mv := hd2.row.cell 2
  have HD2 := Lib.hid hd2
  clear hb2 hsn hd2
  go_wp2
  go_ret
  exact ⟨rfl, HSn.out.stay HU.out (Only.refl _ _) ⟨_, HD2.out⟩⟩
theorem do_nil (x : Ope) (a : Option Addr) (c : Nat) (w : World) : Calls Try.prog 14 #[.pointer none, opV x a c] w fun e w' => e = .returned (.int .i64 1) ∧ Below w.heap.size w w' := by
  have HB := Lib.hid (show Below w.heap.size w (w.alloc (.cells #[.int .i64 x.kind, .string ⟨x.name.toArray⟩, .string ⟨x.to.toArray⟩, .slice a x.data.length c] 36)) from (Below.refl _ _).alloc (Nat.le_refl _) _)
  go_enter Try.func14, Try.ntmps14
  go_wp2
  go_ret
  exact ⟨rfl, HB.out⟩
theorem kinds_named (x : Ope) (hm : mayBe x = true) : 1 ≤ x.name.length ∧ x.name.length ≤ 60 := by
  simp only [mayBe, named, Bool.or_eq_true, Bool.and_eq_true, decide_eq_true_eq] at hm
  rcases hm with hm | hm <;> omega
set_option maxRecDepth 100000 in
theorem do_write (x : Ope) (a : Option Addr) (c : Nat) (h : Dk w g S room L mv o used) (hu : used = sizeL (L.map Ent.fil)) (hs : Sm (L.map Ent.fil)) (hr0 : 0 ≤ room) (hr1 : room ≤ 1099511627776) (hB : Bytes w a x.data) (hBS : 0 < x.data.length → ∀ k, (Value.slice a x.data.length c).ownBlock = some k → ¬ S k) (hl9 : x.data.length ≤ 1000000000) (hm : mayBe x = true) (hk : x.kind = 1) :
    Calls Try.prog 14 #[ptr g, opV x a c] w fun e w' => e = .returned (.int .i64 ((doL room (L.map Ent.fil) x).2 : Nat)) ∧ Dd w g S room (doL room (L.map Ent.fil) x).1 w' := by
  have HNm := Lib.hid (kinds_named x hm)
  have HM := Lib.hid (mayBe_any x a c (w.alloc (.cells #[.int .i64 x.kind, .string ⟨x.name.toArray⟩, .string ⟨x.to.toArray⟩, .slice a x.data.length c] 36)))
  have HH := Lib.hid h
  have HU := Lib.hid hu
  have HSm := Lib.hid hs
  have HB := Lib.hid hB
  have HBS := Lib.hid hBS
  have HL9 := Lib.hid hl9
  have hl := h.lt
  clear h hu hs hB hBS hl9
  rw [hm] at HM
  have HK := Lib.hid hk
  have HMb := Lib.hid hm
  have HR := Lib.hid (And.intro hr0 hr1)
  clear hk hm hr0 hr1
  go_enter Try.func14, Try.ntmps14
  go_wp2_with fail
  refine HM.out.mono ?_
  rintro e w2 ⟨rfl, hb2⟩
  have hsn : Seen w g S room L mv used x a c w2 := seen x a c HH.out (by simpa using hb2)
  have HSn := Lib.hid hsn
  have q0 : w2.cell? ⟨w.heap.size, 0, none⟩ = some (.int .i64 x.kind) := hsn.row.cell 0
  have q1 : w2.cell? ⟨w.heap.size, 1, none⟩ = some (.string ⟨x.name.toArray⟩) := hsn.row.cell 1
  have q2 : w2.cell? ⟨w.heap.size, 2, none⟩ = some (.string ⟨x.to.toArray⟩) := hsn.row.cell 2
  have q3 : w2.cell? ⟨w.heap.size, 3, none⟩ = some (.slice a x.data.length c) := hsn.row.cell 3
  have ql := hsn.row.lt
  obtain ⟨o2, hd2⟩ := hsn.dk
  have q5 : w2.cell? ⟨g, 2, none⟩ = some mv := hd2.row.cell 2
  have HD2 := Lib.hid hd2
  clear hb2 hsn hd2
  rw [HK.out] at q0
  have hW : Calls Try.prog 31 #[ptr g, .string ⟨x.name.toArray⟩, .slice a x.data.length c] w2 fun e w' => e = .returned (.int .i64 ((doL room (L.map Ent.fil) x).2 : Nat)) ∧ Dd w g S room (doL room (L.map Ent.fil) x).1 w' := by
    have hd2 := HD2.out
    have hu := HU.out
    have hsm := HSm.out
    have hu9 : used ≤ 1000000000 := by unfold Sm at hsm; omega
    have hBw : Bytes w2 a x.data := HB.out.under HSn.out.b
    have hdo : doL room (L.map Ent.fil) x = if (sizeL (L.map Ent.fil) : Int) + x.data.length > room then (L.map Ent.fil, 11) else (put Fil.name ((ofName x.name (L.map Ent.fil)).more x.data) (L.map Ent.fil), 0) := by
      unfold doL
      rw [if_neg (by rw [HMb.out]; simp), if_pos HK.out]
    rw [hdo]
    by_cases hf : (sizeL (L.map Ent.fil) : Int) + x.data.length > room
    · rw [if_pos hf]
      refine (write_full x.name a x.data c hd2 HR.out.1 HR.out.2 hu9 (by rw [hu]; omega)).mono ?_
      rintro e w3 ⟨rfl, rfl⟩
      exact ⟨rfl, HSn.out.stay HU.out (Only.refl S w2).drew ⟨_, hd2.drew⟩⟩
    · rw [if_neg hf]
      cases hg : get Ent.name x.name L with
      | some e =>
        obtain ⟨p1, p2, p3⟩ := hsm.at_ (get_some hg).1
        refine (write_old x.name a x.data c hd2 hBw HL9.out HR.out.1 HR.out.2 hu9 (by rw [hu]; omega) HNm.out.2 e hg p2 hu).mono ?_
        rintro e w3 ⟨rfl, h3⟩
        exact ⟨rfl, h3.under HSn.out.b⟩
      | none =>
        refine (write_new x.name a x.data c hd2 hBw HBS.out HL9.out HR.out.1 HR.out.2 hu9 (by rw [hu]; omega) HNm.out.2 hg (by unfold Sm at hsm; simp only [List.length_map] at hsm; omega) hu).mono ?_
        rintro e w3 ⟨rfl, h3⟩
        exact ⟨rfl, h3.under HSn.out.b⟩
  have HW := Lib.hid hW
  clear hW
  go_wp2_with fail
  refine HW.out.mono ?_
  rintro e w3 ⟨rfl, h3⟩
  have H3 := Lib.hid h3
  clear h3
  go_wp2
  go_ret
  exact ⟨rfl, H3.out⟩
set_option maxRecDepth 100000 in
theorem do_none (x : Ope) (a : Option Addr) (c : Nat) (h : Dk w g S room L mv o used) (hu : used = sizeL (L.map Ent.fil)) (hs : Sm (L.map Ent.fil)) (hr0 : 0 ≤ room) (hr1 : room ≤ 1099511627776) (hB : Bytes w a x.data) (hBS : 0 < x.data.length → ∀ k, (Value.slice a x.data.length c).ownBlock = some k → ¬ S k) (hl9 : x.data.length ≤ 1000000000) (hm : mayBe x = true) (hk : x.kind ≠ 1) (hg : get Ent.name x.name L = none) :
    Calls Try.prog 14 #[ptr g, opV x a c] w fun e w' => e = .returned (.int .i64 ((doL room (L.map Ent.fil) x).2 : Nat)) ∧ Dd w g S room (doL room (L.map Ent.fil) x).1 w' := by
  have HNm := Lib.hid (kinds_named x hm)
  obtain ⟨r, hrv⟩ := h.map.shape
  subst hrv
  have HM := Lib.hid (mayBe_any x a c (w.alloc (.cells #[.int .i64 x.kind, .string ⟨x.name.toArray⟩, .string ⟨x.to.toArray⟩, .slice a x.data.length c] 36)))
  have HH := Lib.hid h
  have HU := Lib.hid hu
  have HSm := Lib.hid hs
  have HB := Lib.hid hB
  have HBS := Lib.hid hBS
  have HL9 := Lib.hid hl9
  have hl := h.lt
  clear h hu hs hB hBS hl9
  rw [hm] at HM
  have HMb := Lib.hid hm
  clear hm hr0 hr1
  have HK := Lib.hid hk
  have HG := Lib.hid hg
  have hk1 : (x.kind == 1) = false := by simp [hk]
  clear hk hg
  go_enter Try.func14, Try.ntmps14
  go_wp2_with fail
  refine HM.out.mono ?_
  rintro e w2 ⟨rfl, hb2⟩
  have hsn : Seen w g S room L (.map r) used x a c w2 := seen x a c HH.out (by simpa using hb2)
  have HSn := Lib.hid hsn
  have q0 : w2.cell? ⟨w.heap.size, 0, none⟩ = some (.int .i64 x.kind) := hsn.row.cell 0
  have q1 : w2.cell? ⟨w.heap.size, 1, none⟩ = some (.string ⟨x.name.toArray⟩) := hsn.row.cell 1
  have q2 : w2.cell? ⟨w.heap.size, 2, none⟩ = some (.string ⟨x.to.toArray⟩) := hsn.row.cell 2
  have q3 : w2.cell? ⟨w.heap.size, 3, none⟩ = some (.slice a x.data.length c) := hsn.row.cell 3
  have ql := hsn.row.lt
  obtain ⟨o2, hd2⟩ := hsn.dk
  have q5 : w2.cell? ⟨g, 2, none⟩ = some (.map r) := hd2.row.cell 2
  have HD2 := Lib.hid hd2
  clear hb2 hsn hd2
  have hlk := look_any HD2.out.drew.map (n := x.name) (by have := HNm.out; simp only [maxLen]; omega)
  rw [look_none HG.out] at hlk
  generalize hv : (Value.pointer none) = v at *
  have HV := Lib.hid hv
  clear hv
  go_wp2
  refine wp_region_held_drew (S := fun W => W.cell? ⟨g, 2, none⟩ = some (.map r) ∧ W.cell? ⟨w.heap.size, 1, none⟩ = some (.string ⟨x.name.toArray⟩) ∧ (Instr.lookup 62 (.map r) (.string ⟨x.name.toArray⟩) false).run Try.prog W = .ok v W) (by kernel_rfl) ⟨q5, q1, hlk⟩ (fun hHeld => ?_)
  refine wpAnyH_take (i := 0) (oi := ⟨some 20, _, _, _, _, _⟩) (v := ?_) rfl (by kernel_rfl) (by kernel_rfl) (by kernel_rfl) (fun _ _ _ h => h) (Or.inl ⟨by rfl, ?_⟩) hHeld ?_
  rotate_left
  · intro W hSw
    obtain ⟨f0, f1, f2⟩ := hSw
    go_simp
    with_reducible rfl
  simp only [Act.put, List.setIfInBounds_toArray, List.set_cons_zero, List.set_cons_succ]
  refine wpAnyH_take (i := 1) (oi := ⟨some 21, _, _, _, _, _⟩) (v := ?_) rfl (by kernel_rfl) (by kernel_rfl) (by kernel_rfl) (fun _ _ _ h => h) (Or.inl ⟨by rfl, ?_⟩) hHeld ?_
  rotate_left
  · intro W hSw
    obtain ⟨f0, f1, f2⟩ := hSw
    go_simp
    with_reducible rfl
  simp only [Act.put, List.setIfInBounds_toArray, List.set_cons_zero, List.set_cons_succ]
  refine wpAnyH_take (i := 2) (oi := ⟨some 22, _, _, _, _, _⟩) (v := ?_) rfl (by kernel_rfl) (by kernel_rfl) (by kernel_rfl) (fun _ _ _ h => h) (Or.inl ⟨by rfl, ?_⟩) hHeld ?_
  rotate_left
  · intro W hSw
    obtain ⟨f0, f1, f2⟩ := hSw
    go_simp
    with_reducible rfl
  simp only [Act.put, List.setIfInBounds_toArray, List.set_cons_zero, List.set_cons_succ]
  refine wpAnyH_take (i := 3) (oi := ⟨some 23, _, _, _, _, _⟩) (v := ?_) rfl (by kernel_rfl) (by kernel_rfl) (by kernel_rfl) (fun _ _ _ h => h) (Or.inl ⟨by rfl, ?_⟩) hHeld ?_
  rotate_left
  · intro W hSw
    obtain ⟨f0, f1, f2⟩ := hSw
    go_simp
    with_reducible rfl
  simp only [Act.put, List.setIfInBounds_toArray, List.set_cons_zero, List.set_cons_succ]
  refine wpAnyH_take (i := 4) (oi := ⟨some 24, _, _, _, _, _⟩) (v := ?_) rfl (by kernel_rfl) (by kernel_rfl) (by kernel_rfl) (fun _ _ _ h => h) (Or.inl ⟨by rfl, ?_⟩) hHeld ?_
  rotate_left
  · intro W hSw
    obtain ⟨f0, f1, f2⟩ := hSw
    go_simp
    with_reducible rfl
  simp only [Act.put, List.setIfInBounds_toArray, List.set_cons_zero, List.set_cons_succ]
  refine wpAnyH_take (i := 5) (oi := ⟨some 25, _, _, _, _, _⟩) (v := ?_) rfl (by kernel_rfl) (by kernel_rfl) (by kernel_rfl) (fun _ _ _ h => h) (Or.inl ⟨by rfl, ?_⟩) hHeld ?_
  rotate_left
  · intro W hSw
    obtain ⟨f0, f1, f2⟩ := hSw
    go_simp
    with_reducible rfl
  simp only [Act.put, List.setIfInBounds_toArray, List.set_cons_zero, List.set_cons_succ]
  refine wpAnyH_take (i := 6) (oi := ⟨some 26, _, _, _, _, _⟩) (v := ?_) rfl (by kernel_rfl) (by kernel_rfl) (by kernel_rfl) (fun _ _ _ h => h) (Or.inl ⟨by rfl, ?_⟩) hHeld ?_
  rotate_left
  · intro W hSw
    obtain ⟨f0, f1, f2⟩ := hSw
    go_simp
    with_reducible rfl
  simp only [Act.put, List.setIfInBounds_toArray, List.set_cons_zero, List.set_cons_succ]
  refine wpAnyH_take (i := 7) (oi := ⟨some 5, _, _, _, _, _⟩) (v := ?_) rfl (by kernel_rfl) (by kernel_rfl) (by kernel_rfl) (fun _ _ _ h => h) (Or.inl ⟨by rfl, ?_⟩) hHeld ?_
  rotate_left
  · intro W hSw
    obtain ⟨f0, f1, f2⟩ := hSw
    go_simp
    with_reducible rfl
  simp only [Act.put, List.setIfInBounds_toArray, List.set_cons_zero, List.set_cons_succ]
  refine wpAnyH_done (by kernel_rfl) ?_ _
  have hv := HV.out
  subst hv
  go_wp2
  go_ret
  have e1 : doL room (L.map Ent.fil) x = (L.map Ent.fil, 4) := by
    have hg' : get Fil.name x.name (L.map Ent.fil) = none := by rw [get_map fil_key, HG.out]; rfl
    unfold doL
    rw [if_neg (by rw [HMb.out]; simp), if_neg HK.out]
    simp only [hg']
  rw [e1]
  exact ⟨rfl, HSn.out.stay HU.out (Only.refl S w2).drew ⟨_, HD2.out.drew⟩⟩
theorem to_named (x : Ope) (hm : mayBe x = true) (hk : x.kind = 3) : 1 ≤ x.to.length ∧ x.to.length ≤ 60 := by
  simp only [mayBe, named, Bool.or_eq_true, Bool.and_eq_true, decide_eq_true_eq] at hm
  rcases hm with hm | hm
  · omega
  · exact hm.2
theorem called_same {n : Nm} {f : Fil} {fs : List Fil} (hr : Rising Fil.name fs) (hg : get Fil.name n fs = some f) : put Fil.name (f.called n) (del Fil.name n fs) = fs := by
  obtain ⟨hm, hn⟩ := get_some hg
  have e1 : f.called n = f := by rw [← hn]; rfl
  rw [e1]
  refine ext_of hr.del.put hr fun y => ?_
  rw [mem_put, mem_del]
  constructor
  · rintro (rfl | h)
    · exact hm
    · exact h.1.1
  · intro hy
    by_cases q : y.name = f.name
    · exact .inl (hr.inj hy hm q)
    · exact .inr ⟨⟨hy, by rw [← hn]; exact q⟩, q⟩
theorem sync_tail {w1 w3 : World} {e : Ent} {n : Nm} {fv3 : Value} (h : Dk w1 g S room L mv o used) (he : get Ent.name n L = some e) (hf : Fl w3 (relab o w1.heap.size e.blk) e.blk fv3 (.slice none 0 0) [] (e.firm ++ e.ws.flatten) []) (ho : Only (fun k => o k = e.blk) w1 w3) (hu : used = sizeL (L.map Ent.fil)) : Dd w1 g S room (put Fil.name e.fil.synced (L.map Ent.fil)) w3 := by
  obtain ⟨hm, hn⟩ := get_some he
  have hg' : get Fil.name n (L.map Ent.fil) = some e.fil := by rw [get_map fil_key, he]; rfl
  refine Dd.of (h.file hm (x := ⟨e.name, e.blk, fv3, .slice none 0 0, [], e.firm ++ e.ws.flatten, []⟩) hf rfl rfl ho) ?_ ?_ (fun k hk => more_new hk) (ho.mono fun k hk => ?_)
  · rw [hu]; exact (size_sync h.filR hg').symm
  · rw [put_map fil_key]; rfl
  · rcases Nat.lt_or_ge k w1.heap.size with q | q
    · exact .inl (h.sf e hm k q hk)
    · exact .inr q
set_option maxRecDepth 100000 in
theorem do_remove (x : Ope) (a : Option Addr) (c : Nat) (h : Dk w g S room L mv o used) (hu : used = sizeL (L.map Ent.fil)) (hs : Sm (L.map Ent.fil)) (hr0 : 0 ≤ room) (hr1 : room ≤ 1099511627776) (hB : Bytes w a x.data) (hBS : 0 < x.data.length → ∀ k, (Value.slice a x.data.length c).ownBlock = some k → ¬ S k) (hl9 : x.data.length ≤ 1000000000) (hm : mayBe x = true) (hk : x.kind = 4) (e : Ent) (hg : get Ent.name x.name L = some e) :
    Calls Try.prog 14 #[ptr g, opV x a c] w fun e w' => e = .returned (.int .i64 ((doL room (L.map Ent.fil) x).2 : Nat)) ∧ Dd w g S room (doL room (L.map Ent.fil) x).1 w' := by
  have HNm := Lib.hid (kinds_named x hm)
  obtain ⟨r, hrv⟩ := h.map.shape
  subst hrv
  have HM := Lib.hid (mayBe_any x a c (w.alloc (.cells #[.int .i64 x.kind, .string ⟨x.name.toArray⟩, .string ⟨x.to.toArray⟩, .slice a x.data.length c] 36)))
  have HH := Lib.hid h
  have HU := Lib.hid hu
  have HSm := Lib.hid hs
  have HB := Lib.hid hB
  have HBS := Lib.hid hBS
  have HL9 := Lib.hid hl9
  have hl := h.lt
  clear h hu hs hB hBS hl9
  rw [hm] at HM
  have HMb := Lib.hid hm
  clear hm hr0 hr1
  have HK := Lib.hid hk
  clear hk
  have HG := Lib.hid hg
  clear hg
  go_enter Try.func14, Try.ntmps14
  go_wp2_with fail
  refine HM.out.mono ?_
  rintro e w2 ⟨rfl, hb2⟩
  have hsn : Seen w g S room L (.map r) used x a c w2 := seen x a c HH.out (by simpa using hb2)
  have HSn := Lib.hid hsn
  have q0 : w2.cell? ⟨w.heap.size, 0, none⟩ = some (.int .i64 x.kind) := hsn.row.cell 0
  have q1 : w2.cell? ⟨w.heap.size, 1, none⟩ = some (.string ⟨x.name.toArray⟩) := hsn.row.cell 1
  have q2 : w2.cell? ⟨w.heap.size, 2, none⟩ = some (.string ⟨x.to.toArray⟩) := hsn.row.cell 2
  have q3 : w2.cell? ⟨w.heap.size, 3, none⟩ = some (.slice a x.data.length c) := hsn.row.cell 3
  have ql := hsn.row.lt
  obtain ⟨o2, hd2⟩ := hsn.dk
  have q5 : w2.cell? ⟨g, 2, none⟩ = some (.map r) := hd2.row.cell 2
  have HD2 := Lib.hid hd2
  clear hb2 hsn hd2
  have hlk := look_any HD2.out.drew.map (n := x.name) (by have := HNm.out; simp only [maxLen]; omega)
  rw [look_some HG.out] at hlk
  rw [HK.out] at q0
  generalize hv : (ptr e.blk) = v at *
  have HV := Lib.hid hv
  clear hv
  go_wp2
  refine wp_region_held_drew (S := fun W => W.cell? ⟨g, 2, none⟩ = some (.map r) ∧ W.cell? ⟨w.heap.size, 1, none⟩ = some (.string ⟨x.name.toArray⟩) ∧ (Instr.lookup 62 (.map r) (.string ⟨x.name.toArray⟩) false).run Try.prog W = .ok v W) (by kernel_rfl) ⟨q5, q1, hlk⟩ (fun hHeld => ?_)
  refine wpAnyH_take (i := 0) (oi := ⟨some 20, _, _, _, _, _⟩) (v := ?_) rfl (by kernel_rfl) (by kernel_rfl) (by kernel_rfl) (fun _ _ _ h => h) (Or.inl ⟨by rfl, ?_⟩) hHeld ?_
  rotate_left
  · intro W hSw
    obtain ⟨f0, f1, f2⟩ := hSw
    go_simp
    with_reducible rfl
  simp only [Act.put, List.setIfInBounds_toArray, List.set_cons_zero, List.set_cons_succ]
  refine wpAnyH_take (i := 1) (oi := ⟨some 21, _, _, _, _, _⟩) (v := ?_) rfl (by kernel_rfl) (by kernel_rfl) (by kernel_rfl) (fun _ _ _ h => h) (Or.inl ⟨by rfl, ?_⟩) hHeld ?_
  rotate_left
  · intro W hSw
    obtain ⟨f0, f1, f2⟩ := hSw
    go_simp
    with_reducible rfl
  simp only [Act.put, List.setIfInBounds_toArray, List.set_cons_zero, List.set_cons_succ]
  refine wpAnyH_take (i := 2) (oi := ⟨some 22, _, _, _, _, _⟩) (v := ?_) rfl (by kernel_rfl) (by kernel_rfl) (by kernel_rfl) (fun _ _ _ h => h) (Or.inl ⟨by rfl, ?_⟩) hHeld ?_
  rotate_left
  · intro W hSw
    obtain ⟨f0, f1, f2⟩ := hSw
    go_simp
    with_reducible rfl
  simp only [Act.put, List.setIfInBounds_toArray, List.set_cons_zero, List.set_cons_succ]
  refine wpAnyH_take (i := 3) (oi := ⟨some 23, _, _, _, _, _⟩) (v := ?_) rfl (by kernel_rfl) (by kernel_rfl) (by kernel_rfl) (fun _ _ _ h => h) (Or.inl ⟨by rfl, ?_⟩) hHeld ?_
  rotate_left
  · intro W hSw
    obtain ⟨f0, f1, f2⟩ := hSw
    go_simp
    with_reducible rfl
  simp only [Act.put, List.setIfInBounds_toArray, List.set_cons_zero, List.set_cons_succ]
  refine wpAnyH_take (i := 4) (oi := ⟨some 24, _, _, _, _, _⟩) (v := ?_) rfl (by kernel_rfl) (by kernel_rfl) (by kernel_rfl) (fun _ _ _ h => h) (Or.inl ⟨by rfl, ?_⟩) hHeld ?_
  rotate_left
  · intro W hSw
    obtain ⟨f0, f1, f2⟩ := hSw
    go_simp
    with_reducible rfl
  simp only [Act.put, List.setIfInBounds_toArray, List.set_cons_zero, List.set_cons_succ]
  refine wpAnyH_take (i := 5) (oi := ⟨some 25, _, _, _, _, _⟩) (v := ?_) rfl (by kernel_rfl) (by kernel_rfl) (by kernel_rfl) (fun _ _ _ h => h) (Or.inl ⟨by rfl, ?_⟩) hHeld ?_
  rotate_left
  · intro W hSw
    obtain ⟨f0, f1, f2⟩ := hSw
    go_simp
    with_reducible rfl
  simp only [Act.put, List.setIfInBounds_toArray, List.set_cons_zero, List.set_cons_succ]
  refine wpAnyH_take (i := 6) (oi := ⟨some 26, _, _, _, _, _⟩) (v := ?_) rfl (by kernel_rfl) (by kernel_rfl) (by kernel_rfl) (fun _ _ _ h => h) (Or.inl ⟨by rfl, ?_⟩) hHeld ?_
  rotate_left
  · intro W hSw
    obtain ⟨f0, f1, f2⟩ := hSw
    go_simp
    with_reducible rfl
  simp only [Act.put, List.setIfInBounds_toArray, List.set_cons_zero, List.set_cons_succ]
  refine wpAnyH_take (i := 7) (oi := ⟨some 5, _, _, _, _, _⟩) (v := ?_) rfl (by kernel_rfl) (by kernel_rfl) (by kernel_rfl) (fun _ _ _ h => h) (Or.inl ⟨by rfl, ?_⟩) hHeld ?_
  rotate_left
  · intro W hSw
    obtain ⟨f0, f1, f2⟩ := hSw
    go_simp
    with_reducible rfl
  simp only [Act.put, List.setIfInBounds_toArray, List.set_cons_zero, List.set_cons_succ]
  refine wpAnyH_done (by kernel_rfl) ?_ _
  have hv := HV.out
  subst hv
  go_wp2_with fail
  refine (remove_any x.name HD2.out.drew HU.out HSm.out (by have := HNm.out; simp only [maxLen]; omega)).mono ?_
  rintro r' w3 ⟨rfl, o3, h3, ho3⟩
  have H3 : Hid (Dd w g S room (del Fil.name x.name (L.map Ent.fil)) w3) := by
    refine Dd.of h3 (by rw [del_map fil_key]) (del_map fil_key _ _) (fun k hk => .inl hk) ?_
    refine ((Only.of_below S HSn.out.b).drew).trans (S' := S) (ho3.mono fun k hk => .inl ?_) (fun i hi => .inl hi)
    rcases hk with rfl | q
    · exact HD2.out.sg
    · exact HD2.out.sm k q
  clear h3 ho3
  go_wp2
  go_ret
  have hg' : get Fil.name x.name (L.map Ent.fil) = some e.fil := by rw [get_map fil_key, HG.out]; rfl
  have e1 : doL room (L.map Ent.fil) x = (del Fil.name x.name (L.map Ent.fil), 0) := by
    unfold doL
    rw [if_neg (by rw [HMb.out]; simp), if_neg (by rw [HK.out]; decide)]
    simp only [hg']
    rw [if_neg (by rw [HK.out]; decide), if_neg (by rw [HK.out]; decide)]
  rw [e1]
  exact ⟨rfl, H3.out⟩
set_option maxRecDepth 100000 in
theorem do_rename (x : Ope) (a : Option Addr) (c : Nat) (h : Dk w g S room L mv o used) (hu : used = sizeL (L.map Ent.fil)) (hs : Sm (L.map Ent.fil)) (hr0 : 0 ≤ room) (hr1 : room ≤ 1099511627776) (hB : Bytes w a x.data) (hBS : 0 < x.data.length → ∀ k, (Value.slice a x.data.length c).ownBlock = some k → ¬ S k) (hl9 : x.data.length ≤ 1000000000) (hm : mayBe x = true) (hk : x.kind = 3) (e : Ent) (hg : get Ent.name x.name L = some e) (hne : x.name ≠ x.to) :
    Calls Try.prog 14 #[ptr g, opV x a c] w fun e w' => e = .returned (.int .i64 ((doL room (L.map Ent.fil) x).2 : Nat)) ∧ Dd w g S room (doL room (L.map Ent.fil) x).1 w' := by
  have HNm := Lib.hid (kinds_named x hm)
  obtain ⟨r, hrv⟩ := h.map.shape
  subst hrv
  have HM := Lib.hid (mayBe_any x a c (w.alloc (.cells #[.int .i64 x.kind, .string ⟨x.name.toArray⟩, .string ⟨x.to.toArray⟩, .slice a x.data.length c] 36)))
  have HH := Lib.hid h
  have HU := Lib.hid hu
  have HSm := Lib.hid hs
  have HB := Lib.hid hB
  have HBS := Lib.hid hBS
  have HL9 := Lib.hid hl9
  have hl := h.lt
  clear h hu hs hB hBS hl9
  rw [hm] at HM
  have HMb := Lib.hid hm
  clear hm hr0 hr1
  have HK := Lib.hid hk
  clear hk
  have HG := Lib.hid hg
  clear hg
  have HNe := Lib.hid hne
  have HTo := Lib.hid (to_named x HMb.out HK.out)
  clear hne
  go_enter Try.func14, Try.ntmps14
  go_wp2_with fail
  refine HM.out.mono ?_
  rintro e w2 ⟨rfl, hb2⟩
  have hsn : Seen w g S room L (.map r) used x a c w2 := seen x a c HH.out (by simpa using hb2)
  have HSn := Lib.hid hsn
  have q0 : w2.cell? ⟨w.heap.size, 0, none⟩ = some (.int .i64 x.kind) := hsn.row.cell 0
  have q1 : w2.cell? ⟨w.heap.size, 1, none⟩ = some (.string ⟨x.name.toArray⟩) := hsn.row.cell 1
  have q2 : w2.cell? ⟨w.heap.size, 2, none⟩ = some (.string ⟨x.to.toArray⟩) := hsn.row.cell 2
  have q3 : w2.cell? ⟨w.heap.size, 3, none⟩ = some (.slice a x.data.length c) := hsn.row.cell 3
  have ql := hsn.row.lt
  obtain ⟨o2, hd2⟩ := hsn.dk
  have q5 : w2.cell? ⟨g, 2, none⟩ = some (.map r) := hd2.row.cell 2
  have HD2 := Lib.hid hd2
  clear hb2 hsn hd2
  have hlk := look_any HD2.out.drew.map (n := x.name) (by have := HNm.out; simp only [maxLen]; omega)
  rw [look_some HG.out] at hlk
  rw [HK.out] at q0
  generalize hv : (ptr e.blk) = v at *
  have HV := Lib.hid hv
  clear hv
  go_wp2
  refine wp_region_held_drew (S := fun W => W.cell? ⟨g, 2, none⟩ = some (.map r) ∧ W.cell? ⟨w.heap.size, 1, none⟩ = some (.string ⟨x.name.toArray⟩) ∧ (Instr.lookup 62 (.map r) (.string ⟨x.name.toArray⟩) false).run Try.prog W = .ok v W) (by kernel_rfl) ⟨q5, q1, hlk⟩ (fun hHeld => ?_)
  refine wpAnyH_take (i := 0) (oi := ⟨some 20, _, _, _, _, _⟩) (v := ?_) rfl (by kernel_rfl) (by kernel_rfl) (by kernel_rfl) (fun _ _ _ h => h) (Or.inl ⟨by rfl, ?_⟩) hHeld ?_
  rotate_left
  · intro W hSw
    obtain ⟨f0, f1, f2⟩ := hSw
    go_simp
    with_reducible rfl
  simp only [Act.put, List.setIfInBounds_toArray, List.set_cons_zero, List.set_cons_succ]
  refine wpAnyH_take (i := 1) (oi := ⟨some 21, _, _, _, _, _⟩) (v := ?_) rfl (by kernel_rfl) (by kernel_rfl) (by kernel_rfl) (fun _ _ _ h => h) (Or.inl ⟨by rfl, ?_⟩) hHeld ?_
  rotate_left
  · intro W hSw
    obtain ⟨f0, f1, f2⟩ := hSw
    go_simp
    with_reducible rfl
  simp only [Act.put, List.setIfInBounds_toArray, List.set_cons_zero, List.set_cons_succ]
  refine wpAnyH_take (i := 2) (oi := ⟨some 22, _, _, _, _, _⟩) (v := ?_) rfl (by kernel_rfl) (by kernel_rfl) (by kernel_rfl) (fun _ _ _ h => h) (Or.inl ⟨by rfl, ?_⟩) hHeld ?_
  rotate_left
  · intro W hSw
    obtain ⟨f0, f1, f2⟩ := hSw
    go_simp
    with_reducible rfl
  simp only [Act.put, List.setIfInBounds_toArray, List.set_cons_zero, List.set_cons_succ]
  refine wpAnyH_take (i := 3) (oi := ⟨some 23, _, _, _, _, _⟩) (v := ?_) rfl (by kernel_rfl) (by kernel_rfl) (by kernel_rfl) (fun _ _ _ h => h) (Or.inl ⟨by rfl, ?_⟩) hHeld ?_
  rotate_left
  · intro W hSw
    obtain ⟨f0, f1, f2⟩ := hSw
    go_simp
    with_reducible rfl
  simp only [Act.put, List.setIfInBounds_toArray, List.set_cons_zero, List.set_cons_succ]
  refine wpAnyH_take (i := 4) (oi := ⟨some 24, _, _, _, _, _⟩) (v := ?_) rfl (by kernel_rfl) (by kernel_rfl) (by kernel_rfl) (fun _ _ _ h => h) (Or.inl ⟨by rfl, ?_⟩) hHeld ?_
  rotate_left
  · intro W hSw
    obtain ⟨f0, f1, f2⟩ := hSw
    go_simp
    with_reducible rfl
  simp only [Act.put, List.setIfInBounds_toArray, List.set_cons_zero, List.set_cons_succ]
  refine wpAnyH_take (i := 5) (oi := ⟨some 25, _, _, _, _, _⟩) (v := ?_) rfl (by kernel_rfl) (by kernel_rfl) (by kernel_rfl) (fun _ _ _ h => h) (Or.inl ⟨by rfl, ?_⟩) hHeld ?_
  rotate_left
  · intro W hSw
    obtain ⟨f0, f1, f2⟩ := hSw
    go_simp
    with_reducible rfl
  simp only [Act.put, List.setIfInBounds_toArray, List.set_cons_zero, List.set_cons_succ]
  refine wpAnyH_take (i := 6) (oi := ⟨some 26, _, _, _, _, _⟩) (v := ?_) rfl (by kernel_rfl) (by kernel_rfl) (by kernel_rfl) (fun _ _ _ h => h) (Or.inl ⟨by rfl, ?_⟩) hHeld ?_
  rotate_left
  · intro W hSw
    obtain ⟨f0, f1, f2⟩ := hSw
    go_simp
    with_reducible rfl
  simp only [Act.put, List.setIfInBounds_toArray, List.set_cons_zero, List.set_cons_succ]
  refine wpAnyH_take (i := 7) (oi := ⟨some 5, _, _, _, _, _⟩) (v := ?_) rfl (by kernel_rfl) (by kernel_rfl) (by kernel_rfl) (fun _ _ _ h => h) (Or.inl ⟨by rfl, ?_⟩) hHeld ?_
  rotate_left
  · intro W hSw
    obtain ⟨f0, f1, f2⟩ := hSw
    go_simp
    with_reducible rfl
  simp only [Act.put, List.setIfInBounds_toArray, List.set_cons_zero, List.set_cons_succ]
  refine wpAnyH_done (by kernel_rfl) ?_ _
  have hv := HV.out
  subst hv
  go_wp2_with fail
  refine (rename_any x.name x.to HD2.out.drew HU.out HSm.out HNm.out.2 HTo.out.2 e HG.out HNe.out).mono ?_
  rintro r' w3 ⟨rfl, h3⟩
  have H3 : Hid (Dd w g S room (put Fil.name (e.fil.called x.to) (del Fil.name x.name (L.map Ent.fil))) w3) := Dd.under (HSn.out.b.drew) h3
  clear h3
  go_wp2
  go_ret
  have hg' : get Fil.name x.name (L.map Ent.fil) = some e.fil := by rw [get_map fil_key, HG.out]; rfl
  have e1 : doL room (L.map Ent.fil) x = (put Fil.name (e.fil.called x.to) (del Fil.name x.name (L.map Ent.fil)), 0) := by
    unfold doL
    rw [if_neg (by rw [HMb.out]; simp), if_neg (by rw [HK.out]; decide)]
    simp only [hg']
    rw [if_neg (by rw [HK.out]; decide), if_pos HK.out]
  rw [e1]
  exact ⟨rfl, H3.out⟩
set_option maxRecDepth 100000 in
theorem do_rename0 (x : Ope) (a : Option Addr) (c : Nat) (h : Dk w g S room L mv o used) (hu : used = sizeL (L.map Ent.fil)) (hs : Sm (L.map Ent.fil)) (hr0 : 0 ≤ room) (hr1 : room ≤ 1099511627776) (hB : Bytes w a x.data) (hBS : 0 < x.data.length → ∀ k, (Value.slice a x.data.length c).ownBlock = some k → ¬ S k) (hl9 : x.data.length ≤ 1000000000) (hm : mayBe x = true) (hk : x.kind = 3) (e : Ent) (hg : get Ent.name x.name L = some e) (hne : x.name = x.to) :
    Calls Try.prog 14 #[ptr g, opV x a c] w fun e w' => e = .returned (.int .i64 ((doL room (L.map Ent.fil) x).2 : Nat)) ∧ Dd w g S room (doL room (L.map Ent.fil) x).1 w' := by
  have HNm := Lib.hid (kinds_named x hm)
  obtain ⟨r, hrv⟩ := h.map.shape
  subst hrv
  have HM := Lib.hid (mayBe_any x a c (w.alloc (.cells #[.int .i64 x.kind, .string ⟨x.name.toArray⟩, .string ⟨x.to.toArray⟩, .slice a x.data.length c] 36)))
  have HH := Lib.hid h
  have HU := Lib.hid hu
  have HSm := Lib.hid hs
  have HB := Lib.hid hB
  have HBS := Lib.hid hBS
  have HL9 := Lib.hid hl9
  have hl := h.lt
  clear h hu hs hB hBS hl9
  rw [hm] at HM
  have HMb := Lib.hid hm
  clear hm hr0 hr1
  have HK := Lib.hid hk
  clear hk
  have HG := Lib.hid hg
  clear hg
  have HNe := Lib.hid hne
  clear hne
  go_enter Try.func14, Try.ntmps14
  go_wp2_with fail
  refine HM.out.mono ?_
  rintro e w2 ⟨rfl, hb2⟩
  have hsn : Seen w g S room L (.map r) used x a c w2 := seen x a c HH.out (by simpa using hb2)
  have HSn := Lib.hid hsn
  have q0 : w2.cell? ⟨w.heap.size, 0, none⟩ = some (.int .i64 x.kind) := hsn.row.cell 0
  have q1 : w2.cell? ⟨w.heap.size, 1, none⟩ = some (.string ⟨x.name.toArray⟩) := hsn.row.cell 1
  have q2 : w2.cell? ⟨w.heap.size, 2, none⟩ = some (.string ⟨x.to.toArray⟩) := hsn.row.cell 2
  have q3 : w2.cell? ⟨w.heap.size, 3, none⟩ = some (.slice a x.data.length c) := hsn.row.cell 3
  have ql := hsn.row.lt
  obtain ⟨o2, hd2⟩ := hsn.dk
  have q5 : w2.cell? ⟨g, 2, none⟩ = some (.map r) := hd2.row.cell 2
  have HD2 := Lib.hid hd2
  clear hb2 hsn hd2
  have hlk := look_any HD2.out.drew.map (n := x.name) (by have := HNm.out; simp only [maxLen]; omega)
  rw [look_some HG.out] at hlk
  rw [HK.out] at q0
  generalize hv : (ptr e.blk) = v at *
  have HV := Lib.hid hv
  clear hv
  go_wp2
  refine wp_region_held_drew (S := fun W => W.cell? ⟨g, 2, none⟩ = some (.map r) ∧ W.cell? ⟨w.heap.size, 1, none⟩ = some (.string ⟨x.name.toArray⟩) ∧ (Instr.lookup 62 (.map r) (.string ⟨x.name.toArray⟩) false).run Try.prog W = .ok v W) (by kernel_rfl) ⟨q5, q1, hlk⟩ (fun hHeld => ?_)
  refine wpAnyH_take (i := 0) (oi := ⟨some 20, _, _, _, _, _⟩) (v := ?_) rfl (by kernel_rfl) (by kernel_rfl) (by kernel_rfl) (fun _ _ _ h => h) (Or.inl ⟨by rfl, ?_⟩) hHeld ?_
  rotate_left
  · intro W hSw
    obtain ⟨f0, f1, f2⟩ := hSw
    go_simp
    with_reducible rfl
  simp only [Act.put, List.setIfInBounds_toArray, List.set_cons_zero, List.set_cons_succ]
  refine wpAnyH_take (i := 1) (oi := ⟨some 21, _, _, _, _, _⟩) (v := ?_) rfl (by kernel_rfl) (by kernel_rfl) (by kernel_rfl) (fun _ _ _ h => h) (Or.inl ⟨by rfl, ?_⟩) hHeld ?_
  rotate_left
  · intro W hSw
    obtain ⟨f0, f1, f2⟩ := hSw
    go_simp
    with_reducible rfl
  simp only [Act.put, List.setIfInBounds_toArray, List.set_cons_zero, List.set_cons_succ]
  refine wpAnyH_take (i := 2) (oi := ⟨some 22, _, _, _, _, _⟩) (v := ?_) rfl (by kernel_rfl) (by kernel_rfl) (by kernel_rfl) (fun _ _ _ h => h) (Or.inl ⟨by rfl, ?_⟩) hHeld ?_
  rotate_left
  · intro W hSw
    obtain ⟨f0, f1, f2⟩ := hSw
    go_simp
    with_reducible rfl
  simp only [Act.put, List.setIfInBounds_toArray, List.set_cons_zero, List.set_cons_succ]
  refine wpAnyH_take (i := 3) (oi := ⟨some 23, _, _, _, _, _⟩) (v := ?_) rfl (by kernel_rfl) (by kernel_rfl) (by kernel_rfl) (fun _ _ _ h => h) (Or.inl ⟨by rfl, ?_⟩) hHeld ?_
  rotate_left
  · intro W hSw
    obtain ⟨f0, f1, f2⟩ := hSw
    go_simp
    with_reducible rfl
  simp only [Act.put, List.setIfInBounds_toArray, List.set_cons_zero, List.set_cons_succ]
  refine wpAnyH_take (i := 4) (oi := ⟨some 24, _, _, _, _, _⟩) (v := ?_) rfl (by kernel_rfl) (by kernel_rfl) (by kernel_rfl) (fun _ _ _ h => h) (Or.inl ⟨by rfl, ?_⟩) hHeld ?_
  rotate_left
  · intro W hSw
    obtain ⟨f0, f1, f2⟩ := hSw
    go_simp
    with_reducible rfl
  simp only [Act.put, List.setIfInBounds_toArray, List.set_cons_zero, List.set_cons_succ]
  refine wpAnyH_take (i := 5) (oi := ⟨some 25, _, _, _, _, _⟩) (v := ?_) rfl (by kernel_rfl) (by kernel_rfl) (by kernel_rfl) (fun _ _ _ h => h) (Or.inl ⟨by rfl, ?_⟩) hHeld ?_
  rotate_left
  · intro W hSw
    obtain ⟨f0, f1, f2⟩ := hSw
    go_simp
    with_reducible rfl
  simp only [Act.put, List.setIfInBounds_toArray, List.set_cons_zero, List.set_cons_succ]
  refine wpAnyH_take (i := 6) (oi := ⟨some 26, _, _, _, _, _⟩) (v := ?_) rfl (by kernel_rfl) (by kernel_rfl) (by kernel_rfl) (fun _ _ _ h => h) (Or.inl ⟨by rfl, ?_⟩) hHeld ?_
  rotate_left
  · intro W hSw
    obtain ⟨f0, f1, f2⟩ := hSw
    go_simp
    with_reducible rfl
  simp only [Act.put, List.setIfInBounds_toArray, List.set_cons_zero, List.set_cons_succ]
  refine wpAnyH_take (i := 7) (oi := ⟨some 5, _, _, _, _, _⟩) (v := ?_) rfl (by kernel_rfl) (by kernel_rfl) (by kernel_rfl) (fun _ _ _ h => h) (Or.inl ⟨by rfl, ?_⟩) hHeld ?_
  rotate_left
  · intro W hSw
    obtain ⟨f0, f1, f2⟩ := hSw
    go_simp
    with_reducible rfl
  simp only [Act.put, List.setIfInBounds_toArray, List.set_cons_zero, List.set_cons_succ]
  refine wpAnyH_done (by kernel_rfl) ?_ _
  have hv := HV.out
  subst hv
  rw [← HNe.out] at q2
  go_wp2_with fail
  refine (rename_same x.name w2.drew g).mono ?_
  rintro r' w3 ⟨rfl, rfl⟩
  have H3 : Hid (Dd w g S room (put Fil.name (e.fil.called x.to) (del Fil.name x.name (L.map Ent.fil))) w2.drew) := by
    have hg' : get Fil.name x.name (L.map Ent.fil) = some e.fil := by rw [get_map fil_key, HG.out]; rfl
    rw [← HNe.out, called_same HD2.out.filR hg']
    exact HSn.out.stay HU.out (Only.refl S w2).drew ⟨_, HD2.out.drew⟩
  go_wp2
  go_ret
  have hg' : get Fil.name x.name (L.map Ent.fil) = some e.fil := by rw [get_map fil_key, HG.out]; rfl
  have e1 : doL room (L.map Ent.fil) x = (put Fil.name (e.fil.called x.to) (del Fil.name x.name (L.map Ent.fil)), 0) := by
    unfold doL
    rw [if_neg (by rw [HMb.out]; simp), if_neg (by rw [HK.out]; decide)]
    simp only [hg']
    rw [if_neg (by rw [HK.out]; decide), if_pos HK.out]
  rw [e1]
  exact ⟨rfl, H3.out⟩
set_option maxRecDepth 100000 in
theorem do_sync (x : Ope) (a : Option Addr) (c : Nat) (h : Dk w g S room L mv o used) (hu : used = sizeL (L.map Ent.fil)) (hs : Sm (L.map Ent.fil)) (hr0 : 0 ≤ room) (hr1 : room ≤ 1099511627776) (hB : Bytes w a x.data) (hBS : 0 < x.data.length → ∀ k, (Value.slice a x.data.length c).ownBlock = some k → ¬ S k) (hl9 : x.data.length ≤ 1000000000) (hm : mayBe x = true) (hk : x.kind = 2) (e : Ent) (hg : get Ent.name x.name L = some e) :
    Calls Try.prog 14 #[ptr g, opV x a c] w fun e w' => e = .returned (.int .i64 ((doL room (L.map Ent.fil) x).2 : Nat)) ∧ Dd w g S room (doL room (L.map Ent.fil) x).1 w' := by
  have HNm := Lib.hid (kinds_named x hm)
  obtain ⟨r, hrv⟩ := h.map.shape
  subst hrv
  have HM := Lib.hid (mayBe_any x a c (w.alloc (.cells #[.int .i64 x.kind, .string ⟨x.name.toArray⟩, .string ⟨x.to.toArray⟩, .slice a x.data.length c] 36)))
  have HH := Lib.hid h
  have HU := Lib.hid hu
  have HSm := Lib.hid hs
  have HB := Lib.hid hB
  have HBS := Lib.hid hBS
  have HL9 := Lib.hid hl9
  have hl := h.lt
  clear h hu hs hB hBS hl9
  rw [hm] at HM
  have HMb := Lib.hid hm
  clear hm hr0 hr1
  have HK := Lib.hid hk
  clear hk
  have HG := Lib.hid hg
  clear hg
  go_enter Try.func14, Try.ntmps14
  go_wp2_with fail
  refine HM.out.mono ?_
  rintro e w2 ⟨rfl, hb2⟩
  have hsn : Seen w g S room L (.map r) used x a c w2 := seen x a c HH.out (by simpa using hb2)
  have HSn := Lib.hid hsn
  have q0 : w2.cell? ⟨w.heap.size, 0, none⟩ = some (.int .i64 x.kind) := hsn.row.cell 0
  have q1 : w2.cell? ⟨w.heap.size, 1, none⟩ = some (.string ⟨x.name.toArray⟩) := hsn.row.cell 1
  have q2 : w2.cell? ⟨w.heap.size, 2, none⟩ = some (.string ⟨x.to.toArray⟩) := hsn.row.cell 2
  have q3 : w2.cell? ⟨w.heap.size, 3, none⟩ = some (.slice a x.data.length c) := hsn.row.cell 3
  have ql := hsn.row.lt
  obtain ⟨o2, hd2⟩ := hsn.dk
  have q5 : w2.cell? ⟨g, 2, none⟩ = some (.map r) := hd2.row.cell 2
  have HD2 := Lib.hid hd2
  clear hb2 hsn hd2
  have hlk := look_any HD2.out.drew.map (n := x.name) (by have := HNm.out; simp only [maxLen]; omega)
  rw [look_some HG.out] at hlk
  rw [HK.out] at q0
  generalize hv : (ptr e.blk) = v at *
  have HV := Lib.hid hv
  clear hv
  go_wp2
  refine wp_region_held_drew (S := fun W => W.cell? ⟨g, 2, none⟩ = some (.map r) ∧ W.cell? ⟨w.heap.size, 1, none⟩ = some (.string ⟨x.name.toArray⟩) ∧ (Instr.lookup 62 (.map r) (.string ⟨x.name.toArray⟩) false).run Try.prog W = .ok v W) (by kernel_rfl) ⟨q5, q1, hlk⟩ (fun hHeld => ?_)
  refine wpAnyH_take (i := 0) (oi := ⟨some 20, _, _, _, _, _⟩) (v := ?_) rfl (by kernel_rfl) (by kernel_rfl) (by kernel_rfl) (fun _ _ _ h => h) (Or.inl ⟨by rfl, ?_⟩) hHeld ?_
  rotate_left
  · intro W hSw
    obtain ⟨f0, f1, f2⟩ := hSw
    go_simp
    with_reducible rfl
  simp only [Act.put, List.setIfInBounds_toArray, List.set_cons_zero, List.set_cons_succ]
  refine wpAnyH_take (i := 1) (oi := ⟨some 21, _, _, _, _, _⟩) (v := ?_) rfl (by kernel_rfl) (by kernel_rfl) (by kernel_rfl) (fun _ _ _ h => h) (Or.inl ⟨by rfl, ?_⟩) hHeld ?_
  rotate_left
  · intro W hSw
    obtain ⟨f0, f1, f2⟩ := hSw
    go_simp
    with_reducible rfl
  simp only [Act.put, List.setIfInBounds_toArray, List.set_cons_zero, List.set_cons_succ]
  refine wpAnyH_take (i := 2) (oi := ⟨some 22, _, _, _, _, _⟩) (v := ?_) rfl (by kernel_rfl) (by kernel_rfl) (by kernel_rfl) (fun _ _ _ h => h) (Or.inl ⟨by rfl, ?_⟩) hHeld ?_
  rotate_left
  · intro W hSw
    obtain ⟨f0, f1, f2⟩ := hSw
    go_simp
    with_reducible rfl
  simp only [Act.put, List.setIfInBounds_toArray, List.set_cons_zero, List.set_cons_succ]
  refine wpAnyH_take (i := 3) (oi := ⟨some 23, _, _, _, _, _⟩) (v := ?_) rfl (by kernel_rfl) (by kernel_rfl) (by kernel_rfl) (fun _ _ _ h => h) (Or.inl ⟨by rfl, ?_⟩) hHeld ?_
  rotate_left
  · intro W hSw
    obtain ⟨f0, f1, f2⟩ := hSw
    go_simp
    with_reducible rfl
  simp only [Act.put, List.setIfInBounds_toArray, List.set_cons_zero, List.set_cons_succ]
  refine wpAnyH_take (i := 4) (oi := ⟨some 24, _, _, _, _, _⟩) (v := ?_) rfl (by kernel_rfl) (by kernel_rfl) (by kernel_rfl) (fun _ _ _ h => h) (Or.inl ⟨by rfl, ?_⟩) hHeld ?_
  rotate_left
  · intro W hSw
    obtain ⟨f0, f1, f2⟩ := hSw
    go_simp
    with_reducible rfl
  simp only [Act.put, List.setIfInBounds_toArray, List.set_cons_zero, List.set_cons_succ]
  refine wpAnyH_take (i := 5) (oi := ⟨some 25, _, _, _, _, _⟩) (v := ?_) rfl (by kernel_rfl) (by kernel_rfl) (by kernel_rfl) (fun _ _ _ h => h) (Or.inl ⟨by rfl, ?_⟩) hHeld ?_
  rotate_left
  · intro W hSw
    obtain ⟨f0, f1, f2⟩ := hSw
    go_simp
    with_reducible rfl
  simp only [Act.put, List.setIfInBounds_toArray, List.set_cons_zero, List.set_cons_succ]
  refine wpAnyH_take (i := 6) (oi := ⟨some 26, _, _, _, _, _⟩) (v := ?_) rfl (by kernel_rfl) (by kernel_rfl) (by kernel_rfl) (fun _ _ _ h => h) (Or.inl ⟨by rfl, ?_⟩) hHeld ?_
  rotate_left
  · intro W hSw
    obtain ⟨f0, f1, f2⟩ := hSw
    go_simp
    with_reducible rfl
  simp only [Act.put, List.setIfInBounds_toArray, List.set_cons_zero, List.set_cons_succ]
  refine wpAnyH_take (i := 7) (oi := ⟨some 5, _, _, _, _, _⟩) (v := ?_) rfl (by kernel_rfl) (by kernel_rfl) (by kernel_rfl) (fun _ _ _ h => h) (Or.inl ⟨by rfl, ?_⟩) hHeld ?_
  rotate_left
  · intro W hSw
    obtain ⟨f0, f1, f2⟩ := hSw
    go_simp
    with_reducible rfl
  simp only [Act.put, List.setIfInBounds_toArray, List.set_cons_zero, List.set_cons_succ]
  refine wpAnyH_done (by kernel_rfl) ?_ _
  have hv := HV.out
  subst hv
  go_wp2_with fail
  refine (fsync_any o2 e.blk e.fv e.wv e.vs e.firm e.ws w2.drew (HD2.out.fl e (get_some HG.out).1).drew (HSm.out.at_ (get_some HG.out).1).1 (HSm.out.at_ (get_some HG.out).1).2.1).mono ?_
  rintro r' w3 ⟨rfl, fv3, h3, ho3⟩
  have H3 : Hid (Dd w g S room (put Fil.name e.fil.synced (L.map Ent.fil)) w3) := Dd.under HSn.out.b.drew (sync_tail HD2.out.drew HG.out h3 ho3 HU.out)
  clear h3 ho3
  go_wp2
  go_ret
  have hg' : get Fil.name x.name (L.map Ent.fil) = some e.fil := by rw [get_map fil_key, HG.out]; rfl
  have e1 : doL room (L.map Ent.fil) x = (put Fil.name e.fil.synced (L.map Ent.fil), 0) := by
    unfold doL
    rw [if_neg (by rw [HMb.out]; simp), if_neg (by rw [HK.out]; decide)]
    simp only [hg']
    rw [if_pos HK.out]
  rw [e1]
  exact ⟨rfl, H3.out⟩
end
end Go.Proofs.Ythheolhghhmdlaa
