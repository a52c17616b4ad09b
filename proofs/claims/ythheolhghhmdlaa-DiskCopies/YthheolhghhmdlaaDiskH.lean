/- A disk: a write. -/
import Derived.Test.YthheolhghhmdlaaDiskG
import Derived.Test.YthheolhghhmdlaaDiskMath2
namespace Go.Proofs.Ythheolhghhmdlaa
open Go.RowKit Dsk
open Go.Maps (Keyed)

theorem fil_key (e : Ent) : (Ent.fil e).name = e.name := rfl
section
variable {w w' : World} {g : Nat} {S : Nat → Prop} {room : Int} {L : List Ent} {mv : Value} {o : Nat → Nat} {used : Nat}
theorem Dk.filR (h : Dk w g S room L mv o used) : Rising Fil.name (L.map Ent.fil) := (Rising.map fil_key).2 h.rise
/-- Behind something done: the disk itself, and what turned. -/
theorem Dd.of {S' : Nat → Prop} {mv' : Value} {o' : Nat → Nat} {L' : List Ent} {fs : List Fil} {u : Nat} (h : Dk w' g S' room L' mv' o' u) (hu : u = sizeL fs) (hL : L'.map Ent.fil = fs) (hS : ∀ k, S' k → S k ∨ w.heap.size ≤ k) (ho : Only S w w') : Dd w g S room fs w' := ⟨S', L', mv', o', hu ▸ h, hL, hS, ho⟩
/-- What a write leaves: of a file that is there. -/
theorem write_tail {w1 w2 : World} {e : Ent} {n : Nm} {l : By} {wv' : Value} {vs' : List Value} (h : Dk w1 g S room L mv o used) (he : get Ent.name n L = some e) (hf : Fl w2 (relab o w1.heap.size e.blk) e.blk e.fv wv' vs' e.firm (e.ws ++ [l])) (ho : Only (fun k => o k = e.blk) w1 w2) (hu : used = sizeL (L.map Ent.fil)) :
    Dk w2 g (more S w1.heap.size w2.heap.size) room (put Ent.name ⟨n, e.blk, e.fv, wv', vs', e.firm, e.ws ++ [l]⟩ L) mv (relab o w1.heap.size e.blk) used ∧ Only S w1 w2 ∧ (put Ent.name ⟨n, e.blk, e.fv, wv', vs', e.firm, e.ws ++ [l]⟩ L).map Ent.fil = put Fil.name ((ofName n (L.map Ent.fil)).more l) (L.map Ent.fil) ∧ used + l.length = sizeL (put Fil.name ((ofName n (L.map Ent.fil)).more l) (L.map Ent.fil)) := by
  obtain ⟨hm, hn⟩ := get_some he
  refine ⟨h.file hm (x := ⟨n, e.blk, e.fv, wv', vs', e.firm, e.ws ++ [l]⟩) hf hn.symm rfl ho, ho.mono fun k hk => ?_, ?_, ?_⟩
  · rcases Nat.lt_or_ge k w1.heap.size with q | q
    · exact .inl (h.sf e hm k q hk)
    · exact .inr q
  · rw [put_map fil_key]
    have hg : get Fil.name n (L.map Ent.fil) = some e.fil := by rw [get_map fil_key, he]; rfl
    rw [ofName_some hg]
    show put Fil.name ⟨n, e.firm, e.ws ++ [l]⟩ _ = put Fil.name ⟨e.name, e.firm, e.ws ++ [l]⟩ _
    rw [hn]
  · rw [size_write h.filR, hu]
end
section
variable {w w' : World} {g : Nat} {S : Nat → Prop} {room : Int} {L : List Ent} {mv : Value} {o : Nat → Nat} {used : Nat}
set_option maxRecDepth 100000 in
theorem write_full (n : Nm) (a : Option Addr) (l : By) (c : Nat) (h : Dk w g S room L mv o used) (hr0 : 0 ≤ room) (hr1 : room ≤ 1099511627776) (hu9 : used ≤ 1000000000) (hf : room < (used : Int) + (l.length : Int)) :
    Calls Try.prog 31 #[ptr g, .string ⟨n.toArray⟩, .slice a l.length c] w fun e w' => e = .returned (.int .i64 11) ∧ w' = w.drew := by
  have k0 : w.cell? ⟨g, 0, none⟩ = some (.int .i64 room) := h.row.cell 0
  have k1 : w.cell? ⟨g, 1, none⟩ = some (.int .i64 used) := h.row.cell 1
  have k2 : w.drew.cell? ⟨g, 2, none⟩ = some mv := h.row.cell 2
  have hl := h.lt
  have hd : (room : Int) - (used : Int) < (l.length : Int) := by omega
  have hw : IntKind.i64.wrap (room - (used : Int)) = room - (used : Int) := by rw [IntKind.wrap_i64]; omega
  have hI : (used : Int) ≤ 1000000000 := by omega
  clear h hf hu9
  go_enter Try.func31, Try.ntmps31
  go_wp2
  refine wp_region_held_drew (S := fun W => W.cell? ⟨g, 0, none⟩ = some (.int .i64 room) ∧ W.cell? ⟨g, 1, none⟩ = some (.int .i64 used)) (by kernel_rfl) ⟨k0, k1⟩ (fun hHeld => ?_)
  refine wpAnyH_take (i := 0) (oi := ⟨some 8, _, _, _, _, _⟩) (v := ?_) rfl (by kernel_rfl) (by kernel_rfl) (by kernel_rfl) (fun _ _ _ h => h) (Or.inl ⟨by rfl, ?_⟩) hHeld ?_
  rotate_left
  · intro W hSw
    obtain ⟨f0, f1⟩ := hSw
    go_simp
    with_reducible rfl
  simp only [Act.put, List.setIfInBounds_toArray, List.set_cons_zero, List.set_cons_succ]
  refine wpAnyH_take (i := 1) (oi := ⟨some 9, _, _, _, _, _⟩) (v := ?_) rfl (by kernel_rfl) (by kernel_rfl) (by kernel_rfl) (fun _ _ _ h => h) (Or.inl ⟨by rfl, ?_⟩) hHeld ?_
  rotate_left
  · intro W hSw
    obtain ⟨f0, f1⟩ := hSw
    go_simp
    with_reducible rfl
  simp only [Act.put, List.setIfInBounds_toArray, List.set_cons_zero, List.set_cons_succ]
  refine wpAnyH_take (i := 2) (oi := ⟨some 10, _, _, _, _, _⟩) (v := ?_) rfl (by kernel_rfl) (by kernel_rfl) (by kernel_rfl) (fun _ _ _ h => h) (Or.inl ⟨by rfl, ?_⟩) hHeld ?_
  rotate_left
  · intro W hSw
    obtain ⟨f0, f1⟩ := hSw
    go_simp
    with_reducible rfl
  simp only [Act.put, List.setIfInBounds_toArray, List.set_cons_zero, List.set_cons_succ]
  refine wpAnyH_take (i := 3) (oi := ⟨some 11, _, _, _, _, _⟩) (v := ?_) rfl (by kernel_rfl) (by kernel_rfl) (by kernel_rfl) (fun _ _ _ h => h) (Or.inl ⟨by rfl, ?_⟩) hHeld ?_
  rotate_left
  · intro W hSw
    obtain ⟨f0, f1⟩ := hSw
    go_simp
    with_reducible rfl
  simp only [Act.put, List.setIfInBounds_toArray, List.set_cons_zero, List.set_cons_succ]
  refine wpAnyH_take (i := 4) (oi := ⟨some 12, _, _, _, _, _⟩) (v := ?_) rfl (by kernel_rfl) (by kernel_rfl) (by kernel_rfl) (fun _ _ _ h => h) (Or.inl ⟨by rfl, ?_⟩) hHeld ?_
  rotate_left
  · intro W hSw
    obtain ⟨f0, f1⟩ := hSw
    go_simp
    with_reducible rfl
  simp only [Act.put, List.setIfInBounds_toArray, List.set_cons_zero, List.set_cons_succ]
  refine wpAnyH_take (i := 5) (oi := ⟨some 13, _, _, _, _, _⟩) (v := ?_) rfl (by kernel_rfl) (by kernel_rfl) (by kernel_rfl) (fun _ _ _ h => h) (Or.inl ⟨by rfl, ?_⟩) hHeld ?_
  rotate_left
  · intro W hSw
    obtain ⟨f0, f1⟩ := hSw
    go_simp
    with_reducible rfl
  simp only [Act.put, List.setIfInBounds_toArray, List.set_cons_zero, List.set_cons_succ]
  refine wpAnyH_take (i := 6) (oi := ⟨some 14, _, _, _, _, _⟩) (v := ?_) rfl (by kernel_rfl) (by kernel_rfl) (by kernel_rfl) (fun _ _ _ h => h) (Or.inl ⟨by rfl, ?_⟩) hHeld ?_
  rotate_left
  · intro W hSw
    obtain ⟨f0, f1⟩ := hSw
    go_simp
    with_reducible rfl
  simp only [Act.put, List.setIfInBounds_toArray, List.set_cons_zero, List.set_cons_succ]
  refine wpAnyH_take (i := 7) (oi := ⟨some 15, _, _, _, _, _⟩) (v := ?_) rfl (by kernel_rfl) (by kernel_rfl) (by kernel_rfl) (fun _ _ _ h => h) (Or.inl ⟨by rfl, ?_⟩) hHeld ?_
  rotate_left
  · intro W hSw
    obtain ⟨f0, f1⟩ := hSw
    go_simp
    with_reducible rfl
  simp only [Act.put, List.setIfInBounds_toArray, List.set_cons_zero, List.set_cons_succ]
  refine wpAnyH_take (i := 8) (oi := ⟨some 16, _, _, _, _, _⟩) (v := ?_) rfl (by kernel_rfl) (by kernel_rfl) (by kernel_rfl) (fun _ _ _ h => h) (Or.inl ⟨by rfl, ?_⟩) hHeld ?_
  rotate_left
  · intro W hSw
    obtain ⟨f0, f1⟩ := hSw
    go_simp
    with_reducible rfl
  simp only [Act.put, List.setIfInBounds_toArray, List.set_cons_zero, List.set_cons_succ]
  refine wpAnyH_take (i := 9) (oi := ⟨some 17, _, _, _, _, _⟩) (v := ?_) rfl (by kernel_rfl) (by kernel_rfl) (by kernel_rfl) (fun _ _ _ h => h) (Or.inl ⟨by rfl, ?_⟩) hHeld ?_
  rotate_left
  · intro W hSw
    obtain ⟨f0, f1⟩ := hSw
    go_simp
    with_reducible rfl
  simp only [Act.put, List.setIfInBounds_toArray, List.set_cons_zero, List.set_cons_succ]
  refine wpAnyH_take (i := 10) (oi := ⟨some 18, _, _, _, _, _⟩) (v := ?_) rfl (by kernel_rfl) (by kernel_rfl) (by kernel_rfl) (fun _ _ _ h => h) (Or.inl ⟨by rfl, ?_⟩) hHeld ?_
  rotate_left
  · intro W hSw
    obtain ⟨f0, f1⟩ := hSw
    go_simp
    with_reducible rfl
  simp only [Act.put, List.setIfInBounds_toArray, List.set_cons_zero, List.set_cons_succ]
  refine wpAnyH_take (i := 11) (oi := ⟨some 19, _, _, _, _, _⟩) (v := ?_) rfl (by kernel_rfl) (by kernel_rfl) (by kernel_rfl) (fun _ _ _ h => h) (Or.inl ⟨by rfl, ?_⟩) hHeld ?_
  rotate_left
  · intro W hSw
    obtain ⟨f0, f1⟩ := hSw
    go_simp
    with_reducible rfl
  simp only [Act.put, List.setIfInBounds_toArray, List.set_cons_zero, List.set_cons_succ]
  refine wpAnyH_done (by kernel_rfl) ?_ _
  go_wp2
  go_ret
  exact ⟨rfl, rfl⟩
set_option maxRecDepth 100000 in
theorem write_old (n : Nm) (a : Option Addr) (l : By) (c : Nat) (h : Dk w g S room L mv o used) (hB : Bytes w a l) (hl9 : l.length ≤ 1000000000) (hr0 : 0 ≤ room) (hr1 : room ≤ 1099511627776) (hu9 : used ≤ 1000000000) (hf : (used : Int) + (l.length : Int) ≤ room) (hn : n.length ≤ 60) (e : Ent) (hg : get Ent.name n L = some e) (hw9 : e.ws.length ≤ 1000000000) (hu : used = sizeL (L.map Ent.fil)) :
    Calls Try.prog 31 #[ptr g, .string ⟨n.toArray⟩, .slice a l.length c] w fun r w' => r = .returned (.int .i64 0) ∧ Dd w g S room (put Fil.name ((ofName n (L.map Ent.fil)).more l) (L.map Ent.fil)) w' := by
  have k0 : w.cell? ⟨g, 0, none⟩ = some (.int .i64 room) := h.row.cell 0
  have k1 : w.cell? ⟨g, 1, none⟩ = some (.int .i64 used) := h.row.cell 1
  have k2 : w.drew.cell? ⟨g, 2, none⟩ = some mv := h.row.cell 2
  have hl := h.lt
  have hd : ¬ (room : Int) - (used : Int) < (l.length : Int) := by omega
  have hw : IntKind.i64.wrap (room - (used : Int)) = room - (used : Int) := by rw [IntKind.wrap_i64]; omega
  have hI : (used : Int) ≤ 1000000000 := by omega
  have hI2 : (l.length : Int) ≤ 1000000000 := by omega
  have hlk := look_any h.drew.map (n := n) (by simp only [maxLen]; omega)
  rw [look_some hg] at hlk
  obtain ⟨r, rfl⟩ := h.map.shape
  have HC := Lib.hid (fwrite_any o e.blk e.fv e.wv e.vs e.firm e.ws a l c w.drew (h.fl e (get_some hg).1).drew hB hl9 hw9)
  have HD := Lib.hid h.drew
  have HG := Lib.hid hg
  have HU := Lib.hid hu
  clear h hf hu9 hB hl9 hn hg hw9 hu
  go_enter Try.func31, Try.ntmps31
  go_wp2
  refine wp_region_held_drew (S := fun W => W.cell? ⟨g, 0, none⟩ = some (.int .i64 room) ∧ W.cell? ⟨g, 1, none⟩ = some (.int .i64 used)) (by kernel_rfl) ⟨k0, k1⟩ (fun hHeld => ?_)
  refine wpAnyH_take (i := 0) (oi := ⟨some 8, _, _, _, _, _⟩) (v := ?_) rfl (by kernel_rfl) (by kernel_rfl) (by kernel_rfl) (fun _ _ _ h => h) (Or.inl ⟨by rfl, ?_⟩) hHeld ?_
  rotate_left
  · intro W hSw
    obtain ⟨f0, f1⟩ := hSw
    go_simp
    with_reducible rfl
  simp only [Act.put, List.setIfInBounds_toArray, List.set_cons_zero, List.set_cons_succ]
  refine wpAnyH_take (i := 1) (oi := ⟨some 9, _, _, _, _, _⟩) (v := ?_) rfl (by kernel_rfl) (by kernel_rfl) (by kernel_rfl) (fun _ _ _ h => h) (Or.inl ⟨by rfl, ?_⟩) hHeld ?_
  rotate_left
  · intro W hSw
    obtain ⟨f0, f1⟩ := hSw
    go_simp
    with_reducible rfl
  simp only [Act.put, List.setIfInBounds_toArray, List.set_cons_zero, List.set_cons_succ]
  refine wpAnyH_take (i := 2) (oi := ⟨some 10, _, _, _, _, _⟩) (v := ?_) rfl (by kernel_rfl) (by kernel_rfl) (by kernel_rfl) (fun _ _ _ h => h) (Or.inl ⟨by rfl, ?_⟩) hHeld ?_
  rotate_left
  · intro W hSw
    obtain ⟨f0, f1⟩ := hSw
    go_simp
    with_reducible rfl
  simp only [Act.put, List.setIfInBounds_toArray, List.set_cons_zero, List.set_cons_succ]
  refine wpAnyH_take (i := 3) (oi := ⟨some 11, _, _, _, _, _⟩) (v := ?_) rfl (by kernel_rfl) (by kernel_rfl) (by kernel_rfl) (fun _ _ _ h => h) (Or.inl ⟨by rfl, ?_⟩) hHeld ?_
  rotate_left
  · intro W hSw
    obtain ⟨f0, f1⟩ := hSw
    go_simp
    with_reducible rfl
  simp only [Act.put, List.setIfInBounds_toArray, List.set_cons_zero, List.set_cons_succ]
  refine wpAnyH_take (i := 4) (oi := ⟨some 12, _, _, _, _, _⟩) (v := ?_) rfl (by kernel_rfl) (by kernel_rfl) (by kernel_rfl) (fun _ _ _ h => h) (Or.inl ⟨by rfl, ?_⟩) hHeld ?_
  rotate_left
  · intro W hSw
    obtain ⟨f0, f1⟩ := hSw
    go_simp
    with_reducible rfl
  simp only [Act.put, List.setIfInBounds_toArray, List.set_cons_zero, List.set_cons_succ]
  refine wpAnyH_take (i := 5) (oi := ⟨some 13, _, _, _, _, _⟩) (v := ?_) rfl (by kernel_rfl) (by kernel_rfl) (by kernel_rfl) (fun _ _ _ h => h) (Or.inl ⟨by rfl, ?_⟩) hHeld ?_
  rotate_left
  · intro W hSw
    obtain ⟨f0, f1⟩ := hSw
    go_simp
    with_reducible rfl
  simp only [Act.put, List.setIfInBounds_toArray, List.set_cons_zero, List.set_cons_succ]
  refine wpAnyH_take (i := 6) (oi := ⟨some 14, _, _, _, _, _⟩) (v := ?_) rfl (by kernel_rfl) (by kernel_rfl) (by kernel_rfl) (fun _ _ _ h => h) (Or.inl ⟨by rfl, ?_⟩) hHeld ?_
  rotate_left
  · intro W hSw
    obtain ⟨f0, f1⟩ := hSw
    go_simp
    with_reducible rfl
  simp only [Act.put, List.setIfInBounds_toArray, List.set_cons_zero, List.set_cons_succ]
  refine wpAnyH_take (i := 7) (oi := ⟨some 15, _, _, _, _, _⟩) (v := ?_) rfl (by kernel_rfl) (by kernel_rfl) (by kernel_rfl) (fun _ _ _ h => h) (Or.inl ⟨by rfl, ?_⟩) hHeld ?_
  rotate_left
  · intro W hSw
    obtain ⟨f0, f1⟩ := hSw
    go_simp
    with_reducible rfl
  simp only [Act.put, List.setIfInBounds_toArray, List.set_cons_zero, List.set_cons_succ]
  refine wpAnyH_take (i := 8) (oi := ⟨some 16, _, _, _, _, _⟩) (v := ?_) rfl (by kernel_rfl) (by kernel_rfl) (by kernel_rfl) (fun _ _ _ h => h) (Or.inl ⟨by rfl, ?_⟩) hHeld ?_
  rotate_left
  · intro W hSw
    obtain ⟨f0, f1⟩ := hSw
    go_simp
    with_reducible rfl
  simp only [Act.put, List.setIfInBounds_toArray, List.set_cons_zero, List.set_cons_succ]
  refine wpAnyH_take (i := 9) (oi := ⟨some 17, _, _, _, _, _⟩) (v := ?_) rfl (by kernel_rfl) (by kernel_rfl) (by kernel_rfl) (fun _ _ _ h => h) (Or.inl ⟨by rfl, ?_⟩) hHeld ?_
  rotate_left
  · intro W hSw
    obtain ⟨f0, f1⟩ := hSw
    go_simp
    with_reducible rfl
  simp only [Act.put, List.setIfInBounds_toArray, List.set_cons_zero, List.set_cons_succ]
  refine wpAnyH_take (i := 10) (oi := ⟨some 18, _, _, _, _, _⟩) (v := ?_) rfl (by kernel_rfl) (by kernel_rfl) (by kernel_rfl) (fun _ _ _ h => h) (Or.inl ⟨by rfl, ?_⟩) hHeld ?_
  rotate_left
  · intro W hSw
    obtain ⟨f0, f1⟩ := hSw
    go_simp
    with_reducible rfl
  simp only [Act.put, List.setIfInBounds_toArray, List.set_cons_zero, List.set_cons_succ]
  refine wpAnyH_take (i := 11) (oi := ⟨some 19, _, _, _, _, _⟩) (v := ?_) rfl (by kernel_rfl) (by kernel_rfl) (by kernel_rfl) (fun _ _ _ h => h) (Or.inl ⟨by rfl, ?_⟩) hHeld ?_
  rotate_left
  · intro W hSw
    obtain ⟨f0, f1⟩ := hSw
    go_simp
    with_reducible rfl
  simp only [Act.put, List.setIfInBounds_toArray, List.set_cons_zero, List.set_cons_succ]
  refine wpAnyH_done (by kernel_rfl) ?_ _
  go_wp2_with fail
  refine HC.out.mono ?_
  rintro r' w1 ⟨rfl, wv', vs', hf1, ho1⟩
  have ht := write_tail HD.out HG.out hf1 ho1 HU.out
  have HT := Lib.hid ht
  have j1 : w1.cell? ⟨g, 1, none⟩ = some (.int .i64 used) := ht.1.row.cell 1
  have jf := ht.1.row.thaw 1
  have jl := ht.1.lt
  clear ht hf1 ho1
  go_wp2
  go_ret
  refine ⟨rfl, ?_⟩
  have ht := HT.out
  have hc := ht.1.count (used + l.length)
  rw [show (((used + l.length : Nat)) : Int) = (used : Int) + (l.length : Int) by omega] at hc
  refine Dd.of hc ht.2.2.2 ht.2.2.1 (fun k hk => more_new hk) ?_
  exact ((Only.refl S w).drew.trans (S' := S) ht.2.1 (fun i hi => .inl hi)).setCell (p := ⟨g, 1, none⟩) (.inl HD.out.sg) _
theorem Beside.drew {x : Ent} (h : Beside w L o g x) : Beside w.drew L o g x := ⟨h.fl.drew, h.ne, h.neg, h.nm⟩
theorem Bytes.only {a : Option Addr} {l : By} {c : Nat} (h : Bytes w a l) (hS : 0 < l.length → ∀ k, (Value.slice a l.length c).ownBlock = some k → ¬ S k) (ho : Only S w w') : Bytes w' a l := by
  rcases h with h | ⟨b, off, rfl, h⟩
  · exact .inl h
  · refine .inr ⟨b, off, rfl, fun i x hx => ?_⟩
    have hc := h i x hx
    have hb : b < w.heap.size := block_lt_of_cell hc
    rw [World.cell?_of_block (a := ⟨b, off + i, none⟩) (ho.block b hb (hS (by have := (List.getElem?_eq_some_iff.1 hx).1; omega) b rfl))]
    exact hc
theorem new_size {n : Nm} {L : List Ent} (hg : get Ent.name n L = none) : sizeL (put Fil.name ⟨n, [], []⟩ (L.map Ent.fil)) = sizeL (L.map Ent.fil) := by
  have hg' : get Fil.name n (L.map Ent.fil) = none := by rw [get_map fil_key, hg]; rfl
  rw [sizeL_put]
  show _ + sizeL (del Fil.name n _) = _
  rw [del_none hg']
  simp [Fil.all]
theorem new_more {n : Nm} {L : List Ent} {l : By} (hg : get Ent.name n L = none) : put Fil.name ((ofName n (put Fil.name ⟨n, [], []⟩ (L.map Ent.fil))).more l) (put Fil.name ⟨n, [], []⟩ (L.map Ent.fil)) = put Fil.name ((ofName n (L.map Ent.fil)).more l) (L.map Ent.fil) := by
  have hg' : get Fil.name n (L.map Ent.fil) = none := by rw [get_map fil_key, hg]; rfl
  have e : ofName n (put Fil.name ⟨n, [], []⟩ (L.map Ent.fil)) = ⟨n, [], []⟩ := by
    refine ofName_some ?_
    rw [put, show (Fil.mk n [] []).name = n from rfl, del_none hg']
    exact get_ins_same (key := Fil.name) (x := ⟨n, [], []⟩) hg'
  rw [e, ofName_none hg']
  exact put_put (key := Fil.name) (x := Fil.more ⟨n, [], []⟩ l) (y := ⟨n, [], []⟩) rfl _
/-- A file of nothing, beside. -/
theorem new_file {n : Nm} (h : Dk w g S room L mv o used) (hn : n.length ≤ 60) :
    Dk (w.alloc (.cells #[.slice none 0 0, .slice none 0 0] 86)) g S room L mv (relab o w.heap.size w.heap.size) used ∧ Beside (w.alloc (.cells #[.slice none 0 0, .slice none 0 0] 86)) L (relab o w.heap.size w.heap.size) g ⟨n, w.heap.size, .slice none 0 0, .slice none 0 0, [], [], []⟩ := by
  have hlt : ∀ e ∈ L, e.blk ≠ w.heap.size := fun e he => by have := (h.fl e he).lt; omega
  refine ⟨h.onlyTo (S' := fun _ => False) ((Only.refl _ w).alloc _) (fun _ _ q => q) _ hlt (by simp), ⟨⟨Row.fresh w _ _, Owns.none _ _, World.ownsRow_nil _ _ _ _, ⟨rfl, fun i v l hv => (by simp at hv)⟩, relab_new (Nat.le_refl _), fun k hk => (by cases hk), fun k hk => (by cases hk), fun v hv => (by simp at hv)⟩, fun e he q => absurd q (hlt e he), ?_, hn⟩⟩
  have := h.lt
  show w.heap.size ≠ g
  omega
set_option maxRecDepth 100000 in
theorem write_new (n : Nm) (a : Option Addr) (l : By) (c : Nat) (h : Dk w g S room L mv o used) (hB : Bytes w a l) (hBS : 0 < l.length → ∀ k, (Value.slice a l.length c).ownBlock = some k → ¬ S k) (hl9 : l.length ≤ 1000000000) (hr0 : 0 ≤ room) (hr1 : room ≤ 1099511627776) (hu9 : used ≤ 1000000000) (hf : (used : Int) + (l.length : Int) ≤ room) (hn : n.length ≤ 60) (hg : get Ent.name n L = none) (hL9 : L.length ≤ 1000000000) (hu : used = sizeL (L.map Ent.fil)) :
    Calls Try.prog 31 #[ptr g, .string ⟨n.toArray⟩, .slice a l.length c] w fun r w' => r = .returned (.int .i64 0) ∧ Dd w g S room (put Fil.name ((ofName n (L.map Ent.fil)).more l) (L.map Ent.fil)) w' := by
  have k0 : w.cell? ⟨g, 0, none⟩ = some (.int .i64 room) := h.row.cell 0
  have k1 : w.cell? ⟨g, 1, none⟩ = some (.int .i64 used) := h.row.cell 1
  have k2 : w.drew.cell? ⟨g, 2, none⟩ = some mv := h.row.cell 2
  have hl := h.lt
  have hd : ¬ (room : Int) - (used : Int) < (l.length : Int) := by omega
  have hw : IntKind.i64.wrap (room - (used : Int)) = room - (used : Int) := by rw [IntKind.wrap_i64]; omega
  have hI : (used : Int) ≤ 1000000000 := by omega
  have hI2 : (l.length : Int) ≤ 1000000000 := by omega
  have hlk := look_any h.drew.map (n := n) (by simp only [maxLen]; omega)
  rw [look_none hg] at hlk
  obtain ⟨r, rfl⟩ := h.map.shape
  have HNew := Lib.hid (And.intro (new_file h hn).1.drew (new_file h hn).2.drew)
  have HL9 := Lib.hid hL9
  have HN := Lib.hid hn
  have HB := Lib.hid hB
  have HL := Lib.hid hl9
  have HU := Lib.hid hu
  have HG := Lib.hid hg
  have HSg := Lib.hid h.sg
  have HSo := Lib.hid h.ob
  have HBS := Lib.hid hBS
  clear h hf hu9 hB hBS hl9 hn hg hL9 hu
  go_enter Try.func31, Try.ntmps31
  go_wp2
  refine wp_region_held_drew (S := fun W => W.cell? ⟨g, 0, none⟩ = some (.int .i64 room) ∧ W.cell? ⟨g, 1, none⟩ = some (.int .i64 used)) (by kernel_rfl) ⟨k0, k1⟩ (fun hHeld => ?_)
  refine wpAnyH_take (i := 0) (oi := ⟨some 8, _, _, _, _, _⟩) (v := ?_) rfl (by kernel_rfl) (by kernel_rfl) (by kernel_rfl) (fun _ _ _ h => h) (Or.inl ⟨by rfl, ?_⟩) hHeld ?_
  rotate_left
  · intro W hSw
    obtain ⟨f0, f1⟩ := hSw
    go_simp
    with_reducible rfl
  simp only [Act.put, List.setIfInBounds_toArray, List.set_cons_zero, List.set_cons_succ]
  refine wpAnyH_take (i := 1) (oi := ⟨some 9, _, _, _, _, _⟩) (v := ?_) rfl (by kernel_rfl) (by kernel_rfl) (by kernel_rfl) (fun _ _ _ h => h) (Or.inl ⟨by rfl, ?_⟩) hHeld ?_
  rotate_left
  · intro W hSw
    obtain ⟨f0, f1⟩ := hSw
    go_simp
    with_reducible rfl
  simp only [Act.put, List.setIfInBounds_toArray, List.set_cons_zero, List.set_cons_succ]
  refine wpAnyH_take (i := 2) (oi := ⟨some 10, _, _, _, _, _⟩) (v := ?_) rfl (by kernel_rfl) (by kernel_rfl) (by kernel_rfl) (fun _ _ _ h => h) (Or.inl ⟨by rfl, ?_⟩) hHeld ?_
  rotate_left
  · intro W hSw
    obtain ⟨f0, f1⟩ := hSw
    go_simp
    with_reducible rfl
  simp only [Act.put, List.setIfInBounds_toArray, List.set_cons_zero, List.set_cons_succ]
  refine wpAnyH_take (i := 3) (oi := ⟨some 11, _, _, _, _, _⟩) (v := ?_) rfl (by kernel_rfl) (by kernel_rfl) (by kernel_rfl) (fun _ _ _ h => h) (Or.inl ⟨by rfl, ?_⟩) hHeld ?_
  rotate_left
  · intro W hSw
    obtain ⟨f0, f1⟩ := hSw
    go_simp
    with_reducible rfl
  simp only [Act.put, List.setIfInBounds_toArray, List.set_cons_zero, List.set_cons_succ]
  refine wpAnyH_take (i := 4) (oi := ⟨some 12, _, _, _, _, _⟩) (v := ?_) rfl (by kernel_rfl) (by kernel_rfl) (by kernel_rfl) (fun _ _ _ h => h) (Or.inl ⟨by rfl, ?_⟩) hHeld ?_
  rotate_left
  · intro W hSw
    obtain ⟨f0, f1⟩ := hSw
    go_simp
    with_reducible rfl
  simp only [Act.put, List.setIfInBounds_toArray, List.set_cons_zero, List.set_cons_succ]
  refine wpAnyH_take (i := 5) (oi := ⟨some 13, _, _, _, _, _⟩) (v := ?_) rfl (by kernel_rfl) (by kernel_rfl) (by kernel_rfl) (fun _ _ _ h => h) (Or.inl ⟨by rfl, ?_⟩) hHeld ?_
  rotate_left
  · intro W hSw
    obtain ⟨f0, f1⟩ := hSw
    go_simp
    with_reducible rfl
  simp only [Act.put, List.setIfInBounds_toArray, List.set_cons_zero, List.set_cons_succ]
  refine wpAnyH_take (i := 6) (oi := ⟨some 14, _, _, _, _, _⟩) (v := ?_) rfl (by kernel_rfl) (by kernel_rfl) (by kernel_rfl) (fun _ _ _ h => h) (Or.inl ⟨by rfl, ?_⟩) hHeld ?_
  rotate_left
  · intro W hSw
    obtain ⟨f0, f1⟩ := hSw
    go_simp
    with_reducible rfl
  simp only [Act.put, List.setIfInBounds_toArray, List.set_cons_zero, List.set_cons_succ]
  refine wpAnyH_take (i := 7) (oi := ⟨some 15, _, _, _, _, _⟩) (v := ?_) rfl (by kernel_rfl) (by kernel_rfl) (by kernel_rfl) (fun _ _ _ h => h) (Or.inl ⟨by rfl, ?_⟩) hHeld ?_
  rotate_left
  · intro W hSw
    obtain ⟨f0, f1⟩ := hSw
    go_simp
    with_reducible rfl
  simp only [Act.put, List.setIfInBounds_toArray, List.set_cons_zero, List.set_cons_succ]
  refine wpAnyH_take (i := 8) (oi := ⟨some 16, _, _, _, _, _⟩) (v := ?_) rfl (by kernel_rfl) (by kernel_rfl) (by kernel_rfl) (fun _ _ _ h => h) (Or.inl ⟨by rfl, ?_⟩) hHeld ?_
  rotate_left
  · intro W hSw
    obtain ⟨f0, f1⟩ := hSw
    go_simp
    with_reducible rfl
  simp only [Act.put, List.setIfInBounds_toArray, List.set_cons_zero, List.set_cons_succ]
  refine wpAnyH_take (i := 9) (oi := ⟨some 17, _, _, _, _, _⟩) (v := ?_) rfl (by kernel_rfl) (by kernel_rfl) (by kernel_rfl) (fun _ _ _ h => h) (Or.inl ⟨by rfl, ?_⟩) hHeld ?_
  rotate_left
  · intro W hSw
    obtain ⟨f0, f1⟩ := hSw
    go_simp
    with_reducible rfl
  simp only [Act.put, List.setIfInBounds_toArray, List.set_cons_zero, List.set_cons_succ]
  refine wpAnyH_take (i := 10) (oi := ⟨some 18, _, _, _, _, _⟩) (v := ?_) rfl (by kernel_rfl) (by kernel_rfl) (by kernel_rfl) (fun _ _ _ h => h) (Or.inl ⟨by rfl, ?_⟩) hHeld ?_
  rotate_left
  · intro W hSw
    obtain ⟨f0, f1⟩ := hSw
    go_simp
    with_reducible rfl
  simp only [Act.put, List.setIfInBounds_toArray, List.set_cons_zero, List.set_cons_succ]
  refine wpAnyH_take (i := 11) (oi := ⟨some 19, _, _, _, _, _⟩) (v := ?_) rfl (by kernel_rfl) (by kernel_rfl) (by kernel_rfl) (fun _ _ _ h => h) (Or.inl ⟨by rfl, ?_⟩) hHeld ?_
  rotate_left
  · intro W hSw
    obtain ⟨f0, f1⟩ := hSw
    go_simp
    with_reducible rfl
  simp only [Act.put, List.setIfInBounds_toArray, List.set_cons_zero, List.set_cons_succ]
  refine wpAnyH_done (by kernel_rfl) ?_ _
  go_wp2_with fail
  refine (lay_any g room used (.map r) L ⟨n, w.heap.size, .slice none 0 0, .slice none 0 0, [], [], []⟩ _ HNew.out.1.row HNew.out.1.map HN.out HL9.out).mono ?_
  rintro r' w2 ⟨rfl, hlaid⟩
  obtain ⟨mv', hd2, ho2⟩ := HNew.out.1.laid HNew.out.2 hlaid
  have hx2 : (⟨n, w.heap.size, .slice none 0 0, .slice none 0 0, [], [], []⟩ : Ent) ∈ put Ent.name ⟨n, w.heap.size, .slice none 0 0, .slice none 0 0, [], [], []⟩ L := mem_put.2 (.inl rfl)
  have hon2 : Only S w w2 := ((Only.refl S w).alloc _).drew.trans (S' := S) ho2 (fun i hi => .inl hi)
  have HC := Lib.hid (fwrite_any _ _ _ _ _ _ _ a l c w2 (hd2.fl _ hx2) (HB.out.only HBS.out hon2) HL.out (by simp))
  have HD2 := Lib.hid hd2
  have HO2 := Lib.hid hon2
  have hs2 : w.heap.size ≤ w2.heap.size := hon2.size
  clear hlaid hd2 ho2 hon2
  go_wp2_with fail
  refine HC.out.mono ?_
  rintro r' w1 ⟨rfl, wv', vs', hf1, ho1⟩
  have ht := write_tail HD2.out (get_of_mem HD2.out.rise hx2) hf1 ho1 (by rw [put_map fil_key, HU.out]; exact (new_size HG.out).symm)
  have e9 : put Fil.name ((ofName n ((put Ent.name ⟨n, w.heap.size, .slice none 0 0, .slice none 0 0, [], [], []⟩ L).map Ent.fil)).more l) ((put Ent.name ⟨n, w.heap.size, .slice none 0 0, .slice none 0 0, [], [], []⟩ L).map Ent.fil) = put Fil.name ((ofName n (L.map Ent.fil)).more l) (L.map Ent.fil) := by
    rw [put_map fil_key]
    exact new_more HG.out
  have HE9 := Lib.hid e9
  clear e9
  have HT := Lib.hid ht
  have j1 : w1.cell? ⟨g, 1, none⟩ = some (.int .i64 used) := ht.1.row.cell 1
  have jf := ht.1.row.thaw 1
  have jl := ht.1.lt
  clear ht hf1 ho1
  go_wp2
  go_ret
  refine ⟨rfl, ?_⟩
  have ht := HT.out
  have hc := ht.1.count (used + l.length)
  rw [show (((used + l.length : Nat)) : Int) = (used : Int) + (l.length : Int) by omega] at hc
  refine Dd.of hc (ht.2.2.2.trans (congrArg sizeL HE9.out)) (ht.2.2.1.trans HE9.out) (fun k hk => ?_) ?_
  · rcases hk with hk | hk
    · rcases hk.2 with q | q | q
      · exact .inl q
      · rcases Nat.lt_or_ge k w.heap.size with q' | q'
        · have e := q.2
          rw [relab_old q'] at e
          exact absurd e (by have := HSo.out k q'; omega)
        · exact .inr q'
      · exact .inr (by simp at q; omega)
    · exact .inr (by have := hk.1; omega)
  · refine (HO2.out.trans ht.2.1 (fun i hi => ?_)).setCell (p := ⟨g, 1, none⟩) (.inl HSg.out) _
    rcases hi.2 with q | q | q
    · exact .inl q
    · rcases Nat.lt_or_ge i w.heap.size with q' | q'
      · have e := q.2
        rw [relab_old q'] at e
        exact absurd e (by have := HSo.out i q'; omega)
      · exact .inr q'
    · exact .inr (by simp at q; omega)
end
end Go.Proofs.Ythheolhghhmdlaa
