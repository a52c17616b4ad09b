/- A disk's map of files, in memory; a file laid in it. -/
import Derived.Test.YthheolhghhmdlaaDiskD
import Derived.Test.YthheolhghhmdlaaShelf
import Derived.Maps.OwnSet
import Derived.Maps.OwnOps
import Derived.Maps.RangeWalk
namespace Go.Proofs.Ythheolhghhmdlaa
open Go.RowKit Dsk
open Go.Maps (Keyed)

/-- How an element of the map reads: the block that it points to. -/
def pE : Value → Option (DataW Unit × List MemPlace)
  | .pointer none => some (.nil, [])
  | .pointer (some ⟨b, 0, none⟩) => some (.lit (.int .i64 b), [])
  | _ => none
theorem pE_nil : pE (.pointer none) = some (.nil, []) := rfl
theorem pE_ptr (b : Nat) : pE (ptr b) = some (.lit (.int .i64 b), []) := rfl
def ptrOf (c : Option Nat) : Value := .pointer (c.map fun b => ⟨b, 0, none⟩)
theorem pE_inv (v : Value) (y : DataW Unit × List MemPlace) (h : pE v = some y) : ∃ c, v = ptrOf c := by
  unfold pE at h
  split at h
  · exact ⟨none, rfl⟩
  · rename_i b
    exact ⟨some b, rfl⟩
  · cases h
theorem pE_at {v : Value} {b : Nat} {ps : List MemPlace} (h : pE v = some (.lit (.int .i64 b), ps)) : v = ptr b := by
  obtain ⟨c, rfl⟩ := pE_inv _ _ h
  cases c with
  | none => simp [pE, ptrOf] at h
  | some b' =>
    have h' := (pE_ptr b').symm.trans h
    injection h' with h'
    injection h' with h2 _
    injection h2 with h2
    injection h2 with _ h2
    have : b' = b := by omega
    subst this
    rfl
theorem pE_none {v : Value} {ps : List MemPlace} (h : pE v = some (.nil, ps)) : v = .pointer none := by
  obtain ⟨c, rfl⟩ := pE_inv _ _ h
  cases c with
  | none => rfl
  | some b' =>
    have := (pE_ptr b').symm.trans h
    simp at this

/-- A file of the map. -/
structure Ent where
  name : Nm
  blk : Nat
  fv : Value
  wv : Value
  vs : List Value
  firm : By
  ws : List By
def Ent.fil (e : Ent) : Fil := ⟨e.name, e.firm, e.ws⟩
def Ent.E (e : Ent) : Lit × DataW Unit := (.string e.name, .lit (.int .i64 e.blk))
theorem hE (e : Ent) : e.E.1 = .string e.name := rfl
theorem keyS : Keyed Try.prog 9 := Maps.string_keyed Try.underlying9
theorem key_of {n : Nm} (h : n.length ≤ maxLen) : keyOf Try.prog 9 (.string ⟨n.toArray⟩) = some (.string n) := by
  have := WideMaps.keyOf_string_mk (P := Try.prog) (s := ⟨n.toArray⟩) Try.underlying9 (by show n.toArray.size ≤ maxLen; simpa using h)
  simpa using this
/-- The map's value: these files. -/
def MapV (w : World) (mv : Value) (L : List Ent) : Prop := (mv = .map none ∧ L = []) ∨ ∃ mb, mv = .map (some mb) ∧ w.ownsMap Try.prog 9 pE mb L.length (.map (L.map Ent.E))
def lookV (n : Nm) (L : List Ent) : Value := match get Ent.name n L with
  | some e => ptr e.blk
  | none => .pointer none
theorem MapV.tight {w : World} {mb n : Nat} {L : List Ent} (h : w.ownsMap Try.prog 9 pE mb n (.map (L.map Ent.E))) : w.ownsMap Try.prog 9 pE mb L.length (.map (L.map Ent.E)) := by
  obtain ⟨es, clock, hb, F, hs, hD⟩ := h
  refine ⟨es, clock, hb, F, ?_, hD⟩
  have := congrArg Maps.size hD
  simp only [Maps.size, List.length_map, length_sorted] at this
  rw [this]
  simp
theorem MapV.same {w w' : World} {mv : Value} {L : List Ent} (h : MapV w mv L) (hb : ∀ mb, mv = .map (some mb) → w'.heap[mb]? = w.heap[mb]?) : MapV w' mv L := by
  rcases h with h | ⟨mb, rfl, es, clock, h1, h2⟩
  · exact .inl h
  · exact .inr ⟨mb, rfl, es, clock, (hb mb rfl).trans h1, h2⟩
theorem MapV.lt {w : World} {mv : Value} {L : List Ent} (h : MapV w mv L) {mb : Nat} (e : mv = .map (some mb)) : mb < w.heap.size := by
  rcases h with ⟨h, _⟩ | ⟨m, h, ho⟩
  · rw [h] at e; cases e
  · rw [h] at e; cases e; exact ho.lt
theorem MapV.shape {w : World} {mv : Value} {L : List Ent} (h : MapV w mv L) : ∃ r, mv = .map r := by
  rcases h with ⟨h, _⟩ | ⟨m, h, ho⟩
  · exact ⟨_, h⟩
  · exact ⟨_, h⟩
/-- 'm[n]'. -/
theorem look_any {w : World} {mv : Value} {L : List Ent} (h : MapV w mv L) {n : Nm} (hn : n.length ≤ maxLen) : (Instr.lookup 62 mv (.string ⟨n.toArray⟩) false).run Try.prog w = .ok (lookV n L) w := by
  rcases h with ⟨rfl, rfl⟩ | ⟨mb, rfl, ho⟩
  · rw [Maps.look_nil false keyS Try.underlying62 (Try.zeroValue67 w) (key_of hn)]
    rfl
  · obtain ⟨v, ps, hrun, hv⟩ := ho.lookup keyS Try.underlying62 (Try.zeroValue67 w) pE_nil (key_of hn)
    rw [hrun, at_datum hE] at *
    congr 1
    unfold lookV
    split
    · rename_i e he
      rw [he] at hv
      exact pE_at hv
    · rename_i he
      rw [he] at hv
      exact pE_none hv
theorem look_some {L : List Ent} {n : Nm} {e : Ent} (h : get Ent.name n L = some e) : lookV n L = ptr e.blk := by unfold lookV; rw [h]
theorem look_none {L : List Ent} {n : Nm} (h : get Ent.name n L = none) : lookV n L = .pointer none := by unfold lookV; rw [h]

theorem sClone_any (s : ByteArray) (w : World) (hs : s.size ≤ 1000000000) : Calls Try.prog 53 #[.string s] w fun e w' => e = .returned (.string s) ∧ Below w.heap.size w w' := by
  have HC := Lib.hid (Try.stringslite_Clone s w (by omega))
  clear hs
  go_enter Try.func53, Try.ntmps53
  go_wp2_with fail
  refine HC.out.mono ?_
  rintro e w1 ⟨rfl, hb⟩
  have HB := Lib.hid hb
  clear hb
  go_wp2
  go_ret
  exact ⟨rfl, HB.out⟩

theorem wp_mapUpdate {o : Oper} {a : Act} {w : World} {K : Act → World → Prop} {Q : Exit → Act → World → Prop} {mv xv vv : Value} (t : TypeId) (m x v : Operand) (ho : o.op = Op.mapUpdate t m x v) (w' : World) (hm : a.eval m = mv) (hx : a.eval x = xv) (hv : a.eval v = vv)
    (hrun : (Instr.mapUpdate t mv xv vv).run Try.prog w = .ok () w') (h : K (a.put o.dst undef) w') : Oper.wp Try.prog o a w K Q := by
  unfold Oper.wp
  simp [execOp, ho, hm, hx, hv, hrun, Result.andThen]
  exact h
theorem eql_map_nil (w : World) (r : Option Nat) : (binOp .eql 62 (.map r) (.map none)).run Try.prog w = .ok (.bool r.isNone) w := run_eql_map_nil w _ _ _ r Try.underlying62
/-- Behind 'm[n] = f'. -/
def LaidP (w : World) (g : Nat) (room used : Value) (mv : Value) (L' : List Ent) (w' : World) : Prop :=
  ∃ mb, Row w' g 64 #[room, used, .map (some mb)] ∧ w'.ownsMap Try.prog 9 pE mb L'.length (.map (L'.map Ent.E)) ∧ (mv = .map (some mb) ∨ w.heap.size ≤ mb) ∧ Only (fun k => k = g ∨ mv = .map (some k)) w w'

set_option maxRecDepth 100000 in
theorem lay_some (g mb : Nat) (room used : Int) (L : List Ent) (x : Ent) (w0 : World) (hr : Row w0 g 64 #[.int .i64 room, .int .i64 used, .map (some mb)]) (ho : w0.ownsMap Try.prog 9 pE mb L.length (.map (L.map Ent.E))) (hn : x.name.length ≤ 60) (hL : L.length ≤ 1000000000) :
    Calls Try.prog 44 #[ptr g, .string ⟨x.name.toArray⟩, ptr x.blk] w0 fun e w' => e = .returned (.tuple #[]) ∧ w'.ownsMap Try.prog 9 pE mb (put Ent.name x L).length (.map ((put Ent.name x L).map Ent.E)) ∧ Row w' g 64 #[.int .i64 room, .int .i64 used, .map (some mb)] ∧ Only (fun k => k = g ∨ k = mb) w0 w' := by
  have k2 : w0.cell? ⟨g, 2, none⟩ = some (.map (some mb)) := hr.cell 2
  have hl := hr.lt
  have HNe := Lib.hid (show g ≠ mb by
    rintro rfl
    obtain ⟨es, clock, h1, _⟩ := ho
    rw [show w0.heap[g]? = _ from hr] at h1
    cases h1)
  have HSz := Lib.hid (show (⟨x.name.toArray⟩ : ByteArray).size ≤ 1000000000 by show x.name.toArray.size ≤ _; simp; omega)
  have HNm := Lib.hid (show x.name.length ≤ maxLen by simp only [maxLen]; omega)
  have HLn := Lib.hid hL
  have HR := Lib.hid hr
  have HO := Lib.hid ho
  have hq := eql_map_nil
  clear hr ho hn hL
  go_enter Try.func44, Try.ntmps44
  go_wp2
  refine wp_region_held_drew (S := fun _ => True) (by kernel_rfl) trivial (fun _ => ?_)
  refine wpAnyH_take (i := 0) (oi := ⟨some 15, _, _, _, _, _⟩) (v := ?_) rfl (by kernel_rfl) (by kernel_rfl) (by kernel_rfl) (fun _ _ _ h => h) (Or.inl ⟨by rfl, ?_⟩) trivial ?_
  rotate_left
  · intro W _
    go_simp
    with_reducible rfl
  simp only [Act.put, List.setIfInBounds_toArray, List.set_cons_zero, List.set_cons_succ]
  refine wpAnyH_take (i := 1) (oi := ⟨some 16, _, _, _, _, _⟩) (v := ?_) rfl (by kernel_rfl) (by kernel_rfl) (by kernel_rfl) (fun _ _ _ h => h) (Or.inl ⟨by rfl, ?_⟩) trivial ?_
  rotate_left
  · intro W _
    go_simp
    with_reducible rfl
  simp only [Act.put, List.setIfInBounds_toArray, List.set_cons_zero, List.set_cons_succ]
  refine wpAnyH_take (i := 2) (oi := ⟨some 17, _, _, _, _, _⟩) (v := ?_) rfl (by kernel_rfl) (by kernel_rfl) (by kernel_rfl) (fun _ _ _ h => h) (Or.inl ⟨by rfl, ?_⟩) trivial ?_
  rotate_left
  · intro W _
    go_simp
    with_reducible rfl
  simp only [Act.put, List.setIfInBounds_toArray, List.set_cons_zero, List.set_cons_succ]
  refine wpAnyH_take (i := 4) (oi := ⟨some 19, _, _, _, _, _⟩) (v := ?_) rfl (by kernel_rfl) (by kernel_rfl) (by kernel_rfl) (fun _ _ _ h => h) (Or.inl ⟨by rfl, ?_⟩) trivial ?_
  rotate_left
  · intro W _
    go_simp
    with_reducible rfl
  simp only [Act.put, List.setIfInBounds_toArray, List.set_cons_zero, List.set_cons_succ]
  refine wpAnyH_take (i := 6) (oi := ⟨some 21, _, _, _, _, _⟩) (v := ?_) rfl (by kernel_rfl) (by kernel_rfl) (by kernel_rfl) (fun _ _ _ h => h) (Or.inl ⟨by rfl, ?_⟩) trivial ?_
  rotate_left
  · intro W _
    go_simp
    with_reducible rfl
  simp only [Act.put, List.setIfInBounds_toArray, List.set_cons_zero, List.set_cons_succ]
  refine wpAnyH_ready (rs := [3, 5]) (by kernel_rfl) (by simp) ?_
  refine (AllReadyH.cons (o := ⟨some 18, _, _, _, _, _⟩) rfl (fun K hK => ?_) (AllReadyH.cons (o := ⟨some 20, _, _, _, _, _⟩) rfl (fun K hK => ?_) AllReadyH.nil))
  · skip
    go_simp
    refine hK.out _ _ trivial (fun _ => ?_)
    clear hK K
    refine wpAnyH_ready (rs := [5]) (by kernel_rfl) (by simp) ?_
    refine (AllReadyH.cons (o := ⟨some 20, _, _, _, _, _⟩) rfl (fun K hK => ?_) AllReadyH.nil)
    go_simp
    refine (sClone_any ⟨x.name.toArray⟩ _ HSz.out).mono ?_
    rintro e w1 ⟨rfl, hbb⟩
    have hb1 : Below w0.heap.size w0 w1 := ⟨hbb.os, hbb.tape, hbb.output, hbb.size, hbb.block⟩
    have HB1 := Lib.hid hb1
    have hsz1 := hb1.size
    have k1w : w1.cell? ⟨g, 2, none⟩ = some (.map (some mb)) := (hb1.cell (p := ⟨g, 2, none⟩) hl).trans k2
    clear hbb hb1
    refine hK.out _ _ trivial (fun _ => ?_)
    clear hK K
    refine wpAnyH_ready (rs := [7]) (by kernel_rfl) (by simp) ?_
    refine (AllReadyH.cons (o := ⟨none, _, _, _, _, _⟩) rfl (fun K hK => ?_) AllReadyH.nil)
    rw [if_pos (by rfl)]
    obtain ⟨w2, hrun, ho2, hg2⟩ := (HO.out.kept (row := none) ⟨HB1.out.os, HB1.out.tape, HB1.out.output, HB1.out.size, fun k hk _ => HB1.out.block k hk⟩ (by simp)).update (t := 62) (e := 67) keyS Try.underlying62 (by have := HLn.out; simp only [maxLen]; omega) (key_of HNm.out) (pE_ptr x.blk)
    refine wp_mapUpdate 62 _ _ _ rfl w2 rfl rfl rfl hrun ?_
    refine hK.out _ _ trivial (fun _ => ?_)
    clear hK K
    refine wpAnyH_done (by kernel_rfl) ?_ _
    have hput : (DataW.map (L.map Ent.E)).put (.string x.name) (.lit (.int .i64 x.blk)) = .map ((put Ent.name x L).map Ent.E) := put_datum hE x L
    rw [hput] at ho2
    have ho3 := MapV.tight ho2
    have hr3 : Row w2 g 64 #[.int .i64 room, .int .i64 used, .map (some mb)] := (hg2.block g (by omega) (fun e => HNe.out (by injection e))).trans (HR.out.under HB1.out hl)
    have honly : Only (fun k => k = g ∨ k = mb) w0 w2 := (Only.of_below _ HB1.out).grown hg2 (fun k e => .inl (.inr (by cases e; rfl)))
    have HP := Lib.hid (And.intro ho3 (And.intro hr3 honly))
    clear ho2 ho3 hr3 honly hg2 hrun hput
    go_wp2
    go_end0
    exact ⟨rfl, HP.out⟩
  · skip
    go_simp
    refine (sClone_any ⟨x.name.toArray⟩ _ HSz.out).mono ?_
    rintro e w1 ⟨rfl, hbb⟩
    have hb1 : Below w0.heap.size w0 w1 := ⟨hbb.os, hbb.tape, hbb.output, hbb.size, hbb.block⟩
    have HB1 := Lib.hid hb1
    have hsz1 := hb1.size
    have k1w : w1.cell? ⟨g, 2, none⟩ = some (.map (some mb)) := (hb1.cell (p := ⟨g, 2, none⟩) hl).trans k2
    clear hbb hb1
    refine hK.out _ _ trivial (fun _ => ?_)
    clear hK K
    refine wpAnyH_ready (rs := [3]) (by kernel_rfl) (by simp) ?_
    refine (AllReadyH.cons (o := ⟨some 18, _, _, _, _, _⟩) rfl (fun K hK => ?_) AllReadyH.nil)
    go_simp
    refine hK.out _ _ trivial (fun _ => ?_)
    clear hK K
    refine wpAnyH_ready (rs := [7]) (by kernel_rfl) (by simp) ?_
    refine (AllReadyH.cons (o := ⟨none, _, _, _, _, _⟩) rfl (fun K hK => ?_) AllReadyH.nil)
    rw [if_pos (by rfl)]
    obtain ⟨w2, hrun, ho2, hg2⟩ := (HO.out.kept (row := none) ⟨HB1.out.os, HB1.out.tape, HB1.out.output, HB1.out.size, fun k hk _ => HB1.out.block k hk⟩ (by simp)).update (t := 62) (e := 67) keyS Try.underlying62 (by have := HLn.out; simp only [maxLen]; omega) (key_of HNm.out) (pE_ptr x.blk)
    refine wp_mapUpdate 62 _ _ _ rfl w2 rfl rfl rfl hrun ?_
    refine hK.out _ _ trivial (fun _ => ?_)
    clear hK K
    refine wpAnyH_done (by kernel_rfl) ?_ _
    have hput : (DataW.map (L.map Ent.E)).put (.string x.name) (.lit (.int .i64 x.blk)) = .map ((put Ent.name x L).map Ent.E) := put_datum hE x L
    rw [hput] at ho2
    have ho3 := MapV.tight ho2
    have hr3 : Row w2 g 64 #[.int .i64 room, .int .i64 used, .map (some mb)] := (hg2.block g (by omega) (fun e => HNe.out (by injection e))).trans (HR.out.under HB1.out hl)
    have honly : Only (fun k => k = g ∨ k = mb) w0 w2 := (Only.of_below _ HB1.out).grown hg2 (fun k e => .inl (.inr (by cases e; rfl)))
    have HP := Lib.hid (And.intro ho3 (And.intro hr3 honly))
    clear ho2 ho3 hr3 honly hg2 hrun hput
    go_wp2
    go_end0
    exact ⟨rfl, HP.out⟩
set_option maxRecDepth 100000 in
theorem lay_nil (g : Nat) (room used : Int) (L : List Ent) (x : Ent) (w : World) (hL0 : L = []) (hr : Row w g 64 #[.int .i64 room, .int .i64 used, .map none]) (hn : x.name.length ≤ 60) :
    Calls Try.prog 44 #[ptr g, .string ⟨x.name.toArray⟩, ptr x.blk] w fun e w' => e = .returned (.tuple #[]) ∧ w'.ownsMap Try.prog 9 pE w.heap.size (put Ent.name x L).length (.map ((put Ent.name x L).map Ent.E)) ∧ Row w' g 64 #[.int .i64 room, .int .i64 used, .map (some w.heap.size)] ∧ Only (fun k => k = g) w w' := by
  have k2' : w.cell? ⟨g, 2, none⟩ = some (.map none) := hr.cell 2
  have hl' := hr.lt
  have hf := hr.thaw 2
  have HSz := Lib.hid (show (⟨x.name.toArray⟩ : ByteArray).size ≤ 1000000000 by show x.name.toArray.size ≤ _; simp; omega)
  have HNm := Lib.hid (show x.name.length ≤ maxLen by simp only [maxLen]; omega)
  have HLn := Lib.hid (show L.length ≤ 1000000000 by rw [hL0]; simp)
  have hq := eql_map_nil
  have hmm := @run_makeMap Try.prog
  have HL0 := Lib.hid hL0
  have ho : ((w.setCell ⟨g, 2, none⟩ (.map (some w.heap.size))).alloc (.map #[] 0)).ownsMap Try.prog 9 pE w.heap.size L.length (.map (L.map Ent.E)) := by
    rw [hL0]
    have h := World.ownsMap_made (w.setCell ⟨g, 2, none⟩ (.map (some w.heap.size))) Try.prog 9 pE
    rw [show (w.setCell ⟨g, 2, none⟩ (.map (some w.heap.size))).heap.size = w.heap.size by simp [World.setCell]] at h
    exact h
  have hr2 : Row ((w.setCell ⟨g, 2, none⟩ (.map (some w.heap.size))).alloc (.map #[] 0)) g 64 #[.int .i64 room, .int .i64 used, .map (some w.heap.size)] := (hr.put 2 _).past _
  have hon : Only (fun k => k = g) w ((w.setCell ⟨g, 2, none⟩ (.map (some w.heap.size))).alloc (.map #[] 0)) := ((Only.refl (fun k => k = g) w).setCell (p := ⟨g, 2, none⟩) (.inl rfl) _).alloc _
  have HO := Lib.hid ho
  have HR := Lib.hid hr2
  have HOn := Lib.hid hon
  have HNe := Lib.hid (show g ≠ w.heap.size by omega)
  have k2 : _ = some (Value.map (some w.heap.size)) := hr2.cell 2
  have hl := hr2.lt
  clear hr ho hr2 hon hn hL0
  go_enter Try.func44, Try.ntmps44
  go_wp2
  generalize (w.setCell ⟨g, 2, none⟩ (.map (some w.heap.size))).alloc (.map #[] 0) = w0 at *
  clear k2' hf
  obtain ⟨mb, hmb⟩ : ∃ mb, mb = w.heap.size := ⟨_, rfl⟩
  rw [← hmb] at HO HR HNe k2 ⊢
  have HMb := Lib.hid hmb
  clear hmb
  refine wp_region_held_drew (S := fun _ => True) (by kernel_rfl) trivial (fun _ => ?_)
  refine wpAnyH_take (i := 0) (oi := ⟨some 15, _, _, _, _, _⟩) (v := ?_) rfl (by kernel_rfl) (by kernel_rfl) (by kernel_rfl) (fun _ _ _ h => h) (Or.inl ⟨by rfl, ?_⟩) trivial ?_
  rotate_left
  · intro W _
    go_simp
    with_reducible rfl
  simp only [Act.put, List.setIfInBounds_toArray, List.set_cons_zero, List.set_cons_succ]
  refine wpAnyH_take (i := 1) (oi := ⟨some 16, _, _, _, _, _⟩) (v := ?_) rfl (by kernel_rfl) (by kernel_rfl) (by kernel_rfl) (fun _ _ _ h => h) (Or.inl ⟨by rfl, ?_⟩) trivial ?_
  rotate_left
  · intro W _
    go_simp
    with_reducible rfl
  simp only [Act.put, List.setIfInBounds_toArray, List.set_cons_zero, List.set_cons_succ]
  refine wpAnyH_take (i := 2) (oi := ⟨some 17, _, _, _, _, _⟩) (v := ?_) rfl (by kernel_rfl) (by kernel_rfl) (by kernel_rfl) (fun _ _ _ h => h) (Or.inl ⟨by rfl, ?_⟩) trivial ?_
  rotate_left
  · intro W _
    go_simp
    with_reducible rfl
  simp only [Act.put, List.setIfInBounds_toArray, List.set_cons_zero, List.set_cons_succ]
  refine wpAnyH_take (i := 4) (oi := ⟨some 19, _, _, _, _, _⟩) (v := ?_) rfl (by kernel_rfl) (by kernel_rfl) (by kernel_rfl) (fun _ _ _ h => h) (Or.inl ⟨by rfl, ?_⟩) trivial ?_
  rotate_left
  · intro W _
    go_simp
    with_reducible rfl
  simp only [Act.put, List.setIfInBounds_toArray, List.set_cons_zero, List.set_cons_succ]
  refine wpAnyH_take (i := 6) (oi := ⟨some 21, _, _, _, _, _⟩) (v := ?_) rfl (by kernel_rfl) (by kernel_rfl) (by kernel_rfl) (fun _ _ _ h => h) (Or.inl ⟨by rfl, ?_⟩) trivial ?_
  rotate_left
  · intro W _
    go_simp
    with_reducible rfl
  simp only [Act.put, List.setIfInBounds_toArray, List.set_cons_zero, List.set_cons_succ]
  refine wpAnyH_ready (rs := [3, 5]) (by kernel_rfl) (by simp) ?_
  refine (AllReadyH.cons (o := ⟨some 18, _, _, _, _, _⟩) rfl (fun K hK => ?_) (AllReadyH.cons (o := ⟨some 20, _, _, _, _, _⟩) rfl (fun K hK => ?_) AllReadyH.nil))
  · skip
    go_simp
    refine hK.out _ _ trivial (fun _ => ?_)
    clear hK K
    refine wpAnyH_ready (rs := [5]) (by kernel_rfl) (by simp) ?_
    refine (AllReadyH.cons (o := ⟨some 20, _, _, _, _, _⟩) rfl (fun K hK => ?_) AllReadyH.nil)
    go_simp
    refine (sClone_any ⟨x.name.toArray⟩ _ HSz.out).mono ?_
    rintro e w1 ⟨rfl, hbb⟩
    have hb1 : Below w0.heap.size w0 w1 := ⟨hbb.os, hbb.tape, hbb.output, hbb.size, hbb.block⟩
    have HB1 := Lib.hid hb1
    have hsz1 := hb1.size
    have k1w : w1.cell? ⟨g, 2, none⟩ = some (.map (some mb)) := (hb1.cell (p := ⟨g, 2, none⟩) hl).trans k2
    clear hbb hb1
    refine hK.out _ _ trivial (fun _ => ?_)
    clear hK K
    refine wpAnyH_ready (rs := [7]) (by kernel_rfl) (by simp) ?_
    refine (AllReadyH.cons (o := ⟨none, _, _, _, _, _⟩) rfl (fun K hK => ?_) AllReadyH.nil)
    rw [if_pos (by rfl)]
    obtain ⟨w2, hrun, ho2, hg2⟩ := (HO.out.kept (row := none) ⟨HB1.out.os, HB1.out.tape, HB1.out.output, HB1.out.size, fun k hk _ => HB1.out.block k hk⟩ (by simp)).update (t := 62) (e := 67) keyS Try.underlying62 (by have := HLn.out; simp only [maxLen]; omega) (key_of HNm.out) (pE_ptr x.blk)
    refine wp_mapUpdate 62 _ _ _ rfl w2 rfl rfl rfl hrun ?_
    refine hK.out _ _ trivial (fun _ => ?_)
    clear hK K
    refine wpAnyH_done (by kernel_rfl) ?_ _
    have hput : (DataW.map (L.map Ent.E)).put (.string x.name) (.lit (.int .i64 x.blk)) = .map ((put Ent.name x L).map Ent.E) := put_datum hE x L
    rw [hput] at ho2
    have ho3 := MapV.tight ho2
    have hr3 : Row w2 g 64 #[.int .i64 room, .int .i64 used, .map (some mb)] := (hg2.block g (by omega) (fun e => HNe.out (by injection e))).trans (HR.out.under HB1.out hl)
    have honly : Only (fun k => k = g ∨ k = mb) w0 w2 := (Only.of_below _ HB1.out).grown hg2 (fun k e => .inl (.inr (by cases e; rfl)))
    have HP := Lib.hid (And.intro ho3 (And.intro hr3 honly))
    clear ho2 ho3 hr3 honly hg2 hrun hput
    go_wp2
    go_end0
    have h := HP.out
    rw [HMb.out] at h
    exact ⟨rfl, h.1, h.2.1, HOn.out.trans h.2.2 (fun i hi => hi.elim (fun e => .inl e) (fun e => .inr (by omega)))⟩
  · skip
    go_simp
    refine (sClone_any ⟨x.name.toArray⟩ _ HSz.out).mono ?_
    rintro e w1 ⟨rfl, hbb⟩
    have hb1 : Below w0.heap.size w0 w1 := ⟨hbb.os, hbb.tape, hbb.output, hbb.size, hbb.block⟩
    have HB1 := Lib.hid hb1
    have hsz1 := hb1.size
    have k1w : w1.cell? ⟨g, 2, none⟩ = some (.map (some mb)) := (hb1.cell (p := ⟨g, 2, none⟩) hl).trans k2
    clear hbb hb1
    refine hK.out _ _ trivial (fun _ => ?_)
    clear hK K
    refine wpAnyH_ready (rs := [3]) (by kernel_rfl) (by simp) ?_
    refine (AllReadyH.cons (o := ⟨some 18, _, _, _, _, _⟩) rfl (fun K hK => ?_) AllReadyH.nil)
    go_simp
    refine hK.out _ _ trivial (fun _ => ?_)
    clear hK K
    refine wpAnyH_ready (rs := [7]) (by kernel_rfl) (by simp) ?_
    refine (AllReadyH.cons (o := ⟨none, _, _, _, _, _⟩) rfl (fun K hK => ?_) AllReadyH.nil)
    rw [if_pos (by rfl)]
    obtain ⟨w2, hrun, ho2, hg2⟩ := (HO.out.kept (row := none) ⟨HB1.out.os, HB1.out.tape, HB1.out.output, HB1.out.size, fun k hk _ => HB1.out.block k hk⟩ (by simp)).update (t := 62) (e := 67) keyS Try.underlying62 (by have := HLn.out; simp only [maxLen]; omega) (key_of HNm.out) (pE_ptr x.blk)
    refine wp_mapUpdate 62 _ _ _ rfl w2 rfl rfl rfl hrun ?_
    refine hK.out _ _ trivial (fun _ => ?_)
    clear hK K
    refine wpAnyH_done (by kernel_rfl) ?_ _
    have hput : (DataW.map (L.map Ent.E)).put (.string x.name) (.lit (.int .i64 x.blk)) = .map ((put Ent.name x L).map Ent.E) := put_datum hE x L
    rw [hput] at ho2
    have ho3 := MapV.tight ho2
    have hr3 : Row w2 g 64 #[.int .i64 room, .int .i64 used, .map (some mb)] := (hg2.block g (by omega) (fun e => HNe.out (by injection e))).trans (HR.out.under HB1.out hl)
    have honly : Only (fun k => k = g ∨ k = mb) w0 w2 := (Only.of_below _ HB1.out).grown hg2 (fun k e => .inl (.inr (by cases e; rfl)))
    have HP := Lib.hid (And.intro ho3 (And.intro hr3 honly))
    clear ho2 ho3 hr3 honly hg2 hrun hput
    go_wp2
    go_end0
    have h := HP.out
    rw [HMb.out] at h
    exact ⟨rfl, h.1, h.2.1, HOn.out.trans h.2.2 (fun i hi => hi.elim (fun e => .inl e) (fun e => .inr (by omega)))⟩

theorem lay_any (g : Nat) (room used : Int) (mv : Value) (L : List Ent) (x : Ent) (w : World) (hr : Row w g 64 #[.int .i64 room, .int .i64 used, mv]) (hm : MapV w mv L) (hn : x.name.length ≤ 60) (hL : L.length ≤ 1000000000) :
    Calls Try.prog 44 #[ptr g, .string ⟨x.name.toArray⟩, ptr x.blk] w fun e w' => e = .returned (.tuple #[]) ∧ LaidP w g (.int .i64 room) (.int .i64 used) mv (put Ent.name x L) w' := by
  rcases hm with ⟨rfl, h0⟩ | ⟨mb, rfl, ho⟩
  · refine (lay_nil g room used L x w h0 hr hn).mono ?_
    rintro e w' ⟨rfl, h1, h2, h3⟩
    exact ⟨rfl, w.heap.size, h2, h1, .inr (Nat.le_refl _), h3.mono fun k hk => .inl (.inl hk)⟩
  · refine (lay_some g mb room used L x w hr ho hn hL).mono ?_
    rintro e w' ⟨rfl, h1, h2, h3⟩
    exact ⟨rfl, mb, h2, h1, .inl rfl, h3.mono fun k hk => .inl (hk.imp id fun e => by rw [e])⟩
end Go.Proofs.Ythheolhghhmdlaa
