/- The document's disk: what Do holds. -/
import Derived.Test.YthheolhghhmdlaaDiskY
namespace Go.Proofs.Ythheolhghhmdlaa
open Go.RowKit Dsk

set_option maxRecDepth 100000 in
theorem rnamed_any (n : Nm) (w : World) (hn : n.length ≤ 140737488351232) : Calls Try.prog 35 #[.string ⟨n.toArray⟩] w fun e w' => e = .returned (.bool (named n)) ∧ w' = w := by
  have e1 := arr_size n
  have e2 : named n = (decide (1 ≤ n.length) && decide (n.length ≤ 60)) := by
    unfold named
    by_cases h1 : 1 ≤ n.length <;> by_cases h2 : n.length ≤ 60 <;> simp [h1, h2]
  rw [e2]
  by_cases h1 : 1 ≤ n.length
  · have i1 : (1 : Int) ≤ (n.length : Int) := by omega
    rw [decide_eq_true h1]
    by_cases h2 : n.length ≤ 60
    · have i2 : (n.length : Int) ≤ 60 := by omega
      rw [decide_eq_true h2]
      go_enter Try.func35, Try.ntmps35
      go_wp2
      go_ret
      exact ⟨rfl, rfl⟩
    · have i2 : ¬ (n.length : Int) ≤ 60 := by omega
      rw [decide_eq_false h2]
      go_enter Try.func35, Try.ntmps35
      go_wp2
      go_ret
      exact ⟨rfl, rfl⟩
  · have i1 : ¬ (1 : Int) ≤ (n.length : Int) := by omega
    rw [decide_eq_false h1]
    go_enter Try.func35, Try.ntmps35
    go_wp2
    go_ret
    exact ⟨rfl, rfl⟩
/-- What Do holds: its two arguments, its result. -/
structure DoB (w : World) (room : Int) (ad : Option Addr) (n c : Nat) (x : Ope) (ax : Option Addr) (cx : Nat) (wr : World) : Prop where
  rd : Row wr w.heap.size 27 #[.int .i64 room, .slice ad n c]
  ro : Row wr (w.heap.size + 1) 36 #[.int .i64 x.kind, .string ⟨x.name.toArray⟩, .string ⟨x.to.toArray⟩, .slice ax x.data.length cx]
  rr : Row wr (w.heap.size + 1 + 1) 27 #[.int .i64 0, .slice none 0 0]
  back : Below w.heap.size w wr
  sz : w.heap.size + 3 ≤ wr.heap.size
section
variable {w wr wy : World} {room : Int} {ad : Option Addr} {n c : Nat} {x : Ope} {ax : Option Addr} {cx : Nat}
theorem DoB.under (h : DoB w room ad n c x ax cx wr) (hb : Below wr.heap.size wr wy) : DoB w room ad n c x ax cx wy := by
  have hs := h.sz
  exact ⟨h.rd.under hb (by omega), h.ro.under hb (by omega), h.rr.under hb (by omega), h.back.trans (hb.mono h.back.size), by have := hb.size; omega⟩
theorem DoB.start (w : World) (room : Int) (ad : Option Addr) (n c : Nat) (x : Ope) (ax : Option Addr) (cx : Nat) : DoB w room ad n c x ax cx (((w.alloc (.cells #[.int .i64 room, .slice ad n c] 27)).alloc (.cells #[.int .i64 x.kind, .string ⟨x.name.toArray⟩, .string ⟨x.to.toArray⟩, .slice ax x.data.length cx] 36)).alloc (.cells #[.int .i64 0, .slice none 0 0] 27)) := by
  refine ⟨((Row.fresh w _ _).past _).past _, ?_, ?_, (((Below.refl _ _).alloc (Nat.le_refl _) _).alloc (by simp) _).alloc (by simp; omega) _, by simp⟩
  · have := (Row.fresh (w.alloc (.cells #[.int .i64 room, .slice ad n c] 27)) 36 #[.int .i64 x.kind, .string ⟨x.name.toArray⟩, .string ⟨x.to.toArray⟩, .slice ax x.data.length cx]).past (.cells #[.int .i64 0, .slice none 0 0] 27)
    rw [World.size_alloc] at this
    exact this
  · have := Row.fresh ((w.alloc (.cells #[.int .i64 room, .slice ad n c] 27)).alloc (.cells #[.int .i64 x.kind, .string ⟨x.name.toArray⟩, .string ⟨x.to.toArray⟩, .slice ax x.data.length cx] 36)) 27 #[.int .i64 0, .slice none 0 0]
    rw [World.size_alloc, World.size_alloc] at this
    exact this
/-- The world behind a return. -/
abbrev retW (w wr : World) (room : Int) (a : Option Addr) (m c : Nat) : World := (wr.setCell ⟨w.heap.size + 1 + 1, 0, none⟩ (.int .i64 room)).setCell ⟨w.heap.size + 1 + 1, 1, none⟩ (.slice a m c)
theorem DoB.ret (h : DoB w room ad n c x ax cx wr) {T T' : Nat → Prop} {rs : List Rf} {a : Option Addr} {m c' : Nat} (hm : m = rs.length) (hf : Fs3 wr T' a rs) (hT : ∀ k, T' k → k < wr.heap.size ∧ (T k ∨ w.heap.size + 3 ≤ k)) (hTw : ∀ k, T k → k < w.heap.size) : RDisk w T room rs (dV room a m c') (retW w wr room a m c') := by
  have hb5 : Below w.heap.size w (retW w wr room a m c') := (h.back.setCell (by show w.heap.size ≤ w.heap.size + 1 + 1; omega) _).setCell (by show w.heap.size ≤ w.heap.size + 1 + 1; omega) _
  have hsz : (retW w wr room a m c').heap.size = wr.heap.size := by simp [retW, World.setCell]
  have hk : Kept T' wr (retW w wr room a m c') := ⟨fun k hk => by
    have := hT k hk
    have hne : k ≠ w.heap.size + 1 + 1 := by
      rcases this.2 with q | q
      · have := hTw k q; omega
      · omega
    exact (Below.heap_setCell _ _ _ _ hne).trans (Below.heap_setCell _ _ _ _ hne), by rw [hsz]; exact Nat.le_refl _⟩
  exact ⟨a, c', by rw [hm], (hf.kept hk).mono fun k hk => by
    have := hT k hk
    rcases this.2 with q | q
    · exact .inl q
    · exact .inr ⟨by omega, by rw [hsz]; exact this.1⟩, hb5⟩
/-- What Do tells. -/
def RDo (w : World) (T : Nat → Prop) (room : Int) (fs : List Fil) (er : Nat) (e : Ending) (w' : World) : Prop := ∃ v rs', e = .returned (.tuple #[v, .int .i64 (er : Nat)]) ∧ rs'.map Rf.fil = fs ∧ RDisk w T room rs' v w'
end
/-- What the writes' cells are. -/
theorem WsT.vals {w : World} {T : Nat → Prop} {a : Option Addr} {ws : List By} (h : WsT w T a ws) : ∃ vs : List Value, vs.length = ws.length ∧ (∀ (i : Nat) (v : Value), vs[i]? = some v → ∃ (l : By) (a' : Option Addr) (c' : Nat), ws[i]? = some l ∧ v = .slice a' l.length c' ∧ RdT byV w T a' l) ∧ (ws = [] ∨ ∃ b o, a = some ⟨b, o, none⟩ ∧ ∀ (i : Nat) (v : Value), vs[i]? = some v → w.cell? ⟨b, o + i, none⟩ = some v) := by
  rcases h with rfl | ⟨b, o, rfl, hb, h⟩
  · exact ⟨[], rfl, fun i v hv => by simp at hv, .inl rfl⟩
  · obtain ⟨vs, hl, hv⟩ := exists_list (fun i v => ∃ (l : By) (a' : Option Addr) (c' : Nat), ws[i]? = some l ∧ v = .slice a' l.length c' ∧ RdT byV w T a' l ∧ w.cell? ⟨b, o + i, none⟩ = some v) ws.length (fun i hi => by
      obtain ⟨a', c', h1, h2⟩ := h i _ (List.getElem?_eq_getElem hi)
      exact ⟨_, _, a', c', List.getElem?_eq_getElem hi, rfl, h2, h1⟩)
    refine ⟨vs, hl, fun i v hiv => ?_, .inr ⟨b, o, rfl, fun i v hiv => ?_⟩⟩
    · obtain ⟨l, a', c', q1, q2, q3, _⟩ := hv i v hiv
      exact ⟨l, a', c', q1, q2, q3⟩
    · obtain ⟨l, a', c', _, _, _, q4⟩ := hv i v hiv
      exact q4
theorem run_append_nilV {w : World} (ty : TypeId) (c : Nat) : (Builtin.append_ #[71, 71] ty #[.slice none 0 0, .slice Option.none 0 c]).run Try.prog w = .ok (.slice none 0 0) w := by
  obtain ⟨i, hi, _, _, _⟩ := info_parts infoV
  simp [Builtin.append_, run_underlying Try.underlying71, sizeOf, typeInfo, hi, Builtin.lenOf, Builtin.firstCells]
/-- 'append(nil, ws...)'. -/
theorem run_appendWs {w : World} {T : Nat → Prop} (ty : TypeId) {a : Option Addr} {ws : List By} (c : Nat) (h : WsT w T a ws) (hw : ws.length ≤ 1000000) : ∃ v' w' vs, (Builtin.append_ #[71, 71] ty #[.slice none 0 0, .slice a ws.length c]).run Try.prog w = .ok v' w' ∧ w'.ownsRow w.heap.size 34 1 v' ws.length vs ∧ w.grownBy w' none ∧
    vs.length = ws.length ∧ (∀ (i : Nat) (v : Value), vs[i]? = some v → ∃ (l : By) (a' : Option Addr) (c' : Nat), ws[i]? = some l ∧ v = .slice a' l.length c' ∧ RdT byV w T a' l) := by
  obtain ⟨vs, hl, hv, hc⟩ := h.vals
  obtain ⟨i, hi, hz0, hz1, hz2⟩ := info_parts infoV
  have hone : ∀ u ∈ vs, u.oneCell' = true := fun u hu => by
    obtain ⟨k, hk⟩ := List.mem_iff_getElem?.1 hu
    obtain ⟨_, _, _, _, e, _⟩ := hv k u hk
    rw [e]
    rfl
  have go : ∀ ad : Addr, (∀ j u, vs[j]? = some u → w.cell? (ad.add j) = some u) → ∃ v' w', (Builtin.append_ #[71, 71] ty #[.slice none 0 0, .slice (some ad) ws.length c]).run Try.prog w = .ok v' w' ∧ w'.ownsRow w.heap.size 34 1 v' ws.length vs ∧ w.grownBy w' none := fun ad hs => by
    obtain ⟨v', w', hrun, h2, h3, _, h5⟩ := run_append_own_at (P := Try.prog) w w.heap.size 71 ty 34 i (.slice none 0 0) 1 24 Try.underlying71 hi hz0 hz1 hz2 rfl (by omega) (.slice none 0 0) 0 [] (World.ownsRow_nil _ _ _ _) ad ws.length c vs (by simpa using hl) hs hone (by simp only [maxLen]; omega) (by omega) (Nat.le_refl _)
    exact ⟨v', w', hrun, by simpa using h2, h3⟩
  have hdone : ∀ v' w', (Builtin.append_ #[71, 71] ty #[.slice none 0 0, .slice a ws.length c]).run Try.prog w = .ok v' w' → w'.ownsRow w.heap.size 34 1 v' ws.length vs → w.grownBy w' none → _ := fun v' w' h1 h2 h3 => (⟨v', w', vs, h1, h2, h3, hl, hv⟩ : ∃ v' w' vs, (Builtin.append_ #[71, 71] ty #[.slice none 0 0, .slice a ws.length c]).run Try.prog w = .ok v' w' ∧ w'.ownsRow w.heap.size 34 1 v' ws.length vs ∧ w.grownBy w' none ∧ vs.length = ws.length ∧ (∀ (i : Nat) (v : Value), vs[i]? = some v → ∃ (l : By) (a' : Option Addr) (c' : Nat), ws[i]? = some l ∧ v = .slice a' l.length c' ∧ RdT byV w T a' l))
  rcases hc with rfl | ⟨b, o, rfl, hc⟩
  · have hvs : vs = [] := List.eq_nil_of_length_eq_zero hl
    cases a with
    | none => exact hdone _ _ (run_append_nilV ty c) (by rw [hvs]; exact World.ownsRow_nil _ _ _ _) (World.grownBy.refl w _)
    | some ad =>
      obtain ⟨v', w', h1, h2, h3⟩ := go ad (fun j u hu => by rw [hvs] at hu; simp at hu)
      exact hdone v' w' h1 h2 h3
  · obtain ⟨v', w', h1, h2, h3⟩ := go ⟨b, o, none⟩ (fun j u hu => by
      have ea : (⟨b, o, none⟩ : Addr).add j = ⟨b, o + j, none⟩ := by
        unfold Addr.add
        by_cases q : j = 0 <;> simp [q]
      rw [ea]
      exact hc j u hu)
    exact hdone v' w' h1 h2 h3
/-- A row of slices, read as writes. -/
theorem wsT_of_row {w0 w : World} {K : Nat} {T T' : Nat → Prop} {a : Option Addr} {n c : Nat} {ws : List By} {vs : List Value} (h : w.ownsRow K 34 1 (.slice a n c) ws.length vs) (hl : vs.length = ws.length) (hv : ∀ (i : Nat) (v : Value), vs[i]? = some v → ∃ (l : By) (a' : Option Addr) (c' : Nat), ws[i]? = some l ∧ v = .slice a' l.length c' ∧ RdT byV w0 T a' l) (hk : Kept T w0 w) (hT : ∀ k, T k → T' k) (hK : ∀ k, K ≤ k → k < w.heap.size → T' k) : WsT w T' a ws := by
  rcases h.2 with ⟨hv0, h0⟩ | ⟨g, cap, cur, hv0, h1, h2, _⟩
  · exact .inl (List.eq_nil_of_length_eq_zero h0)
  · injection hv0 with hv0 _ _
    subst hv0
    refine .inr ⟨g, 0, rfl, hK g h1 (Array.getElem?_eq_some_iff.1 h2).1, fun i l hil => ?_⟩
    have hi : i < ws.length := (List.getElem?_eq_some_iff.1 hil).1
    have hvi : vs[i]? = some (vs[i]'(by omega)) := List.getElem?_eq_getElem (by omega)
    obtain ⟨l', a', c', q1, q2, q3⟩ := hv i _ hvi
    rw [hil] at q1
    cases q1
    have hc := World.ownsRow.cells (g := g) h rfl i _ hvi
    have ea : (⟨g, 0, none⟩ : Addr).add i = ⟨g, 0 + i, none⟩ := by
      unfold Addr.add
      by_cases q : i = 0 <;> simp [q]
    rw [ea, q2] at hc
    exact ⟨a', c', hc, (q3.kept hk).mono hT⟩
end Go.Proofs.Ythheolhghhmdlaa
