/- Texts: as bytes; appended to bytes, copied into bytes. Rows of numbers in memory. -/
import Derived.Test.YthheolhghhmdlaaBytes2
import Derived.Test.YthheolhghhmdlaaWords64
import Derived.Deep.AppendSrc
import Derived.Lib.BufferWrite
namespace Go.Proofs.Ythheolhghhmdlaa
open Go.RowKit

theorem str_size (l : List (BitVec 8)) : (str l).size = l.length := by
  show (str l).data.size = _
  simp [str]
theorem str_of (s : ByteArray) : ∃ l, s = str l := by
  refine ⟨s.data.toList.map fun b => BitVec.ofNat 8 b.toNat, ?_⟩
  unfold str
  apply ByteArray.ext
  apply Array.ext'
  simp only [List.map_map]
  rw [show ((fun x : BitVec 8 => UInt8.ofNat x.toNat) ∘ fun b : UInt8 => BitVec.ofNat 8 b.toNat) = id from ?_]
  · simp
  · funext b
    have := b.toNat_lt
    simp
theorem str_cells (l : List (BitVec 8)) : byteCells (str l) = cells l := by
  unfold byteCells str cells
  simp only [List.map_map]
  apply List.map_congr_left
  intro x _
  have := x.isLt
  simp [B]

theorem run_appendS {w : World} (K : Nat) (ty : TypeId) (v : Value) (l m : List (BitVec 8)) (hown : Owns w K v l) (hlen : l.length + m.length ≤ 10000000000) (hK : K ≤ w.heap.size) :
    ∃ v' w', (Builtin.append_ #[34, 9] ty #[v, .string (str m)]).run Try.prog w = .ok v' w' ∧ Owns w' K v' (l ++ m) ∧ w.grownBy w' v.ownBlock ∧ (v'.ownBlock = v.ownBlock ∨ v'.ownBlock = some w.heap.size) := by
  obtain ⟨i, hi, hz0, hz1, hz2⟩ := info_parts info8
  have hsrc := Src.ofString (P := Try.prog) w (tx := 9) Try.underlying9 (str m)
  rw [str_size, str_cells] at hsrc
  have hown0 := hown
  have hbig : l.length + m.length ≤ maxLen := by simp only [maxLen]; omega
  have grown : ∀ (old : Nat), old < l.length + m.length → ∀ (row : Option Nat),
      Owns (w.drew.alloc (.cells ((cells l ++ cells m).toArray ++ Builtin.zeroCells (Value.int .u8 0).cells (grownCap w (l.length + m.length) old 5 - (l.length + m.length))) 5)) K
        (.slice (some ⟨w.heap.size, 0, Option.none⟩) (l.length + m.length) (grownCap w (l.length + m.length) old 5)) (l ++ m) ∧
      w.grownBy (w.drew.alloc (.cells ((cells l ++ cells m).toArray ++ Builtin.zeroCells (Value.int .u8 0).cells (grownCap w (l.length + m.length) old 5 - (l.length + m.length))) 5)) row := by
    intro old ho row
    have hge := grownCap_ge w (l.length + m.length) old 5
    have hcm : grownCap w (l.length + m.length) old 5 ≤ maxLen := grownCap_le_maxLen w (l.length + m.length) old 5 hbig
    refine ⟨⟨by simp [cells_length], .inr ⟨w.heap.size, _, _, by rw [List.length_append], hK, heap_alloc_new w.drew _, by rw [List.length_append]; exact hge, hcm, ?_, ?_⟩⟩, ⟨rfl, rfl, rfl, by simp, fun k hk _ => Below.heap_alloc w.drew _ k hk⟩⟩
    · simp only [Array.size_append, List.size_toArray, size_zeroCells, List.length_append, cells_length]
      have e1 : (Value.int IntKind.u8 0).cells.size = 1 := rfl
      rw [e1]
      omega
    · rw [cells_append]
      simp only [Array.toList_append, List.length_append, Nat.mul_one]
      rw [List.take_left' (by simp [cells_length])]
  rcases hown.2 with ⟨rfl, h0⟩ | ⟨g, cap, cur, rfl, hbg, hg, hnc, hcm, hcs, htake⟩
  · have hx : l = [] := List.eq_nil_of_length_eq_zero h0
    subst hx
    by_cases hm : m.length = 0
    · have hm' : m = [] := List.eq_nil_of_length_eq_zero hm
      subst hm'
      have hr := run_append_room_src (P := Try.prog) w 34 9 ty 5 i Try.underlying34 hi 0 0 0 0 (.string (str [])) 0 [] (by rw [hz1]; exact hsrc) (by omega) (by intro j hj; simp at hj) (by intro j hj; simp at hj)
      refine ⟨.slice Option.none 0 0, w, ?_, by simpa using hown0, World.grownBy.refl w _, .inl rfl⟩
      have hl0 : (Builtin.lenOf (.string (str []))).run Try.prog w = .ok 0 w := hsrc.len w
      have hf0 : (Builtin.firstCells i.size 0 (.string (str []))).run Try.prog w = .ok #[] w := by rw [hz1]; exact hsrc.cells
      simp [Builtin.append_, run_underlying Try.underlying34, run_underlying Try.underlying9, sizeOf, typeInfo, hi, hl0, hf0]
    · have hr := run_append_grow_src (P := Try.prog) w 34 9 ty 5 i (.int .u8 0) Try.underlying34 hi hz0 Option.none 0 0 [] (run_firstCells_none w.drew i.size 0 0 0) (.string (str m)) m.length (cells m) (by rw [hz1]; exact hsrc) (by omega) (by simp only [List.length_nil] at hlen; omega)
        (by rw [hz2, Nat.zero_add, nextslicecap_zero (by omega)]; simp only [List.length_nil] at hlen; omega)
      have hgr := grown 0 (by simp only [List.length_nil]; omega) (Value.ownBlock (.slice Option.none 0 0))
      simp only [List.length_nil, Nat.zero_add, List.nil_append, cells, List.map_nil] at hgr hr ⊢
      exact ⟨_, _, hr, hgr.1, hgr.2, Or.inr rfl⟩
  · by_cases hroom : l.length + m.length ≤ cap
    · have hst := run_storeCells_at Try.prog g (l.length * 1) 5 (cells m) 0 cur w hg (by simp only [cells_length]; omega) (cells_one m)
      have hlenS : (Builtin.lenOf (.string (str m))).run Try.prog w = .ok m.length w := hsrc.len w
      have hcl := hsrc.cells
      simp only [Nat.mul_one, Nat.add_zero] at hst
      have hr : (Builtin.append_ #[34, 9] ty #[.slice (some ⟨g, 0, Option.none⟩) l.length cap, .string (str m)]).run Try.prog w =
          .ok (.slice (some ⟨g, 0, Option.none⟩) (l.length + m.length) cap) (w.setRow g (cur.toList.take l.length ++ cells m ++ cur.toList.drop (l.length + (cells m).length)).toArray) := by
        simp [Builtin.append_, run_underlying Try.underlying34, run_underlying Try.underlying9, sizeOf, typeInfo, hi, hz1, hlenS, hroom, hcl, Addr.add_lit, hst]
      refine ⟨_, _, hr, ⟨by simp [cells_length], .inr ⟨g, cap, _, by rw [List.length_append], hbg, setRow_heap w g cur _ 5 _ hg, by rw [List.length_append]; exact hroom, hcm, ?_, ?_⟩⟩, ⟨rfl, rfl, rfl, by simp, fun k _ hk => setRow_other w g k _ (fun e => hk (by simp [Value.ownBlock, e]))⟩, Or.inl rfl⟩
      · simp only [List.size_toArray, List.length_append, List.length_take, List.length_drop, Array.length_toList, cells_length]
        omega
      · simp only [Nat.mul_one] at htake ⊢
        rw [htake, cells_append]
        simp only [List.length_append]
        exact List.take_left' (by simp [cells_length])
    · have holds : ∀ j u, (cells l)[j]? = some u → w.cell? ((⟨g, 0, Option.none⟩ : Addr).add j) = some u := World.ownsRow.cells (g := g) hown rfl
      have hold := run_firstCells_some (P := Try.prog) w.drew i.size l.length ⟨g, 0, Option.none⟩ l.length cap (cells l) (by rw [hz1]; simp [cells_length]) (by simpa using holds)
      have hr := run_append_grow_src (P := Try.prog) w 34 9 ty 5 i (.int .u8 0) Try.underlying34 hi hz0 (some ⟨g, 0, Option.none⟩) l.length cap (cells l) hold (.string (str m)) m.length (cells m) (by rw [hz1]; exact hsrc) (by omega) (by omega)
        (by rw [hz2]; exact growslice_fits (by omega) (by omega))
      have hgr := grown cap (by omega) (Value.ownBlock (.slice (some ⟨g, 0, Option.none⟩) l.length cap))
      exact ⟨_, _, hr, hgr.1, hgr.2, Or.inr rfl⟩

/-- 'append(v, s...)', v the call's own, s a text. -/
theorem wpList_appendS {w : World} {ops : Array Oper} {rest : List Oper} {o : Oper} {a : Act} {Q : Exit → Act → World → Prop} (hgd : o.guard = Option.none) (s x : Operand)
    (ho : o.op = .call { callee := .builtin .append, args := #[s, x], argTypes := #[34, 9] })
    (K : Nat) (v : Value) (l m : List (BitVec 8)) (hs : a.eval s = v) (hx : a.eval x = .string (str m)) (hown : Owns w K v l) (hlen : l.length + m.length ≤ 10000000000) (hK : K ≤ w.heap.size)
    (h : ∀ v' w', Hid (Owns w' K v' (l ++ m)) → w.grownBy w' v.ownBlock → (v'.ownBlock = v.ownBlock ∨ v'.ownBlock = some w.heap.size) → wpList Try.prog ops Q rest (a.put o.dst v') w') : wpList Try.prog ops Q (o :: rest) a w := by
  obtain ⟨v', w', hrun, h2, h3, h4⟩ := run_appendS K o.type v l m hown hlen hK
  refine wpList_plain hgd fun K' hK' => ?_
  unfold Oper.wp execOp
  simp only [ho, resolve, invoke, builtin, Sem.run_bind, Sem.run_pure, Result.andThen_ok, List.map_toArray, List.map_cons, List.map_nil, hs, hx, hrun]
  exact hK' _ _ (h v' w' h2 h3 h4)

/-- 'copy(room, s)', room a part of a row of the call's own, just as long as the text. -/
theorem wpList_copyS {w : World} {ops : Array Oper} {rest : List Oper} {o : Oper} {a : Act} {Q : Exit → Act → World → Prop} (hgd : o.guard = Option.none) (d s : Operand)
    (ho : o.op = .call { callee := .builtin .copy, args := #[d, s], argTypes := #[34, 9] })
    (g off n cap : Nat) (ap : Option Addr) (l cur : List (BitVec 8)) (hd : a.eval d = .slice ap n cap) (hn : n = l.length) (hap : 0 < l.length → ap = some ⟨g, off, Option.none⟩) (hs : a.eval s = .string (str l))
    (hr : Row w g 5 (cells cur).toArray) (hfit : off + l.length ≤ cur.length)
    (h : ∀ w', Hid (Row w' g 5 (cells (splice cur off l)).toArray) → w.grownBy w' (some g) → wpList Try.prog ops Q rest (a.put o.dst (.int .i64 l.length)) w') : wpList Try.prog ops Q (o :: rest) a w := by
  subst hn
  refine wpList_plain hgd fun K' hK' => ?_
  by_cases h0 : l.length = 0
  · have hl : l = [] := List.eq_nil_of_length_eq_zero h0
    subst hl
    have hrun := Lib.run_copy_empty_string (P := Try.prog) w 34 9 o.type 5 ap 0 cap (str []) Try.underlying34 (by rw [size8]; rfl) (str_size [])
    unfold Oper.wp execOp
    simp only [ho, resolve, invoke, builtin, Sem.run_bind, Sem.run_pure, Result.andThen_ok, List.map_toArray, List.map_cons, List.map_nil, hd, hs, List.length_nil, hrun]
    refine hK' _ _ (h w ?_ (World.grownBy.refl w _))
    show Row w g _ _
    simpa [splice] using hr
  · have hap := hap (by omega)
    subst hap
    have hrun := Lib.run_copy_row_string (P := Try.prog) w 34 9 o.type 5 g off l.length cap (str l) (cells cur).toArray 5 Try.underlying34 size8 hr (by rw [str_size]; omega) (by simp only [str_size, List.size_toArray, cells_length]; omega)
    have e : Lib.byteCells (str l).data.toList = cells l := str_cells l
    rw [e, str_size] at hrun
    unfold Oper.wp execOp
    simp only [ho, resolve, invoke, builtin, Sem.run_bind, Sem.run_pure, Result.andThen_ok, List.map_toArray, List.map_cons, List.map_nil, hd, hs, hrun]
    refine hK' _ _ (h _ ?_ ⟨rfl, rfl, rfl, by simp, fun k _ hk => setRow_other w g k _ (fun e => hk (by rw [e]))⟩)
    have := hr.whole (cells (splice cur off l)).toArray
    have e2 : (cells (splice cur off l)) = (cells cur).toArray.toList.take off ++ cells l ++ (cells cur).toArray.toList.drop (off + l.length) := by
      simp [splice, cells_append, cells_take, cells_drop]
    rw [e2] at this
    show Row _ g _ _
    rw [e2]
    exact this

/-- A slice whose first cell is at a reads as this list, an element a cell. -/
def Reads {α : Type} (f : α → Value) (w : World) (a : Option Addr) (l : List α) : Prop :=
  l = [] ∨ ∃ b o, a = some ⟨b, o, Option.none⟩ ∧ ∀ i x, l[i]? = some x → w.cell? ⟨b, o + i, Option.none⟩ = some (f x)
def num64 (x : BitVec 64) : Value := .int .i64 (I x)
/-- .. as these ints. -/
def Nums (w : World) (a : Option Addr) (l : List (BitVec 64)) : Prop := Reads num64 w a l
section
variable {α : Type} {f : α → Value} {w w' : World} {a : Option Addr} {l : List α}
theorem Reads.at_ (h : Reads f w a l) {i : Nat} (hi : i < l.length) : ∃ b o, a = some ⟨b, o, Option.none⟩ ∧ b < w.heap.size ∧ w.cell? ⟨b, o + i, Option.none⟩ = some (f (l[i]'hi)) := by
  rcases h with rfl | ⟨b, o, rfl, h⟩
  · simp at hi
  · have hc := h i (l[i]'hi) (List.getElem?_eq_getElem hi)
    exact ⟨b, o, rfl, block_lt_of_cell hc, hc⟩
theorem Reads.under (h : Reads f w a l) (hb : Below w.heap.size w w') : Reads f w' a l := by
  rcases h with h | ⟨b, o, rfl, h⟩
  · exact .inl h
  · refine .inr ⟨b, o, rfl, fun i x hx => ?_⟩
    have hc := h i x hx
    have hl : b < w.heap.size := block_lt_of_cell hc
    rw [hb.cell (p := ⟨b, o + i, Option.none⟩) hl]
    exact hc
theorem Reads.nil (w : World) (a : Option Addr) : Reads f w a [] := .inl rfl
end
theorem nums_of {w : World} {x : Addr} {len cap : Nat} {zs : List Int} (hl : len ≤ cap) (hz : zs.length = cap) (hcell : ∀ i, i < zs.length → w.cell? (x.add i) = some (.int .i64 (zs.getD i 0)))
    (hwz : ∀ n ∈ zs, (Lit.int .i64 n).wf = true) : ∃ l, l.length = len ∧ Nums w (some x) l := by
  rcases Nat.eq_zero_or_pos len with h0 | h0
  · exact ⟨[], by rw [h0]; rfl, .inl rfl⟩
  · obtain ⟨b, o, spot⟩ := x
    have hc := hcell 0 (by omega)
    have hspot : spot = Option.none := by simpa [Addr.add] using World.cell?_spot hc
    subst hspot
    refine ⟨(zs.take len).map (fun z => BitVec.ofInt 64 z), by simp; omega, .inr ⟨b, o, rfl, fun i v hv => ?_⟩⟩
    rw [List.getElem?_map] at hv
    have hi : i < len := by
      rcases Nat.lt_or_ge i len with h | h
      · exact h
      · rw [List.getElem?_eq_none (by simp; omega)] at hv
        simp at hv
    have hiz : i < zs.length := by omega
    rw [List.getElem?_take_of_lt hi, List.getElem?_eq_getElem hiz] at hv
    simp only [Option.map_some, Option.some.injEq] at hv
    subst hv
    have hcc := hcell i hiz
    rw [add_plain] at hcc
    rw [hcc]
    have hw := hwz zs[i] (List.getElem_mem hiz)
    obtain ⟨y, hy⟩ := I_of _ hw
    have e2 : zs.getD i 0 = zs[i] := by simp [List.getD, hiz]
    rw [e2, hy]
    unfold num64 I
    rw [BitVec.ofInt_toInt]
end Go.Proofs.Ythheolhghhmdlaa
