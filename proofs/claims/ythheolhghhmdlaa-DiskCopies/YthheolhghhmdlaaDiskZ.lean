/- Noughts appended: 'append(v, make([]byte, n)...)'. What a crash leaves, without memory. -/
import Derived.Test.YthheolhghhmdlaaDiskM
namespace Go.Proofs.Ythheolhghhmdlaa
open Go.RowKit Dsk

theorem zeros_cells (n : Nat) : Builtin.zeroCells (Value.int .u8 0).cells n = (cells (List.replicate n (0 : BitVec 8))).toArray := by
  apply Array.ext'
  simp [Builtin.zeroCells, cells, Value.cells, B]
  apply List.ext_getElem
  · simp
  · intro i h1 h2
    simp [Nat.mod_one]
set_option maxRecDepth 100000 in
theorem run_appendZ {w : World} (ty : TypeId) (v : Value) (l : By) (n : Nat) (hown : Owns w 0 v l) (hlen : l.length + n ≤ 10000000000) :
    ∃ v' w', (Builtin.append_ #[34, 3] ty #[v, .int .i64 n]).run Try.prog w = .ok v' w' ∧ Owns w' 0 v' (l ++ List.replicate n 0) ∧ w.grownBy w' v.ownBlock ∧ (v'.ownBlock = v.ownBlock ∨ v'.ownBlock = some w.heap.size) := by
  obtain ⟨i, hi, hz0, hz1, hz2⟩ := info_parts info8
  obtain ⟨m, hm⟩ : ∃ m : By, m = List.replicate n 0 := ⟨_, rfl⟩
  have hml : m.length = n := by rw [hm]; simp
  rw [← hm]
  have hzc : Builtin.zeroCells (Value.int .u8 0).cells n = (cells m).toArray := by rw [hm]; exact zeros_cells n
  have hwr : IntKind.i64.wrap (n : Int) = (n : Int) := by rw [IntKind.wrap_i64]; omega
  have hneg : ¬ ((n : Int) < 0) := by omega
  have hA : ∀ w' : World, (asInt (.int .i64 (n : Int))).run Try.prog w' = .ok (n : Int) w' := fun _ => rfl
  have hA0 : ∀ w' : World, (asInt (.int .i64 0)).run Try.prog w' = .ok 0 w' := fun _ => rfl
  have hw0 : IntKind.i64.wrap 0 = 0 := by decide
  have hby : ¬ ((281474976710656 : Int) < (n : Int)) := by omega
  have hbig : l.length + m.length ≤ maxLen := by simp only [maxLen]; omega
  have grown : ∀ (old : Nat), old < l.length + m.length → ∀ (row : Option Nat),
      Owns (w.drew.alloc (.cells ((cells l ++ cells m).toArray ++ Builtin.zeroCells (Value.int .u8 0).cells (grownCap w (l.length + m.length) old 5 - (l.length + m.length))) 5)) 0
        (.slice (some ⟨w.heap.size, 0, Option.none⟩) (l.length + m.length) (grownCap w (l.length + m.length) old 5)) (l ++ m) ∧
      w.grownBy (w.drew.alloc (.cells ((cells l ++ cells m).toArray ++ Builtin.zeroCells (Value.int .u8 0).cells (grownCap w (l.length + m.length) old 5 - (l.length + m.length))) 5)) row := by
    intro old ho row
    have hge := grownCap_ge w (l.length + m.length) old 5
    have hcm : grownCap w (l.length + m.length) old 5 ≤ maxLen := grownCap_le_maxLen w (l.length + m.length) old 5 hbig
    refine ⟨⟨by simp [cells_length], .inr ⟨w.heap.size, _, _, by rw [List.length_append], Nat.zero_le _, heap_alloc_new w.drew _, by rw [List.length_append]; exact hge, hcm, ?_, ?_⟩⟩, ⟨rfl, rfl, rfl, by simp, fun k hk _ => Below.heap_alloc w.drew _ k hk⟩⟩
    · simp only [Array.size_append, List.size_toArray, size_zeroCells, List.length_append, cells_length]
      have e1 : (Value.int IntKind.u8 0).cells.size = 1 := rfl
      rw [e1]
      omega
    · rw [cells_append]
      simp only [Array.toList_append, List.length_append, Nat.mul_one]
      rw [List.take_left' (by simp [cells_length])]
  by_cases hn0 : n = 0
  · subst hn0
    have hm0 : m = [] := List.eq_nil_of_length_eq_zero hml
    subst hm0
    refine ⟨v, w, ?_, by simpa using hown, World.grownBy.refl w _, .inl rfl⟩
    rcases hown.2 with ⟨rfl, h0⟩ | ⟨g, cap, cur, rfl, hbg, hg, hnc, hcm, hcs, htake⟩
    · simp [Builtin.append_, run_underlying Try.underlying34, run_underlying Try.underlying3, sizeOf, typeInfo, hi, hA0, hw0, hz2]
    · simp [Builtin.append_, run_underlying Try.underlying34, run_underlying Try.underlying3, sizeOf, typeInfo, hi, hA0, hw0, hz2, hnc, storeCells]
  · rcases hown.2 with ⟨rfl, h0⟩ | ⟨g, cap, cur, rfl, hbg, hg, hnc, hcm, hcs, htake⟩
    · have hx : l = [] := List.eq_nil_of_length_eq_zero h0
      subst hx
      have hgr := grown 0 (by simp only [List.length_nil]; omega) (Value.ownBlock (.slice Option.none 0 0))
      refine ⟨_, _, ?_, hgr.1, hgr.2, Or.inr rfl⟩
      have h48 : ¬ (281474976710656 < Builtin.nextslicecap n 0 * 1) := by rw [nextslicecap_zero (by omega)]; simp only [List.length_nil] at hlen; omega
      have h63 : ¬ (9223372036854775807 < (n : Int)) := by omega
      rw [Nat.mul_one] at h48
      simp only [List.length_nil, Nat.zero_add, hml]
      simp [Builtin.append_, run_underlying Try.underlying34, run_underlying Try.underlying3, sizeOf, typeInfo, zeroValue, hi, hz0, hz1, hz2, hA, hwr, hneg, hby, hn0, h63, h48, hzc, Question.forced, newRow, grownCap, Builtin.firstCells, cells]
    · by_cases hroom : l.length + n ≤ cap
      · have hst := run_storeCells_at Try.prog g (l.length * 1) 5 (cells m) 0 cur w hg (by simp only [cells_length]; omega) (cells_one m)
        simp only [Nat.mul_one, Nat.add_zero] at hst
        have hr : (Builtin.append_ #[34, 3] ty #[.slice (some ⟨g, 0, Option.none⟩) l.length cap, .int .i64 n]).run Try.prog w =
            .ok (.slice (some ⟨g, 0, Option.none⟩) (l.length + m.length) cap) (w.setRow g (cur.toList.take l.length ++ cells m ++ cur.toList.drop (l.length + (cells m).length)).toArray) := by
          simp [Builtin.append_, run_underlying Try.underlying34, run_underlying Try.underlying3, sizeOf, typeInfo, zeroValue, hi, hz0, hz1, hz2, hA, hwr, hneg, hby, hn0, hroom, hzc, Addr.add_lit, hst, hml]
        refine ⟨_, _, hr, ⟨by simp [cells_length], .inr ⟨g, cap, _, by rw [List.length_append], hbg, setRow_heap w g cur _ 5 _ hg, by rw [List.length_append, hml]; exact hroom, hcm, ?_, ?_⟩⟩, ⟨rfl, rfl, rfl, by simp, fun k _ hk => setRow_other w g k _ (fun e => hk (by simp [Value.ownBlock, e]))⟩, Or.inl rfl⟩
        · simp only [List.size_toArray, List.length_append, List.length_take, List.length_drop, Array.length_toList, cells_length]
          omega
        · simp only [Nat.mul_one] at htake ⊢
          rw [htake, cells_append]
          simp only [List.length_append]
          exact List.take_left' (by simp [cells_length])
      · have holds : ∀ j u, (cells l)[j]? = some u → w.cell? ((⟨g, 0, Option.none⟩ : Addr).add j) = some u := World.ownsRow.cells (g := g) hown rfl
        have hold := run_firstCells_some (P := Try.prog) w.drew i.size l.length ⟨g, 0, Option.none⟩ l.length cap (cells l) (by rw [hz1]; simp [cells_length]) (by simpa using holds)
        rw [hz1] at hold
        have hgr := grown cap (by omega) (Value.ownBlock (.slice (some ⟨g, 0, Option.none⟩) l.length cap))
        refine ⟨_, _, ?_, hgr.1, hgr.2, Or.inr rfl⟩
        have h48 : ¬ (281474976710656 < Builtin.nextslicecap (l.length + n) cap * 1) := by have := growslice_fits (need := l.length + n) (old := cap) (bytes := 1) (by omega) (by omega); omega
        have h63 : ¬ (9223372036854775807 < ((l.length : Int) + (n : Int))) := by omega
        rw [Nat.mul_one] at h48
        simp only [hml]
        simp [Builtin.append_, run_underlying Try.underlying34, run_underlying Try.underlying3, sizeOf, typeInfo, zeroValue, hi, hz0, hz1, hz2, hA, hwr, hneg, hby, hn0, hroom, h63, h48, hzc, Question.forced, hold, newRow, grownCap]
        clear hlen hby hbig h48 h63 grown hgr hnc hcm
        congr 2
        apply Array.ext'
        simp [List.append_assoc]
/-- 'append(v, make([]byte, n)...)'. -/
theorem wpList_appendZ {w : World} {ops : Array Oper} {rest : List Oper} {o : Oper} {a : Act} {Q : Exit → Act → World → Prop} (hgd : o.guard = none) (s x : Operand)
    (ho : o.op = .call { callee := .builtin .append, args := #[s, x], argTypes := #[34, 3] })
    (v : Value) (l : By) (n : Nat) (z : Int) (hs : a.eval s = v) (hx : a.eval x = .int .i64 z) (hz : z = (n : Int)) (hown : Owns w 0 v l) (hlen : l.length + n ≤ 10000000000)
    (h : ∀ v' w', Hid (Owns w' 0 v' (l ++ List.replicate n 0)) → w.grownBy w' v.ownBlock → (v'.ownBlock = v.ownBlock ∨ v'.ownBlock = some w.heap.size) → wpList Try.prog ops Q rest (a.put o.dst v') w') : wpList Try.prog ops Q (o :: rest) a w := by
  subst hz
  obtain ⟨v', w', hrun, h2, h3, h4⟩ := run_appendZ o.type v l n hown hlen
  refine wpList_plain hgd fun K' hK' => ?_
  unfold Oper.wp execOp
  simp only [ho, resolve, invoke, builtin, Sem.run_bind, Sem.run_pure, Result.andThen_ok, List.map_toArray, List.map_cons, List.map_nil, hs, hx, hrun]
  exact hK' _ _ (h v' w' h2 h3 h4)
/-- 's[1:]'. -/
theorem wpList_slice1 {w : World} {ops : Array Oper} {rest : List Oper} {o : Oper} {a : Act} {Q : Exit → Act → World → Prop} (hgd : o.guard = none) (x : Operand) (ho : o.op = .slice 46 x (some (.const (.int .i64 1))) none none)
    (b off n c : Nat) (hx : a.eval x = .slice (some ⟨b, off, none⟩) n c) (hn : 1 ≤ n) (hc : n ≤ c)
    (h : ∀ a' c', (1 < n → a' = some ⟨b, off + 1, none⟩) → n - 1 ≤ c' → wpList Try.prog ops Q rest (a.put o.dst (.slice a' (n - 1) c')) w) : wpList Try.prog ops Q (o :: rest) a w := by
  refine wpList_plain hgd fun K' hK' => ?_
  have e1 : a.eval (.const (.int .i64 1)) = .int .i64 1 := rfl
  have hn1 : (1 : Int) ≤ (n : Int) := by omega
  have hc1 : (1 : Int) ≤ (c : Int) := by omega
  by_cases h1 : c = 1
  · have hh := h (some ⟨b, off, none⟩) 0 (by omega) (by omega)
    subst h1
    have hn' : n = 1 := by omega
    subst hn'
    unfold Oper.wp execOp
    simp only [ho, hx, Option.map_some, Option.map_none, e1]
    go_simp
    exact hK' _ _ hh
  · have hh := h (some ⟨b, off + 1, none⟩) (c - 1) (fun _ => rfl) (by omega)
    have h2 : (1 : Int) < (c : Int) := by omega
    unfold Oper.wp execOp
    simp only [ho, hx, Option.map_some, Option.map_none, e1]
    go_simp
    exact hK' _ _ hh
end Go.Proofs.Ythheolhghhmdlaa
