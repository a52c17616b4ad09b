/- Bytes that the call itself owns: appended to. Copy, Lent, Whole. -/
import Derived.Test.YthheolhghhmdlaaBytes
import Derived.Lib.Hide
namespace Go.Proofs.Ythheolhghhmdlaa
open Go.RowKit

/-- The slice v is the call's own (its block from K on) and holds these bytes. -/
def Owns (w : World) (K : Nat) (v : Value) (l : List (BitVec 8)) : Prop := w.ownsRow K 5 1 v l.length (cells l)

theorem Owns.none (w : World) (K : Nat) : Owns w K (.slice none 0 0) [] := ⟨by simp [cells], .inl ⟨rfl, rfl⟩⟩
theorem Owns.shape {w : World} {K : Nat} {v : Value} {l : List (BitVec 8)} (h : Owns w K v l) : ∃ a c, v = .slice a l.length c ∧ Bytes w a l ∧ l.length ≤ c := by
  rcases h.2 with ⟨rfl, h0⟩ | ⟨g, cap, cur, rfl, _, hh, hc, _, hs, ht⟩
  · have : l = [] := List.eq_nil_of_length_eq_zero h0
    subst this
    exact ⟨_, _, rfl, .inl rfl, Nat.le_refl _⟩
  · refine ⟨_, _, rfl, .inr ⟨g, 0, rfl, fun i x hx => ?_⟩, hc⟩
    have hi : i < l.length := (List.getElem?_eq_some_iff.1 hx).1
    rw [Nat.zero_add, cell_of_row w g i cur _ _ hh]
    have e : (cells l)[i]? = some (.int .u8 (B x)) := by rw [cells_get, hx]; rfl
    rw [← ht, List.getElem?_take, if_pos (by omega)] at e
    simpa using e
theorem Owns.under {w w' : World} {K M : Nat} {v : Value} {l : List (BitVec 8)} (h : Owns w K v l) (hb : Below M w w') (hM : w.heap.size ≤ M) : Owns w' K v l := by
  refine World.ownsRow.kept (row := Option.none) h ⟨hb.os, hb.tape, hb.output, hb.size, fun k hk _ => hb.block k (by omega)⟩ ?_
  cases hv : v.ownBlock
  · exact .inl rfl
  · exact .inr (by simp)

theorem run_append_from_nil {w : World} (K : Nat) (ty : TypeId) (v : Value) (n : Nat) (xs : List Value) (hown : w.ownsRow K 5 1 v n xs) (c : Nat) :
    (Builtin.append_ #[34, 34] ty #[v, .slice Option.none 0 c]).run Try.prog w = .ok v w := by
  obtain ⟨i, hi, _, _, _⟩ := info_parts info8
  rcases hown.2 with ⟨rfl, rfl⟩ | ⟨g, cap, cur, rfl, _, _, hnc, _⟩
  · simp [Builtin.append_, run_underlying Try.underlying34, sizeOf, typeInfo, hi, Builtin.lenOf, Builtin.firstCells]
  · simp [Builtin.append_, run_underlying Try.underlying34, sizeOf, typeInfo, hi, Builtin.lenOf, Builtin.firstCells, hnc, storeCells]

theorem run_appendB {w : World} (K : Nat) (ty : TypeId) (v : Value) (l m : List (BitVec 8)) (ap : Option Addr) (c : Nat) (hown : Owns w K v l) (hm : Bytes w ap m) (hlen : l.length + m.length ≤ 10000000000) (hK : K ≤ w.heap.size) :
    ∃ v' w', (Builtin.append_ #[34, 34] ty #[v, .slice ap m.length c]).run Try.prog w = .ok v' w' ∧ Owns w' K v' (l ++ m) ∧ w.grownBy w' v.ownBlock ∧ (v'.ownBlock = v.ownBlock ∨ v'.ownBlock = some w.heap.size) := by
  obtain ⟨i, hi, hz0, hz1, hz2⟩ := info_parts info8
  have go : ∀ ad : Addr, (∀ j u, (cells m)[j]? = some u → w.cell? (ad.add j) = some u) → ∃ v' w', (Builtin.append_ #[34, 34] ty #[v, .slice (some ad) m.length c]).run Try.prog w = .ok v' w' ∧ Owns w' K v' (l ++ m) ∧ w.grownBy w' v.ownBlock ∧ (v'.ownBlock = v.ownBlock ∨ v'.ownBlock = some w.heap.size) := by
    intro ad hs
    obtain ⟨v', w', hrun, h2, h3, _, h5⟩ := run_append_own_at (P := Try.prog) w K 34 ty 5 i (.int .u8 0) 1 1 Try.underlying34 hi hz0 hz1 hz2 rfl (by omega) v l.length (cells l) hown ad m.length c (cells m) (by simp [cells_length]) hs (cells_one m) (by simp only [maxLen]; omega) (by omega) hK
    refine ⟨v', w', hrun, ?_, h3, h5⟩
    unfold Owns
    rw [List.length_append, cells_append]
    exact h2
  rcases hm with rfl | ⟨b, o, rfl, hsrc⟩
  · cases ap with
    | none =>
      refine ⟨v, w, run_append_from_nil K ty v l.length (cells l) hown c, by simpa using hown, World.grownBy.refl w _, .inl rfl⟩
    | some ad => exact go ad (fun j u hu => by simp [cells] at hu)
  · exact go _ (Bytes.src hsrc)

/-- 'append(v, x...)', v the call's own. -/
theorem wpList_appendB {w : World} {ops : Array Oper} {rest : List Oper} {o : Oper} {a : Act} {Q : Exit → Act → World → Prop} (hgd : o.guard = Option.none) (s x : Operand)
    (ho : o.op = .call { callee := .builtin .append, args := #[s, x], argTypes := #[34, 34] })
    (K : Nat) (v : Value) (l m : List (BitVec 8)) (ap : Option Addr) (n c : Nat) (hs : a.eval s = v) (hx : a.eval x = .slice ap n c) (hn : n = m.length) (hown : Owns w K v l) (hm : Bytes w ap m) (hlen : l.length + m.length ≤ 10000000000) (hK : K ≤ w.heap.size)
    (h : ∀ v' w', Hid (Owns w' K v' (l ++ m)) → w.grownBy w' v.ownBlock → (v'.ownBlock = v.ownBlock ∨ v'.ownBlock = some w.heap.size) → wpList Try.prog ops Q rest (a.put o.dst v') w') : wpList Try.prog ops Q (o :: rest) a w := by
  subst hn
  obtain ⟨v', w', hrun, h2, h3, h4⟩ := run_appendB K o.type v l m ap c hown hm hlen hK
  refine wpList_plain hgd fun K' hK' => ?_
  unfold Oper.wp execOp
  simp only [ho, resolve, invoke, builtin, Sem.run_bind, Sem.run_pure, Result.andThen_ok, List.map_toArray, List.map_cons, List.map_nil, hs, hx, hrun]
  exact hK' _ _ (h v' w' h2 h3 h4)

theorem copy_any (a : Option Addr) (l : List (BitVec 8)) (c : Nat) (w : World) (hB : Bytes w a l) (hl : l.length ≤ 1000000000) :
    Calls Try.prog 28 #[.slice a l.length c] w fun e w' => ∃ v, e = .returned v ∧ Owns w' w.heap.size v l ∧ Below w.heap.size w w' := by
  go_enter Try.func28, Try.ntmps28
  go_wp2_with (at_builtin; refine wpList_appendB rfl _ _ rfl w.heap.size (.slice Option.none 0 0) [] l a l.length c rfl rfl rfl (Owns.none _ _) hB (by simp; omega) (Nat.le_refl _) ?_; intro v1 w1 HO hg1 hat1)
  go_ret
  exact ⟨v1, rfl, HO.out, (Below.refl _ _).grown hg1 (Nat.le_refl _) (by simp [Value.ownBlock])⟩
end Go.Proofs.Ythheolhghhmdlaa
