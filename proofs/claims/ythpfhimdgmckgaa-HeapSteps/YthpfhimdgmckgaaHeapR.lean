/- The document's heap: a list of items in memory. -/
import Derived.Test.YthpfhimdgmckgaaHeapP
namespace Go.Proofs.Ythpfhimdgmckgaa
open Go.RowKit Hp

/-- The cells of items. -/
def ilist : List (Int × Int) → List Value
  | [] => []
  | x :: t => .int .i64 x.1 :: .int .i64 x.2 :: ilist t
theorem ilist_length (t : List (Int × Int)) : (ilist t).length = t.length * 2 := by
  induction t with
  | nil => rfl
  | cons x t ih => simp [ilist, ih]; omega
theorem ilist_append (t s : List (Int × Int)) : ilist (t ++ s) = ilist t ++ ilist s := by
  induction t with
  | nil => rfl
  | cons x t ih => simp [ilist, ih]
theorem ilist_get (t : List (Int × Int)) (j : Nat) (h : j < t.length) : (ilist t)[j * 2]? = some (.int .i64 (t[j]'h).1) ∧ (ilist t)[j * 2 + 1]? = some (.int .i64 (t[j]'h).2) := by
  induction t generalizing j with
  | nil => simp at h
  | cons x t ih =>
    cases j with
    | zero => simp [ilist]
    | succ j =>
      have := ih j (by simpa using h)
      simpa [ilist, Nat.succ_mul] using this
/-- The slice v is a row of its own and holds these items. -/
def IV (w : World) (v : Value) (t : List (Int × Int)) : Prop := w.ownsRow 0 33 2 v t.length (ilist t)
theorem IV.nil (w : World) : IV w (.slice none 0 0) [] := ⟨rfl, .inl ⟨rfl, rfl⟩⟩
theorem IV.shape {w : World} {v : Value} {t : List (Int × Int)} (h : IV w v t) : ∃ ad c, v = .slice ad t.length c := by
  rcases h.2 with ⟨rfl, h0⟩ | ⟨g, cap, cur, rfl, _⟩
  · exact ⟨_, _, by rw [h0]⟩
  · exact ⟨_, _, rfl⟩
theorem IV.at_ {w w' : World} {v : Value} {t : List (Int × Int)} (h : IV w v t) (hb : Below w.heap.size w w') {j : Nat} (hj : j < t.length) : ∃ b c, v = .slice (some ⟨b, 0, none⟩) t.length c ∧ b < w.heap.size ∧ w'.cell? ⟨b, j * 2, none⟩ = some (.int .i64 (t[j]'hj).1) ∧ w'.cell? ⟨b, j * 2 + 1, none⟩ = some (.int .i64 (t[j]'hj).2) := by
  rcases h.2 with ⟨rfl, h0⟩ | ⟨g, cap, cur, rfl, _, hr, hc, _, hs, ht⟩
  · omega
  · have hl : g < w.heap.size := (Array.getElem?_eq_some_iff.1 hr).1
    obtain ⟨e1, e2⟩ := ilist_get t j hj
    rw [← ht, List.getElem?_take_of_lt (by omega)] at e1 e2
    refine ⟨g, cap, rfl, hl, ?_, ?_⟩
    · rw [hb.cell (p := ⟨g, _, none⟩) hl, cell_of_row w g _ cur _ _ hr]; simpa using e1
    · rw [hb.cell (p := ⟨g, _, none⟩) hl, cell_of_row w g _ cur _ _ hr]; simpa using e2
theorem IV.under {w w' : World} {v : Value} {t : List (Int × Int)} (h : IV w v t) (hb : Below w.heap.size w w') : IV w' v t := by
  refine World.ownsRow.kept (row := Option.none) h ⟨hb.os, hb.tape, hb.output, hb.size, fun k hk _ => hb.block k hk⟩ ?_
  cases hv : v.ownBlock
  · exact .inl rfl
  · exact .inr (by simp)
theorem IV.off {w w' : World} {k : Nat} {v : Value} {t : List (Int × Int)} (h : IV w v t) (hg : w.grownBy w' (some k)) (hk : v.ownBlock ≠ some k) : IV w' v t := World.ownsRow.kept (row := some k) h hg (.inr hk)
theorem IV.lt {w : World} {v : Value} {t : List (Int × Int)} (h : IV w v t) (k : Nat) (hk : v.ownBlock = some k) : k < w.heap.size := (World.ownsRow.lt h k hk).2
theorem infoI : (Try.prog.info? 33).map (fun i => (i.zero, i.size, i.bytes)) = some (some (.agg #[.int .i64 0, .int .i64 0]), 2, 16) := by kernel_rfl
theorem run_appendI {w : World} (ty : TypeId) (v : Value) (t : List (Int × Int)) (b : Nat) (x : Int × Int) (h : IV w v t) (hm : t.length ≤ 16777216) (h0 : w.cell? ⟨b, 0, none⟩ = some (.int .i64 x.1)) (h1 : w.cell? ⟨b, 1, none⟩ = some (.int .i64 x.2)) :
    ∃ v' w', (Builtin.append_ #[24, 24] ty #[v, .slice (some ⟨b, 0, none⟩) 1 1]).run Try.prog w = .ok v' w' ∧ IV w' v' (t ++ [x]) ∧ w.grownBy w' v.ownBlock ∧ (v'.ownBlock = v.ownBlock ∨ v'.ownBlock = some w.heap.size) := by
  obtain ⟨inf, hi, hz0, hz1, hz2⟩ := info_partsE infoI
  obtain ⟨v', w', hrun, h2, h3, _, h5⟩ := run_append_own_at (P := Try.prog) w 0 24 ty 33 inf (.agg #[.int .i64 0, .int .i64 0]) 2 16 Try.underlying24 hi hz0 hz1 hz2 rfl (by omega) v t.length (ilist t) h ⟨b, 0, none⟩ 1 1 [.int .i64 x.1, .int .i64 x.2] rfl (by
      intro j u hu
      match j, hu with
      | 0, hu => injection hu with hu; subst hu; exact h0
      | 1, hu => injection hu with hu; subst hu; exact h1
      | j + 2, hu => simp at hu) (by intro u hu; simp at hu; rcases hu with rfl | rfl <;> rfl) (by simp only [maxLen]; omega) (by omega) (Nat.zero_le _)
  refine ⟨v', w', hrun, ?_, h3, h5⟩
  unfold IV
  rw [List.length_append, ilist_append]
  exact h2
theorem wp_appendI {o : Oper} {a : Act} {w : World} {K : Act → World → Prop} {Q : Exit → Act → World → Prop} {tv xv : Value} (s x : Operand) (ho : o.op = .call { callee := .builtin .append, args := #[s, x], argTypes := #[24, 24] }) (v' : Value) (w' : World) (hs : a.eval s = tv) (hx : a.eval x = xv)
    (hrun : (Builtin.append_ #[24, 24] o.type #[tv, xv]).run Try.prog w = .ok v' w') (h : K (a.put o.dst v') w') : Oper.wp Try.prog o a w K Q := by
  unfold Oper.wp execOp
  simp only [ho, resolve, invoke, builtin, Sem.run_bind, Sem.run_pure, Result.andThen_ok, List.map_toArray, List.map_cons, List.map_nil, hs, hx, hrun]
  exact h
theorem wpList_appendI {w : World} {ops : Array Oper} {rest : List Oper} {o : Oper} {a : Act} {Q : Exit → Act → World → Prop} {tv xv : Value} (hgd : o.guard = none) (s x : Operand) (ho : o.op = .call { callee := .builtin .append, args := #[s, x], argTypes := #[24, 24] }) (v' : Value) (w' : World) (hs : a.eval s = tv) (hx : a.eval x = xv)
    (hrun : (Builtin.append_ #[24, 24] o.type #[tv, xv]).run Try.prog w = .ok v' w') (h : wpList Try.prog ops Q rest (a.put o.dst v') w') : wpList Try.prog ops Q (o :: rest) a w := by
  refine wpList_plain hgd fun K' hK' => ?_
  unfold Oper.wp execOp
  simp only [ho, resolve, invoke, builtin, Sem.run_bind, Sem.run_pure, Result.andThen_ok, List.map_toArray, List.map_cons, List.map_nil, hs, hx, hrun]
  exact hK' _ _ h
/-- The document's T as a value. -/
abbrev tV (n : Int) (v : Value) : Value := .agg #[.int .i64 n, v]
/-- Without one. -/
def dropL (t : List (Int × Int)) (id : Int) : List (Int × Int) := t.filter fun x => x.1 != id
theorem dropL_skip (t : List (Int × Int)) (id : Int) (j : Nat) (h : j < t.length) (e : (t[j]'h).1 = id) : dropL (t.take (j + 1)) id = dropL (t.take j) id := by
  unfold dropL
  rw [List.take_succ_eq_append_getElem h, List.filter_append]
  simp [e]
theorem dropL_keep (t : List (Int × Int)) (id : Int) (j : Nat) (h : j < t.length) (e : (t[j]'h).1 ≠ id) : dropL (t.take (j + 1)) id = dropL (t.take j) id ++ [t[j]'h] := by
  unfold dropL
  rw [List.take_succ_eq_append_getElem h, List.filter_append]
  simp [e]
theorem dropL_le (t : List (Int × Int)) (id : Int) : (dropL t id).length ≤ t.length := List.length_filter_le _ _

theorem rnew_in (z : Int) (w : World) (h0 : 0 ≤ z) (h1 : z ≤ 16777216) : Calls Try.prog 10 #[.int .i64 z] w fun e w' => e = .returned (.tuple #[tV z (.slice none 0 0), .bool true]) ∧ Below w.heap.size w w' := by
  go_enter Try.func10, Try.ntmps10
  go_wp2
  exact bodyPost_ret (v := .tuple #[tV z (.slice none 0 0), .bool true]) (by simp [results, Try.results10, go_sem]) rfl ⟨rfl, (Below.refl _ _).alloc (Nat.le_refl _) _⟩
theorem rnew_out (z : Int) (w : World) (h0 : z < 0 ∨ 16777216 < z) : Calls Try.prog 10 #[.int .i64 z] w fun e w' => e = .returned (.tuple #[tV z (.slice none 0 0), .bool false]) ∧ Below w.heap.size w w' := by
  rcases h0 with h0 | h0
  · have h1 : ¬ 0 ≤ z := by omega
    go_enter Try.func10, Try.ntmps10
    go_wp2
    exact bodyPost_ret (v := .tuple #[tV z (.slice none 0 0), .bool false]) (by simp [results, Try.results10, go_sem]) rfl ⟨rfl, (Below.refl _ _).alloc (Nat.le_refl _) _⟩
  · have h1 : 0 ≤ z := by omega
    have h2 : ¬ z ≤ 16777216 := by omega
    go_enter Try.func10, Try.ntmps10
    go_wp2
    exact bodyPost_ret (v := .tuple #[tV z (.slice none 0 0), .bool false]) (by simp [results, Try.results10, go_sem]) rfl ⟨rfl, (Below.refl _ _).alloc (Nat.le_refl _) _⟩
end Go.Proofs.Ythpfhimdgmckgaa
