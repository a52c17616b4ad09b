/- gr's reader: a line. -/
import Derived.Test.YtdjfmmfggkkbaaaDoorGrW
namespace Go.Proofs.YtdjfmmfggkkbaaaDoor
open Go.RowKit Go.Shelf Grm

/-- What was read so far. -/
structure Rst where
  n : Nat
  arcs : List Ar
  begun : Bool
  many : Nat
def Rst.ok (s : Rst) : Prop := s.n ≤ 16777216 ∧ s.many ≤ 67108864 ∧ s.arcs.length ≤ s.many
def Rst.zero : Rst := ⟨0, [], false, 0⟩
theorem Rst.ok_zero : Rst.zero.ok := ⟨by decide, by decide, by decide⟩
def Rst.whole (s : Rst) : Bool := s.begun && decide (s.arcs.length = s.many)
/-- A line. -/
def takeL (s : Rst) : List Tx → Option Rst
  | [] => some s
  | x :: t =>
    if x = [99] then some s
    else if x = [112] then (headL s.begun t).map fun p => { s with n := p.1, begun := true, many := p.2 }
    else if x = [97] then (arcL s.n s.arcs s.begun s.many t).map fun a => { s with arcs := s.arcs ++ [a] }
    else none
theorem headL_le {b : Bool} {t : List Tx} {p : Nat × Nat} (h : headL b t = some p) : b = false ∧ p.1 ≤ 16777216 ∧ p.2 ≤ 67108864 := by
  rcases t with _ | ⟨s, _ | ⟨x, _ | ⟨y, _ | _⟩⟩⟩ <;> simp only [headL] at h <;> try (cases h)
  split at h
  · rename_i hb
    split at h
    · rename_i n k hN
      cases h
      simp only [numsL] at hN
      cases hx : numL x 16777216 with
      | none => rw [hx] at hN; cases hN
      | some a =>
        cases hy : numL y 67108864 with
        | none => rw [hx, hy] at hN; cases hN
        | some c =>
          rw [hx, hy] at hN
          have := Option.some.inj hN
          injection this with q1 q2
          injection q2 with q2 q3
          subst q1 q2
          have h1 := numL_le hx
          have h2 := numL_le hy
          exact ⟨hb.1, by show a ≤ _; omega, by show c ≤ _; omega⟩
    · cases h
  · cases h
theorem arcL_ne {n : Nat} {arcs : List Ar} {b : Bool} {many : Nat} {t : List Tx} {x : Ar} (h : arcL n arcs b many t = some x) : b = true ∧ arcs.length ≠ many := by
  rcases t with _ | ⟨s, _ | ⟨x', _ | ⟨y, _ | _⟩⟩⟩ <;> simp only [arcL] at h <;> try (cases h)
  split at h
  · assumption
  · cases h
def Rst.ok2 (s : Rst) : Prop := s.ok ∧ (s.begun = false → s.arcs = [])
theorem takeL_ok {s s' : Rst} {ws : List Tx} (h : s.ok2) (e : takeL s ws = some s') : s'.ok2 := by
  rcases ws with _ | ⟨x, t⟩
  · cases e; exact h
  · simp only [takeL] at e
    split at e
    · cases e; exact h
    · split at e
      · cases hh : headL s.begun t with
        | none => rw [hh] at e; cases e
        | some p =>
          rw [hh] at e
          cases e
          obtain ⟨q0, q1, q2⟩ := headL_le hh
          have := h.2 q0
          exact ⟨⟨q1, q2, by show s.arcs.length ≤ _; rw [this]; exact Nat.zero_le _⟩, fun q => by cases q⟩
      · split at e
        · cases hh : arcL s.n s.arcs s.begun s.many t with
          | none => rw [hh] at e; cases e
          | some p =>
            rw [hh] at e
            cases e
            obtain ⟨q0, q1⟩ := arcL_ne hh
            refine ⟨⟨h.1.1, h.1.2.1, ?_⟩, fun q => ?_⟩
            · show (s.arcs ++ [p]).length ≤ s.many
              have := h.1.2.2
              simp; omega
            · simp only at q; rw [q0] at q; cases q
        · cases e
/-- A reader in memory. -/
def Rdr (w : World) (K r : Nat) (v : Value) (s : Rst) : Prop := Row w r 53 (rC (s.n : Nat) v s.begun (s.many : Nat)) ∧ AV w K v s.arcs
/-- What take tells. -/
def TakeP (w : World) (K r : Nat) (v : Value) (R : Option Rst) (e : Ending) (w' : World) : Prop :=
  Only (fun k => k = r ∨ v.ownBlock = some k) w w' ∧ ((R = none ∧ e = .returned (.bool false)) ∨ ∃ s' v', R = some s' ∧ e = .returned (.bool true) ∧ Rdr w' K r v' s')
theorem arc_any {w : World} {K r g : Nat} {v : Value} {s : Rst} (h : Rdr w K r v s) (hok : s.ok2) (hK : r < K ∧ K ≤ w.heap.size) (t : List Tx) (hw : Wds w g 1 t) (h4 : t.length ≤ 4) :
    Calls Tryd.prog 38 #[.pointer (some ⟨r, 0, none⟩), .slice (some ⟨g, 1, none⟩) t.length 4] w (TakeP w K r v ((arcL s.n s.arcs s.begun s.many t).map fun a => { s with arcs := s.arcs ++ [a] })) := by
  obtain ⟨n, arcs, b, many⟩ := s
  obtain ⟨hr, ha⟩ := h
  simp only at hr ha
  have no : ∀ {e : Ending} {w' : World} (R : Option Ar), R = none → e = .returned (.bool false) ∧ Below w.heap.size w w' → TakeP w K r v (R.map fun a => (⟨n, arcs ++ [a], b, many⟩ : Rst)) e w' := fun R h q => ⟨Only.of_below _ q.2, .inl ⟨by rw [h]; rfl, q.1⟩⟩
  cases b with
  | false => exact (arc_unbegun r _ _ _ _ v _ w hr).mono fun e w' q => no _ (by rcases t with _ | ⟨_, _ | ⟨_, _ | ⟨_, _ | _⟩⟩⟩ <;> simp [arcL]) ⟨q.1, by rw [q.2]; exact Below.refl _ _⟩
  | true =>
    by_cases hq : arcs.length = many
    · exact (arc_whole r _ _ K n many v arcs _ w hr ha hq).mono fun e w' q => no _ (by rcases t with _ | ⟨_, _ | ⟨_, _ | ⟨_, _ | _⟩⟩⟩ <;> simp [arcL, hq]) q
    · by_cases ht : t.length = 3
      · rcases t with _ | ⟨x, _ | ⟨y, _ | ⟨z, _ | _⟩⟩⟩ <;> simp at ht
        refine (arc_three r g K n many v arcs x y z w hr ha hK.1 hK.2 hq hok.1.1 (Nat.le_trans hok.1.2.2 hok.1.2.1) hw).mono fun e w' q => ?_
        rcases q with ⟨q1, q2, q3⟩ | ⟨x', v', q1, q2, q3, q4, q5⟩
        · exact no _ q1 ⟨q2, q3⟩
        · refine ⟨q5, .inr ⟨_, v', by rw [q1]; rfl, q2, q3, q4⟩⟩
      · exact (arc_odd r t.length g K n many v arcs w hr ha hq ht).mono fun e w' q => no _ (by rcases t with _ | ⟨_, _ | ⟨_, _ | ⟨_, _ | _⟩⟩⟩ <;> simp_all [arcL]) q
theorem headT {w : World} {K r g : Nat} {v : Value} {s : Rst} (h : Rdr w K r v s) (hK : r < K ∧ K ≤ w.heap.size) (t : List Tx) (hw : Wds w g 1 t) (h4 : t.length ≤ 4) :
    Calls Tryd.prog 37 #[.pointer (some ⟨r, 0, none⟩), .slice (some ⟨g, 1, none⟩) t.length 4] w (TakeP w K r v ((headL s.begun t).map fun p => { s with n := p.1, begun := true, many := p.2 })) := by
  obtain ⟨hr, ha⟩ := h
  refine (head_any r g _ _ v s.begun t w hr hw h4).mono fun e w' q => ?_
  rcases q with ⟨q1, q2, q3⟩ | ⟨n, k, q1, q2, q3, q4⟩
  · exact ⟨Only.of_below _ q3, .inl ⟨by rw [q1]; rfl, q2⟩⟩
  · refine ⟨(Only.refl _ w).grown q3 (fun k e => by cases e; exact .inl (.inl rfl)), .inr ⟨_, v, by rw [q1]; rfl, q2, q4, ?_⟩⟩
    exact ha.kept q3 (.inr (fun e => by have := (ha.own r e).1; omega))
theorem Wds.tail {w : World} {g o : Nat} {x : Tx} {t : List Tx} (h : Wds w g o (x :: t)) : Wds w g (o + 1) t :=
  ⟨h.1, fun i y hy => by have := h.2.1 (i + 1) y (by simpa using hy); rwa [show o + (i + 1) = o + 1 + i by omega] at this, fun y hy => h.2.2 y (List.mem_cons_of_mem _ hy)⟩
set_option maxRecDepth 100000 in
set_option maxHeartbeats 2000000 in
/-- take. -/
theorem take_any {w : World} {K r g : Nat} {v : Value} {s : Rst} (h : Rdr w K r v s) (hok : s.ok2) (hK : r < K ∧ K ≤ w.heap.size) (ws : List Tx) (hw : Wds w g 0 ws) (h5 : ws.length ≤ 5) :
    Calls Tryd.prog 23 #[.pointer (some ⟨r, 0, none⟩), .slice (some ⟨g, 0, none⟩) ws.length 5] w (TakeP w K r v (takeL s ws)) := by
  have yes : ∀ (e : Ending) (w' : World), e = .returned (.bool true) ∧ w' = w → TakeP w K r v (some s) e w' := fun e w' q => by rw [q.2]; exact ⟨Only.refl _ _, .inr ⟨s, v, rfl, q.1, h⟩⟩
  rcases ws with _ | ⟨x, t⟩
  · refine Calls.mono ?_ yes
    clear yes h hw
    go_enter Tryd.func23, Tryd.ntmps23
    go_wp2
    go_ret
    exact ⟨rfl, rfl⟩
  · have hx : w.cell? ⟨g, 0, none⟩ = some (txV x) := hw.2.1 0 x rfl
    have HA := Lib.hid (arc_any h hok hK t hw.tail (by simp at h5; omega))
    have HH := Lib.hid (headT h hK t hw.tail (by simp at h5; omega))
    have hk0 : ((t.length : Int) + 1 == 0) = false := beq_eq_false_iff_ne.2 (by omega)
    have ht4 : (t.length : Int) ≤ 4 := by simp at h5; omega
    have HY := Lib.hid yes
    clear yes h hw h5 hok hK
    rw [List.length_cons]
    simp only [takeL]
    by_cases h1 : x = [99]
    · subst h1
      rw [if_pos rfl]
      go_enter Tryd.func23, Tryd.ntmps23
      go_wp2
      go_ret
      exact HY.out _ _ ⟨rfl, rfl⟩
    · rw [if_neg h1]
      have n1 : (x == [99]) = false := beq_eq_false_iff_ne.2 h1
      by_cases h2 : x = [112]
      · subst h2
        rw [if_pos rfl]
        clear h1 n1
        generalize (headL s.begun t).map _ = R at *
        go_enter Tryd.func23, Tryd.ntmps23
        go_wp2_with fail
        refine HH.out.mono ?_
        rintro e w1 hT
        obtain ⟨z, rfl⟩ : ∃ z, e = .returned (.bool z) := by rcases hT.2 with ⟨_, q⟩ | ⟨_, _, _, q, _⟩ <;> exact ⟨_, q⟩
        have HT := Lib.hid hT
        clear hT
        go_wp2
        go_ret
        exact HT.out
      · rw [if_neg h2]
        have n2 : (x == [112]) = false := beq_eq_false_iff_ne.2 h2
        by_cases h3 : x = [97]
        · subst h3
          rw [if_pos rfl]
          clear h1 n1 h2 n2
          generalize (arcL s.n s.arcs s.begun s.many t).map _ = R at *
          go_enter Tryd.func23, Tryd.ntmps23
          go_wp2_with fail
          refine HA.out.mono ?_
          rintro e w1 hT
          obtain ⟨z, rfl⟩ : ∃ z, e = .returned (.bool z) := by rcases hT.2 with ⟨_, q⟩ | ⟨_, _, _, q, _⟩ <;> exact ⟨_, q⟩
          have HT := Lib.hid hT
          clear hT
          go_wp2
          go_ret
          exact HT.out
        · rw [if_neg h3]
          have n3 : (x == [97]) = false := beq_eq_false_iff_ne.2 h3
          clear h1 h2 h3
          go_enter Tryd.func23, Tryd.ntmps23
          go_wp2
          go_ret
          exact ⟨Only.refl _ _, .inl ⟨rfl, rfl⟩⟩
end Go.Proofs.YtdjfmmfggkkbaaaDoor
