/- Texts, line by line. -/
import Derived.Test.YtdjfmmfggkkbaaaDoorGrG
namespace Go.Proofs.YtdjfmmfggkkbaaaDoor
open Go.RowKit Go.Shelf Grm

/-- How many line feeds. -/
def feeds (l : Tx) : Nat := (l.filter (fun b => b == 10)).length
theorem cut_ne (c : UInt8) (l : Tx) : cut c l ≠ [] := by
  cases l with
  | nil => simp [cut]
  | cons x r =>
    unfold cut
    split
    · simp
    · split <;> simp
theorem cut_len (l : Tx) : (cut 10 l).length = feeds l + 1 := by
  induction l with
  | nil => rfl
  | cons x r ih =>
    unfold cut
    by_cases hx : x = 10
    · rw [if_pos hx]
      have : feeds (x :: r) = feeds r + 1 := by simp [feeds, hx]
      rw [this]
      simp [ih]
    · rw [if_neg hx]
      have : feeds (x :: r) = feeds r := by simp [feeds, hx]
      rw [this]
      cases h : cut 10 r with
      | nil => exact absurd h (cut_ne _ _)
      | cons a t => rw [h] at ih; simpa using ih
theorem cut_cons (c x : UInt8) (r : Tx) : cut c (x :: r) = if x = c then [] :: cut c r else match cut c r with | h :: t => (x :: h) :: t | [] => [[x]] := by rw [cut]; rfl
theorem cut_app (l m : Tx) : cut 10 (l ++ 10 :: m) = cut 10 l ++ cut 10 m := by
  induction l with
  | nil => simp [cut]
  | cons x r ih =>
    rw [List.cons_append, cut_cons, cut_cons]
    by_cases hx : x = 10
    · rw [if_pos hx, if_pos hx, ih]; rfl
    · rw [if_neg hx, if_neg hx, ih]
      cases h : cut 10 r with
      | nil => exact absurd h (cut_ne _ _)
      | cons a t => simp
theorem trim_end (t : Tx) : trimL (t ++ [10]) = t := by
  unfold trimL Lib.trimSuffix Lib.hasSuffix
  simp
theorem trim_not {l : Tx} (h : ¬ ∃ t, l = t ++ [10]) : trimL l = l := by
  unfold trimL Lib.trimSuffix
  split
  · rename_i q
    exfalso
    obtain ⟨t, ht⟩ := List.isSuffixOf_iff_suffix.1 q
    exact h ⟨t, ht.symm⟩
  · rfl
theorem goL_more {L M : List Tx} : ∀ {s : Rst} {k j : Nat}, goL s k L = (j, none) → goL s k (L ++ M) = (j, none) := by
  induction L with
  | nil => intro s k j h; cases h
  | cons l r ih =>
    intro s k j h
    rw [List.cons_append]
    unfold goL at h ⊢
    split
    · rename_i e; rw [e] at h; exact h
    · rename_i s' e; rw [e] at h; exact ih h
theorem goL_none {L : List Tx} : ∀ {s : Rst} {k j : Nat}, goL s k L = (j, none) → k ≤ j ∧ j + 1 ≤ k + L.length := by
  induction L with
  | nil => intro s k j h; cases h
  | cons l r ih =>
    intro s k j h
    unfold goL at h
    split at h
    · cases h; exact ⟨Nat.le_refl _, by simp⟩
    · have := ih h
      exact ⟨by omega, by simp; omega⟩
theorem goL_end {L : List Tx} : ∀ {s s' : Rst} {k j : Nat}, goL s k L = (j, some s') → j = k + L.length := by
  induction L with
  | nil => intro s s' k j h; cases h; simp
  | cons l r ih =>
    intro s s' k j h
    unfold goL at h
    split at h
    · cases h
    · have := ih h
      simp; omega
theorem last_of (m : Tx) : m = [] ∨ ∃ u b, m = u ++ [b] := by
  cases h : m.reverse with
  | nil => exact .inl (by simpa using h)
  | cons b u => exact .inr ⟨u.reverse, b, by have := congrArg List.reverse h; simpa using this⟩
/-- The lines of a text are the first ones of it with more. -/
theorem lines_more (s m : Tx) (hs : s ≠ []) : linesL s <+: linesL (s ++ 10 :: m) := by
  have h1 : linesL s = cut 10 (trimL s) := by simp [linesL, hs]
  have h2 : linesL (s ++ 10 :: m) = cut 10 (trimL (s ++ 10 :: m)) := by simp [linesL]
  rw [h1, h2]
  have h3 : (m = [] ∧ trimL (s ++ 10 :: m) = s) ∨ ∃ u, trimL (s ++ 10 :: m) = s ++ 10 :: u := by
    rcases last_of m with rfl | ⟨u, b, rfl⟩
    · exact .inl ⟨rfl, trim_end s⟩
    · right
      by_cases hb : b = 10
      · subst hb
        refine ⟨u, ?_⟩
        have := trim_end (s ++ 10 :: u)
        simpa using this
      · refine ⟨u ++ [b], trim_not ?_⟩
        rintro ⟨t, ht⟩
        apply hb
        have h1 := congrArg List.reverse ht
        simp at h1
        exact h1.1
  rcases h3 with ⟨rfl, h3⟩ | ⟨u, h3⟩
  · rw [h3]
    by_cases he : ∃ t, s = t ++ [10]
    · obtain ⟨t, rfl⟩ := he
      rw [trim_end, cut_app]
      exact List.prefix_append _ _
    · rw [trim_not he]
      exact List.prefix_refl _
  · rw [h3, cut_app]
    by_cases he : ∃ t, s = t ++ [10]
    · obtain ⟨t, rfl⟩ := he
      rw [trim_end, cut_app, List.append_assoc]
      exact List.prefix_append _ _
    · rw [trim_not he]
      exact List.prefix_append _ _
theorem feeds_app (l m : Tx) : feeds (l ++ m) = feeds l + feeds m := by simp [feeds]
/-- How many lines. -/
theorem lines_len (s : Tx) (hs : s ≠ []) : (linesL s).length ≤ feeds s + 1 ∧ feeds s ≤ (linesL s).length := by
  have h1 : linesL s = cut 10 (trimL s) := by simp [linesL, hs]
  rw [h1, cut_len]
  by_cases he : ∃ t, s = t ++ [10]
  · obtain ⟨t, rfl⟩ := he
    rw [trim_end, feeds_app]
    have : feeds [10] = 1 := rfl
    omega
  · rw [trim_not he]; omega
/-- Where a text is wrong. -/
theorem parse_where (s : Tx) (k : Nat) (h : parseL s = .inl k) : 1 ≤ k ∧ k ≤ feeds s + 2 ∧ (s ≠ [] → k < feeds s + 1 → ∀ m, parseL (s ++ 10 :: m) = .inl k) := by
  unfold parseL at h
  by_cases hs : s = []
  · subst hs
    have : goL Rst.zero 1 (linesL []) = (1, some Rst.zero) := rfl
    rw [this] at h
    simp [Rst.whole, Rst.zero] at h
    subst h
    exact ⟨Nat.le_refl _, by omega, fun q => absurd rfl q⟩
  · have hl := lines_len s hs
    rcases hg : goL Rst.zero 1 (linesL s) with ⟨j, _ | st⟩
    · rw [hg] at h
      simp only [Sum.inl.injEq] at h
      subst h
      have hn := goL_none hg
      refine ⟨hn.1, by omega, fun _ _ m => ?_⟩
      obtain ⟨M, hM⟩ := lines_more s m hs
      unfold parseL
      rw [← hM, goL_more hg]
    · rw [hg] at h
      have hj := goL_end hg
      simp only at h
      split at h
      · cases h
      · cases h
        refine ⟨by omega, by omega, fun _ q => ?_⟩
        omega
def Rst.good (s : Rst) : Prop := s.ok2 ∧ ∀ x ∈ s.arcs, badA s.n x = false
theorem arcL_good {n : Nat} {arcs : List Ar} {b : Bool} {many : Nat} {t : List Tx} {x : Ar} (h : arcL n arcs b many t = some x) : badA n x = false := by
  rcases t with _ | ⟨s, _ | ⟨y, _ | ⟨z, _ | _⟩⟩⟩ <;> simp only [arcL] at h <;> try (cases h)
  split at h
  · split at h
    · rename_i a c d hN
      split at h
      · cases h
      · rename_i h0
        cases h
        have hle : (a : Int) ≤ n ∧ (c : Int) ≤ n ∧ (d : Int) ≤ 2147483648 := by
          simp only [numsL] at hN
          cases hx : numL s (n : Nat) with
          | none => rw [hx] at hN; cases hN
          | some a' =>
            cases hy : numL y (n : Nat) with
            | none => rw [hx, hy] at hN; cases hN
            | some b' =>
              cases hz : numL z 2147483648 with
              | none => rw [hx, hy, hz] at hN; cases hN
              | some c' =>
                rw [hx, hy, hz] at hN
                have := Option.some.inj hN
                injection this with q1 q2
                injection q2 with q2 q3
                injection q3 with q3 q4
                subst q1 q2 q3
                exact ⟨numL_le hx, numL_le hy, numL_le hz⟩
        simp only [badA, decide_eq_false_iff_not]
        omega
    · cases h
  · cases h
theorem takeL_good {s s' : Rst} {ws : List Tx} (h : s.good) (e : takeL s ws = some s') : s'.good := by
  refine ⟨takeL_ok h.1 e, ?_⟩
  rcases ws with _ | ⟨x, t⟩
  · cases e; exact h.2
  · simp only [takeL] at e
    split at e
    · cases e; exact h.2
    · split at e
      · cases hh : headL s.begun t with
        | none => rw [hh] at e; cases e
        | some p =>
          rw [hh] at e
          cases e
          have := h.1.2 (headL_le hh).1
          intro y hy
          simp only [this] at hy
          cases hy
      · split at e
        · cases hh : arcL s.n s.arcs s.begun s.many t with
          | none => rw [hh] at e; cases e
          | some p =>
            rw [hh] at e
            cases e
            intro y hy
            simp only [List.mem_append, List.mem_singleton] at hy
            rcases hy with hy | rfl
            · exact h.2 y hy
            · exact arcL_good hh
        · cases e
theorem goL_good {L : List Tx} : ∀ {s s' : Rst} {k j : Nat}, s.good → goL s k L = (j, some s') → s'.good := by
  induction L with
  | nil => intro s s' k j hs h; cases h; exact hs
  | cons l r ih =>
    intro s s' k j hs h
    unfold goL at h
    split at h
    · cases h
    · rename_i s2 e
      exact ih (takeL_good hs e) h
/-- What is read may be. -/
theorem parse_good (s : Tx) (n : Nat) (arcs : List Ar) (h : parseL s = .inr (n, arcs)) : checkL n arcs = 0 ∧ arcs.length ≤ 67108864 := by
  unfold parseL at h
  rcases hg : goL Rst.zero 1 (linesL s) with ⟨j, _ | st⟩
  · rw [hg] at h; cases h
  · rw [hg] at h
    simp only at h
    split at h
    · cases h
      have hG := goL_good (s := Rst.zero) ⟨⟨Rst.ok_zero, fun _ => rfl⟩, fun x hx => by cases hx⟩ hg
      have h1 := hG.1.1
      unfold Rst.ok at h1
      refine ⟨?_, by omega⟩
      unfold checkL
      rw [if_neg (by omega), if_neg (by omega), if_neg]
      intro q
      obtain ⟨x, hx, hb⟩ := List.any_eq_true.1 q
      rw [hG.2 x hx] at hb
      cases hb
    · cases h
end Go.Proofs.YtdjfmmfggkkbaaaDoor
