/- The document's line, whole. -/
import Derived.Test.YtdjfmmfggkkbaaaDoorGrM
namespace Go.Proofs.YtdjfmmfggkkbaaaDoor
open Go.RowKit Go.Shelf Grm

theorem words_mem (s x : Tx) (h : x ∈ wordsL s) : x.length ≤ s.length := cut_le 32 s x (List.mem_filter.1 h).1
theorem headL_len {b : Bool} {t : List Tx} (h : t.length ≠ 3) : headL b (t.take 4) = none := by
  rcases t with _ | ⟨_, _ | ⟨_, _ | ⟨_, _ | ⟨_, t⟩⟩⟩⟩ <;> simp_all [headL]
theorem arcL_len {n : Nat} {arcs : List Ar} {b : Bool} {many : Nat} {t : List Tx} (h : t.length ≠ 3) : arcL n arcs b many (t.take 4) = none := by
  rcases t with _ | ⟨_, _ | ⟨_, _ | ⟨_, _ | ⟨_, t⟩⟩⟩⟩ <;> simp_all [arcL]
theorem line_any {w : World} {K : Nat} {v : Value} {st : Rst} (s : Tx) (h9 : s.length ≤ 2000) (ha : AV w K v st.arcs) (hok : st.ok2) (hK : K ≤ w.heap.size) :
    Calls Tryd.prog 27 #[.agg (tC st v), txV s] w (LineP w K v (takeL st (five (cut 32 s)))) := by
  obtain ⟨ad, cc, rfl⟩ := ha.shape
  have hfv : five (cut 32 s) = (wordsL s).take 5 := rfl
  rw [hfv]
  have hwm := words_mem s
  have hwl : (wordsL s).length ≤ 2001 := Nat.le_trans (List.length_filter_le _ _) (cut_count2 32 s h9)
  rcases hws : wordsL s with _ | ⟨x, t⟩
  · exact line_nil s h9 ha hok hK hws
  · rw [hws] at hwm hwl
    have ht : t.length ≤ 2001 := by simp at hwl; omega
    rw [List.take_succ_cons]
    by_cases h1 : x = [99]
    · subst h1
      exact line_c s h9 ha hok hK t ht hws
    by_cases h2 : x = [112]
    · subst h2
      rw [show takeL st ([112] :: t.take 4) = (headL st.begun (t.take 4)).map (fun p => { st with n := p.1, begun := true, many := p.2 }) from rfl]
      by_cases h3 : t.length = 3
      · rcases t with _ | ⟨y, _ | ⟨z, _ | ⟨u, _ | _⟩⟩⟩ <;> simp at h3
        by_cases hy : y = spT
        · subst hy
          cases hb : st.begun with
          | true =>
            rw [show headL true ([spT, z, u].take 4) = none by simp [headL]]
            exact line_p_begun s h9 ha hok hK z u hb hws
          | false => exact line_p_good s h9 ha hok hK z u (Nat.le_trans (hwm z (by simp)) (by omega)) (Nat.le_trans (hwm u (by simp)) (by omega)) hb hws
        · rw [show headL st.begun ([y, z, u].take 4) = none by simp [headL, hy]]
          exact line_p_sp s h9 ha hok hK y z u (beq_eq_false_iff_ne.2 hy) hws
      · rw [headL_len h3]
        exact line_p_len s h9 ha hok hK t ht h3 hws
    by_cases h3 : x = [97]
    · subst h3
      rw [show takeL st ([97] :: t.take 4) = (arcL st.n st.arcs st.begun st.many (t.take 4)).map (fun a => { st with arcs := st.arcs ++ [a] }) from rfl]
      by_cases h4 : t.length = 3
      · rcases t with _ | ⟨y, _ | ⟨z, _ | ⟨u, _ | _⟩⟩⟩ <;> simp at h4
        cases hb : st.begun with
        | false =>
          rw [show arcL st.n st.arcs false st.many ([y, z, u].take 4) = none by simp [arcL]]
          exact line_a_begun s h9 ha hok hK y z u hb hws
        | true =>
          by_cases hm : (st.arcs.length : Int) < (st.many : Int)
          · have := line_a_good s h9 ha hok hK y z u (Nat.le_trans (hwm y (by simp)) (by omega)) (Nat.le_trans (hwm z (by simp)) (by omega)) (Nat.le_trans (hwm u (by simp)) (by omega)) hb hm hws
            rw [hb] at this
            exact this
          · have hq : st.arcs.length = st.many := by have := hok.1.2.2; omega
            rw [show arcL st.n st.arcs true st.many ([y, z, u].take 4) = none by simp [arcL, hq]]
            exact line_a_whole s h9 ha hok hK y z u hb hm hws
      · rw [arcL_len h4]
        exact line_a_len s h9 ha hok hK t ht h4 hws
    · rw [show takeL st (x :: t.take 4) = none by simp [takeL, h1, h2, h3]]
      exact line_odd s h9 ha hok hK x t ht (beq_eq_false_iff_ne.2 h1) (beq_eq_false_iff_ne.2 h2) (beq_eq_false_iff_ne.2 h3) hws
end Go.Proofs.YtdjfmmfggkkbaaaDoor
