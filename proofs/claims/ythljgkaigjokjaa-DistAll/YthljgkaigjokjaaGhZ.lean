/- What the chapter's example fixes (known); how a graph is carried through a law. -/
import Derived.Test.YthljgkaigjokjaaGhY
namespace Go.Proofs.Ythljgkaigjokjaa
open Go.RowKit Go.Shelf Grm Lay

theorem EV.shape {w : World} {K : Nat} {v : Value} {l : List Ed} (h : EV w K v l) : ∃ a c, v = .slice a l.length c ∧ Es w a l ∧ l.length ≤ c ∧ ∀ b o, a = some ⟨b, o, none⟩ → K ≤ b := by
  obtain ⟨a, c, rfl, hc, _⟩ := owns_shape h
  exact ⟨a, c, rfl, Es.of h, hc, fun b o e => (owns_lt h b (by rw [e]; rfl)).1⟩
/-- Arcs that a block holds from its begin on. -/
theorem Arcs.of_row {w : World} {g : Nat} {t : TypeId} {l : List Ar} {cs : Array Value} (h : Row w g t cs) (hc : ∀ (j : Nat) (u : Value), (acells l)[j]? = some u → cs[j]? = some u) : Arcs w (some ⟨g, 0, none⟩) l := by
  refine .inr ⟨g, 0, rfl, fun i y hi => ?_⟩
  obtain ⟨hlt, rfl⟩ := List.getElem?_eq_some_iff.1 hi
  obtain ⟨q0, q1, q2⟩ := acells_get l i hlt
  rw [Nat.zero_add, h.cell, h.cell, h.cell]
  exact ⟨hc _ _ q0, hc _ _ q1, hc _ _ q2⟩
theorem Es.of_row {w : World} {g : Nat} {t : TypeId} {l : List Ed} {cs : Array Value} (h : Row w g t cs) (hc : ∀ (j : Nat) (u : Value), (ecells l)[j]? = some u → cs[j]? = some u) : Es w (some ⟨g, 0, none⟩) l := by
  refine .inr ⟨g, 0, rfl, fun i y hi => ?_⟩
  obtain ⟨hlt, rfl⟩ := List.getElem?_eq_some_iff.1 hi
  obtain ⟨q0, q1, q2⟩ := ecells_get l i hlt
  rw [Nat.zero_add, h.cell, h.cell, h.cell]
  exact ⟨hc _ _ q0, hc _ _ q1, hc _ _ q2⟩
def kL : List Ar := [(0, 1, 5), (0, 1, 3), (1, 1, 0)]
theorem kL_check : checkL 2 kL = 0 := by decide
theorem kL_out0 : outI 2 kL 0 = [(1, 3, 1)] := by decide
theorem kL_out1 : outI 2 kL 1 = [] := by decide
set_option maxRecDepth 100000 in
set_option maxHeartbeats 1000000 in
theorem known_any (w : World) : Calls Try.prog 17 #[] w fun e w' => e = .returned (.bool true) ∧ Below w.heap.size w w' := by
  obtain ⟨w1, hw1⟩ : ∃ w1, w1 = w.alloc (.cells #[.int .i64 0, .int .i64 1, .int .i64 5, .int .i64 0, .int .i64 1, .int .i64 3, .int .i64 1, .int .i64 1, .int .i64 0] 33) := ⟨_, rfl⟩
  have hb1 : Below w.heap.size w w1 := by rw [hw1]; exact (Below.refl _ _).alloc (Nat.le_refl _) _
  have hA : Arcs w1 (some ⟨w.heap.size, 0, none⟩) kL := Arcs.of_row (t := 33) (cs := #[.int .i64 0, .int .i64 1, .int .i64 5, .int .i64 0, .int .i64 1, .int .i64 3, .int .i64 1, .int .i64 1, .int .i64 0]) (by rw [hw1]; exact Row.fresh w _ _) (fun j u h => by simpa [kL, acells] using h)
  have HW := Lib.hid hw1
  have HB := Lib.hid hb1
  have HN := Lib.hid (new_any (n := 2) (c := 3) hA kL_check)
  clear hw1 hb1 hA
  go_enter Try.func17, Try.ntmps17
  go_wp2_with (first
    | (go_at_call 18; rw [← HW.out]; refine HN.out.mono ?_; rintro e w2 ⟨g, rfl, hb2, hg⟩; have HG := Lib.hid (And.intro hb2 hg); clear hb2 hg))
  refine (out_any HG.out.2 0).mono ?_
  rintro e w3 ⟨hb3, x, rfl, hx⟩
  rw [kL_out0] at hx
  obtain ⟨a3, c3, rfl, hE3, _, _⟩ := EV.shape hx
  obtain ⟨w4, hw4⟩ : ∃ w4, w4 = w3.alloc (.cells #[.int .i64 1, .int .i64 3, .int .i64 1] 37) := ⟨_, rfl⟩
  have hb4 : Below w3.heap.size w3 w4 := by rw [hw4]; exact (Below.refl _ _).alloc (Nat.le_refl _) _
  have hE4 : Es w4 (some ⟨w3.heap.size, 0, none⟩) [(1, 3, 1)] := Es.of_row (t := 37) (cs := #[.int .i64 1, .int .i64 3, .int .i64 1]) (by rw [hw4]; exact Row.fresh w3 _ _) (fun j u h => by simpa [ecells] using h)
  have HS := Lib.hid (sameedges_any a3 (some ⟨w3.heap.size, 0, none⟩) [(1, 3, 1)] [(1, 3, 1)] c3 1 w4 (hE3.under hb4) hE4 (by simp))
  have H4 := Lib.hid (And.intro ((HB.out.trans (HG.out.1.mono HB.out.size)).trans ((hb3.trans (hb4.mono hb3.size)).mono (Nat.le_trans HB.out.size HG.out.1.size))) ((HG.out.2.under hb3).under hb4))
  have HW4 := Lib.hid hw4
  clear hx hE3 hE4 hb3 hb4 hw4
  go_wp2_with fail
  rw [← HW4.out]
  refine HS.out.mono ?_
  rintro e w5 ⟨rfl, hb5⟩
  have H5 := Lib.hid (And.intro (H4.out.1.trans (hb5.mono H4.out.1.size)) (H4.out.2.under hb5))
  clear hb5
  go_wp2_with fail
  refine (out_any H5.out.2 1).mono ?_
  rintro e w6 ⟨hb6, x6, rfl, hx6⟩
  rw [kL_out1] at hx6
  obtain ⟨a6, c6, rfl, _, _, _⟩ := EV.shape hx6
  have H6 := Lib.hid (H5.out.1.trans (hb6.mono H5.out.1.size))
  clear hb6 hx6
  go_wp2_with fail
  refine (n_nil _).mono ?_
  rintro e w7 ⟨rfl, hw7⟩
  subst w7
  go_wp2
  go_ret
  exact ⟨rfl, H6.out⟩
end Go.Proofs.Ythljgkaigjokjaa
