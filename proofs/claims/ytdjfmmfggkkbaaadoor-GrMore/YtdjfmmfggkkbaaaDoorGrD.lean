/- gr.Same. -/
import Derived.Test.YtdjfmmfggkkbaaaDoorGrC
namespace Go.Proofs.YtdjfmmfggkkbaaaDoor
open Go.RowKit Grm

abbrev mV (n : Int) (a : Option Addr) (k c : Nat) : Value := .agg #[.int .i64 n, .slice a k c]
set_option maxRecDepth 100000 in
theorem grsame_any (n1 n2 : Int) (a b : Option Addr) (l r : List Ar) (c d : Nat) (w : World) (hl : Arcs w a l) (hr : Arcs w b r) (h9 : l.length ≤ 140737488351232) (g9 : r.length ≤ 140737488351232) :
    Calls Tryd.prog 20 #[mV n1 a l.length c, mV n2 b r.length d] w fun e w' => e = .returned (.bool (decide (n1 = n2 ∧ l = r))) ∧ Below w.heap.size w w' := by
  obtain ⟨w1, hw1⟩ : ∃ w1, w1 = (w.alloc (.cells #[.int .i64 n1, .slice a l.length c] 25)).alloc (.cells #[.int .i64 n2, .slice b r.length d] 25) := ⟨_, rfl⟩
  have hb1 : Below w.heap.size w w1 := by rw [hw1]; exact ((Below.refl _ _).alloc (Nat.le_refl _) _).alloc (by simp) _
  by_cases hn : n1 = n2
  · subst hn
    have HE := Lib.hid (arcs_equal a b l r c d w1 (hl.under hb1) (hr.under hb1) h9 g9)
    have HB := Lib.hid hb1
    have HW := Lib.hid hw1
    simp only [true_and]
    obtain ⟨R, hR⟩ : ∃ R, R = decide (l = r) := ⟨_, rfl⟩
    rw [← hR] at HE ⊢
    clear hl hr h9 g9 hb1 hw1 hR
    go_enter Tryd.func20, Tryd.ntmps20
    go_wp2_with fail
    rw [← HW.out]
    refine HE.out.mono ?_
    rintro e w2 ⟨rfl, hb2⟩
    have HB2 := Lib.hid (HB.out.trans (hb2.mono HB.out.size))
    clear hb2
    go_wp2
    go_ret
    exact ⟨by simp, HB2.out⟩
  · have HB := Lib.hid hb1
    have HW := Lib.hid hw1
    simp only [hn, false_and, decide_false]
    clear hl hr h9 g9 hb1 hw1
    go_enter Tryd.func20, Tryd.ntmps20
    go_wp2_with fail
    rw [← HW.out]
    go_ret
    exact ⟨by simp, HB.out⟩
end Go.Proofs.YtdjfmmfggkkbaaaDoor
