/- gr.Check (written by mkgrf.py). -/
import Derived.Test.YtdkpdmpghibmmaaGreatArcA
namespace Go.Proofs.YtdkpdmpghibmmaaGreat
open Go.RowKit Go.Shelf Grm

/-- An arc that may not be. -/
def badA (n : Int) (x : Ar) : Bool := decide (x.1 < 0 ∨ n ≤ x.1 ∨ x.2.1 < 0 ∨ n ≤ x.2.1 ∨ x.2.2 < 0 ∨ 2147483648 < x.2.2)
def checkL (n : Int) (l : List Ar) : Int := if 16777216 < n ∨ 67108864 < l.length then 3 else if n < 0 then 2 else if l.any (badA n) then 2 else 0
set_option maxRecDepth 100000 in
set_option maxHeartbeats 4000000 in
theorem wrong_any (n x0 x1 x2 : Int) (bx bm : Nat) (w : World) (h0 : 0 ≤ n) (h1 : n ≤ 16777216) (hx : w.cell? ⟨bx, 0, none⟩ = some (.func (.func 105) #[] #[])) (hm : w.cell? ⟨bm, 0, none⟩ = some (.int .i64 n)) :
    Calls Tryz.prog 106 #[.agg #[.int .i64 x0, .int .i64 x1, .int .i64 x2], ptr bx, ptr bm] w fun e w' => e = .returned (.bool (badA n (x0, x1, x2))) ∧ Below w.heap.size w w' := by
  obtain ⟨R, hR⟩ : ∃ R, R = badA n (x0, x1, x2) := ⟨_, rfl⟩
  rw [← hR]
  have HRr := Lib.hid hR
  have HB := Lib.hid ((Below.refl w.heap.size w).alloc (Nat.le_refl _) (.cells #[.int .i64 x0, .int .i64 x1, .int .i64 x2] 88))
  have hbx := block_lt_of_cell hx
  have hbm := block_lt_of_cell hm
  have hx' : (w.alloc (.cells #[.int .i64 x0, .int .i64 x1, .int .i64 x2] 88)).cell? ⟨bx, 0, none⟩ = some (.func (.func 105) #[] #[]) := (World.cell?_alloc_lt _ _ _ hbx).trans hx
  have hm' : (w.alloc (.cells #[.int .i64 x0, .int .i64 x1, .int .i64 x2] 88)).cell? ⟨bm, 0, none⟩ = some (.int .i64 n) := (World.cell?_alloc_lt _ _ _ hbm).trans hm
  clear hR hbx hbm
  by_cases g1 : 0 ≤ x0
  · skip
    by_cases g2 : x0 ≤ n - 1
    · skip
      by_cases g3 : 0 ≤ x1
      · skip
        by_cases g4 : x1 ≤ n - 1
        · skip
          by_cases g5 : 0 ≤ x2
          · skip
            by_cases g6 : x2 ≤ 2147483648
            · skip
              go_enter Tryz.func106, Tryz.ntmps106
              go_wp2
              go_ret
              exact ⟨by rw [HRr.out]; simp [badA]; omega, HB.out⟩
            · skip
              go_enter Tryz.func106, Tryz.ntmps106
              go_wp2
              go_ret
              exact ⟨by rw [HRr.out]; simp [badA]; omega, HB.out⟩
          · skip
            go_enter Tryz.func106, Tryz.ntmps106
            go_wp2
            go_ret
            exact ⟨by rw [HRr.out]; simp [badA]; omega, HB.out⟩
        · skip
          go_enter Tryz.func106, Tryz.ntmps106
          go_wp2
          go_ret
          exact ⟨by rw [HRr.out]; simp [badA]; omega, HB.out⟩
      · skip
        go_enter Tryz.func106, Tryz.ntmps106
        go_wp2
        go_ret
        exact ⟨by rw [HRr.out]; simp [badA]; omega, HB.out⟩
    · skip
      go_enter Tryz.func106, Tryz.ntmps106
      go_wp2
      go_ret
      exact ⟨by rw [HRr.out]; simp [badA]; omega, HB.out⟩
  · skip
    go_enter Tryz.func106, Tryz.ntmps106
    go_wp2
    go_ret
    exact ⟨by rw [HRr.out]; simp [badA]; omega, HB.out⟩
end Go.Proofs.YtdkpdmpghibmmaaGreat
