/- gr.Check: the whole (written by mkgrf.py). -/
import Derived.Test.YtdkpdmpghibmmaaGreatArcF
namespace Go.Proofs.YtdkpdmpghibmmaaGreat
open Go.RowKit Go.Shelf Grm

theorem run_store_func (P : Program) (w : World) (a : Addr) (m : Mode) (f : Fn) (x y : Array Value) : (store a (.func f x y) m).run P w = stored P w a (.func f x y) m := run_store P w a _ m rfl
attribute [local go_sem] run_store_func

set_option maxRecDepth 100000 in
set_option maxHeartbeats 4000000 in
theorem index_any (n : Int) (a : Option Addr) (l : List Ar) (c bx bm : Nat) (w : World) (h0 : 0 ≤ n) (h1 : n ≤ 16777216) (hl : Arcs w a l) (h9 : l.length ≤ 67108864) (hx : w.cell? ⟨bx, 0, none⟩ = some (.func (.func 105) #[] #[])) (hm : w.cell? ⟨bm, 0, none⟩ = some (.int .i64 n)) :
    Calls Tryz.prog 130 #[.slice a l.length c, .func (.func 106) #[] #[ptr bx, ptr bm]] w fun e w' => (∃ z : Int, e = .returned (.int .i64 z) ∧ decide (0 ≤ z) = l.any (badA n)) ∧ Below w.heap.size w w' := by
  have HL := Lib.hid hl
  have HX := Lib.hid (And.intro hx hm)
  have HN := Lib.hid (And.intro h0 h1)
  have i1 : (l.length : Int) ≤ 67108864 := by omega
  clear hl hx hm h0 h1 h9
  go_enter Tryz.func130, Tryz.ntmps130
  go_wp2
  go_loopw [5, 8] (fun _ i wr => ∃ k : Nat, k ≤ l.length ∧ i = .int .i64 k ∧ (l.take k).any (badA n) = false ∧ Below w.heap.size w wr) (fun _ i _ => l.length - (intOf i).toNat)
  case atStart => exact ⟨0, by omega, rfl, by simp, Below.refl _ _⟩
  case round =>
    obtain ⟨k, hk, rfl, ht, hbw⟩ := hrel
    have HT := Lib.hid ht
    have HB := Lib.hid hbw
    clear ht hbw
    by_cases hlt : k < l.length
    · have hlt' : (k : Int) < (l.length : Int) := by omega
      obtain ⟨ba, oa, rfl, x0, x1, x2⟩ := (HL.out.under HB.out).at_ hlt
      have HS := Lib.hid (show (l.take (k + 1)).any (badA n) = badA n (l[k]'hlt) by rw [List.take_succ_eq_append_getElem hlt, List.any_append, HT.out]; simp)
      have HS2 := Lib.hid (show badA n (l[k]'hlt) = true → l.any (badA n) = true from fun q => List.any_eq_true.2 ⟨_, List.getElem_mem hlt, q⟩)
      generalize l[k]'hlt = p at *
      obtain ⟨p0, p1, p2⟩ := p
      simp only at x0 x1 x2
      have HC := Lib.hid (wrong_any n p0 p1 p2 bx bm wr HN.out.1 HN.out.2 ((HB.out.cell (p := ⟨bx, 0, none⟩) (block_lt_of_cell HX.out.1)).trans HX.out.1) ((HB.out.cell (p := ⟨bm, 0, none⟩) (block_lt_of_cell HX.out.2)).trans HX.out.2))
      generalize badA n (p0, p1, p2) = R at *
      cases R with
      | true =>
        go_wp2_with fail
        refine HC.out.mono ?_
        rintro e w2 ⟨rfl, hb2⟩
        have HB2 := Lib.hid (HB.out.trans (hb2.mono HB.out.size))
        clear hb2
        go_wp2
        go_ret
        exact ⟨⟨_, rfl, by rw [HS2.out trivial]; exact decide_eq_true (by omega)⟩, HB2.out⟩
      | false =>
        go_wp2_with fail
        refine HC.out.mono ?_
        rintro e w2 ⟨rfl, hb2⟩
        have HB2 := Lib.hid (HB.out.trans (hb2.mono HB.out.size))
        clear hb2
        go_wp2
        exact ⟨⟨k + 1, by omega, by go_num, HS.out, HB2.out⟩, by simp [intOf]; omega⟩
    · obtain rfl : k = l.length := by omega
      have hlt' : ¬ (l.length : Int) < (l.length : Int) := by omega
      go_wp2
      go_ret
      exact ⟨⟨_, rfl, by have := HT.out; rw [List.take_length] at this; rw [this]; rfl⟩, HB.out⟩
set_option maxRecDepth 100000 in
set_option maxHeartbeats 4000000 in
theorem contains_any (n : Int) (a : Option Addr) (l : List Ar) (c bx bm : Nat) (w : World) (h0 : 0 ≤ n) (h1 : n ≤ 16777216) (hl : Arcs w a l) (h9 : l.length ≤ 67108864) (hx : w.cell? ⟨bx, 0, none⟩ = some (.func (.func 105) #[] #[])) (hm : w.cell? ⟨bm, 0, none⟩ = some (.int .i64 n)) :
    Calls Tryz.prog 107 #[.slice a l.length c, .func (.func 106) #[] #[ptr bx, ptr bm]] w fun e w' => e = .returned (.bool (l.any (badA n))) ∧ Below w.heap.size w w' := by
  have HC := Lib.hid (index_any n a l c bx bm w h0 h1 hl h9 hx hm)
  clear h0 h1 hl h9 hx hm
  generalize l.any (badA n) = R at *
  go_enter Tryz.func107, Tryz.ntmps107
  go_wp2_with fail
  refine HC.out.mono ?_
  rintro e w2 ⟨⟨z, rfl, hz⟩, hb2⟩
  have HB2 := Lib.hid hb2
  have HZ := Lib.hid hz
  clear hb2 hz
  go_wp2
  go_ret
  exact ⟨by rw [← HZ.out]; rfl, HB2.out⟩
set_option maxRecDepth 100000 in
set_option maxHeartbeats 4000000 in
/-- gr.Check. -/
theorem check_any (n : Int) (a : Option Addr) (l : List Ar) (c : Nat) (w : World) (hl : Arcs w a l) :
    Calls Tryz.prog 57 #[mV n a l.length c] w fun e w' => e = .returned (.int .i64 (checkL n l)) ∧ Below w.heap.size w w' := by
  obtain ⟨w1, hw1⟩ : ∃ w1, w1 = w.alloc (.cells #[.int .i64 n, .slice a l.length c] 24) := ⟨_, rfl⟩
  have hb1 : Below w.heap.size w w1 := by rw [hw1]; exact (Below.refl _ _).alloc (Nat.le_refl _) _
  have hr1 : Row w1 w.heap.size 24 #[.int .i64 n, .slice a l.length c] := by rw [hw1]; exact Row.fresh w _ _
  have HW := Lib.hid hw1
  have HB1 := Lib.hid hb1
  have HR1 := Lib.hid hr1
  have HL := Lib.hid (hl.under hb1)
  clear hl hb1 hw1
  have c0 := hr1.cell 0
  have c1 := hr1.cell 1
  simp only [List.getElem?_toArray, List.getElem?_cons_zero, List.getElem?_cons_succ] at c0 c1
  clear hr1
  obtain ⟨R, hR⟩ : ∃ R, R = checkL n l := ⟨_, rfl⟩
  rw [← hR]
  have HRr := Lib.hid hR
  clear hR
  by_cases b1 : 16777216 < n
  · go_enter Tryz.func57, Tryz.ntmps57
    go_wp2
    rw [← HW.out]
    go_ret
    exact ⟨by rw [HRr.out]; unfold checkL; rw [if_pos (.inl b1)]; rfl, HB1.out⟩
  by_cases b2 : (67108864 : Int) < (l.length : Int)
  · go_enter Tryz.func57, Tryz.ntmps57
    go_wp2
    rw [← HW.out]
    go_ret
    exact ⟨by rw [HRr.out]; unfold checkL; rw [if_pos (.inr (by omega))]; rfl, HB1.out⟩
  have HF := Lib.hid (show ¬ (16777216 < n ∨ 67108864 < l.length) by omega)
  by_cases b3 : n < 0
  · go_enter Tryz.func57, Tryz.ntmps57
    go_wp2
    rw [← HW.out]
    go_ret
    exact ⟨by rw [HRr.out]; unfold checkL; rw [if_neg HF.out, if_pos b3]; rfl, HB1.out⟩
  obtain ⟨w2, hw2⟩ : ∃ w2, w2 = (w.alloc (.cells #[.int .i64 n, .slice a l.length c] 24)).alloc (.cells #[.func (.func 105) #[] #[]] 144) := ⟨_, rfl⟩
  have hbx : Row w2 (w.heap.size + 1) 144 #[.func (.func 105) #[] #[]] := by
    rw [hw2]
    have := Row.fresh (w.alloc (.cells #[.int .i64 n, .slice a l.length c] 24)) 144 #[.func (.func 105) #[] #[]]
    rwa [World.size_alloc] at this
  have hb3 : Below w1.heap.size w1 w2 := by rw [hw2, ← HW.out]; exact (Below.refl _ _).alloc (Nat.le_refl _) _
  have hr3 := HR1.out.under hb3 HR1.out.lt
  have c3 := hr3.cell 0
  have HC := Lib.hid (contains_any n a l c (w.heap.size + 1) w.heap.size _ (by omega) (by omega) (HL.out.under hb3) (by omega) (hbx.cell 0) c3)
  have HB2 := Lib.hid (HB1.out.trans (hb3.mono HB1.out.size))
  have HW2 := Lib.hid hw2
  have HLe := Lib.hid (show R = if l.any (badA n) then 2 else 0 by rw [HRr.out]; unfold checkL; rw [if_neg HF.out, if_neg b3])
  clear hbx hb3 hr3 c3 hw2
  generalize l.any (badA n) = B at *
  go_enter Tryz.func57, Tryz.ntmps57
  go_wp2_with fail
  rw [← HW2.out]
  refine HC.out.mono ?_
  rintro e w3 ⟨rfl, hb4⟩
  have HB4 := Lib.hid (HB2.out.trans (hb4.mono HB2.out.size))
  clear hb4
  cases B
  all_goals
    go_wp2
    go_ret
    exact ⟨by rw [HLe.out]; rfl, HB4.out⟩
end Go.Proofs.YtdkpdmpghibmmaaGreat
