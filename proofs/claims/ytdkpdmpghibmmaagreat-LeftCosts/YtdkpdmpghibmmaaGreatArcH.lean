/- The document's Check (written by mkgrpb.py). -/
import Derived.Test.YtdkpdmpghibmmaaGreatArcG
namespace Go.Proofs.YtdkpdmpghibmmaaGreat
open Go.RowKit Go.Shelf Grm

theorem check_ok {n : Int} {l : List Ar} (h : checkL n l = 0) : 0 ≤ n ∧ n ≤ 16777216 ∧ l.length ≤ 67108864 ∧ ∀ x ∈ l, badA n x = false := by
  unfold checkL at h
  split at h
  · cases h
  · split at h
    · cases h
    · split at h
      · cases h
      · rename_i h1 h2 h3
        refine ⟨by omega, by omega, by omega, fun x hx => ?_⟩
        cases hb : badA n x with
        | false => rfl
        | true => exact absurd (List.any_eq_true.2 ⟨x, hx, hb⟩) h3
set_option maxRecDepth 100000 in
set_option maxHeartbeats 4000000 in
theorem rcheck_any (n : Int) (a : Option Addr) (l : List Ar) (c : Nat) (w : World) (hl : Arcs w a l) :
    Calls Tryz.prog 64 #[mV n a l.length c] w fun e w' => e = .returned (.int .i64 (checkL n l)) ∧ Below w.heap.size w w' := by
  obtain ⟨w1, hw1⟩ : ∃ w1, w1 = w.alloc (.cells #[.int .i64 n, .slice a l.length c] 24) := ⟨_, rfl⟩
  have hb1 : Below w.heap.size w w1 := by rw [hw1]; exact (Below.refl _ _).alloc (Nat.le_refl _) _
  have hr1 : Row w1 w.heap.size 24 #[.int .i64 n, .slice a l.length c] := by rw [hw1]; exact Row.fresh w _ _
  have HW := Lib.hid hw1
  have HBz := Lib.hid hb1
  have HR1 := Lib.hid hr1
  have HL := Lib.hid (hl.under hb1)
  clear hl hb1 hw1
  have c0 := hr1.cell 0
  have c1 := hr1.cell 1
  simp only [List.getElem?_toArray, List.getElem?_cons_zero, List.getElem?_cons_succ] at c0 c1
  clear hr1
  obtain ⟨R, hR⟩ : ∃ R, R = checkL n l := ⟨_, rfl⟩
  rw [← hR]
  have HRr := Lib.hid hR
  clear hR
  by_cases b1 : 16777216 < n
  · go_enter Tryz.func64, Tryz.ntmps64
    go_wp2
    rw [← HW.out]
    go_ret
    exact ⟨by rw [HRr.out]; unfold checkL; rw [if_pos (.inl b1)]; rfl, HBz.out⟩
  by_cases b2 : (67108864 : Int) < (l.length : Int)
  · go_enter Tryz.func64, Tryz.ntmps64
    go_wp2
    rw [← HW.out]
    go_ret
    exact ⟨by rw [HRr.out]; unfold checkL; rw [if_pos (.inr (by omega))]; rfl, HBz.out⟩
  have HF := Lib.hid (show ¬ (16777216 < n ∨ 67108864 < l.length) by omega)
  by_cases b3 : n < 0
  · go_enter Tryz.func64, Tryz.ntmps64
    go_wp2
    rw [← HW.out]
    go_ret
    exact ⟨by rw [HRr.out]; unfold checkL; rw [if_neg HF.out, if_pos b3]; rfl, HBz.out⟩
  have HLe := Lib.hid (show R = if l.any (badA n) then 2 else 0 by rw [HRr.out]; unfold checkL; rw [if_neg HF.out, if_neg b3])
  have i2 : (l.length : Int) ≤ 67108864 := by omega
  have hn0 : 0 ≤ n := by omega
  clear HRr HF
  go_enter Tryz.func64, Tryz.ntmps64
  go_wp2
  rw [← HW.out]
  go_loopw [3] (fun i wr => ∃ k : Nat, k ≤ l.length ∧ i = .int .i64 k ∧ (l.take k).any (badA n) = false ∧ Below w1.heap.size w1 wr) (fun i _ => l.length - (intOf i).toNat)
  case atStart => exact ⟨0, by omega, rfl, by simp, Below.refl _ _⟩
  case round =>
    obtain ⟨k, hk, rfl, ht, hbw⟩ := hrel
    have HT := Lib.hid ht
    have HBw := Lib.hid hbw
    have hr1 := HR1.out.under hbw HR1.out.lt
    have hz1 : w1.heap.size ≤ wr.heap.size := hbw.size
    have d0 := hr1.cell 0
    have d1 := hr1.cell 1
    simp only [List.getElem?_toArray, List.getElem?_cons_zero, List.getElem?_cons_succ] at d0 d1
    have hz0 : w.heap.size < wr.heap.size := hr1.lt
    clear ht hbw hr1
    by_cases hlt : k < l.length
    · have hlt' : (k : Int) < (l.length : Int) := by omega
      obtain ⟨ba, oa, rfl, x0, x1, x2⟩ := (HL.out.under HBw.out).at_ hlt
      have HS := Lib.hid (show badA n (l[k]'hlt) = false → (l.take (k + 1)).any (badA n) = false by intro q; rw [List.take_succ_eq_append_getElem hlt, List.any_append, HT.out]; simp [q])
      have HS2 := Lib.hid (show badA n (l[k]'hlt) = true → R = 2 from fun q => by rw [HLe.out, if_pos (List.any_eq_true.2 ⟨_, List.getElem_mem hlt, q⟩)])
      generalize l[k]'hlt = p at *
      obtain ⟨p0, p1, p2⟩ := p
      simp only at x0 x1 x2
      by_cases b0 : p0 < 0
      · have HRr := Lib.hid (HS2.out (by simp only [badA, decide_eq_true_eq]; omega))
        go_wp2
        go_ret
        exact ⟨by rw [HRr.out]; rfl, HBz.out.trans ((HBw.out.alloc (hz1) _).mono HBz.out.size)⟩
      by_cases b1 : n ≤ p0
      · have HRr := Lib.hid (HS2.out (by simp only [badA, decide_eq_true_eq]; omega))
        go_wp2
        go_ret
        exact ⟨by rw [HRr.out]; rfl, HBz.out.trans ((HBw.out.alloc (hz1) _).mono HBz.out.size)⟩
      by_cases b2 : p1 < 0
      · have HRr := Lib.hid (HS2.out (by simp only [badA, decide_eq_true_eq]; omega))
        go_wp2
        go_ret
        exact ⟨by rw [HRr.out]; rfl, HBz.out.trans ((HBw.out.alloc (hz1) _).mono HBz.out.size)⟩
      by_cases b3 : n ≤ p1
      · have HRr := Lib.hid (HS2.out (by simp only [badA, decide_eq_true_eq]; omega))
        go_wp2
        go_ret
        exact ⟨by rw [HRr.out]; rfl, HBz.out.trans ((HBw.out.alloc (hz1) _).mono HBz.out.size)⟩
      by_cases b4 : p2 < 0
      · have HRr := Lib.hid (HS2.out (by simp only [badA, decide_eq_true_eq]; omega))
        go_wp2
        go_ret
        exact ⟨by rw [HRr.out]; rfl, HBz.out.trans ((HBw.out.alloc (hz1) _).mono HBz.out.size)⟩
      by_cases b5 : 2147483648 < p2
      · have HRr := Lib.hid (HS2.out (by simp only [badA, decide_eq_true_eq]; omega))
        go_wp2
        go_ret
        exact ⟨by rw [HRr.out]; rfl, HBz.out.trans ((HBw.out.alloc (hz1) _).mono HBz.out.size)⟩
      have HG := Lib.hid (HS.out (by simp only [badA, decide_eq_false_iff_not]; omega))
      clear hn0
      go_wp2
      exact ⟨⟨k + 1, by omega, by go_num, HG.out, (HBw.out.alloc (hz1) _)⟩, by simp [intOf]; omega⟩
    · obtain rfl : k = l.length := by omega
      have hlt' : ¬ (l.length : Int) < (l.length : Int) := by omega
      go_wp2
      go_ret
      exact ⟨by have := HT.out; rw [List.take_length] at this; rw [HLe.out, this]; rfl, HBz.out.trans (HBw.out.mono HBz.out.size)⟩
end Go.Proofs.YtdkpdmpghibmmaaGreat
