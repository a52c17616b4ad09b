/- What the chapter's example fixes; the document's Same. -/
import Derived.Test.YtdjfmmfggkkbaaaDoorGrY
namespace Go.Proofs.YtdjfmmfggkkbaaaDoor
open Go.RowKit Go.Shelf Grm

def exT : Tx := [112, 32, 115, 112, 32, 50, 32, 49, 10, 97, 32, 49, 32, 50, 32, 55, 10]
theorem ex_parse : parseL exT = .inr (2, [(0, 1, 7)]) := by kernel_rfl
set_option maxRecDepth 100000 in
set_option maxHeartbeats 2000000 in
theorem known_any (w : World) : Calls Tryd.prog 10 #[] w fun e w' => e = .returned (.bool true) ∧ Below w.heap.size w w' := by
  have HP := Lib.hid (parse_any exT (by decide) w)
  rw [ex_parse] at HP
  go_enter Tryd.func10, Tryd.ntmps10
  go_wp2_with fail
  refine HP.out.mono ?_
  rintro e w1 ⟨hb1, (⟨_, q, _⟩ | ⟨n, arcs, v, q, rfl, hav⟩)⟩
  · cases q
  · cases q
    obtain ⟨ad, cc, rfl⟩ := hav.shape
    have hA := hav.arcs
    have hb2 := Row.fresh w1 25 #[.int .i64 2, .slice ad 1 cc]
    have hnew : Arcs ((w1.alloc (.cells #[.int .i64 2, .slice ad 1 cc] 25)).alloc (.cells #[.int .i64 0, .int .i64 1, .int .i64 7] 50)) (some ⟨w1.heap.size + 1, 0, none⟩) [(0, 1, 7)] := by
      have h3 := Row.fresh (w1.alloc (.cells #[.int .i64 2, .slice ad 1 cc] 25)) 50 #[.int .i64 0, .int .i64 1, .int .i64 7]
      rw [World.size_alloc] at h3
      refine .inr ⟨_, 0, rfl, fun i y hy => ?_⟩
      match i, hy with
      | 0, hy => cases hy; exact ⟨h3.cell 0, h3.cell 1, h3.cell 2⟩
      | i + 1, hy => simp at hy
    have hbb : Below w1.heap.size w1 ((w1.alloc (.cells #[.int .i64 2, .slice ad 1 cc] 25)).alloc (.cells #[.int .i64 0, .int .i64 1, .int .i64 7] 50)) := ((Below.refl _ _).alloc (Nat.le_refl _) _).alloc (by simp) _
    have HS := Lib.hid (grsame_any 2 2 ad (some ⟨w1.heap.size + 1, 0, none⟩) [(0, 1, 7)] [(0, 1, 7)] cc 1 _ (hA.under hbb) hnew (by decide) (by decide))
    simp only [and_self, decide_true] at HS
    have HB := Lib.hid (hb1.trans (hbb.mono hb1.size))
    have HR := Lib.hid (hb2.past (.cells #[.int .i64 0, .int .i64 1, .int .i64 7] 50))
    have c0 := hb2.cell 0
    have c1 := hb2.cell 1
    simp only [List.getElem?_toArray, List.getElem?_cons_zero, List.getElem?_cons_succ] at c0 c1
    clear hb1 hav hA hb2 hnew hbb
    go_wp2_with fail
    refine HS.out.mono ?_
    rintro e w3 ⟨rfl, hb3⟩
    have hR3 := HR.out.under hb3 HR.out.lt
    have d0 := hR3.cell 0
    have d1 := hR3.cell 1
    simp only [List.getElem?_toArray, List.getElem?_cons_zero, List.getElem?_cons_succ] at d0 d1
    have HB3 := Lib.hid (HB.out.trans (hb3.mono HB.out.size))
    clear hb3 hR3
    go_wp2
    go_ret
    exact ⟨rfl, HB3.out⟩
set_option maxRecDepth 100000 in
set_option maxHeartbeats 2000000 in
theorem rsame_any (n1 n2 : Int) (a b : Option Addr) (l r : List Ar) (c d : Nat) (w : World) (hl : Arcs w a l) (hr : Arcs w b r) (h9 : l.length ≤ 140737488351232) (g9 : r.length ≤ 140737488351232) :
    Calls Tryd.prog 13 #[mV n1 a l.length c, mV n2 b r.length d] w fun e w' => e = .returned (.bool (decide (n1 = n2 ∧ l = r))) ∧ Below w.heap.size w w' := by
  obtain ⟨R, hR⟩ : ∃ R, R = decide (n1 = n2 ∧ l = r) := ⟨_, rfl⟩
  rw [← hR]
  obtain ⟨w1, hw1⟩ : ∃ w1, w1 = (w.alloc (.cells #[.int .i64 n1, .slice a l.length c] 25)).alloc (.cells #[.int .i64 n2, .slice b r.length d] 25) := ⟨_, rfl⟩
  have hb1 : Below w.heap.size w w1 := by rw [hw1]; exact ((Below.refl _ _).alloc (Nat.le_refl _) _).alloc (by simp) _
  have hr1 : Row w1 w.heap.size 25 #[.int .i64 n1, .slice a l.length c] := by rw [hw1]; exact (Row.fresh w _ _).past _
  have hr2 : Row w1 (w.heap.size + 1) 25 #[.int .i64 n2, .slice b r.length d] := by
    rw [hw1]
    have := Row.fresh (w.alloc (.cells #[.int .i64 n1, .slice a l.length c] 25)) 25 #[.int .i64 n2, .slice b r.length d]
    rwa [World.size_alloc] at this
  have HL := Lib.hid (hl.under hb1)
  have HR := Lib.hid (hr.under hb1)
  have i1 : (l.length : Int) ≤ 140737488351232 := by omega
  have i2 : (r.length : Int) ≤ 140737488351232 := by omega
  have HRr := Lib.hid hR
  have HB := Lib.hid hb1
  have HW := Lib.hid hw1
  have H1 := Lib.hid hr1
  have H2 := Lib.hid hr2
  clear hl hr h9 g9 hR hb1 hw1
  have c0 := hr1.cell 0
  have c1 := hr1.cell 1
  have e0 := hr2.cell 0
  have e1 := hr2.cell 1
  simp only [List.getElem?_toArray, List.getElem?_cons_zero, List.getElem?_cons_succ] at c0 c1 e0 e1
  clear hr1 hr2
  by_cases hn : n1 = n2
  · subst hn
    by_cases hlen : l.length = r.length
    · rw [← hlen]
      rw [← hlen] at e1
      have HE := Lib.hid hlen
      rw [← hlen] at HW
      clear hlen
      go_enter Tryd.func13, Tryd.ntmps13
      go_wp2
      rw [← HW.out]
      go_loopw [5] (fun i wr => ∃ k : Nat, k ≤ l.length ∧ i = .int .i64 k ∧ l.take k = r.take k ∧ Below w1.heap.size w1 wr) (fun i _ => l.length - (intOf i).toNat)
      case atStart => exact ⟨0, by omega, rfl, by simp, Below.refl _ _⟩
      case round =>
        obtain ⟨k, hk, rfl, ht, hbw⟩ := hrel
        have HT := Lib.hid ht
        have HBw := Lib.hid hbw
        have f0 := (hbw.cell (p := ⟨w.heap.size, 1, none⟩) H1.out.lt).trans c1
        have f1 := (hbw.cell (p := ⟨w.heap.size + 1, 1, none⟩) H2.out.lt).trans e1
        clear ht hbw
        by_cases hlt : k < l.length
        · have hlt' : (k : Int) < (l.length : Int) := by omega
          have hlr : k < r.length := by have := HE.out; omega
          obtain ⟨ba, oa, rfl, x0, x1, x2⟩ := (HL.out.under HBw.out).at_ hlt
          obtain ⟨bb, ob, rfl, y0, y1, y2⟩ := (HR.out.under HBw.out).at_ hlr
          have HS := Lib.hid (take_eq_succ hlt hlr HT.out)
          have HN := Lib.hid (show l[k]'hlt ≠ r[k]'hlr → R = false from fun q => by
            rw [HRr.out]
            exact decide_eq_false fun e => q (by obtain ⟨_, e⟩ := e; subst e; rfl))
          generalize l[k]'hlt = p at *
          generalize r[k]'hlr = q at *
          obtain ⟨p0, p1, p2⟩ := p
          obtain ⟨q0, q1, q2⟩ := q
          simp only at x0 x1 x2 y0 y1 y2
          clear hlr
          by_cases hpq : p0 = q0 ∧ p1 = q1 ∧ p2 = q2
          · obtain ⟨rfl, rfl, rfl⟩ := hpq
            go_upto_region 6 with (fail)
            go_quiet (fail)
            go_wp2
            exact ⟨⟨k + 1, by omega, by go_num, HS.out rfl, below_dN HBw.out _⟩, by simp [intOf]; omega⟩
          · have hf := HN.out (fun e => hpq (by injection e with e0 e1; injection e1 with e1 e2; exact ⟨e0, e1, e2⟩))
            have HFl := Lib.hid hf
            clear hf
            have HBx := Lib.hid (HB.out.trans ((below_dN HBw.out 1).mono HB.out.size))
            by_cases e0' : p0 = q0
            · subst e0'
              by_cases e1' : p1 = q1
              · subst e1'
                have e2' : ¬ p2 = q2 := fun e => hpq ⟨rfl, rfl, e⟩
                clear hpq
                go_upto_region 6 with (fail)
                go_quiet (fail)
                go_wp2
                go_ret
                exact ⟨by simp [HFl.out], HB.out.trans ((below_dN HBw.out _).mono HB.out.size)⟩
              · clear hpq
                go_upto_region 6 with (fail)
                go_quiet (fail)
                go_wp2
                go_ret
                exact ⟨by simp [HFl.out], HB.out.trans ((below_dN HBw.out _).mono HB.out.size)⟩
            · clear hpq
              go_upto_region 6 with (fail)
              go_quiet (fail)
              go_wp2
              go_ret
              exact ⟨by simp [HFl.out], HB.out.trans ((below_dN HBw.out _).mono HB.out.size)⟩
        · obtain rfl : k = l.length := by omega
          have hlt' : ¬ (l.length : Int) < (l.length : Int) := by omega
          have hR : R = true := by
            rw [HRr.out]
            have := HT.out
            rw [List.take_length, HE.out, List.take_length] at this
            exact decide_eq_true ⟨trivial, this⟩
          have HF1 := Lib.hid hR
          clear hR
          go_wp2
          go_ret
          exact ⟨by simp [HF1.out], HB.out.trans (HBw.out.mono HB.out.size)⟩
    · have hR : R = false := by
        rw [HRr.out]
        exact decide_eq_false fun e => hlen (by rw [e.2])
      have hl2 : ¬ (l.length : Int) = (r.length : Int) := by omega
      have HF1 := Lib.hid hR
      clear hR hlen
      go_enter Tryd.func13, Tryd.ntmps13
      go_wp2
      rw [← HW.out]
      go_ret
      exact ⟨by simp [HF1.out], HB.out⟩
  · have hR : R = false := by
      rw [HRr.out]
      exact decide_eq_false fun e => hn e.1
    have HF1 := Lib.hid hR
    clear hR
    go_enter Tryd.func13, Tryd.ntmps13
    go_wp2
    rw [← HW.out]
    go_ret
    exact ⟨by simp [HF1.out], HB.out⟩
end Go.Proofs.YtdjfmmfggkkbaaaDoor
