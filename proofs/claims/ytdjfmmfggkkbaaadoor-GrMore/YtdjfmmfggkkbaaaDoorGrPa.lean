/- gr.Print. -/
import Derived.Test.YtdjfmmfggkkbaaaDoorGrQ
import Derived.Test.YtdjfmmfggkkbaaaDoorGrH
namespace Go.Proofs.YtdjfmmfggkkbaaaDoor
open Go.RowKit Go.Shelf Grm

def headT2 (n : Int) (l : List Ar) : Tx := [112, 32, 115, 112] ++ nsT [n.toNat, l.length] ++ [10]
def lineT (x : Ar) : Tx := [97] ++ nsT [(x.1 + 1).toNat, (x.2.1 + 1).toNat, x.2.2.toNat] ++ [10]
def linesT (l : List Ar) : Tx := l.flatMap lineT
/-- A map's text. -/
def printL (n : Int) (l : List Ar) : Tx := headT2 n l ++ linesT l
theorem linesT_take {l : List Ar} {k : Nat} (h : k < l.length) : linesT (l.take (k + 1)) = linesT (l.take k) ++ lineT (l[k]'h) := by
  unfold linesT
  rw [List.take_succ_eq_append_getElem h, List.flatMap_append]
  simp
theorem lineT_len {n : Int} {x : Ar} (hn : n ≤ 16777216) (h : badA n x = false) : (lineT x).length ≤ 62 := by
  simp only [badA, decide_eq_false_iff_not] at h
  have := nsT_len (ns := [(x.1 + 1).toNat, (x.2.1 + 1).toNat, x.2.2.toNat]) (fun m hm => by
    simp only [List.mem_cons, List.not_mem_nil, or_false] at hm
    rcases hm with rfl | rfl | rfl <;> omega)
  simp only [lineT, List.length_append, List.length_cons, List.length_nil] at *
  omega
theorem linesT_len {n : Int} {l : List Ar} (hn : n ≤ 16777216) (h : ∀ x ∈ l, badA n x = false) : (linesT l).length ≤ l.length * 62 := by
  induction l with
  | nil => simp [linesT]
  | cons a t ih =>
    have h1 := lineT_len hn (h a (by simp))
    have h2 := ih (fun n hn => h n (by simp [hn]))
    simp only [linesT, List.flatMap_cons, List.length_append, List.length_cons] at *
    omega
theorem headT2_len {n : Int} {l : List Ar} (h0 : 0 ≤ n) (hn : n ≤ 16777216) (hl : l.length ≤ 67108864) : (headT2 n l).length ≤ 45 := by
  have := nsT_len (ns := [n.toNat, l.length]) (fun m hm => by
    simp only [List.mem_cons, List.not_mem_nil, or_false] at hm
    rcases hm with rfl | rfl <;> omega)
  simp only [headT2, List.length_append, List.length_cons, List.length_nil] at *
  omega
theorem check_ok {n : Int} {l : List Ar} (h : checkL n l = 0) : 0 ≤ n ∧ n ≤ 16777216 ∧ l.length ≤ 67108864 ∧ ∀ x ∈ l, badA n x = false := by
  unfold checkL at h
  split at h
  · cases h
  · split at h
    · cases h
    · split at h
      · cases h
      · rename_i h1 h2 h3
        refine ⟨by omega, by omega, by omega, fun x hx => ?_⟩
        cases hb : badA n x with
        | false => rfl
        | true => exact absurd (List.any_eq_true.2 ⟨x, hx, hb⟩) h3
set_option maxHeartbeats 4000000 in
set_option maxRecDepth 100000 in
theorem print_bad (n : Int) (a : Option Addr) (l : List Ar) (c : Nat) (w : World) (hl : Arcs w a l) (hc : checkL n l ≠ 0) :
    Calls Tryd.prog 14 #[mV n a l.length c] w fun e w' => e = .returned (.tuple #[txV [], .int .i64 (checkL n l)]) ∧ Below w.heap.size w w' := by
  have HA := Lib.hid (show Below w.heap.size w (w.alloc (.cells #[.int .i64 n, .slice a l.length c] 25)) from (Below.refl _ _).alloc (Nat.le_refl _) _)
  have HC := Lib.hid (check_any n a l c _ (hl.under HA.out))
  have h0 : ¬ checkL n l = 0 := hc
  clear hl hc
  generalize checkL n l = R at *
  go_enter Tryd.func14, Tryd.ntmps14
  go_wp2_with fail
  refine HC.out.mono ?_
  rintro e w1 ⟨rfl, hb1⟩
  have HB1 := Lib.hid (HA.out.trans (hb1.mono HA.out.size))
  clear hb1
  go_wp2
  go_ret2
  exact ⟨rfl, HB1.out⟩
set_option maxHeartbeats 4000000 in
set_option maxRecDepth 100000 in
theorem print_good (n : Nat) (a : Option Addr) (l : List Ar) (c : Nat) (w : World) (hl : Arcs w a l) (hc : checkL (n : Nat) l = 0) (ht : TabW w) :
    Calls Tryd.prog 14 #[mV (n : Nat) a l.length c] w fun e w' => e = .returned (.tuple #[txV (printL (n : Nat) l), .int .i64 0]) ∧ Below w.heap.size w w' := by
  obtain ⟨w1, hw1⟩ : ∃ w1, w1 = w.alloc (.cells #[.int .i64 (n : Nat), .slice a l.length c] 25) := ⟨_, rfl⟩
  have hb1 : Below w.heap.size w w1 := by rw [hw1]; exact (Below.refl _ _).alloc (Nat.le_refl _) _
  have hr1 : Row w1 w.heap.size 25 #[.int .i64 (n : Nat), .slice a l.length c] := by rw [hw1]; exact Row.fresh w _ _
  have HT := Lib.hid ((TabB.of ht).under hb1)
  have HL := Lib.hid (hl.under hb1)
  have HK := Lib.hid (check_ok hc)
  have HCc := Lib.hid (check_any (n : Nat) a l c w1 HL.out)
  rw [hc] at HCc
  have HW := Lib.hid hw1
  have HB1 := Lib.hid hb1
  have HR1 := Lib.hid hr1
  have hz : w.heap.size < w1.heap.size := hr1.lt
  have hn9 := HK.out.2.1
  have hl9 := HK.out.2.2.1
  have i2 : (l.length : Int) ≤ 67108864 := by omega
  clear hl hc ht hb1 hw1
  have c0 := hr1.cell 0
  have c1 := hr1.cell 1
  simp only [List.getElem?_toArray, List.getElem?_cons_zero, List.getElem?_cons_succ] at c0 c1
  clear hr1
  go_enter Tryd.func14, Tryd.ntmps14
  go_wp2_with fail
  rw [← HW.out]
  refine HCc.out.mono ?_
  rintro e w2 ⟨rfl, hb2⟩
  have hr2 := HR1.out.under hb2 HR1.out.lt
  have HB2 := Lib.hid hb2
  have d0 := hr2.cell 0
  have d1 := hr2.cell 1
  simp only [List.getElem?_toArray, List.getElem?_cons_zero, List.getElem?_cons_succ] at d0 d1
  have HR2 := Lib.hid hr2
  have hz2 : w.heap.size < w2.heap.size := hr2.lt
  clear hb2 c0 c1 hr2
  obtain ⟨W3, hW3⟩ : ∃ W3, W3 = (w2.alloc (.cells #[.pointer none, .slice none 0 0] 67)).alloc (.cells #[.int .i64 (n : Nat), .int .i64 (l.length : Nat)] 3) := ⟨_, rfl⟩
  have hbld : Bld w2.heap.size w2.heap.size [] W3 := by
    rw [hW3]
    exact Bld.under (Lib.IsBuilderF.of (Lib.fresh_isBuilder 67 5 w2)) ((Below.refl _ _).alloc (Nat.le_refl _) _)
  have hb3 : Below w2.heap.size w2 W3 := by rw [hW3]; exact ((Below.refl _ _).alloc (Nat.le_refl _) _).alloc (by simp) _
  have hrow : Row W3 (w2.heap.size + 1) 3 (nsV [n, l.length]) := by
    rw [hW3]
    have := Row.fresh (w2.alloc (.cells #[.pointer none, .slice none 0 0] 67)) 3 #[.int .i64 (n : Nat), .int .i64 (l.length : Nat)]
    rwa [World.size_alloc] at this
  have htab := (HT.out.under (HB2.out.mono (by omega))).mono (Nat.le_of_lt hz2)
  have HLay := Lib.hid (lay_any hbld [112, 32, 115, 112] [n, l.length] 2 hrow (by omega) (fun m hm => by
    simp only [List.mem_cons, List.not_mem_nil, or_false] at hm
    rcases hm with rfl | rfl <;> omega) hb3.size (htab.under hb3) (by simp) (by simp))
  have HTb := Lib.hid htab
  have HB3 := Lib.hid hb3
  have HW3 := Lib.hid hW3
  clear hbld hb3 hrow htab hW3
  go_wp2_with fail
  rw [← HW3.out]
  refine HLay.out.mono ?_
  rintro e w4 ⟨rfl, h4, hb4⟩
  have HB4 := Lib.hid (HB3.out.trans hb4)
  have H4 := Lib.hid (show Bld w2.heap.size w2.heap.size (headT2 (n : Nat) l) w4 by
    have e : headT2 (n : Nat) l = [] ++ [112, 32, 115, 112] ++ nsT [n, l.length] ++ [10] := by simp [headT2]
    rw [e]
    exact h4)
  clear h4 hb4
  have hr4 := HR2.out.under HB4.out hz2
  have e1 := hr4.cell 1
  simp only [List.getElem?_toArray, List.getElem?_cons_zero, List.getElem?_cons_succ] at e1
  clear d0 d1 hr4
  go_wp2
  go_loopw [23] (fun i wr => ∃ k : Nat, k ≤ l.length ∧ i = .int .i64 k ∧ Bld w2.heap.size w2.heap.size (headT2 (n : Nat) l ++ linesT (l.take k)) wr ∧ Below w2.heap.size w2 wr) (fun i _ => l.length - (intOf i).toNat)
  case atStart => exact ⟨0, by omega, rfl, by simpa [linesT] using H4.out, HB4.out⟩
  case round =>
    obtain ⟨k, hk, rfl, hq, hbw⟩ := hrel
    have HQ := Lib.hid hq
    have HBw := Lib.hid hbw
    clear hq hbw
    have hlen : (headT2 (n : Nat) l).length + (linesT (l.take k)).length ≤ 10000000000 := by
      have q1 := headT2_len (n := (n : Nat)) (l := l) (by omega) HK.out.2.1 HK.out.2.2.1
      have q2 := linesT_len (l := l.take k) HK.out.2.1 (fun x hx => HK.out.2.2.2 x (List.mem_of_mem_take hx))
      have q3 : (l.take k).length ≤ l.length := by rw [List.length_take]; omega
      omega
    have HLe := Lib.hid hlen
    clear hlen
    have HBA := Lib.hid (HB2.out.trans (HBw.out.mono HB2.out.size))
    by_cases hlt : k < l.length
    · have hlt' : (k : Int) < (l.length : Int) := by omega
      obtain ⟨ba, oa, rfl, x0, x1, x2⟩ := (HL.out.under HBA.out).at_ hlt
      have HS := Lib.hid (linesT_take hlt)
      have HG := Lib.hid (HK.out.2.2.2 _ (List.getElem_mem hlt))
      generalize l[k]'hlt = p at *
      obtain ⟨p0, p1, p2⟩ := p
      simp only at x0 x1 x2
      have hgd := HG.out
      simp only [badA, decide_eq_false_iff_not] at hgd
      obtain ⟨u0, rfl⟩ := Int.eq_ofNat_of_zero_le (a := p0) (by omega)
      obtain ⟨u1, rfl⟩ := Int.eq_ofNat_of_zero_le (a := p1) (by omega)
      obtain ⟨u2, rfl⟩ := Int.eq_ofNat_of_zero_le (a := p2) (by omega)
      have j0 : (u0 : Int) < 16777216 := by omega
      have j1 : (u1 : Int) < 16777216 := by omega
      have j2 : (u2 : Int) ≤ 2147483648 := by omega
      have HGD := Lib.hid hgd
      clear hgd
      obtain ⟨W5, hW5⟩ : ∃ W5, W5 = (wr.alloc (.cells #[.int .i64 (u0 : Nat), .int .i64 (u1 : Nat), .int .i64 (u2 : Nat)] 50)).alloc (.cells #[.int .i64 ((u0 : Int) + 1), .int .i64 ((u1 : Int) + 1), .int .i64 (u2 : Nat)] 3) := ⟨_, rfl⟩
      have hb5 : Below wr.heap.size wr W5 := by rw [hW5]; exact ((Below.refl _ _).alloc (Nat.le_refl _) _).alloc (by simp) _
      have hrow : Row W5 (wr.heap.size + 1) 3 (nsV [u0 + 1, u1 + 1, u2]) := by
        rw [hW5]
        have := Row.fresh (wr.alloc (.cells #[.int .i64 (u0 : Nat), .int .i64 (u1 : Nat), .int .i64 (u2 : Nat)] 50)) 3 (nsV [u0 + 1, u1 + 1, u2])
        rw [World.size_alloc] at this
        exact this
      have hsz := HBw.out.size
      have HLay2 := Lib.hid (lay_any (HQ.out.under hb5) [97] [u0 + 1, u1 + 1, u2] 3 hrow (by omega) (fun m hm => by
        simp only [List.mem_cons, List.not_mem_nil, or_false] at hm
        rcases hm with rfl | rfl | rfl <;> omega) (by have := hb5.size; omega) (HTb.out.under (HBw.out.trans (hb5.mono hsz))) (by simp) (by have := HLe.out; simp only [List.length_append, List.length_cons, List.length_nil]; omega))
      have HB5 := Lib.hid (HBw.out.trans (hb5.mono hsz))
      have HW5 := Lib.hid hW5
      clear hb5 hrow hW5 hsz
      go_wp2_with fail
      rw [← HW5.out]
      refine HLay2.out.mono ?_
      rintro e w6 ⟨rfl, h6, hb6⟩
      have H6 := Lib.hid h6
      have HB6 := Lib.hid (HB5.out.trans hb6)
      clear h6 hb6
      go_wp2
      refine ⟨⟨k + 1, by omega, by go_num, ?_, HB6.out⟩, by simp [intOf]; omega⟩
      rw [HS.out]
      have e : lineT ((u0 : Int), (u1 : Int), (u2 : Int)) = [97] ++ nsT [u0 + 1, u1 + 1, u2] ++ [10] := by
        have e0 : ((u0 : Int) + 1).toNat = u0 + 1 := by omega
        have e1 : ((u1 : Int) + 1).toNat = u1 + 1 := by omega
        simp [lineT, e0, e1]
      rw [e]
      have := H6.out
      simpa only [List.append_assoc] using this
    · obtain rfl : k = l.length := by omega
      have hlt' : ¬ (l.length : Int) < (l.length : Int) := by omega
      have HQ' := HQ.out
      rw [List.take_length] at HQ'
      have HS := Lib.hid (Tryd.Builder_String_any_k w2.heap.size w2.heap.size (printL (n : Nat) l) wr HQ' (by have := HBw.out.size; omega))
      clear HQ'
      go_wp2_with fail
      refine HS.out.mono ?_
      rintro e w5 ⟨rfl, _, hb5, _⟩
      have HB5 := Lib.hid (HB1.out.trans ((HB2.out.trans ((HBw.out.trans hb5).mono HB2.out.size)).mono HB1.out.size))
      clear hb5
      go_wp2
      go_ret2
      exact ⟨rfl, HB5.out⟩
def PrintP (w : World) (n : Int) (l : List Ar) (e : Ending) (w' : World) : Prop := e = .returned (.tuple #[txV (if checkL n l = 0 then printL n l else []), .int .i64 (checkL n l)]) ∧ Below w.heap.size w w'
theorem print_any (n : Int) (a : Option Addr) (l : List Ar) (c : Nat) (w : World) (hl : Arcs w a l) (ht : TabW w) :
    Calls Tryd.prog 14 #[mV n a l.length c] w (PrintP w n l) := by
  by_cases hc : checkL n l = 0
  · obtain ⟨k, rfl⟩ := Int.eq_ofNat_of_zero_le (check_ok hc).1
    refine (print_good k a l c w hl hc ht).mono ?_
    rintro e w' ⟨rfl, hb⟩
    exact ⟨by rw [if_pos hc, hc], hb⟩
  · refine (print_bad n a l c w hl hc).mono ?_
    rintro e w' ⟨rfl, hb⟩
    exact ⟨by rw [if_neg hc], hb⟩
end Go.Proofs.YtdjfmmfggkkbaaaDoor
