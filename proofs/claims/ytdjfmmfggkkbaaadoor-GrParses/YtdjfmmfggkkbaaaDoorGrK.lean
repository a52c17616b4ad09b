/- The document's line (written by mkgrk.py). -/
import Derived.Test.YtdjfmmfggkkbaaaDoorGrJ
namespace Go.Proofs.YtdjfmmfggkkbaaaDoor
open Go.RowKit Go.Shelf Grm

abbrev tC (st : Rst) (v : Value) : Array Value := #[.int .i64 (st.n : Nat), v, .int .i64 (st.many : Nat), .bool st.begun]
def LineP (w : World) (K : Nat) (v : Value) (R : Option Rst) (e : Ending) (w' : World) : Prop :=
  Only (fun k => v.ownBlock = some k) w w' ∧ ((R = none ∧ ∃ (n m : Int) (a : Option Addr) (k c : Nat) (p : Bool), e = .returned (.tuple #[.agg #[.int .i64 n, .slice a k c, .int .i64 m, .bool p], .bool false])) ∨ ∃ st' v', R = some st' ∧ e = .returned (.tuple #[.agg (tC st' v'), .bool true]) ∧ AV w' K v' st'.arcs)
theorem ref_some {m : Tx} {most N : Int} (h : N = refN m most) (h0 : 0 ≤ N) : ∃ a, numL m most = some a ∧ N = (a : Int) := by
  unfold refN at h
  cases hx : numL m most with
  | none => rw [hx] at h; simp at h; omega
  | some a => rw [hx] at h; exact ⟨a, rfl, h⟩
theorem ref_none {m : Tx} {most N : Int} (h : N = refN m most) (h0 : ¬ 0 ≤ N) : numL m most = none := by
  unfold refN at h
  cases hx : numL m most with
  | none => rfl
  | some a => rw [hx] at h; simp at h; omega
/-- A T laid into a block. -/
abbrev putT (w : World) (b : Nat) (a0 a1 a2 a3 : Value) : World := (((w.setCell ⟨b, 0, none⟩ a0).setCell ⟨b, 1, none⟩ a1).setCell ⟨b, 2, none⟩ a2).setCell ⟨b, 3, none⟩ a3
theorem putT_row {w : World} {b : Nat} {x0 x1 x2 x3 : Value} (h : Row w b 62 #[x0, x1, x2, x3]) (a0 a1 a2 a3 : Value) : Row (putT w b a0 a1 a2 a3) b 62 #[a0, a1, a2, a3] := (((h.put 0 a0).put 1 a1).put 2 a2).put 3 a3
theorem putT_below {w0 w : World} {K b : Nat} (h : Below K w0 w) (hb : K ≤ b) (a0 a1 a2 a3 : Value) : Below K w0 (putT w b a0 a1 a2 a3) := (((h.setCell hb _).setCell hb _).setCell hb _).setCell hb _
set_option maxRecDepth 100000 in
set_option maxHeartbeats 4000000 in
theorem line_nil {w : World} {K : Nat} {ad : Option Addr} {cc : Nat} {st : Rst} (s : Tx) (h9 : s.length ≤ 2000) (ha : AV w K (.slice ad st.arcs.length cc) st.arcs) (hok : st.ok2) (hK : K ≤ w.heap.size) (hws : wordsL s = []) :
    Calls Tryd.prog 27 #[.agg (tC st (.slice ad st.arcs.length cc)), txV s] w (LineP w K (.slice ad st.arcs.length cc) (some st)) := by
  obtain ⟨n, arcs, p, many⟩ := st
  simp only [tC] at *
  have HW := Lib.hid (rwords_any s ((w.alloc (.cells #[.int .i64 (n : Nat), .slice ad arcs.length cc, .int .i64 (many : Nat), .bool p] 62)).alloc (.cells #[.int .i64 0, .slice none 0 0, .int .i64 0, .bool false] 62)) h9)
  rw [hws] at HW
  have hs2 : ((w.alloc (.cells #[.int .i64 (n : Nat), .slice ad arcs.length cc, .int .i64 (many : Nat), .bool p] 62)).alloc (.cells #[.int .i64 0, .slice none 0 0, .int .i64 0, .bool false] 62)).heap.size = w.heap.size + 2 := by simp
  have hb2 : Below w.heap.size w ((w.alloc (.cells #[.int .i64 (n : Nat), .slice ad arcs.length cc, .int .i64 (many : Nat), .bool p] 62)).alloc (.cells #[.int .i64 0, .slice none 0 0, .int .i64 0, .bool false] 62)) := ((Below.refl _ _).alloc (Nat.le_refl _) _).alloc (by simp) _
  have hB2 : Row ((w.alloc (.cells #[.int .i64 (n : Nat), .slice ad arcs.length cc, .int .i64 (many : Nat), .bool p] 62)).alloc (.cells #[.int .i64 0, .slice none 0 0, .int .i64 0, .bool false] 62)) w.heap.size 62 #[.int .i64 (n : Nat), .slice ad arcs.length cc, .int .i64 (many : Nat), .bool p] := (Row.fresh w _ _).past _
  have hZ2 : Row ((w.alloc (.cells #[.int .i64 (n : Nat), .slice ad arcs.length cc, .int .i64 (many : Nat), .bool p] 62)).alloc (.cells #[.int .i64 0, .slice none 0 0, .int .i64 0, .bool false] 62)) (w.heap.size + 1) 62 #[.int .i64 0, .slice none 0 0, .int .i64 0, .bool false] := by
    have := Row.fresh (w.alloc (.cells #[.int .i64 (n : Nat), .slice ad arcs.length cc, .int .i64 (many : Nat), .bool p] 62)) 62 #[.int .i64 0, .slice none 0 0, .int .i64 0, .bool false]
    rwa [World.size_alloc] at this
  have HB2 := Lib.hid (And.intro hb2 (And.intro hB2 (And.intro hZ2 hs2)))
  have HA := Lib.hid ha
  have HOK := Lib.hid hok
  have HKw := Lib.hid hK
  clear hb2 hB2 hZ2 hs2 ha hok hK h9 hws
  go_enter Tryd.func27, Tryd.ntmps27
  go_wp2_with fail
  refine HW.out.mono ?_
  rintro e w1 ⟨⟨wv, rfl, htv⟩, hb1⟩
  have hx := HB2.out
  have hbw : Below w.heap.size w w1 := hx.1.trans (hb1.mono hx.1.size)
  have hB := hx.2.1.under hb1 hx.2.1.lt
  have hZ := hx.2.2.1.under hb1 hx.2.2.1.lt
  have b0 := hB.cell 0
  have b1 := hB.cell 1
  have b2 := hB.cell 2
  have b3 := hB.cell 3
  have z0 := hZ.cell 0
  have z1 := hZ.cell 1
  have z2 := hZ.cell 2
  have z3 := hZ.cell 3
  have y0 := hZ.thaw 0
  have y1 := hZ.thaw 1
  have y2 := hZ.thaw 2
  have y3 := hZ.thaw 3
  have t0 := hB.thaw 0
  have t1 := hB.thaw 1
  have t2 := hB.thaw 2
  have t3 := hB.thaw 3
  simp only [List.getElem?_toArray, List.getElem?_cons_zero, List.getElem?_cons_succ] at b0 b1 b2 b3 z0 z1 z2 z3
  have HZB := Lib.hid (And.intro hbw (And.intro hB hZ))
  have htvH := Lib.hid htv
  clear hx hbw hB hZ hb1
  obtain ⟨wa, wc, rfl⟩ := htv.shape
  simp only [List.length_nil] at *
  have hr := putT_row HZB.out.2.2 (.int .i64 (n : Nat)) (.slice ad arcs.length cc) (.int .i64 (many : Nat)) (.bool p)
  have hbf := putT_below HZB.out.1 (show w.heap.size ≤ w.heap.size + 1 by omega) (.int .i64 (n : Nat)) (.slice ad arcs.length cc) (.int .i64 (many : Nat)) (.bool p)
  have HF := Lib.hid hbf
  have q0 := hr.cell 0
  have q1 := hr.cell 1
  have q2 := hr.cell 2
  have q3 := hr.cell 3
  simp only [List.getElem?_toArray, List.getElem?_cons_zero, List.getElem?_cons_succ] at q0 q1 q2 q3
  clear hr hbf htv
  go_wp2
  refine bodyPost_ret (v := .tuple #[.agg #[.int .i64 (n : Nat), .slice ad arcs.length cc, .int .i64 (many : Nat), .bool p], .bool true]) (by simp [results, Tryd.results27, go_sem, q0, q1, q2, q3]) rfl ?_
  exact ⟨Only.of_below _ HF.out, .inr ⟨_, _, rfl, rfl, HA.out.under HF.out (Nat.le_refl _)⟩⟩
set_option maxRecDepth 100000 in
set_option maxHeartbeats 4000000 in
theorem line_c {w : World} {K : Nat} {ad : Option Addr} {cc : Nat} {st : Rst} (s : Tx) (h9 : s.length ≤ 2000) (ha : AV w K (.slice ad st.arcs.length cc) st.arcs) (hok : st.ok2) (hK : K ≤ w.heap.size) (t : List Tx) (ht : t.length ≤ 2001) (hws : wordsL s = [99] :: t) :
    Calls Tryd.prog 27 #[.agg (tC st (.slice ad st.arcs.length cc)), txV s] w (LineP w K (.slice ad st.arcs.length cc) (some st)) := by
  obtain ⟨n, arcs, p, many⟩ := st
  simp only [tC] at *
  have HW := Lib.hid (rwords_any s ((w.alloc (.cells #[.int .i64 (n : Nat), .slice ad arcs.length cc, .int .i64 (many : Nat), .bool p] 62)).alloc (.cells #[.int .i64 0, .slice none 0 0, .int .i64 0, .bool false] 62)) h9)
  rw [hws] at HW
  have hs2 : ((w.alloc (.cells #[.int .i64 (n : Nat), .slice ad arcs.length cc, .int .i64 (many : Nat), .bool p] 62)).alloc (.cells #[.int .i64 0, .slice none 0 0, .int .i64 0, .bool false] 62)).heap.size = w.heap.size + 2 := by simp
  have hb2 : Below w.heap.size w ((w.alloc (.cells #[.int .i64 (n : Nat), .slice ad arcs.length cc, .int .i64 (many : Nat), .bool p] 62)).alloc (.cells #[.int .i64 0, .slice none 0 0, .int .i64 0, .bool false] 62)) := ((Below.refl _ _).alloc (Nat.le_refl _) _).alloc (by simp) _
  have hB2 : Row ((w.alloc (.cells #[.int .i64 (n : Nat), .slice ad arcs.length cc, .int .i64 (many : Nat), .bool p] 62)).alloc (.cells #[.int .i64 0, .slice none 0 0, .int .i64 0, .bool false] 62)) w.heap.size 62 #[.int .i64 (n : Nat), .slice ad arcs.length cc, .int .i64 (many : Nat), .bool p] := (Row.fresh w _ _).past _
  have hZ2 : Row ((w.alloc (.cells #[.int .i64 (n : Nat), .slice ad arcs.length cc, .int .i64 (many : Nat), .bool p] 62)).alloc (.cells #[.int .i64 0, .slice none 0 0, .int .i64 0, .bool false] 62)) (w.heap.size + 1) 62 #[.int .i64 0, .slice none 0 0, .int .i64 0, .bool false] := by
    have := Row.fresh (w.alloc (.cells #[.int .i64 (n : Nat), .slice ad arcs.length cc, .int .i64 (many : Nat), .bool p] 62)) 62 #[.int .i64 0, .slice none 0 0, .int .i64 0, .bool false]
    rwa [World.size_alloc] at this
  have HB2 := Lib.hid (And.intro hb2 (And.intro hB2 (And.intro hZ2 hs2)))
  have HA := Lib.hid ha
  have HOK := Lib.hid hok
  have HKw := Lib.hid hK
  clear hb2 hB2 hZ2 hs2 ha hok hK h9 hws
  go_enter Tryd.func27, Tryd.ntmps27
  go_wp2_with fail
  refine HW.out.mono ?_
  rintro e w1 ⟨⟨wv, rfl, htv⟩, hb1⟩
  have hx := HB2.out
  have hbw : Below w.heap.size w w1 := hx.1.trans (hb1.mono hx.1.size)
  have hB := hx.2.1.under hb1 hx.2.1.lt
  have hZ := hx.2.2.1.under hb1 hx.2.2.1.lt
  have b0 := hB.cell 0
  have b1 := hB.cell 1
  have b2 := hB.cell 2
  have b3 := hB.cell 3
  have z0 := hZ.cell 0
  have z1 := hZ.cell 1
  have z2 := hZ.cell 2
  have z3 := hZ.cell 3
  have y0 := hZ.thaw 0
  have y1 := hZ.thaw 1
  have y2 := hZ.thaw 2
  have y3 := hZ.thaw 3
  have t0 := hB.thaw 0
  have t1 := hB.thaw 1
  have t2 := hB.thaw 2
  have t3 := hB.thaw 3
  simp only [List.getElem?_toArray, List.getElem?_cons_zero, List.getElem?_cons_succ] at b0 b1 b2 b3 z0 z1 z2 z3
  have HZB := Lib.hid (And.intro hbw (And.intro hB hZ))
  have htvH := Lib.hid htv
  clear hx hbw hB hZ hb1
  obtain ⟨wb, wc, hwv, hwl, x0c⟩ := htv.at_ (k := 0) (by simp)
  subst hwv
  simp only [List.getElem_cons_zero] at x0c
  have hk0 : ((t.length : Int) + 1 == 0) = false := beq_eq_false_iff_ne.2 (by omega)
  rw [List.length_cons] at *
  have hr := putT_row HZB.out.2.2 (.int .i64 (n : Nat)) (.slice ad arcs.length cc) (.int .i64 (many : Nat)) (.bool p)
  have hbf := putT_below HZB.out.1 (show w.heap.size ≤ w.heap.size + 1 by omega) (.int .i64 (n : Nat)) (.slice ad arcs.length cc) (.int .i64 (many : Nat)) (.bool p)
  have HF := Lib.hid hbf
  have q0 := hr.cell 0
  have q1 := hr.cell 1
  have q2 := hr.cell 2
  have q3 := hr.cell 3
  simp only [List.getElem?_toArray, List.getElem?_cons_zero, List.getElem?_cons_succ] at q0 q1 q2 q3
  clear hr hbf htv
  go_wp2
  refine bodyPost_ret (v := .tuple #[.agg #[.int .i64 (n : Nat), .slice ad arcs.length cc, .int .i64 (many : Nat), .bool p], .bool true]) (by simp [results, Tryd.results27, go_sem, q0, q1, q2, q3]) rfl ?_
  exact ⟨Only.of_below _ HF.out, .inr ⟨_, _, rfl, rfl, HA.out.under HF.out (Nat.le_refl _)⟩⟩
set_option maxRecDepth 100000 in
set_option maxHeartbeats 4000000 in
theorem line_odd {w : World} {K : Nat} {ad : Option Addr} {cc : Nat} {st : Rst} (s : Tx) (h9 : s.length ≤ 2000) (ha : AV w K (.slice ad st.arcs.length cc) st.arcs) (hok : st.ok2) (hK : K ≤ w.heap.size) (x : Tx) (t : List Tx) (ht : t.length ≤ 2001) (n1 : (x == [99]) = false) (n2 : (x == [112]) = false) (n3 : (x == [97]) = false) (hws : wordsL s = x :: t) :
    Calls Tryd.prog 27 #[.agg (tC st (.slice ad st.arcs.length cc)), txV s] w (LineP w K (.slice ad st.arcs.length cc) none) := by
  obtain ⟨n, arcs, p, many⟩ := st
  simp only [tC] at *
  have HW := Lib.hid (rwords_any s ((w.alloc (.cells #[.int .i64 (n : Nat), .slice ad arcs.length cc, .int .i64 (many : Nat), .bool p] 62)).alloc (.cells #[.int .i64 0, .slice none 0 0, .int .i64 0, .bool false] 62)) h9)
  rw [hws] at HW
  have hs2 : ((w.alloc (.cells #[.int .i64 (n : Nat), .slice ad arcs.length cc, .int .i64 (many : Nat), .bool p] 62)).alloc (.cells #[.int .i64 0, .slice none 0 0, .int .i64 0, .bool false] 62)).heap.size = w.heap.size + 2 := by simp
  have hb2 : Below w.heap.size w ((w.alloc (.cells #[.int .i64 (n : Nat), .slice ad arcs.length cc, .int .i64 (many : Nat), .bool p] 62)).alloc (.cells #[.int .i64 0, .slice none 0 0, .int .i64 0, .bool false] 62)) := ((Below.refl _ _).alloc (Nat.le_refl _) _).alloc (by simp) _
  have hB2 : Row ((w.alloc (.cells #[.int .i64 (n : Nat), .slice ad arcs.length cc, .int .i64 (many : Nat), .bool p] 62)).alloc (.cells #[.int .i64 0, .slice none 0 0, .int .i64 0, .bool false] 62)) w.heap.size 62 #[.int .i64 (n : Nat), .slice ad arcs.length cc, .int .i64 (many : Nat), .bool p] := (Row.fresh w _ _).past _
  have hZ2 : Row ((w.alloc (.cells #[.int .i64 (n : Nat), .slice ad arcs.length cc, .int .i64 (many : Nat), .bool p] 62)).alloc (.cells #[.int .i64 0, .slice none 0 0, .int .i64 0, .bool false] 62)) (w.heap.size + 1) 62 #[.int .i64 0, .slice none 0 0, .int .i64 0, .bool false] := by
    have := Row.fresh (w.alloc (.cells #[.int .i64 (n : Nat), .slice ad arcs.length cc, .int .i64 (many : Nat), .bool p] 62)) 62 #[.int .i64 0, .slice none 0 0, .int .i64 0, .bool false]
    rwa [World.size_alloc] at this
  have HB2 := Lib.hid (And.intro hb2 (And.intro hB2 (And.intro hZ2 hs2)))
  have HA := Lib.hid ha
  have HOK := Lib.hid hok
  have HKw := Lib.hid hK
  clear hb2 hB2 hZ2 hs2 ha hok hK h9 hws
  go_enter Tryd.func27, Tryd.ntmps27
  go_wp2_with fail
  refine HW.out.mono ?_
  rintro e w1 ⟨⟨wv, rfl, htv⟩, hb1⟩
  have hx := HB2.out
  have hbw : Below w.heap.size w w1 := hx.1.trans (hb1.mono hx.1.size)
  have hB := hx.2.1.under hb1 hx.2.1.lt
  have hZ := hx.2.2.1.under hb1 hx.2.2.1.lt
  have b0 := hB.cell 0
  have b1 := hB.cell 1
  have b2 := hB.cell 2
  have b3 := hB.cell 3
  have z0 := hZ.cell 0
  have z1 := hZ.cell 1
  have z2 := hZ.cell 2
  have z3 := hZ.cell 3
  have y0 := hZ.thaw 0
  have y1 := hZ.thaw 1
  have y2 := hZ.thaw 2
  have y3 := hZ.thaw 3
  have t0 := hB.thaw 0
  have t1 := hB.thaw 1
  have t2 := hB.thaw 2
  have t3 := hB.thaw 3
  simp only [List.getElem?_toArray, List.getElem?_cons_zero, List.getElem?_cons_succ] at b0 b1 b2 b3 z0 z1 z2 z3
  have HZB := Lib.hid (And.intro hbw (And.intro hB hZ))
  have htvH := Lib.hid htv
  clear hx hbw hB hZ hb1
  obtain ⟨wb, wc, hwv, hwl, x0c⟩ := htv.at_ (k := 0) (by simp)
  subst hwv
  simp only [List.getElem_cons_zero] at x0c
  have hk0 : ((t.length : Int) + 1 == 0) = false := beq_eq_false_iff_ne.2 (by omega)
  rw [List.length_cons] at *
  have hr := putT_row HZB.out.2.2 (.int .i64 (n : Nat)) (.slice ad arcs.length cc) (.int .i64 (many : Nat)) (.bool p)
  have hbf := putT_below HZB.out.1 (show w.heap.size ≤ w.heap.size + 1 by omega) (.int .i64 (n : Nat)) (.slice ad arcs.length cc) (.int .i64 (many : Nat)) (.bool p)
  have HF := Lib.hid hbf
  have q0 := hr.cell 0
  have q1 := hr.cell 1
  have q2 := hr.cell 2
  have q3 := hr.cell 3
  simp only [List.getElem?_toArray, List.getElem?_cons_zero, List.getElem?_cons_succ] at q0 q1 q2 q3
  clear hr hbf htv
  go_wp2
  refine bodyPost_ret (v := .tuple #[.agg #[.int .i64 (n : Nat), .slice ad arcs.length cc, .int .i64 (many : Nat), .bool p], .bool false]) (by simp [results, Tryd.results27, go_sem, q0, q1, q2, q3]) rfl ?_
  exact ⟨Only.of_below _ HF.out, .inl ⟨rfl, _, _, _, _, _, _, rfl⟩⟩
set_option maxRecDepth 100000 in
set_option maxHeartbeats 4000000 in
theorem line_p_len {w : World} {K : Nat} {ad : Option Addr} {cc : Nat} {st : Rst} (s : Tx) (h9 : s.length ≤ 2000) (ha : AV w K (.slice ad st.arcs.length cc) st.arcs) (hok : st.ok2) (hK : K ≤ w.heap.size) (t : List Tx) (ht : t.length ≤ 2001) (h4 : t.length ≠ 3) (hws : wordsL s = [112] :: t) :
    Calls Tryd.prog 27 #[.agg (tC st (.slice ad st.arcs.length cc)), txV s] w (LineP w K (.slice ad st.arcs.length cc) none) := by
  obtain ⟨n, arcs, p, many⟩ := st
  simp only [tC] at *
  have HW := Lib.hid (rwords_any s ((w.alloc (.cells #[.int .i64 (n : Nat), .slice ad arcs.length cc, .int .i64 (many : Nat), .bool p] 62)).alloc (.cells #[.int .i64 0, .slice none 0 0, .int .i64 0, .bool false] 62)) h9)
  rw [hws] at HW
  have hs2 : ((w.alloc (.cells #[.int .i64 (n : Nat), .slice ad arcs.length cc, .int .i64 (many : Nat), .bool p] 62)).alloc (.cells #[.int .i64 0, .slice none 0 0, .int .i64 0, .bool false] 62)).heap.size = w.heap.size + 2 := by simp
  have hb2 : Below w.heap.size w ((w.alloc (.cells #[.int .i64 (n : Nat), .slice ad arcs.length cc, .int .i64 (many : Nat), .bool p] 62)).alloc (.cells #[.int .i64 0, .slice none 0 0, .int .i64 0, .bool false] 62)) := ((Below.refl _ _).alloc (Nat.le_refl _) _).alloc (by simp) _
  have hB2 : Row ((w.alloc (.cells #[.int .i64 (n : Nat), .slice ad arcs.length cc, .int .i64 (many : Nat), .bool p] 62)).alloc (.cells #[.int .i64 0, .slice none 0 0, .int .i64 0, .bool false] 62)) w.heap.size 62 #[.int .i64 (n : Nat), .slice ad arcs.length cc, .int .i64 (many : Nat), .bool p] := (Row.fresh w _ _).past _
  have hZ2 : Row ((w.alloc (.cells #[.int .i64 (n : Nat), .slice ad arcs.length cc, .int .i64 (many : Nat), .bool p] 62)).alloc (.cells #[.int .i64 0, .slice none 0 0, .int .i64 0, .bool false] 62)) (w.heap.size + 1) 62 #[.int .i64 0, .slice none 0 0, .int .i64 0, .bool false] := by
    have := Row.fresh (w.alloc (.cells #[.int .i64 (n : Nat), .slice ad arcs.length cc, .int .i64 (many : Nat), .bool p] 62)) 62 #[.int .i64 0, .slice none 0 0, .int .i64 0, .bool false]
    rwa [World.size_alloc] at this
  have HB2 := Lib.hid (And.intro hb2 (And.intro hB2 (And.intro hZ2 hs2)))
  have HA := Lib.hid ha
  have HOK := Lib.hid hok
  have HKw := Lib.hid hK
  clear hb2 hB2 hZ2 hs2 ha hok hK h9 hws
  go_enter Tryd.func27, Tryd.ntmps27
  go_wp2_with fail
  refine HW.out.mono ?_
  rintro e w1 ⟨⟨wv, rfl, htv⟩, hb1⟩
  have hx := HB2.out
  have hbw : Below w.heap.size w w1 := hx.1.trans (hb1.mono hx.1.size)
  have hB := hx.2.1.under hb1 hx.2.1.lt
  have hZ := hx.2.2.1.under hb1 hx.2.2.1.lt
  have b0 := hB.cell 0
  have b1 := hB.cell 1
  have b2 := hB.cell 2
  have b3 := hB.cell 3
  have z0 := hZ.cell 0
  have z1 := hZ.cell 1
  have z2 := hZ.cell 2
  have z3 := hZ.cell 3
  have y0 := hZ.thaw 0
  have y1 := hZ.thaw 1
  have y2 := hZ.thaw 2
  have y3 := hZ.thaw 3
  have t0 := hB.thaw 0
  have t1 := hB.thaw 1
  have t2 := hB.thaw 2
  have t3 := hB.thaw 3
  simp only [List.getElem?_toArray, List.getElem?_cons_zero, List.getElem?_cons_succ] at b0 b1 b2 b3 z0 z1 z2 z3
  have HZB := Lib.hid (And.intro hbw (And.intro hB hZ))
  have htvH := Lib.hid htv
  clear hx hbw hB hZ hb1
  obtain ⟨wb, wc, hwv, hwl, x0c⟩ := htv.at_ (k := 0) (by simp)
  subst hwv
  simp only [List.getElem_cons_zero] at x0c
  have hk0 : ((t.length : Int) + 1 == 0) = false := beq_eq_false_iff_ne.2 (by omega)
  have hk4 : ((t.length : Int) + 1 == 4) = false := beq_eq_false_iff_ne.2 (by omega)
  rw [List.length_cons] at *
  have hr := putT_row HZB.out.2.2 (.int .i64 (n : Nat)) (.slice ad arcs.length cc) (.int .i64 (many : Nat)) (.bool p)
  have hbf := putT_below HZB.out.1 (show w.heap.size ≤ w.heap.size + 1 by omega) (.int .i64 (n : Nat)) (.slice ad arcs.length cc) (.int .i64 (many : Nat)) (.bool p)
  have HF := Lib.hid hbf
  have q0 := hr.cell 0
  have q1 := hr.cell 1
  have q2 := hr.cell 2
  have q3 := hr.cell 3
  simp only [List.getElem?_toArray, List.getElem?_cons_zero, List.getElem?_cons_succ] at q0 q1 q2 q3
  clear hr hbf htv
  go_wp2
  refine bodyPost_ret (v := .tuple #[.agg #[.int .i64 (n : Nat), .slice ad arcs.length cc, .int .i64 (many : Nat), .bool p], .bool false]) (by simp [results, Tryd.results27, go_sem, q0, q1, q2, q3]) rfl ?_
  exact ⟨Only.of_below _ HF.out, .inl ⟨rfl, _, _, _, _, _, _, rfl⟩⟩
set_option maxRecDepth 100000 in
set_option maxHeartbeats 4000000 in
theorem line_a_len {w : World} {K : Nat} {ad : Option Addr} {cc : Nat} {st : Rst} (s : Tx) (h9 : s.length ≤ 2000) (ha : AV w K (.slice ad st.arcs.length cc) st.arcs) (hok : st.ok2) (hK : K ≤ w.heap.size) (t : List Tx) (ht : t.length ≤ 2001) (h4 : t.length ≠ 3) (hws : wordsL s = [97] :: t) :
    Calls Tryd.prog 27 #[.agg (tC st (.slice ad st.arcs.length cc)), txV s] w (LineP w K (.slice ad st.arcs.length cc) none) := by
  obtain ⟨n, arcs, p, many⟩ := st
  simp only [tC] at *
  have HW := Lib.hid (rwords_any s ((w.alloc (.cells #[.int .i64 (n : Nat), .slice ad arcs.length cc, .int .i64 (many : Nat), .bool p] 62)).alloc (.cells #[.int .i64 0, .slice none 0 0, .int .i64 0, .bool false] 62)) h9)
  rw [hws] at HW
  have hs2 : ((w.alloc (.cells #[.int .i64 (n : Nat), .slice ad arcs.length cc, .int .i64 (many : Nat), .bool p] 62)).alloc (.cells #[.int .i64 0, .slice none 0 0, .int .i64 0, .bool false] 62)).heap.size = w.heap.size + 2 := by simp
  have hb2 : Below w.heap.size w ((w.alloc (.cells #[.int .i64 (n : Nat), .slice ad arcs.length cc, .int .i64 (many : Nat), .bool p] 62)).alloc (.cells #[.int .i64 0, .slice none 0 0, .int .i64 0, .bool false] 62)) := ((Below.refl _ _).alloc (Nat.le_refl _) _).alloc (by simp) _
  have hB2 : Row ((w.alloc (.cells #[.int .i64 (n : Nat), .slice ad arcs.length cc, .int .i64 (many : Nat), .bool p] 62)).alloc (.cells #[.int .i64 0, .slice none 0 0, .int .i64 0, .bool false] 62)) w.heap.size 62 #[.int .i64 (n : Nat), .slice ad arcs.length cc, .int .i64 (many : Nat), .bool p] := (Row.fresh w _ _).past _
  have hZ2 : Row ((w.alloc (.cells #[.int .i64 (n : Nat), .slice ad arcs.length cc, .int .i64 (many : Nat), .bool p] 62)).alloc (.cells #[.int .i64 0, .slice none 0 0, .int .i64 0, .bool false] 62)) (w.heap.size + 1) 62 #[.int .i64 0, .slice none 0 0, .int .i64 0, .bool false] := by
    have := Row.fresh (w.alloc (.cells #[.int .i64 (n : Nat), .slice ad arcs.length cc, .int .i64 (many : Nat), .bool p] 62)) 62 #[.int .i64 0, .slice none 0 0, .int .i64 0, .bool false]
    rwa [World.size_alloc] at this
  have HB2 := Lib.hid (And.intro hb2 (And.intro hB2 (And.intro hZ2 hs2)))
  have HA := Lib.hid ha
  have HOK := Lib.hid hok
  have HKw := Lib.hid hK
  clear hb2 hB2 hZ2 hs2 ha hok hK h9 hws
  go_enter Tryd.func27, Tryd.ntmps27
  go_wp2_with fail
  refine HW.out.mono ?_
  rintro e w1 ⟨⟨wv, rfl, htv⟩, hb1⟩
  have hx := HB2.out
  have hbw : Below w.heap.size w w1 := hx.1.trans (hb1.mono hx.1.size)
  have hB := hx.2.1.under hb1 hx.2.1.lt
  have hZ := hx.2.2.1.under hb1 hx.2.2.1.lt
  have b0 := hB.cell 0
  have b1 := hB.cell 1
  have b2 := hB.cell 2
  have b3 := hB.cell 3
  have z0 := hZ.cell 0
  have z1 := hZ.cell 1
  have z2 := hZ.cell 2
  have z3 := hZ.cell 3
  have y0 := hZ.thaw 0
  have y1 := hZ.thaw 1
  have y2 := hZ.thaw 2
  have y3 := hZ.thaw 3
  have t0 := hB.thaw 0
  have t1 := hB.thaw 1
  have t2 := hB.thaw 2
  have t3 := hB.thaw 3
  simp only [List.getElem?_toArray, List.getElem?_cons_zero, List.getElem?_cons_succ] at b0 b1 b2 b3 z0 z1 z2 z3
  have HZB := Lib.hid (And.intro hbw (And.intro hB hZ))
  have htvH := Lib.hid htv
  clear hx hbw hB hZ hb1
  obtain ⟨wb, wc, hwv, hwl, x0c⟩ := htv.at_ (k := 0) (by simp)
  subst hwv
  simp only [List.getElem_cons_zero] at x0c
  have hk0 : ((t.length : Int) + 1 == 0) = false := beq_eq_false_iff_ne.2 (by omega)
  have hk4 : ((t.length : Int) + 1 == 4) = false := beq_eq_false_iff_ne.2 (by omega)
  rw [List.length_cons] at *
  have hr := putT_row HZB.out.2.2 (.int .i64 (n : Nat)) (.slice ad arcs.length cc) (.int .i64 (many : Nat)) (.bool p)
  have hbf := putT_below HZB.out.1 (show w.heap.size ≤ w.heap.size + 1 by omega) (.int .i64 (n : Nat)) (.slice ad arcs.length cc) (.int .i64 (many : Nat)) (.bool p)
  have HF := Lib.hid hbf
  have q0 := hr.cell 0
  have q1 := hr.cell 1
  have q2 := hr.cell 2
  have q3 := hr.cell 3
  simp only [List.getElem?_toArray, List.getElem?_cons_zero, List.getElem?_cons_succ] at q0 q1 q2 q3
  clear hr hbf htv
  go_wp2
  refine bodyPost_ret (v := .tuple #[.agg #[.int .i64 (n : Nat), .slice ad arcs.length cc, .int .i64 (many : Nat), .bool p], .bool false]) (by simp [results, Tryd.results27, go_sem, q0, q1, q2, q3]) rfl ?_
  exact ⟨Only.of_below _ HF.out, .inl ⟨rfl, _, _, _, _, _, _, rfl⟩⟩
set_option maxRecDepth 100000 in
set_option maxHeartbeats 4000000 in
theorem line_p_sp {w : World} {K : Nat} {ad : Option Addr} {cc : Nat} {st : Rst} (s : Tx) (h9 : s.length ≤ 2000) (ha : AV w K (.slice ad st.arcs.length cc) st.arcs) (hok : st.ok2) (hK : K ≤ w.heap.size) (y z u : Tx) (n1 : (y == [115, 112]) = false) (hws : wordsL s = [[112], y, z, u]) :
    Calls Tryd.prog 27 #[.agg (tC st (.slice ad st.arcs.length cc)), txV s] w (LineP w K (.slice ad st.arcs.length cc) none) := by
  obtain ⟨n, arcs, p, many⟩ := st
  simp only [tC] at *
  have HW := Lib.hid (rwords_any s ((w.alloc (.cells #[.int .i64 (n : Nat), .slice ad arcs.length cc, .int .i64 (many : Nat), .bool p] 62)).alloc (.cells #[.int .i64 0, .slice none 0 0, .int .i64 0, .bool false] 62)) h9)
  rw [hws] at HW
  have hs2 : ((w.alloc (.cells #[.int .i64 (n : Nat), .slice ad arcs.length cc, .int .i64 (many : Nat), .bool p] 62)).alloc (.cells #[.int .i64 0, .slice none 0 0, .int .i64 0, .bool false] 62)).heap.size = w.heap.size + 2 := by simp
  have hb2 : Below w.heap.size w ((w.alloc (.cells #[.int .i64 (n : Nat), .slice ad arcs.length cc, .int .i64 (many : Nat), .bool p] 62)).alloc (.cells #[.int .i64 0, .slice none 0 0, .int .i64 0, .bool false] 62)) := ((Below.refl _ _).alloc (Nat.le_refl _) _).alloc (by simp) _
  have hB2 : Row ((w.alloc (.cells #[.int .i64 (n : Nat), .slice ad arcs.length cc, .int .i64 (many : Nat), .bool p] 62)).alloc (.cells #[.int .i64 0, .slice none 0 0, .int .i64 0, .bool false] 62)) w.heap.size 62 #[.int .i64 (n : Nat), .slice ad arcs.length cc, .int .i64 (many : Nat), .bool p] := (Row.fresh w _ _).past _
  have hZ2 : Row ((w.alloc (.cells #[.int .i64 (n : Nat), .slice ad arcs.length cc, .int .i64 (many : Nat), .bool p] 62)).alloc (.cells #[.int .i64 0, .slice none 0 0, .int .i64 0, .bool false] 62)) (w.heap.size + 1) 62 #[.int .i64 0, .slice none 0 0, .int .i64 0, .bool false] := by
    have := Row.fresh (w.alloc (.cells #[.int .i64 (n : Nat), .slice ad arcs.length cc, .int .i64 (many : Nat), .bool p] 62)) 62 #[.int .i64 0, .slice none 0 0, .int .i64 0, .bool false]
    rwa [World.size_alloc] at this
  have HB2 := Lib.hid (And.intro hb2 (And.intro hB2 (And.intro hZ2 hs2)))
  have HA := Lib.hid ha
  have HOK := Lib.hid hok
  have HKw := Lib.hid hK
  clear hb2 hB2 hZ2 hs2 ha hok hK h9 hws
  go_enter Tryd.func27, Tryd.ntmps27
  go_wp2_with fail
  refine HW.out.mono ?_
  rintro e w1 ⟨⟨wv, rfl, htv⟩, hb1⟩
  have hx := HB2.out
  have hbw : Below w.heap.size w w1 := hx.1.trans (hb1.mono hx.1.size)
  have hB := hx.2.1.under hb1 hx.2.1.lt
  have hZ := hx.2.2.1.under hb1 hx.2.2.1.lt
  have b0 := hB.cell 0
  have b1 := hB.cell 1
  have b2 := hB.cell 2
  have b3 := hB.cell 3
  have z0 := hZ.cell 0
  have z1 := hZ.cell 1
  have z2 := hZ.cell 2
  have z3 := hZ.cell 3
  have y0 := hZ.thaw 0
  have y1 := hZ.thaw 1
  have y2 := hZ.thaw 2
  have y3 := hZ.thaw 3
  have t0 := hB.thaw 0
  have t1 := hB.thaw 1
  have t2 := hB.thaw 2
  have t3 := hB.thaw 3
  simp only [List.getElem?_toArray, List.getElem?_cons_zero, List.getElem?_cons_succ] at b0 b1 b2 b3 z0 z1 z2 z3
  have HZB := Lib.hid (And.intro hbw (And.intro hB hZ))
  have htvH := Lib.hid htv
  clear hx hbw hB hZ hb1
  obtain ⟨wb, wc, hwv, hwl, x0c⟩ := htv.at_ (k := 0) (by simp)
  subst hwv
  simp only [List.getElem_cons_zero] at x0c
  have x1c : w1.cell? ⟨wb, 1, none⟩ = some (txV y) := by
    obtain ⟨wb', wc', hwv, _, q⟩ := htvH.out.at_ (k := 1) (by simp)
    cases hwv
    exact q
  simp only [List.length_cons, List.length_nil, Nat.zero_add, Nat.reduceAdd] at *
  have hr := putT_row HZB.out.2.2 (.int .i64 (n : Nat)) (.slice ad arcs.length cc) (.int .i64 (many : Nat)) (.bool p)
  have hbf := putT_below HZB.out.1 (show w.heap.size ≤ w.heap.size + 1 by omega) (.int .i64 (n : Nat)) (.slice ad arcs.length cc) (.int .i64 (many : Nat)) (.bool p)
  have HF := Lib.hid hbf
  have q0 := hr.cell 0
  have q1 := hr.cell 1
  have q2 := hr.cell 2
  have q3 := hr.cell 3
  simp only [List.getElem?_toArray, List.getElem?_cons_zero, List.getElem?_cons_succ] at q0 q1 q2 q3
  clear hr hbf htv
  go_wp2
  refine bodyPost_ret (v := .tuple #[.agg #[.int .i64 (n : Nat), .slice ad arcs.length cc, .int .i64 (many : Nat), .bool p], .bool false]) (by simp [results, Tryd.results27, go_sem, q0, q1, q2, q3]) rfl ?_
  exact ⟨Only.of_below _ HF.out, .inl ⟨rfl, _, _, _, _, _, _, rfl⟩⟩
set_option maxRecDepth 100000 in
set_option maxHeartbeats 4000000 in
theorem line_p_begun {w : World} {K : Nat} {ad : Option Addr} {cc : Nat} {st : Rst} (s : Tx) (h9 : s.length ≤ 2000) (ha : AV w K (.slice ad st.arcs.length cc) st.arcs) (hok : st.ok2) (hK : K ≤ w.heap.size) (z u : Tx) (hp : st.begun = true) (hws : wordsL s = [[112], [115, 112], z, u]) :
    Calls Tryd.prog 27 #[.agg (tC st (.slice ad st.arcs.length cc)), txV s] w (LineP w K (.slice ad st.arcs.length cc) none) := by
  obtain ⟨n, arcs, p, many⟩ := st
  simp only [tC] at *
  subst hp
  have HW := Lib.hid (rwords_any s ((w.alloc (.cells #[.int .i64 (n : Nat), .slice ad arcs.length cc, .int .i64 (many : Nat), .bool true] 62)).alloc (.cells #[.int .i64 0, .slice none 0 0, .int .i64 0, .bool false] 62)) h9)
  rw [hws] at HW
  have hs2 : ((w.alloc (.cells #[.int .i64 (n : Nat), .slice ad arcs.length cc, .int .i64 (many : Nat), .bool true] 62)).alloc (.cells #[.int .i64 0, .slice none 0 0, .int .i64 0, .bool false] 62)).heap.size = w.heap.size + 2 := by simp
  have hb2 : Below w.heap.size w ((w.alloc (.cells #[.int .i64 (n : Nat), .slice ad arcs.length cc, .int .i64 (many : Nat), .bool true] 62)).alloc (.cells #[.int .i64 0, .slice none 0 0, .int .i64 0, .bool false] 62)) := ((Below.refl _ _).alloc (Nat.le_refl _) _).alloc (by simp) _
  have hB2 : Row ((w.alloc (.cells #[.int .i64 (n : Nat), .slice ad arcs.length cc, .int .i64 (many : Nat), .bool true] 62)).alloc (.cells #[.int .i64 0, .slice none 0 0, .int .i64 0, .bool false] 62)) w.heap.size 62 #[.int .i64 (n : Nat), .slice ad arcs.length cc, .int .i64 (many : Nat), .bool true] := (Row.fresh w _ _).past _
  have hZ2 : Row ((w.alloc (.cells #[.int .i64 (n : Nat), .slice ad arcs.length cc, .int .i64 (many : Nat), .bool true] 62)).alloc (.cells #[.int .i64 0, .slice none 0 0, .int .i64 0, .bool false] 62)) (w.heap.size + 1) 62 #[.int .i64 0, .slice none 0 0, .int .i64 0, .bool false] := by
    have := Row.fresh (w.alloc (.cells #[.int .i64 (n : Nat), .slice ad arcs.length cc, .int .i64 (many : Nat), .bool true] 62)) 62 #[.int .i64 0, .slice none 0 0, .int .i64 0, .bool false]
    rwa [World.size_alloc] at this
  have HB2 := Lib.hid (And.intro hb2 (And.intro hB2 (And.intro hZ2 hs2)))
  have HA := Lib.hid ha
  have HOK := Lib.hid hok
  have HKw := Lib.hid hK
  clear hb2 hB2 hZ2 hs2 ha hok hK h9 hws
  go_enter Tryd.func27, Tryd.ntmps27
  go_wp2_with fail
  refine HW.out.mono ?_
  rintro e w1 ⟨⟨wv, rfl, htv⟩, hb1⟩
  have hx := HB2.out
  have hbw : Below w.heap.size w w1 := hx.1.trans (hb1.mono hx.1.size)
  have hB := hx.2.1.under hb1 hx.2.1.lt
  have hZ := hx.2.2.1.under hb1 hx.2.2.1.lt
  have b0 := hB.cell 0
  have b1 := hB.cell 1
  have b2 := hB.cell 2
  have b3 := hB.cell 3
  have z0 := hZ.cell 0
  have z1 := hZ.cell 1
  have z2 := hZ.cell 2
  have z3 := hZ.cell 3
  have y0 := hZ.thaw 0
  have y1 := hZ.thaw 1
  have y2 := hZ.thaw 2
  have y3 := hZ.thaw 3
  have t0 := hB.thaw 0
  have t1 := hB.thaw 1
  have t2 := hB.thaw 2
  have t3 := hB.thaw 3
  simp only [List.getElem?_toArray, List.getElem?_cons_zero, List.getElem?_cons_succ] at b0 b1 b2 b3 z0 z1 z2 z3
  have HZB := Lib.hid (And.intro hbw (And.intro hB hZ))
  have htvH := Lib.hid htv
  clear hx hbw hB hZ hb1
  obtain ⟨wb, wc, hwv, hwl, x0c⟩ := htv.at_ (k := 0) (by simp)
  subst hwv
  simp only [List.getElem_cons_zero] at x0c
  have x1c : w1.cell? ⟨wb, 1, none⟩ = some (txV [115, 112]) := by
    obtain ⟨wb', wc', hwv, _, q⟩ := htvH.out.at_ (k := 1) (by simp)
    cases hwv
    exact q
  simp only [List.length_cons, List.length_nil, Nat.zero_add, Nat.reduceAdd] at *
  have hr := putT_row HZB.out.2.2 (.int .i64 (n : Nat)) (.slice ad arcs.length cc) (.int .i64 (many : Nat)) (.bool true)
  have hbf := putT_below HZB.out.1 (show w.heap.size ≤ w.heap.size + 1 by omega) (.int .i64 (n : Nat)) (.slice ad arcs.length cc) (.int .i64 (many : Nat)) (.bool true)
  have HF := Lib.hid hbf
  have q0 := hr.cell 0
  have q1 := hr.cell 1
  have q2 := hr.cell 2
  have q3 := hr.cell 3
  simp only [List.getElem?_toArray, List.getElem?_cons_zero, List.getElem?_cons_succ] at q0 q1 q2 q3
  clear hr hbf htv
  go_wp2
  refine bodyPost_ret (v := .tuple #[.agg #[.int .i64 (n : Nat), .slice ad arcs.length cc, .int .i64 (many : Nat), .bool true], .bool false]) (by simp [results, Tryd.results27, go_sem, q0, q1, q2, q3]) rfl ?_
  exact ⟨Only.of_below _ HF.out, .inl ⟨rfl, _, _, _, _, _, _, rfl⟩⟩
set_option maxRecDepth 100000 in
set_option maxHeartbeats 4000000 in
theorem line_a_begun {w : World} {K : Nat} {ad : Option Addr} {cc : Nat} {st : Rst} (s : Tx) (h9 : s.length ≤ 2000) (ha : AV w K (.slice ad st.arcs.length cc) st.arcs) (hok : st.ok2) (hK : K ≤ w.heap.size) (y z u : Tx) (hp : st.begun = false) (hws : wordsL s = [[97], y, z, u]) :
    Calls Tryd.prog 27 #[.agg (tC st (.slice ad st.arcs.length cc)), txV s] w (LineP w K (.slice ad st.arcs.length cc) none) := by
  obtain ⟨n, arcs, p, many⟩ := st
  simp only [tC] at *
  subst hp
  have HW := Lib.hid (rwords_any s ((w.alloc (.cells #[.int .i64 (n : Nat), .slice ad arcs.length cc, .int .i64 (many : Nat), .bool false] 62)).alloc (.cells #[.int .i64 0, .slice none 0 0, .int .i64 0, .bool false] 62)) h9)
  rw [hws] at HW
  have hs2 : ((w.alloc (.cells #[.int .i64 (n : Nat), .slice ad arcs.length cc, .int .i64 (many : Nat), .bool false] 62)).alloc (.cells #[.int .i64 0, .slice none 0 0, .int .i64 0, .bool false] 62)).heap.size = w.heap.size + 2 := by simp
  have hb2 : Below w.heap.size w ((w.alloc (.cells #[.int .i64 (n : Nat), .slice ad arcs.length cc, .int .i64 (many : Nat), .bool false] 62)).alloc (.cells #[.int .i64 0, .slice none 0 0, .int .i64 0, .bool false] 62)) := ((Below.refl _ _).alloc (Nat.le_refl _) _).alloc (by simp) _
  have hB2 : Row ((w.alloc (.cells #[.int .i64 (n : Nat), .slice ad arcs.length cc, .int .i64 (many : Nat), .bool false] 62)).alloc (.cells #[.int .i64 0, .slice none 0 0, .int .i64 0, .bool false] 62)) w.heap.size 62 #[.int .i64 (n : Nat), .slice ad arcs.length cc, .int .i64 (many : Nat), .bool false] := (Row.fresh w _ _).past _
  have hZ2 : Row ((w.alloc (.cells #[.int .i64 (n : Nat), .slice ad arcs.length cc, .int .i64 (many : Nat), .bool false] 62)).alloc (.cells #[.int .i64 0, .slice none 0 0, .int .i64 0, .bool false] 62)) (w.heap.size + 1) 62 #[.int .i64 0, .slice none 0 0, .int .i64 0, .bool false] := by
    have := Row.fresh (w.alloc (.cells #[.int .i64 (n : Nat), .slice ad arcs.length cc, .int .i64 (many : Nat), .bool false] 62)) 62 #[.int .i64 0, .slice none 0 0, .int .i64 0, .bool false]
    rwa [World.size_alloc] at this
  have HB2 := Lib.hid (And.intro hb2 (And.intro hB2 (And.intro hZ2 hs2)))
  have HA := Lib.hid ha
  have HOK := Lib.hid hok
  have HKw := Lib.hid hK
  clear hb2 hB2 hZ2 hs2 ha hok hK h9 hws
  go_enter Tryd.func27, Tryd.ntmps27
  go_wp2_with fail
  refine HW.out.mono ?_
  rintro e w1 ⟨⟨wv, rfl, htv⟩, hb1⟩
  have hx := HB2.out
  have hbw : Below w.heap.size w w1 := hx.1.trans (hb1.mono hx.1.size)
  have hB := hx.2.1.under hb1 hx.2.1.lt
  have hZ := hx.2.2.1.under hb1 hx.2.2.1.lt
  have b0 := hB.cell 0
  have b1 := hB.cell 1
  have b2 := hB.cell 2
  have b3 := hB.cell 3
  have z0 := hZ.cell 0
  have z1 := hZ.cell 1
  have z2 := hZ.cell 2
  have z3 := hZ.cell 3
  have y0 := hZ.thaw 0
  have y1 := hZ.thaw 1
  have y2 := hZ.thaw 2
  have y3 := hZ.thaw 3
  have t0 := hB.thaw 0
  have t1 := hB.thaw 1
  have t2 := hB.thaw 2
  have t3 := hB.thaw 3
  simp only [List.getElem?_toArray, List.getElem?_cons_zero, List.getElem?_cons_succ] at b0 b1 b2 b3 z0 z1 z2 z3
  have HZB := Lib.hid (And.intro hbw (And.intro hB hZ))
  have htvH := Lib.hid htv
  clear hx hbw hB hZ hb1
  obtain ⟨wb, wc, hwv, hwl, x0c⟩ := htv.at_ (k := 0) (by simp)
  subst hwv
  simp only [List.getElem_cons_zero] at x0c
  simp only [List.length_cons, List.length_nil, Nat.zero_add, Nat.reduceAdd] at *
  have hr := putT_row HZB.out.2.2 (.int .i64 (n : Nat)) (.slice ad arcs.length cc) (.int .i64 (many : Nat)) (.bool false)
  have hbf := putT_below HZB.out.1 (show w.heap.size ≤ w.heap.size + 1 by omega) (.int .i64 (n : Nat)) (.slice ad arcs.length cc) (.int .i64 (many : Nat)) (.bool false)
  have HF := Lib.hid hbf
  have q0 := hr.cell 0
  have q1 := hr.cell 1
  have q2 := hr.cell 2
  have q3 := hr.cell 3
  simp only [List.getElem?_toArray, List.getElem?_cons_zero, List.getElem?_cons_succ] at q0 q1 q2 q3
  clear hr hbf htv
  go_wp2
  refine bodyPost_ret (v := .tuple #[.agg #[.int .i64 (n : Nat), .slice ad arcs.length cc, .int .i64 (many : Nat), .bool false], .bool false]) (by simp [results, Tryd.results27, go_sem, q0, q1, q2, q3]) rfl ?_
  exact ⟨Only.of_below _ HF.out, .inl ⟨rfl, _, _, _, _, _, _, rfl⟩⟩
set_option maxRecDepth 100000 in
set_option maxHeartbeats 4000000 in
theorem line_a_whole {w : World} {K : Nat} {ad : Option Addr} {cc : Nat} {st : Rst} (s : Tx) (h9 : s.length ≤ 2000) (ha : AV w K (.slice ad st.arcs.length cc) st.arcs) (hok : st.ok2) (hK : K ≤ w.heap.size) (y z u : Tx) (hp : st.begun = true) (hm : ¬ (st.arcs.length : Int) < (st.many : Int)) (hws : wordsL s = [[97], y, z, u]) :
    Calls Tryd.prog 27 #[.agg (tC st (.slice ad st.arcs.length cc)), txV s] w (LineP w K (.slice ad st.arcs.length cc) none) := by
  obtain ⟨n, arcs, p, many⟩ := st
  simp only [tC] at *
  subst hp
  have HW := Lib.hid (rwords_any s ((w.alloc (.cells #[.int .i64 (n : Nat), .slice ad arcs.length cc, .int .i64 (many : Nat), .bool true] 62)).alloc (.cells #[.int .i64 0, .slice none 0 0, .int .i64 0, .bool false] 62)) h9)
  rw [hws] at HW
  have hs2 : ((w.alloc (.cells #[.int .i64 (n : Nat), .slice ad arcs.length cc, .int .i64 (many : Nat), .bool true] 62)).alloc (.cells #[.int .i64 0, .slice none 0 0, .int .i64 0, .bool false] 62)).heap.size = w.heap.size + 2 := by simp
  have hb2 : Below w.heap.size w ((w.alloc (.cells #[.int .i64 (n : Nat), .slice ad arcs.length cc, .int .i64 (many : Nat), .bool true] 62)).alloc (.cells #[.int .i64 0, .slice none 0 0, .int .i64 0, .bool false] 62)) := ((Below.refl _ _).alloc (Nat.le_refl _) _).alloc (by simp) _
  have hB2 : Row ((w.alloc (.cells #[.int .i64 (n : Nat), .slice ad arcs.length cc, .int .i64 (many : Nat), .bool true] 62)).alloc (.cells #[.int .i64 0, .slice none 0 0, .int .i64 0, .bool false] 62)) w.heap.size 62 #[.int .i64 (n : Nat), .slice ad arcs.length cc, .int .i64 (many : Nat), .bool true] := (Row.fresh w _ _).past _
  have hZ2 : Row ((w.alloc (.cells #[.int .i64 (n : Nat), .slice ad arcs.length cc, .int .i64 (many : Nat), .bool true] 62)).alloc (.cells #[.int .i64 0, .slice none 0 0, .int .i64 0, .bool false] 62)) (w.heap.size + 1) 62 #[.int .i64 0, .slice none 0 0, .int .i64 0, .bool false] := by
    have := Row.fresh (w.alloc (.cells #[.int .i64 (n : Nat), .slice ad arcs.length cc, .int .i64 (many : Nat), .bool true] 62)) 62 #[.int .i64 0, .slice none 0 0, .int .i64 0, .bool false]
    rwa [World.size_alloc] at this
  have HB2 := Lib.hid (And.intro hb2 (And.intro hB2 (And.intro hZ2 hs2)))
  have HA := Lib.hid ha
  have HOK := Lib.hid hok
  have HKw := Lib.hid hK
  clear hb2 hB2 hZ2 hs2 ha hok hK h9 hws
  go_enter Tryd.func27, Tryd.ntmps27
  go_wp2_with fail
  refine HW.out.mono ?_
  rintro e w1 ⟨⟨wv, rfl, htv⟩, hb1⟩
  have hx := HB2.out
  have hbw : Below w.heap.size w w1 := hx.1.trans (hb1.mono hx.1.size)
  have hB := hx.2.1.under hb1 hx.2.1.lt
  have hZ := hx.2.2.1.under hb1 hx.2.2.1.lt
  have b0 := hB.cell 0
  have b1 := hB.cell 1
  have b2 := hB.cell 2
  have b3 := hB.cell 3
  have z0 := hZ.cell 0
  have z1 := hZ.cell 1
  have z2 := hZ.cell 2
  have z3 := hZ.cell 3
  have y0 := hZ.thaw 0
  have y1 := hZ.thaw 1
  have y2 := hZ.thaw 2
  have y3 := hZ.thaw 3
  have t0 := hB.thaw 0
  have t1 := hB.thaw 1
  have t2 := hB.thaw 2
  have t3 := hB.thaw 3
  simp only [List.getElem?_toArray, List.getElem?_cons_zero, List.getElem?_cons_succ] at b0 b1 b2 b3 z0 z1 z2 z3
  have HZB := Lib.hid (And.intro hbw (And.intro hB hZ))
  have htvH := Lib.hid htv
  clear hx hbw hB hZ hb1
  obtain ⟨wb, wc, hwv, hwl, x0c⟩ := htv.at_ (k := 0) (by simp)
  subst hwv
  simp only [List.getElem_cons_zero] at x0c
  simp only [List.length_cons, List.length_nil, Nat.zero_add, Nat.reduceAdd] at *
  have hr := putT_row HZB.out.2.2 (.int .i64 (n : Nat)) (.slice ad arcs.length cc) (.int .i64 (many : Nat)) (.bool true)
  have hbf := putT_below HZB.out.1 (show w.heap.size ≤ w.heap.size + 1 by omega) (.int .i64 (n : Nat)) (.slice ad arcs.length cc) (.int .i64 (many : Nat)) (.bool true)
  have HF := Lib.hid hbf
  have q0 := hr.cell 0
  have q1 := hr.cell 1
  have q2 := hr.cell 2
  have q3 := hr.cell 3
  simp only [List.getElem?_toArray, List.getElem?_cons_zero, List.getElem?_cons_succ] at q0 q1 q2 q3
  clear hr hbf htv
  go_wp2
  refine bodyPost_ret (v := .tuple #[.agg #[.int .i64 (n : Nat), .slice ad arcs.length cc, .int .i64 (many : Nat), .bool true], .bool false]) (by simp [results, Tryd.results27, go_sem, q0, q1, q2, q3]) rfl ?_
  exact ⟨Only.of_below _ HF.out, .inl ⟨rfl, _, _, _, _, _, _, rfl⟩⟩
end Go.Proofs.YtdjfmmfggkkbaaaDoor
