/- GrParses. -/
import Derived.Test.YtdjfmmfggkkbaaaDoorGrO
namespace Go.Proofs.YtdjfmmfggkkbaaaDoor
open Go.RowKit Go.Shelf Grm

def Told (R : Nat ⊕ (Nat × List Ar)) (n : Int) (l : List Ar) (er k : Int) : Prop := match R with
  | .inl k' => n = 0 ∧ l = [] ∧ er = 12 ∧ k = (k' : Int)
  | .inr p => n = (p.1 : Int) ∧ l = p.2 ∧ er = 0 ∧ k = 0
/-- What both tell, in one form: a map by value. -/
theorem parse_form {w w' : World} {s : Tx} {e : Ending} (h : ParseP w (parseL s) e w') : ∃ (n : Int) (a : Option Addr) (l : List Ar) (c : Nat) (er k : Int), e = .returned (.tuple #[mV n a l.length c, .int .i64 er, .int .i64 k]) ∧ Arcs w' a l ∧ Below w.heap.size w w' ∧ l.length ≤ 140737488351232 ∧ Told (parseL s) n l er k := by
  rcases h with ⟨hb, ⟨k, hR, he⟩ | ⟨n, arcs, v, hR, he, hav⟩⟩
  · exact ⟨0, none, [], 0, 12, k, he, .inl rfl, hb, by simp, by rw [hR]; exact ⟨rfl, rfl, rfl, rfl⟩⟩
  · obtain ⟨ad, cc, rfl⟩ := hav.shape
    exact ⟨n, ad, arcs, cc, 0, 0, he, hav.arcs, hb, by have := (parse_good s n arcs hR).2; omega, by rw [hR]; exact ⟨rfl, rfl, rfl, rfl⟩⟩
set_option maxRecDepth 100000 in
set_option maxHeartbeats 2000000 in
theorem gparse_big (s : Tx) (w : World) (hb : 1500 < s.length) : Calls Tryd.prog 3 #[txV s] w fun e w' => e = .returned (.bool true) ∧ Below w.heap.size w w' := by
  have e1 := gr_size s
  have i1 : (1500 : Int) < (s.length : Int) := by omega
  clear hb
  go_enter Tryd.func3, Tryd.ntmps3
  go_wp2_with fail
  refine (known_any _).mono ?_
  rintro e w2 ⟨rfl, hb2⟩
  have HB2 := Lib.hid hb2
  clear hb2
  go_wp2
  go_ret
  exact ⟨rfl, HB2.out⟩
set_option maxRecDepth 100000 in
set_option maxHeartbeats 4000000 in
theorem gparse_walk (s : Tx) (w : World) : Calls Tryd.prog 3 #[txV s] w fun e w' => e = .returned (.bool true) ∧ Below w.heap.size w w' := by
  by_cases hbig : 1500 < s.length
  · exact gparse_big s w hbig
  have e1 := gr_size s
  have i1 : ¬ (1500 : Int) < (s.length : Int) := by omega
  have HP := Lib.hid (parse_any s (by omega) w)
  have HQ := Lib.hid (fun w => rparse_any s (by omega) w)
  clear hbig
  go_enter Tryd.func3, Tryd.ntmps3
  go_wp2_with fail
  refine HP.out.mono ?_
  rintro e w1 hPP
  obtain ⟨n, a, l, c, er, k, rfl, hA, hb1, hl9, hR⟩ := parse_form hPP
  have HA := Lib.hid hA
  have HB1 := Lib.hid (hb1.alloc hb1.size (.cells #[.int .i64 n, .slice a l.length c] 25))
  have HR1 := Lib.hid (Row.fresh w1 25 #[.int .i64 n, .slice a l.length c])
  have HR := Lib.hid hR
  have HL9 := Lib.hid hl9
  have HAa := Lib.hid (hA.under ((Below.refl w1.heap.size w1).alloc (Nat.le_refl _) (.cells #[.int .i64 n, .slice a l.length c] 25)))
  clear hPP hA hb1 hl9 hR
  go_wp2_with fail
  refine (HQ.out _).mono ?_
  rintro e w2 hPP
  obtain ⟨n2, a2, l2, c2, er2, k2, rfl, hA2, hb2, hl92, hR2⟩ := parse_form hPP
  obtain ⟨rfl, rfl, rfl, rfl⟩ : n2 = n ∧ l2 = l ∧ er2 = er ∧ k2 = k := by
    have h1 := HR.out
    clear HP HQ hPP HR
    unfold Told at h1 hR2
    revert h1 hR2
    cases parseL s with
    | inl k' => rintro ⟨q1, q2, q3, q4⟩ ⟨p1, p2, p3, p4⟩; exact ⟨by rw [q1, p1], by rw [q2, p2], by rw [q3, p3], by rw [q4, p4]⟩
    | inr p => rintro ⟨q1, q2, q3, q4⟩ ⟨p1, p2, p3, p4⟩; exact ⟨by rw [q1, p1], by rw [q2, p2], by rw [q3, p3], by rw [q4, p4]⟩
  have hB2 : Below w.heap.size w w2 := HB1.out.trans (hb2.mono HB1.out.size)
  have hr1 := HR1.out.under hb2 HR1.out.lt
  have hr2 := Row.fresh w2 25 #[.int .i64 n2, .slice a2 l2.length c2]
  have hbb : Below w2.heap.size w2 (w2.alloc (.cells #[.int .i64 n2, .slice a2 l2.length c2] 25)) := (Below.refl _ _).alloc (Nat.le_refl _) _
  have HS := Lib.hid (rsame_any n2 n2 a a2 l2 l2 c c2 _ ((HAa.out.under hb2).under hbb) (hA2.under hbb) HL9.out HL9.out)
  simp only [and_self, decide_true] at HS
  have HB3 := Lib.hid (hB2.alloc hB2.size (.cells #[.int .i64 n2, .slice a2 l2.length c2] 25))
  have c0 := (hr1.past (.cells #[.int .i64 n2, .slice a2 l2.length c2] 25)).cell 0
  have c1 := (hr1.past (.cells #[.int .i64 n2, .slice a2 l2.length c2] 25)).cell 1
  have d0 := hr2.cell 0
  have d1 := hr2.cell 1
  simp only [List.getElem?_toArray, List.getElem?_cons_zero, List.getElem?_cons_succ] at c0 c1 d0 d1
  clear hPP hA2 hb2 hl92 hR2 hB2 hr1 hr2 hbb
  go_wp2_with fail
  refine HS.out.mono ?_
  rintro e w4 ⟨rfl, hb4⟩
  have HB4 := Lib.hid (HB3.out.trans (hb4.mono HB3.out.size))
  clear hb4
  go_wp2_with fail
  refine (known_any _).mono ?_
  rintro e w6 ⟨rfl, hb6⟩
  have HB6 := Lib.hid (HB4.out.trans (hb6.mono HB4.out.size))
  clear hb6
  go_wp2
  go_ret
  exact ⟨rfl, HB6.out⟩
end Go.Proofs.YtdjfmmfggkkbaaaDoor
