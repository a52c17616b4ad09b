/- Walk of the law CrcWraps. -/
import Derived.Test.YtiibmfajckkklaaCrcLawC
import Derived.Test.YtiibmfajckkklaaCrcRef
namespace Go.Proofs.Ytiibmfajckkklaa
open Go.RowKit

theorem wraps_big (a : Option Addr) (n c : Nat) (w : World) (h : 1500 < n) :
    Calls Try.prog 4 #[.slice a n c] w fun e w' => e = .returned (.bool true) ∧ Below w.heap.size w w' := by
  have h2 : (1500 : Int) < (n : Int) := by omega
  go_enter Try.func4, Try.ntmps4
  go_wp2_with fail
  refine (known_any _).mono ?_
  rintro e w8 ⟨rfl, hb8⟩
  go_wp2
  go_ret
  exact ⟨rfl, hb8⟩

theorem wrap_at (a : Option Addr) (l : List (BitVec 8)) (n c : Nat) (w : World) (hB : Bytes w a l) (hn : l.length = n) (hl : l.length ≤ 1000000000) :
    Calls Try.prog 21 #[.slice a n c] w fun e w' => ∃ g, e = .returned (.slice (some ⟨g, 0, none⟩) (n + 4) (n + 4)) ∧ w.heap.size ≤ g ∧ Row w' g 5 (cells (wrap l)).toArray ∧ Below w.heap.size w w' := by
  subst hn
  exact wrap_any a l c w hB hl

/-- What both Opens tell: the same bytes, the same number. -/
theorem wraps_tail (a : Option Addr) (l : List (BitVec 8)) (n c : Nat) (w : World) (hB : Bytes w a l) (hn : l.length = n) (hl : n ≤ 1500)
    (ho : ∀ W, Below w.heap.size w W → Calls Try.prog 18 #[.slice a n c] W fun e w' => ∃ xa xn xc m t, e = .returned (.tuple #[.slice xa xn xc, .int .i64 t]) ∧ m.length = xn ∧ Bytes w' xa m ∧ Below W.heap.size W w' ∧
      (∀ W2, Below w'.heap.size w' W2 → Calls Try.prog 19 #[.slice a n c] W2 fun e2 w2 => ∃ ya yn yc, e2 = .returned (.tuple #[.slice ya yn yc, .int .i64 t]) ∧ m.length = yn ∧ Bytes w2 ya m ∧ Below W2.heap.size W2 w2)) :
    Calls Try.prog 4 #[.slice a n c] w fun e w' => e = .returned (.bool true) ∧ Below w.heap.size w w' := by
  have h2 : (n : Int) ≤ 1500 := by omega
  have HB := Lib.hid hB
  have HO := Lib.hid (ho w (Below.refl _ _))
  have HN := Lib.hid hn
  clear ho hB hn
  go_enter Try.func4, Try.ntmps4
  go_wp2_with fail
  refine HO.out.mono ?_
  rintro e w1 ⟨xa, xn, xc, m, t, rfl, hxn, hx, hb1, hr⟩
  have HR := Lib.hid (hr w1 (Below.refl _ _))
  have HX := Lib.hid hx
  have HXN := Lib.hid hxn
  clear hr HO hx hxn
  go_wp2_with fail
  refine HR.out.mono ?_
  rintro e w2 ⟨ya, yn, yc, rfl, hyn, hy, hb2⟩
  have HY := Lib.hid hy
  have HYN := Lib.hid hyn
  have hb02 := bth hb1 hb2
  clear hy HR hyn
  go_wp2_with fail
  refine (wrap_at a l n c w2 (HB.out.under hb02) HN.out (by have := HN.out; omega)).mono ?_
  rintro e w3 ⟨g, rfl, hg, hr3, hb3⟩
  have hb03 := bth hb02 hb3
  go_wp2_with fail
  refine (refWrap_at a l n c w3 (HB.out.under hb03) HN.out.symm (by have := HN.out; omega)).mono ?_
  rintro e w4 ⟨v, rfl, hown, hb4⟩
  obtain ⟨aa, cc, hv, hBw, _⟩ := hown.shape
  subst hv
  have hb04 := bth hb03 hb4
  have hr4 := hr3.under hb4 hr3.lt
  clear hown hr3
  go_wp2_with fail
  refine (same_at _ _ (wrap l) (wrap l) _ _ _ _ w4 hr4.bytes hBw (by rw [wrap_length, HN.out]) rfl true (by simp)).mono ?_
  rintro e w5 ⟨rfl, rfl⟩
  clear hr4 hBw
  go_wp2_with fail
  refine (same_at _ _ m m _ _ _ _ w4 (HX.out.under (bth hb2 (bth hb3 hb4))) (HY.out.under (bth hb3 hb4)) HXN.out HYN.out true (by simp)).mono ?_
  rintro e w5 ⟨rfl, rfl⟩
  go_wp2_with fail
  refine (known_any _).mono ?_
  rintro e w8 ⟨rfl, hb8⟩
  go_wp2
  go_ret
  exact ⟨rfl, bth hb04 hb8⟩

theorem wraps_walk (a : Option Addr) (l : List (BitVec 8)) (c : Nat) (w : World) (hB : Bytes w a l) (hc : l.length ≤ c) :
    Calls Try.prog 4 #[.slice a l.length c] w fun e w' => e = .returned (.bool true) ∧ Below w.heap.size w w' := by
  by_cases h : 1500 < l.length
  · exact wraps_big a l.length c w h
  · refine wraps_tail a l l.length c w hB rfl (by omega) ?_
    intro W hW
    have hBW := hB.under hW
    by_cases h4 : l.length < 4
    · refine (open_short a l.length c W h4).mono ?_
      rintro e w1 ⟨rfl, rfl⟩
      refine ⟨none, 0, 0, [], 5, rfl, rfl, Bytes.nil _ _, Below.refl _ _, fun W2 _ => ?_⟩
      refine (refOpen_short a l.length c W2 h4).mono ?_
      rintro e w2 ⟨rfl, hb2⟩
      exact ⟨none, 0, 0, rfl, rfl, Bytes.nil _ _, hb2⟩
    · have hq : (l.drop (l.length - 4)).length = 4 := by simp; omega
      have hp : (l.take (l.length - 4)).length = l.length - 4 := by simp
      have hpq : ∀ W', Bytes W' a l → Bytes W' a (l.take (l.length - 4) ++ l.drop (l.length - 4)) := fun W' hh => by rw [List.take_append_drop]; exact hh
      have e : l.length = (l.take (l.length - 4)).length + 4 := by rw [hp]; omega
      by_cases hg : l.drop (l.length - 4) = le4 (Crc.sum (l.take (l.length - 4)))
      · have ho := open_good a _ _ c W (hpq W hBW) hq (by omega) (by omega) (by rw [open_test _ _ hq]; simp [hg])
        rw [← e] at ho
        refine ho.mono ?_
        rintro e1 w1 ⟨g, rfl, hgg, hr, hb1⟩
        refine ⟨_, _, _, l.take (l.length - 4), 0, rfl, rfl, hr.bytes, hb1, fun W2 hW2 => ?_⟩
        have hr2 := refOpen_good a _ _ c W2 (hpq W2 ((hBW.under hb1).under hW2)) hq (by omega) (by omega) hg
        rw [← e] at hr2
        refine hr2.mono ?_
        rintro e2 w2 ⟨rfl, hb2⟩
        exact ⟨_, _, _, rfl, rfl, (hpq w2 (((hBW.under hb1).under hW2).under hb2)).left, hb2⟩
      · have ho := open_bad a _ _ c W (hpq W hBW) hq (by omega) (by omega) (by rw [open_test _ _ hq]; simp [hg])
        rw [← e] at ho
        refine ho.mono ?_
        rintro e1 w1 ⟨rfl, hb1⟩
        refine ⟨none, 0, 0, [], 5, rfl, rfl, Bytes.nil _ _, hb1, fun W2 hW2 => ?_⟩
        have hr2 := refOpen_bad a _ _ c W2 (hpq W2 ((hBW.under hb1).under hW2)) hq (by omega) (by omega) hg
        rw [← e] at hr2
        refine hr2.mono ?_
        rintro e2 w2 ⟨rfl, hb2⟩
        exact ⟨none, 0, 0, rfl, rfl, Bytes.nil _ _, hb2⟩
end Go.Proofs.Ytiibmfajckkklaa
