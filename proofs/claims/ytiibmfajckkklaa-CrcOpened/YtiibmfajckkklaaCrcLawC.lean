/- Walk of the law CrcOpened. -/
import Derived.Test.YtiibmfajckkklaaCrcOpenMath
import Derived.Test.YtiibmfajckkklaaCrcLawB
namespace Go.Proofs.Ytiibmfajckkklaa
open Go.RowKit

theorem Row.bytes {w : World} {g : Nat} {l : List (BitVec 8)} (h : Row w g 5 (cells l).toArray) : Bytes w (some ⟨g, 0, none⟩) l := by
  refine .inr ⟨g, 0, rfl, fun i x hx => ?_⟩
  rw [h.cell]
  simp [cells_get, hx]
theorem same_at (a b : Option Addr) (l m : List (BitVec 8)) (n k c d : Nat) (w : World) (ha : Bytes w a l) (hb : Bytes w b m) (hn : l.length = n) (hk : m.length = k) (r : Bool) (hr : decide (l = m) = r) :
    Calls Try.prog 20 #[.slice a n c, .slice b k d] w fun e w' => e = .returned (.bool r) ∧ w = w' := by
  subst hn
  subst hk
  subst hr
  exact same_any a b l m c d w ha hb

theorem opened_big (a : Option Addr) (n c : Nat) (w : World) (h : 1000 < n) :
    Calls Try.prog 9 #[.slice a n c] w fun e w' => e = .returned (.bool true) ∧ Below w.heap.size w w' := by
  have h2 : (1000 : Int) < (n : Int) := by omega
  go_enter Try.func9, Try.ntmps9
  go_wp2_with fail
  refine (known_any _).mono ?_
  rintro e w8 ⟨rfl, hb8⟩
  go_wp2
  go_ret
  exact ⟨rfl, hb8⟩

theorem opened_short (a : Option Addr) (n c : Nat) (w : World) (h : n < 4) :
    Calls Try.prog 9 #[.slice a n c] w fun e w' => e = .returned (.bool true) ∧ Below w.heap.size w w' := by
  have h2 : (n : Int) < 4 := by omega
  go_enter Try.func9, Try.ntmps9
  go_wp2_with fail
  refine (open_short a n c w h).mono ?_
  rintro e w1 ⟨rfl, rfl⟩
  go_wp2_with fail
  refine (known_any _).mono ?_
  rintro e w8 ⟨rfl, hb8⟩
  go_wp2
  go_ret
  exact ⟨rfl, hb8⟩

set_option maxRecDepth 100000 in
theorem opened_good (a : Option Addr) (p q : List (BitVec 8)) (c : Nat) (w : World) (hB : Bytes w a (p ++ q)) (hq : q.length = 4) (hc : p.length + 4 ≤ c) (hl : p.length ≤ 996) (hg : q = le4 (Crc.sum p)) :
    Calls Try.prog 9 #[.slice a (p.length + 4) c] w fun e w' => e = .returned (.bool true) ∧ Below w.heap.size w w' := by
  have HT := Lib.hid (show (U (Crc.sum p) != U (rdTo q 4)) = false by rw [open_test p q hq]; simp [hg])
  have HW := Lib.hid (show wrap p = p ++ q by rw [hg]; rfl)
  have HQ := Lib.hid hq
  have HA := Lib.hid hB
  clear hg hq hB
  go_enter Try.func9, Try.ntmps9
  go_wp2_with fail
  refine (open_good a p q c w HA.out HQ.out hc (by omega) HT.out).mono ?_
  rintro e w1 ⟨g, rfl, hg, hr, hb1⟩
  go_wp2_with fail
  refine (wrap_any (some ⟨g, 0, none⟩) p p.length w1 hr.bytes (by omega)).mono ?_
  rintro e w2 ⟨g2, rfl, hg2, hr2, hb2⟩
  have hb02 := bth hb1 hb2
  go_wp2_with fail
  refine (same_at _ _ (wrap p) (p ++ q) _ _ _ _ w2 hr2.bytes (HA.out.under hb02) (wrap_length p) (by rw [List.length_append, HQ.out]) true (by rw [HW.out]; simp)).mono ?_
  rintro e w3 ⟨rfl, rfl⟩
  go_wp2_with fail
  refine (known_any _).mono ?_
  rintro e w8 ⟨rfl, hb8⟩
  go_wp2
  go_ret
  exact ⟨rfl, bth hb02 hb8⟩

set_option maxRecDepth 100000 in
theorem opened_bad (a : Option Addr) (p q : List (BitVec 8)) (c : Nat) (w : World) (hB : Bytes w a (p ++ q)) (hq : q.length = 4) (hc : p.length + 4 ≤ c) (hl : p.length ≤ 996) (hg : ¬ q = le4 (Crc.sum p)) :
    Calls Try.prog 9 #[.slice a (p.length + 4) c] w fun e w' => e = .returned (.bool true) ∧ Below w.heap.size w w' := by
  have HT := Lib.hid (show (U (Crc.sum p) != U (rdTo q 4)) = true by rw [open_test p q hq]; simp [hg])
  have HW := Lib.hid (show ¬ wrap p = p ++ q by
    intro e
    exact hg (List.append_cancel_left e).symm)
  have HQ := Lib.hid hq
  have HA := Lib.hid hB
  have h1 : ¬ ((p.length : Int) + 4 < 4) := by omega
  clear hg hq hB
  go_enter Try.func9, Try.ntmps9
  go_wp2_with fail
  refine (open_bad a p q c w HA.out HQ.out hc (by omega) HT.out).mono ?_
  rintro e w1 ⟨rfl, hb1⟩
  go_wp2_with fail
  refine (wrap_any _ p _ w1 (HA.out.under hb1).left (by omega)).mono ?_
  rintro e w2 ⟨g2, rfl, hg2, hr2, hb2⟩
  have hb02 := bth hb1 hb2
  go_wp2_with fail
  refine (same_at _ _ (wrap p) (p ++ q) _ _ _ _ w2 hr2.bytes (HA.out.under hb02) (wrap_length p) (by rw [List.length_append, HQ.out]) false (by simpa using HW.out)).mono ?_
  rintro e w3 ⟨rfl, rfl⟩
  go_wp2_with fail
  refine (known_any _).mono ?_
  rintro e w8 ⟨rfl, hb8⟩
  go_wp2
  go_ret
  exact ⟨rfl, bth hb02 hb8⟩

theorem opened_walk (a : Option Addr) (l : List (BitVec 8)) (c : Nat) (w : World) (hB : Bytes w a l) (hc : l.length ≤ c) :
    Calls Try.prog 9 #[.slice a l.length c] w fun e w' => e = .returned (.bool true) ∧ Below w.heap.size w w' := by
  by_cases h : 1000 < l.length
  · exact opened_big a l.length c w h
  · by_cases h4 : l.length < 4
    · exact opened_short a l.length c w h4
    · have hq : (l.drop (l.length - 4)).length = 4 := by simp; omega
      have hp : (l.take (l.length - 4)).length = l.length - 4 := by simp
      have hpq : Bytes w a (l.take (l.length - 4) ++ l.drop (l.length - 4)) := by rw [List.take_append_drop]; exact hB
      have e : l.length = (l.take (l.length - 4)).length + 4 := by rw [hp]; omega
      by_cases hg : l.drop (l.length - 4) = le4 (Crc.sum (l.take (l.length - 4)))
      · have := opened_good a _ _ c w hpq hq (by omega) (by omega) hg
        rw [← e] at this
        exact this
      · have := opened_bad a _ _ c w hpq hq (by omega) (by omega) hg
        rw [← e] at this
        exact this
end Go.Proofs.Ytiibmfajckkklaa
