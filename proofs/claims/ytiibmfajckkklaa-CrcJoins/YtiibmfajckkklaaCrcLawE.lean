/- Walk of the law CrcJoins. -/
import Derived.Test.YtiibmfajckkklaaCrcLawB
import Derived.Test.YtiibmfajckkklaaBytes2
namespace Go.Proofs.Ytiibmfajckkklaa
open Go.RowKit

theorem sum_at (a : Option Addr) (l : List (BitVec 8)) (n c : Nat) (w : World) (hb : Bytes w a l) (hn : l.length = n) (hl : l.length ≤ 1000000000) :
    Calls Try.prog 12 #[.slice a n c] w fun e w' => e = .returned (.int .u32 (U (Crc.sum l))) ∧ Below w.heap.size w w' := by
  subst hn
  exact sum_any a l c w hb hl

theorem joins_big (a b d : Option Addr) (n m k p q r : Nat) (w : World) (hn : n ≤ 140737488355328) (hm : m ≤ 140737488355328) (hk : k ≤ 140737488355328) (h : 2000 < n + m + k) :
    Calls Try.prog 5 #[.slice a n p, .slice b m q, .slice d k r] w fun e w' => e = .returned (.bool true) ∧ Below w.heap.size w w' := by
  have h2 : (2000 : Int) < (n : Int) + (m : Int) + (k : Int) := by omega
  go_enter Try.func5, Try.ntmps5
  go_wp2_with fail
  refine (known_any _).mono ?_
  rintro e w8 ⟨rfl, hb8⟩
  go_wp2
  go_ret
  exact ⟨rfl, hb8⟩

set_option maxRecDepth 100000 in
theorem joins_small (a b d : Option Addr) (l m k : List (BitVec 8)) (p q r : Nat) (w : World) (hA : Bytes w a l) (hB : Bytes w b m) (hD : Bytes w d k) (h : l.length + m.length + k.length ≤ 2000) :
    Calls Try.prog 5 #[.slice a l.length p, .slice b m.length q, .slice d k.length r] w fun e w' => e = .returned (.bool true) ∧ Below w.heap.size w w' := by
  have h2 : (l.length : Int) + (m.length : Int) + (k.length : Int) ≤ 2000 := by omega
  have HA := Lib.hid hA
  have HB := Lib.hid hB
  have HD := Lib.hid hD
  clear hA hB hD
  go_enter Try.func5, Try.ntmps5
  go_wp2_with fail
  refine (copy_any a l p w HA.out (by omega)).mono ?_
  rintro e w1 ⟨v, rfl, hown, hb1⟩
  have HO := Lib.hid hown
  clear hown
  go_wp2_with (at_builtin; refine wpList_appendB rfl _ _ rfl w.heap.size v l m b m.length q rfl rfl rfl HO.out (HB.out.under hb1) (by omega) hb1.size ?_; intro v2 w2 HO2 hg2 hat2)
  have hb2 : Below w.heap.size w w2 := hb1.grown hg2 hb1.size (fun g hg => (HO.out.lt g hg).1)
  clear hg2 hat2 HO hb1
  obtain ⟨aa, cc, hv, hBab, _⟩ := HO2.out.shape
  subst hv
  clear HO2
  refine (sum_at aa (l ++ m) _ cc w2 hBab rfl (by simp; omega)).mono ?_
  rintro e w3 ⟨rfl, hb3⟩
  have hb03 := hb2.trans (hb3.mono hb2.size)
  clear hBab hb2 hb3
  go_wp2_with fail
  refine (sum_any d k r w3 (HD.out.under hb03) (by omega)).mono ?_
  rintro e w4 ⟨rfl, hb4⟩
  go_wp2_with fail
  refine (join_at _ _ _ k.length w4 rfl (by omega)).mono ?_
  rintro e w5 ⟨rfl, hb5⟩
  have hb05 := bth hb03 (bth hb4 hb5)
  clear hb03 hb4 hb5
  go_wp2_with fail
  refine (sum_any a l p w5 (HA.out.under hb05) (by omega)).mono ?_
  rintro e w6 ⟨rfl, hb6⟩
  have hb06 := bth hb05 hb6
  clear hb05 hb6
  go_wp2_with fail
  refine (sum_any b m q w6 (HB.out.under hb06) (by omega)).mono ?_
  rintro e w7 ⟨rfl, hb7⟩
  have hb07 := bth hb06 hb7
  clear hb06 hb7
  go_wp2_with fail
  refine (sum_any d k r w7 (HD.out.under hb07) (by omega)).mono ?_
  rintro e w8 ⟨rfl, hb8⟩
  have hb08 := bth hb07 hb8
  clear hb07 hb8
  go_wp2_with fail
  refine (join_at _ _ _ k.length w8 rfl (by omega)).mono ?_
  rintro e w9 ⟨rfl, hb9⟩
  have hb09 := bth hb08 hb9
  clear hb08 hb9
  go_wp2_with fail
  refine (join_at _ _ _ (m.length + k.length) w9 (by omega) (by omega)).mono ?_
  rintro e w10 ⟨rfl, hb10⟩
  have hb010 := bth hb09 hb10
  clear hb09 hb10
  go_wp2_with fail
  refine (sum_any a l p w10 (HA.out.under hb010) (by omega)).mono ?_
  rintro e w11 ⟨rfl, hb11⟩
  have hb011 := bth hb010 hb11
  clear hb010 hb11
  go_wp2_with fail
  refine (more_any _ b m q w11 (HB.out.under hb011) (by omega)).mono ?_
  rintro e w12 ⟨rfl, hb12⟩
  have hb012 := bth hb011 hb12
  clear hb011 hb12
  rw [show Crc.more (Crc.sum l) m = Crc.sum (l ++ m) from (Crc.more_append _ l m).symm]
  go_wp2_with fail
  refine (sum_any a l p w12 (HA.out.under hb012) (by omega)).mono ?_
  rintro e w13 ⟨rfl, hb13⟩
  have hb013 := bth hb012 hb13
  clear hb012 hb13
  go_wp2_with fail
  refine (sum_any b m q w13 (HB.out.under hb013) (by omega)).mono ?_
  rintro e w14 ⟨rfl, hb14⟩
  have hb014 := bth hb013 hb14
  clear hb013 hb14
  go_wp2_with fail
  refine (join_at _ _ _ m.length w14 rfl (by omega)).mono ?_
  rintro e w15 ⟨rfl, hb15⟩
  have hb015 := bth hb014 hb15
  clear hb014 hb15
  have hj : Crc.join (Crc.sum l) (Crc.sum m) m.length = Crc.sum (l ++ m) := by
    rw [← Crc.more_join]
    exact (Crc.more_append _ l m).symm
  have hj2 : Crc.join (Crc.sum l) (Crc.join (Crc.sum m) (Crc.sum k) k.length) (m.length + k.length) = Crc.join (Crc.sum (l ++ m)) (Crc.sum k) k.length := by
    rw [← hj, Crc.join_join]
  rw [hj, hj2]
  clear hj hj2
  go_wp2_with fail
  refine (known_any _).mono ?_
  rintro e w16 ⟨rfl, hb16⟩
  go_wp2
  go_ret
  exact ⟨rfl, bth hb015 hb16⟩

theorem joins_walk (a b d : Option Addr) (l m k : List (BitVec 8)) (p q r : Nat) (w : World) (hA : Bytes w a l) (hB : Bytes w b m) (hD : Bytes w d k) (hp : l.length ≤ p) (hq : m.length ≤ q) (hr : k.length ≤ r)
    (hp' : p ≤ 140737488351232) (hq' : q ≤ 140737488351232) (hr' : r ≤ 140737488351232) :
    Calls Try.prog 5 #[.slice a l.length p, .slice b m.length q, .slice d k.length r] w fun e w' => e = .returned (.bool true) ∧ Below w.heap.size w w' := by
  by_cases h : 2000 < l.length + m.length + k.length
  · exact joins_big a b d _ _ _ p q r w (by omega) (by omega) (by omega) h
  · exact joins_small a b d l m k p q r w hA hB hD (by omega)
end Go.Proofs.Ytiibmfajckkklaa
