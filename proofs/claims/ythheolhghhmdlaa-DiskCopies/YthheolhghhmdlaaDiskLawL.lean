/- DiskCopies: more than the law looks at. -/
import Derived.Test.YthheolhghhmdlaaDiskLawK
namespace Go.Proofs.Ythheolhghhmdlaa
open Go.RowKit Dsk

set_option maxRecDepth 100000 in
theorem copies_big (ad : Option Addr) (l : List Ope) (c : Nat) (xk : Int) (xn xt : Nm) (xd : By) (ax : Option Addr) (cx : Nat) (W : World) (hO : Ops W (fun k => k < W.heap.size) ad l) (hF : Few l) (hl9 : l.length ≤ 140737488351232) (hn9 : xn.length ≤ 140737488351232) (hd9 : xd.length ≤ 140737488351232) (hbig : 800 < longL l ∨ 50 < l.length ∨ 100 < xd.length ∨ 100 < xn.length) :
    Calls Try.prog 6 #[.slice ad l.length c, opV ⟨xk, xn, xt, xd⟩ ax cx] W fun e w' => e = .returned (.bool true) ∧ Below W.heap.size W w' := by
  obtain ⟨W1, hW1⟩ : ∃ W1, W1 = W.alloc (.cells #[.int .i64 xk, .string ⟨xn.toArray⟩, .string ⟨xt.toArray⟩, .slice ax xd.length cx] 36) := ⟨_, rfl⟩
  have hbW : Below W.heap.size W W1 := by rw [hW1]; exact (Below.refl _ _).alloc (Nat.le_refl _) _
  have hrW : Row W1 W.heap.size 36 #[.int .i64 xk, .string ⟨xn.toArray⟩, .string ⟨xt.toArray⟩, .slice ax xd.length cx] := by rw [hW1]; exact Row.fresh W _ _
  have HL := Lib.hid (long_test (c := c) (hO.below hbW) hF hl9)
  have HBig := Lib.hid hbig
  have HW1 := Lib.hid hW1
  have HRW := Lib.hid hrW
  have HBW := Lib.hid hbW
  have hlI : (l.length : Int) ≤ 140737488351232 := by omega
  have hdI : (xd.length : Int) ≤ 140737488351232 := by omega
  have hnI : (xn.length : Int) ≤ 140737488351232 := by omega
  have e1 := arr_size xn
  clear hO hF hl9 hbig hbW hrW hW1
  go_enter Try.func6, Try.ntmps6
  go_wp2_with fail
  rw [← HW1.out]
  refine HL.out.mono ?_
  rintro e w1 ⟨z, rfl, hz, hb⟩
  have HB := Lib.hid (HBW.out.trans (hb.mono HBW.out.size))
  have hr1 := HRW.out.under hb HRW.out.lt
  have u1 : w1.cell? ⟨W.heap.size, 1, none⟩ = some (.string ⟨xn.toArray⟩) := hr1.cell 1
  have u3 : w1.cell? ⟨W.heap.size, 3, none⟩ = some (.slice ax xd.length cx) := hr1.cell 3
  have ul := hr1.lt
  have HK := Lib.hid (known_any w1)
  have HZ := Lib.hid hz
  clear hb hz hr1 HRW HBW HW1 HL
  by_cases h0 : 800 < z
  · go_wp2_with fail
    refine HK.out.mono ?_
    rintro e w5 ⟨rfl, hb5⟩
    have HB5 := Lib.hid (HB.out.trans (hb5.mono HB.out.size))
    clear hb5
    go_wp2
    go_ret
    exact ⟨rfl, HB5.out⟩
  · have _p0 : True := trivial
    by_cases h1 : (50 : Int) < (l.length : Int)
    · go_wp2_with fail
      refine HK.out.mono ?_
      rintro e w5 ⟨rfl, hb5⟩
      have HB5 := Lib.hid (HB.out.trans (hb5.mono HB.out.size))
      clear hb5
      go_wp2
      go_ret
      exact ⟨rfl, HB5.out⟩
    · have _p1 : True := trivial
      by_cases h2 : (100 : Int) < (xd.length : Int)
      · go_wp2_with fail
        refine HK.out.mono ?_
        rintro e w5 ⟨rfl, hb5⟩
        have HB5 := Lib.hid (HB.out.trans (hb5.mono HB.out.size))
        clear hb5
        go_wp2
        go_ret
        exact ⟨rfl, HB5.out⟩
      · have _p2 : True := trivial
        have h3 : (100 : Int) < (xn.length : Int) := by
          have q1 := HBig.out
          have q2 := HZ.out
          omega
        go_wp2_with fail
        refine HK.out.mono ?_
        rintro e w5 ⟨rfl, hb5⟩
        have HB5 := Lib.hid (HB.out.trans (hb5.mono HB.out.size))
        clear hb5
        go_wp2
        go_ret
        exact ⟨rfl, HB5.out⟩
end Go.Proofs.Ythheolhghhmdlaa
