/- DiskCopies: more than the law looks at. -/
import Derived.Test.YthheolhghhmdlaaDiskLawJ
import Derived.Test.YthheolhghhmdlaaDiskD8
namespace Go.Proofs.Ythheolhghhmdlaa
open Go.RowKit Dsk

set_option maxRecDepth 100000 in
theorem copies_big (ad : Option Addr) (l : List Ope) (c : Nat) (xk : Int) (xn xt : Nm) (xd : By) (ax : Option Addr) (cx : Nat) (W : World) (hO : Ops W (fun k => k < W.heap.size) ad l) (hF : Few l) (hl9 : l.length ≤ 140737488351232) (hn9 : xn.length ≤ 140737488351232) (hd9 : xd.length ≤ 140737488351232) (hbig : 800 < longL l ∨ 50 < l.length ∨ 100 < xd.length ∨ 100 < xn.length) :
    Calls Try.prog 6 #[.slice ad l.length c, opV ⟨xk, xn, xt, xd⟩ ax cx] W fun e w' => e = .returned (.bool true) ∧ Below W.heap.size W w' := by
  obtain ⟨W1, hW1⟩ : ∃ W1, W1 = W.alloc (.cells #[.int .i64 xk, .string ⟨xn.toArray⟩, .string ⟨xt.toArray⟩, .slice ax xd.length cx] 36) := ⟨_, rfl⟩
  have hbW : Below W.heap.size W W1 := by rw [hW1]; exact (Below.refl _ _).alloc (Nat.le_refl _) _
  have hrW : Row W1 W.heap.size 36 #[.int .i64 xk, .string ⟨xn.toArray⟩, .string ⟨xt.toArray⟩, .slice ax xd.length cx] := by rw [hW1]; exact Row.fresh W _ _
  have HL := Lib.hid (long_test (c := c) (hO.below hbW) hF hl9)
  have HBig := Lib.hid hbig
  have HW1 := Lib.hid hW1
  have HRW := Lib.hid hrW
  have HBW := Lib.hid hbW
  have hlI : (l.length : Int) ≤ 140737488351232 := by omega
  have hdI : (xd.length : Int) ≤ 140737488351232 := by omega
  have hnI : (xn.length : Int) ≤ 140737488351232 := by omega
  have e1 := arr_size xn
  clear hO hF hl9 hbig hbW hrW hW1
  go_enter Try.func6, Try.ntmps6
  go_wp2_with fail
  rw [← HW1.out]
  refine HL.out.mono ?_
  rintro e w1 ⟨z, rfl, hz, hb⟩
  have HB := Lib.hid (HBW.out.trans (hb.mono HBW.out.size))
  have hr1 := HRW.out.under hb HRW.out.lt
  have u1 : w1.cell? ⟨W.heap.size, 1, none⟩ = some (.string ⟨xn.toArray⟩) := hr1.cell 1
  have u3 : w1.cell? ⟨W.heap.size, 3, none⟩ = some (.slice ax xd.length cx) := hr1.cell 3
  have ul := hr1.lt
  have HK := Lib.hid (known_any w1)
  have HZ := Lib.hid hz
  clear hb hz hr1 HRW HBW HW1 HL
  by_cases h0 : 800 < z
  · go_wp2_with fail
    refine HK.out.mono ?_
    rintro e w5 ⟨rfl, hb5⟩
    have HB5 := Lib.hid (HB.out.trans (hb5.mono HB.out.size))
    clear hb5
    go_wp2
    go_ret
    exact ⟨rfl, HB5.out⟩
  · have _p0 : True := trivial
    by_cases h1 : (50 : Int) < (l.length : Int)
    · go_wp2_with fail
      refine HK.out.mono ?_
      rintro e w5 ⟨rfl, hb5⟩
      have HB5 := Lib.hid (HB.out.trans (hb5.mono HB.out.size))
      clear hb5
      go_wp2
      go_ret
      exact ⟨rfl, HB5.out⟩
    · have _p1 : True := trivial
      by_cases h2 : (100 : Int) < (xd.length : Int)
      · go_wp2_with fail
        refine HK.out.mono ?_
        rintro e w5 ⟨rfl, hb5⟩
        have HB5 := Lib.hid (HB.out.trans (hb5.mono HB.out.size))
        clear hb5
        go_wp2
        go_ret
        exact ⟨rfl, HB5.out⟩
      · have _p2 : True := trivial
        have h3 : (100 : Int) < (xn.length : Int) := by
          have q1 := HBig.out
          have q2 := HZ.out
          omega
        go_wp2_with fail
        refine HK.out.mono ?_
        rintro e w5 ⟨rfl, hb5⟩
        have HB5 := Lib.hid (HB.out.trans (hb5.mono HB.out.size))
        clear hb5
        go_wp2
        go_ret
        exact ⟨rfl, HB5.out⟩

theorem le_sum_mem {x : Nat} : ∀ {l : List Nat}, x ∈ l → x ≤ l.sum
  | [], h => by cases h
  | y :: r, h => by
    rw [List.sum_cons]
    rcases List.mem_cons.1 h with rfl | h
    · omega
    · have := le_sum_mem h
      omega
theorem readL_len (fs : List Fil) (n : Nm) : (readL fs n).1.length ≤ sizeL fs := by
  cases hg : get Fil.name n fs with
  | none => rw [readL_none hg]; simp
  | some f =>
    rw [readL_some hg]
    have hm := (get_some hg).1
    unfold sizeL
    exact le_sum_mem (List.mem_map_of_mem (f := fun f : Fil => f.all.length) hm)
set_option maxRecDepth 100000 in
set_option maxHeartbeats 2000000 in
theorem copies_small (ad : Option Addr) (l : List Ope) (c : Nat) (xk : Int) (xn xt : Nm) (xd : By) (ax : Option Addr) (cx : Nat) (W : World) (hO : Ops W (fun k => k < W.heap.size) ad l) (hF : Few l) (hl : l.length ≤ 50) (hz : longL l ≤ 800) (hx : RdT byV W (fun k => k < W.heap.size) ax xd) (hd : xd.length ≤ 100) (hn : xn.length ≤ 100) (ht9 : xt.length ≤ 140737488351232) :
    Calls Try.prog 6 #[.slice ad l.length c, opV ⟨xk, xn, xt, xd⟩ ax cx] W fun e w' => e = .returned (.bool true) ∧ Below W.heap.size W w' := by
  obtain ⟨W1, hW1⟩ : ∃ W1, W1 = W.alloc (.cells #[.int .i64 xk, .string ⟨xn.toArray⟩, .string ⟨xt.toArray⟩, .slice ax xd.length cx] 36) := ⟨_, rfl⟩
  have hbW : Below W.heap.size W W1 := by rw [hW1]; exact (Below.refl _ _).alloc (Nat.le_refl _) _
  have hrW : Row W1 W.heap.size 36 #[.int .i64 xk, .string ⟨xn.toArray⟩, .string ⟨xt.toArray⟩, .slice ax xd.length cx] := by rw [hW1]; exact Row.fresh W _ _
  have HL := Lib.hid (long_few (c := c) (hO.below hbW) (by omega) hF)
  have HO := Lib.hid hO
  have HFw := Lib.hid hF
  have HX := Lib.hid hx
  have HC := Lib.hid (show cost l ≤ 800 by have := longL_cost l; omega)
  have hz' : ¬ (800 : Int) < (longL l : Int) := by omega
  have hlJ : ¬ (50 : Int) < (l.length : Int) := by omega
  have hlI : (l.length : Int) ≤ 50 := by omega
  have hdJ : ¬ (100 : Int) < (xd.length : Int) := by omega
  have hdI : (xd.length : Int) ≤ 100 := by omega
  have hnJ : ¬ (100 : Int) < (xn.length : Int) := by omega
  have hnI : (xn.length : Int) ≤ 100 := by omega
  have e1 := arr_size xn
  have HM9 := Lib.hid (And.intro hl (And.intro hd (And.intro hn ht9)))
  have HW1 := Lib.hid hW1
  have HRW := Lib.hid hrW
  have HBW := Lib.hid hbW
  clear hO hF hz hx hd hn hbW hrW hW1
  generalize longL l = z at *
  go_enter Try.func6, Try.ntmps6
  go_wp2_with fail
  rw [← HW1.out]
  refine HL.out.mono ?_
  rintro e w1 ⟨rfl, hb1⟩
  have HB1 := Lib.hid (HBW.out.trans (hb1.mono HBW.out.size))
  have hr1 := HRW.out.under hb1 HRW.out.lt
  obtain ⟨nx, hnx⟩ : ∃ nx, nx = W.heap.size := ⟨_, rfl⟩
  rw [← hnx] at hr1
  rw [← hnx]
  have u1 : w1.cell? ⟨nx, 1, none⟩ = some (.string ⟨xn.toArray⟩) := hr1.cell 1
  have u3 : w1.cell? ⟨nx, 3, none⟩ = some (.slice ax xd.length cx) := hr1.cell 3
  have ul := hr1.lt
  have HR1 := Lib.hid hr1
  have HNX := Lib.hid hnx
  have HN := Lib.hid (new_any 5000 w1 (by omega) (by omega))
  clear hb1 hr1 HRW HBW HW1 HL hnx
  go_wp2_with fail
  refine HN.out.mono ?_
  rintro e w2 ⟨rfl, hd2, hb2⟩
  have hm2 := Md.new HB1.out hd2 hb2
  have HR2 := Lib.hid (HR1.out.under hb2 HR1.out.lt)
  have HM2 := Lib.hid (And.intro hm2 HR1.out.lt)
  have v3 : w2.cell? ⟨nx, 3, none⟩ = some (.slice ax xd.length cx) := HR2.out.cell 3
  have vl := HR2.out.lt
  have HCy := Lib.hid (copy_any ax xd cx w2 (by
    have q := (HX.out.only (Only.of_below (fun _ => False) hm2.back) (fun _ _ q => q))
    exact q.bytes) (by omega))
  generalize w1.heap.size = g at *
  clear hd2 hb2 hm2 u1 u3 ul HN HB1 HR1
  go_wp2_with fail
  refine HCy.out.mono ?_
  rintro e w3 ⟨vd, rfl, hO3, hb3⟩
  obtain ⟨da, dc, rfl, hB3, hc3⟩ := hO3.shape
  have hm3 := HM2.out.1.wide hb3
  have hUx : moreT (fun k => k < g) w2.heap.size w3.heap.size nx := .inl HM2.out.2
  have hUd : ∀ k, Own da xd.length dc k → moreT (fun k => k < g) w2.heap.size w3.heap.size k ∧ w2.heap.size ≤ k := fun k hk => ⟨.inr (World.ownsRow.lt hO3 k hk), (World.ownsRow.lt hO3 k hk).1⟩
  have hR3 : RdT byV w3 (moreT (fun k => k < g) w2.heap.size w3.heap.size) da xd := rdt_of_op (c := dc) hB3 (fun q k hk => (hUd k hk).1)
  have HGn := Lib.hid (show nx < w2.heap.size from HR2.out.lt)
  have HR3 := Lib.hid (HR2.out.under hb3 HR2.out.lt)
  have HM3 := Lib.hid (And.intro hm3 (And.intro hUx (And.intro hUd hR3)))
  have HY3 := Lib.hid (show Byr w3 w2.heap.size da xd.length dc from ⟨_, hO3⟩)
  generalize moreT (fun k => k < g) w2.heap.size w3.heap.size = U3 at *
  generalize w2.heap.size = K at *
  clear hO3 hb3 hB3 hm3 hUx hUd hR3 v3 vl HCy HM2 HR2
  have HRun := Lib.hid (HM3.out.1.run l ad c (by omega) (by omega) ((HO.out.below HM3.out.1.back).mono HM3.out.1.arg) (by have := HC.out; simp [sizeL, looseL]; omega))
  go_wp2_with fail
  refine HRun.out.mono ?_
  rintro e w4 ⟨rfl, hm4, hk4⟩
  have hR4 := (hk4.1 nx HM3.out.2.1).trans HR3.out
  have hfit := runL_fits (room := 5000) HC.out
  have hnm := runL_named (room := 5000) l (fs := []) (fun f hf => by cases hf)
  have HFit := Lib.hid (And.intro hfit hnm)
  have HM4 := Lib.hid hm4
  have HR4 := Lib.hid (show Row w4 nx 36 #[.int .i64 xk, .string ⟨xn.toArray⟩, .string ⟨xt.toArray⟩, .slice ax xd.length cx] from hR4)
  have HD4 := Lib.hid (HM3.out.2.2.2.kept hk4)
  have HY4 := Lib.hid (HY3.out.kept (w' := w4) (fun b hb => hk4.1 b (HM3.out.2.2.1 b hb).1))
  have v0 : w4.cell? ⟨nx, 0, none⟩ = some (.int .i64 xk) := HR4.out.cell 0
  have v1 : w4.cell? ⟨nx, 1, none⟩ = some (.string ⟨xn.toArray⟩) := HR4.out.cell 1
  have v2 : w4.cell? ⟨nx, 2, none⟩ = some (.string ⟨xt.toArray⟩) := HR4.out.cell 2
  have vl := HR4.out.lt
  have HDo := Lib.hid (HM4.out.do ⟨xk, xn, xt, xd⟩ da dc (by have := HFit.out; unfold Sm; omega) (by omega) (by omega) HD4.out (show xd.length ≤ 1000000000 by have := HM9.out; omega))
  clear hm4 hk4 hR4 hfit hnm HRun HY3 HR3
  go_wp2_with fail
  refine HDo.out.mono ?_
  rintro e w5 ⟨rfl, hm5, hk5⟩
  have hR5 := (hk5.1 nx HM3.out.2.1).trans HR4.out
  have HM5 := Lib.hid hm5
  have HR5 := Lib.hid (show Row w5 nx 36 #[.int .i64 xk, .string ⟨xn.toArray⟩, .string ⟨xt.toArray⟩, .slice ax xd.length cx] from hR5)
  have HY5 := Lib.hid (HY4.out.kept (w' := w5) (fun b hb => hk5.1 b (HM3.out.2.2.1 b hb).1))
  have HU5 := Lib.hid HM3.out.2.2.1
  have HX5 := Lib.hid HM3.out.2.1
  have HO5 := Lib.hid (show Ops w5 (fun k => k < nx) ad l by rw [HNX.out]; exact HO.out.below hm5.back)
  have hXd5 : RdT byV w5 (fun k => k < nx) ax xd := by rw [HNX.out]; exact HX.out.only (Only.of_below (fun _ => False) hm5.back) (fun _ _ q => q)
  have HXd5 := Lib.hid hXd5
  have HRr := Lib.hid (rrun_any (rs := []) (w := w5) (T := fun k => k < nx) (ad := none) 5000 0 l ad c (Fs3.nil _ _ _) (fun k hk => Nat.lt_trans hk HR5.out.lt) List.Pairwise.nil (by have := HC.out; simp [sizeL, looseL]; omega) HO5.out HFw.out ⟨by omega, by omega⟩ (by have := HM9.out; omega))
  simp only [List.map_nil, List.length_nil] at HRr
  clear hm5 hk5 hR5 hXd5 v0 v1 v2 vl HDo HY4 HR4 HD4 HM4 HM3 HO5 HX HO HFw
  go_wp2_with fail
  refine HRr.out.mono ?_
  rintro e w6 ⟨v6, r6, rfl, hr6, a6, c6, rfl, hf6, hb6⟩
  obtain ⟨w7, hw7⟩ : ∃ w7, w7 = w6.alloc (.cells #[.int .i64 5000, .slice a6 r6.length c6] 27) := ⟨_, rfl⟩
  have al7 : Below w6.heap.size w6 w7 := by rw [hw7]; exact (Below.refl _ _).alloc (Nat.le_refl _) _
  have hrow7 : Row w7 w6.heap.size 27 #[.int .i64 5000, .slice a6 r6.length c6] := by rw [hw7]; exact Row.fresh w6 _ _
  have h57 : Below w5.heap.size w5 w7 := hb6.trans (al7.mono hb6.size)
  have hT6 : ∀ k, moreT (fun k => k < nx) w5.heap.size w6.heap.size k → k < w6.heap.size := fun k hk => hk.elim (fun q => by have := HR5.out.lt; have := hb6.size; omega) (fun q => q.2)
  have hT7 : ∀ k, moreT (fun k => k < nx) w5.heap.size w6.heap.size k → k < nx ∨ (w5.heap.size ≤ k ∧ k < w6.heap.size) := fun k hk => hk
  have hf7 := hf6.kept (kept_below hT6 al7)
  have hx7 : RdT byV w7 (moreT (fun k => k < nx) w5.heap.size w6.heap.size) ax xd := (HXd5.out.only (Only.of_below (fun _ => False) h57) (fun _ _ q => q)).mono (fun k q => .inl q)
  have hrl : r6.length = (runL 5000 [] l).1.length := by rw [← hr6]; simp
  have HRd := Lib.hid (rdo_any (w := w7) (T := moreT (fun k => k < nx) w5.heap.size w6.heap.size) 5000 c6 ⟨xk, xn, xt, xd⟩ ax cx hf7 (fun k hk => Nat.lt_of_lt_of_le (hT6 k hk) al7.size) ((Rising.map rf_key).1 (by rw [hr6]; exact HFit.out.1.2)) (by rw [hr6, hrl]; have := HFit.out.1; omega) hx7 (show xd.length ≤ 100000 by have := HM9.out; omega) ⟨show xn.length ≤ _ by have := HM9.out; omega, show xt.length ≤ _ by have := HM9.out; omega⟩ ⟨by omega, by omega⟩)
  rw [hr6] at HRd
  have hfs := doL_size (room := 5000) ⟨xk, xn, xt, xd⟩ HFit.out.1.2
  have hfr := doL_rising (room := 5000) ⟨xk, xn, xt, xd⟩ HFit.out.1.2
  have hfn := doL_named (room := 5000) ⟨xk, xn, xt, xd⟩ HFit.out.2
  have HF9 := Lib.hid (show sizeL (doL 5000 (runL 5000 [] l).1 ⟨xk, xn, xt, xd⟩).1 + looseL (doL 5000 (runL 5000 [] l).1 ⟨xk, xn, xt, xd⟩).1 + (doL 5000 (runL 5000 [] l).1 ⟨xk, xn, xt, xd⟩).1.length ≤ 2000 ∧ Named (doL 5000 (runL 5000 [] l).1 ⟨xk, xn, xt, xd⟩).1 from ⟨by have := HFit.out.1; have := HM9.out; simp only at hfs; omega, hfn⟩)
  have hR7 := HR5.out.under h57 HR5.out.lt
  have v0 : w7.cell? ⟨nx, 0, none⟩ = some (.int .i64 xk) := hR7.cell 0
  have v1 : w7.cell? ⟨nx, 1, none⟩ = some (.string ⟨xn.toArray⟩) := hR7.cell 1
  have v2 : w7.cell? ⟨nx, 2, none⟩ = some (.string ⟨xt.toArray⟩) := hR7.cell 2
  have v3 : w7.cell? ⟨nx, 3, none⟩ = some (.slice ax xd.length cx) := hR7.cell 3
  have vl := hR7.lt
  have c0 : w7.cell? ⟨w6.heap.size, 0, none⟩ = some (.int .i64 5000) := hrow7.cell 0
  have c1 : w7.cell? ⟨w6.heap.size, 1, none⟩ = some (.slice a6 r6.length c6) := hrow7.cell 1
  have cl := hrow7.lt
  have HRow7 := Lib.hid (And.intro hrow7 (And.intro h57 (And.intro hT7 (show w5.heap.size ≤ w6.heap.size from hb6.size))))
  have HW7 := Lib.hid hw7
  clear hr6 hf6 hb6 al7 hrow7 h57 hT6 hf7 hx7 hrl hfs hfr hfn hR7 hw7 HRr HFit HXd5 hT7
  generalize moreT (fun k => k < nx) w5.heap.size w6.heap.size = T7 at *
  generalize (runL 5000 [] l).2 = ran at *
  generalize (doL 5000 (runL 5000 [] l).1 ⟨xk, xn, xt, xd⟩).2 = er at *
  generalize (doL 5000 (runL 5000 [] l).1 ⟨xk, xn, xt, xd⟩).1 = fs at *
  go_upto_region 8 with (fail)
  rw [← HW7.out]
  generalize w6.heap.size = bt at *
  clear HW7
  go_wp2_with fail
  refine HRd.out.mono ?_
  rintro e w8 ⟨v8, r8, rfl, hr8, a8, c8, rfl, hf8, hb8⟩
  have hcp := Cp.start (c := c8) (cs := #[.int .i64 5000, .slice a6 r6.length c6]) (x := ⟨xk, xn, xt, xd⟩) rfl HM5.out HX5.out HNX.out HR5.out HRow7.out.2.1 HRow7.out.2.2.1 HRow7.out.2.2.2 HRow7.out.1.lt hb8 HRow7.out.1 hf8
  have h58 : Below w5.heap.size w5 w8 := HRow7.out.2.1.trans (hb8.mono HRow7.out.2.1.size)
  have hy : Byr ((w8.setCell ⟨bt, 0, none⟩ (.int .i64 5000)).setCell ⟨bt, 1, none⟩ (.slice a8 r8.length c8)) K da xd.length dc := HY5.out.kept (fun b hb => by
    have q1 := HM5.out.lt b (HU5.out b hb).1
    have q2 := HRow7.out.2.2.2
    exact (Below.heap_setCell _ _ _ _ (by simp only; omega)).trans ((Below.heap_setCell _ _ _ _ (by simp only; omega)).trans (h58.block b q1)))
  have hfree : Free W bt nx (moreT U3 w5.heap.size w8.heap.size) (moreT T7 w7.heap.size w8.heap.size) (Own da xd.length dc) := fun k hk => by
    obtain ⟨q0, q3⟩ := HU5.out k hk
    have q1 := HM5.out.lt k q0
    have q2 := HRow7.out.2.2.2
    have q4 := HGn.out
    have q5 := HNX.out
    have q6 := HRow7.out.2.1.size
    refine ⟨.inl q0, fun t => ?_, by omega, by omega, by omega⟩
    rcases t with t | t
    · have := HRow7.out.2.2.1 k t; omega
    · omega
  have HLp := Lib.hid (show Lp W g bt nx fs (moreT T7 w7.heap.size w8.heap.size) r8 a8 c8 ⟨xk, xn, xt, xd⟩ ax cx K da xd.length dc ((w8.setCell ⟨bt, 0, none⟩ (.int .i64 5000)).setCell ⟨bt, 1, none⟩ (.slice a8 r8.length c8)) from ⟨_, hcp, hy, hfree⟩)
  have hrow8 := HRow7.out.1.under hb8 HRow7.out.1.lt
  have d0 : w8.cell? ⟨bt, 0, none⟩ = some (.int .i64 5000) := hrow8.cell 0
  have d1 : w8.cell? ⟨bt, 1, none⟩ = some (.slice a6 r6.length c6) := hrow8.cell 1
  have dl := hrow8.lt
  have df0 := hrow8.thaw 0
  have df1 := hrow8.thaw 1
  have HMp := Lib.hid hr8
  generalize moreT T7 w7.heap.size w8.heap.size = T9 at *
  clear hf8 hb8 hcp h58 hy hfree hrow8 hr8 v0 v1 v2 v3 vl c0 c1 cl HRd HRow7 HM5 HR5 HY5 HX5 HU5 HGn
  go_wp2
  go_loopw [9] (fun i wr => ∃ k : Nat, k ≤ xd.length ∧ i = .int .i64 k ∧ Lp W g bt nx fs T9 r8 a8 c8 ⟨xk, xn, xt, xd⟩ ax cx K da xd.length dc wr) (fun i _ => xd.length - (intOf i).toNat)
  case atStart => exact ⟨0, by omega, rfl, HLp.out⟩
  case round =>
    obtain ⟨k, hk, rfl, hL⟩ := hrel
    clear HLp d0 d1 dl df0 df1
    by_cases hlt : k < xd.length
    · have hlt' : (k : Int) < (xd.length : Int) := by omega
      obtain ⟨b, v, rfl, hb, hcl, hfz, hset⟩ := hL.set hlt
      have HSet := Lib.hid (hset (.int .u8 99))
      clear hL hset
      go_wp2
      go_roundw
      case rel => exact ⟨k + 1, by omega, by go_num, HSet.out⟩
      case measure => simp [intOf]; omega
    · obtain rfl : k = xd.length := by omega
      have hlt' : ¬ (xd.length : Int) < (xd.length : Int) := by omega
      obtain ⟨U, hcp, _, _⟩ := hL
      have HSf := Lib.hid (show Sm fs by have := HF9.out.1; unfold Sm; omega)
      have HCy := Lib.hid (hcp.copy HSf.out)
      clear hcp
      go_wp2_with fail
      refine HCy.out.mono ?_
      rintro e w10 ⟨ge, Se, U10, rfl, hcp, hdq, hfr⟩
      have HRd := Lib.hid (hcp.read HSf.out hdq hfr xn (by simp only [maxLen]; omega))
      have u1 : w10.cell? ⟨nx, 1, none⟩ = some (.string ⟨xn.toArray⟩) := hcp.ro.cell 1
      have ul := hcp.ro.lt
      have HLn := Lib.hid (show (readL fs xn).1.length ≤ 100000 by have := HF9.out.1; have := readL_len fs xn; omega)
      clear hcp hdq hfr HCy
      go_wp2_with fail
      refine HRd.out.mono ?_
      rintro e w11 ⟨d, cc, rfl, hq⟩
      have HLq := Lib.hid hq
      have hnI2 : (((readL fs xn).1.length : Nat) : Int) ≤ 100000 := by have := HLn.out; omega
      generalize w10.heap.size = K2 at *
      generalize (readL fs xn).1.length = m at *
      generalize (readL fs xn).2 = er2 at *
      clear hq u1 ul HRd HLn
      go_wp2
      go_loopw [13] (fun i wr => ∃ k : Nat, k ≤ m ∧ i = .int .i64 k ∧ Lq W g bt nx fs T9 r8 a8 c8 ⟨xk, xn, xt, xd⟩ ax cx K2 d m cc ge wr) (fun i _ => m - (intOf i).toNat)
      case atStart => exact ⟨0, by omega, rfl, HLq.out⟩
      case round =>
        obtain ⟨k, hk, rfl, hL⟩ := hrel
        clear HLq
        by_cases hlt : k < m
        · have hlt' : (k : Int) < (m : Int) := by omega
          obtain ⟨b, v, rfl, hb, hcl, hfz, hset⟩ := hL.set hlt
          have HSet := Lib.hid (hset (.int .u8 98))
          clear hL hset
          go_wp2
          go_roundw
          case rel => exact ⟨k + 1, by omega, by go_num, HSet.out⟩
          case measure => simp [intOf]; omega
        · obtain rfl : k = m := by omega
          have hlt' : ¬ (k : Int) < (k : Int) := by omega
          obtain ⟨U, Se, hcp, _, _, hdq, hfr, _⟩ := hL
          have HCr := Lib.hid (hcp.crashes HSf.out hdq hfr)
          clear hcp hdq hfr
          go_wp2_with fail
          refine HCr.out.mono ?_
          rintro e w12 ⟨rfl, Se2, U12, hdq, hcp, hfr⟩
          have hcs := crashL_size fs []
          have hcl := crashL_loose fs []
          have hcn := crashL_length fs []
          have HRn := Lib.hid (hcp.runs hdq hfr (by have := HF9.out.1; omega) xn)
          have hro := hcp.ro.past (.cells #[.int .u8 1] 5)
          have u0 : w12.cell? ⟨nx, 1, none⟩ = some (.string ⟨xn.toArray⟩) := hcp.ro.cell 1
          have ul := hcp.ro.lt
          have u1 : (w12.alloc (.cells #[.int .u8 1] 5)).cell? ⟨nx, 1, none⟩ = some (.string ⟨xn.toArray⟩) := hro.cell 1
          clear hcs hcl hcn hcp hdq hfr hro HCr
          go_wp2_with fail
          refine HRn.out.mono ?_
          rintro e w13 ⟨z13, rfl, U13, hcp⟩
          have HSa := Lib.hid (hcp.same HMp.out (by have := HF9.out.1; omega) HF9.out.2)
          have c0 : w13.cell? ⟨bt, 0, none⟩ = some (.int .i64 5000) := hcp.row.cell 0
          have c1 : w13.cell? ⟨bt, 1, none⟩ = some (.slice a8 r8.length c8) := hcp.row.cell 1
          have cl := hcp.row.lt
          clear hcp u0 u1 ul HRn
          go_wp2_with fail
          refine HSa.out.mono ?_
          rintro e w14 ⟨rfl, hb14⟩
          have HK := Lib.hid (known_end hb14)
          clear hb14
          go_wp2_with fail
          refine HK.out.mono ?_
          rintro e w15 ⟨rfl, hb15⟩
          have HB15 := Lib.hid hb15
          clear hb15
          go_wp2
          go_ret
          exact ⟨rfl, HNX.out ▸ HB15.out⟩
theorem op_agg {W : World} {cs : Array Value} {y : Ope} (h : OpAt W cs.toList y) : ∃ a c, Value.agg cs = opV y a c ∧ RdT byV W (fun k => k < W.heap.size) a y.data ∧ y.name.length ≤ 140737488351232 ∧ y.to.length ≤ 140737488351232 ∧ y.data.length ≤ 140737488351232 := by
  obtain ⟨a, c, h0, h1, h2, h3, h4, hB, _, hT, n1, n2, n3, _⟩ := h
  refine ⟨a, c, ?_, rdt_of_op (c := c) hB hT, n1, n2, n3⟩
  obtain ⟨l⟩ := cs
  match l, h4 with
  | [p, q, r, s], _ =>
    simp at h0 h1 h2 h3
    subst h0 h1 h2 h3
    rfl
theorem copies_walk (ad : Option Addr) (l : List Ope) (c : Nat) (x : Ope) (ax : Option Addr) (cx : Nat) (W : World) (hO : Ops W (fun k => k < W.heap.size) ad l) (hF : Few l) (hl9 : l.length ≤ 140737488351232) (hx : RdT byV W (fun k => k < W.heap.size) ax x.data) (hn9 : x.name.length ≤ 140737488351232) (ht9 : x.to.length ≤ 140737488351232) (hd9 : x.data.length ≤ 140737488351232) :
    Calls Try.prog 6 #[.slice ad l.length c, opV x ax cx] W fun e w' => e = .returned (.bool true) ∧ Below W.heap.size W w' := by
  obtain ⟨xk, xn, xt, xd⟩ := x
  by_cases hs : 800 < longL l ∨ 50 < l.length ∨ 100 < xd.length ∨ 100 < xn.length
  · exact copies_big ad l c xk xn xt xd ax cx W hO hF hl9 hn9 hd9 hs
  · exact copies_small ad l c xk xn xt xd ax cx W hO hF (by omega) (by omega) hx (by omega) (by omega) ht9
end Go.Proofs.Ythheolhghhmdlaa
