/- DiskCrashes: the walk. -/
import Derived.Test.YthheolhghhmdlaaDiskF2
import Derived.Test.YthheolhghhmdlaaDiskLawG
namespace Go.Proofs.Ythheolhghhmdlaa
open Go.RowKit Dsk

set_option maxRecDepth 100000 in
theorem crash_big (ad : Option Addr) (l : List Ope) (c : Nat) (ak : Option Addr) (marks : List Int) (ck : Nat) (hk9 : marks.length ≤ 140737488351232) (W : World) (hO : Ops W (fun k => k < W.heap.size) ad l) (hF : Few l) (hl9 : l.length ≤ 140737488351232) (hbig : 1000 < longL l ∨ 60 < l.length ∨ 100 < marks.length) :
    Calls Try.prog 4 #[.slice ad l.length c, .slice ak marks.length ck] W fun e w' => e = .returned (.bool true) ∧ Below W.heap.size W w' := by
  have HL := Lib.hid (long_test (c := c) hO hF hl9)
  have HBig := Lib.hid hbig
  have hlI : (l.length : Int) ≤ 140737488351232 := by omega
  clear hO hF hl9 hbig
  go_enter Try.func4, Try.ntmps4
  go_wp2_with fail
  refine HL.out.mono ?_
  rintro e w1 ⟨z, rfl, hz, hb⟩
  have HB := Lib.hid hb
  have HK := Lib.hid (known_any w1)
  have HZ := Lib.hid hz
  clear hb hz
  by_cases h0 : 1000 < z
  · go_wp2_with fail
    refine HK.out.mono ?_
    rintro e w5 ⟨rfl, hb5⟩
    have HB5 := Lib.hid (HB.out.trans (hb5.mono HB.out.size))
    clear hb5
    go_wp2
    go_ret
    exact ⟨rfl, HB5.out⟩
  · have _p0 : True := trivial
    by_cases h1 : (60 : Int) < (l.length : Int)
    · go_wp2_with fail
      refine HK.out.mono ?_
      rintro e w5 ⟨rfl, hb5⟩
      have HB5 := Lib.hid (HB.out.trans (hb5.mono HB.out.size))
      clear hb5
      go_wp2
      go_ret
      exact ⟨rfl, HB5.out⟩
    · have _p1 : True := trivial
      have h2 : (100 : Int) < (marks.length : Int) := by
        have q1 := HBig.out
        have q2 := HZ.out
        omega
      go_wp2_with fail
      refine HK.out.mono ?_
      rintro e w5 ⟨rfl, hb5⟩
      have HB5 := Lib.hid (HB.out.trans (hb5.mono HB.out.size))
      clear hb5
      go_wp2
      go_ret
      exact ⟨rfl, HB5.out⟩
set_option maxRecDepth 100000 in
set_option maxHeartbeats 1000000 in
theorem crash_small (ad : Option Addr) (l : List Ope) (c : Nat) (ak : Option Addr) (marks : List Int) (ck : Nat) (W : World) (hO : Ops W (fun k => k < W.heap.size) ad l) (hF : Few l) (hl : l.length ≤ 60) (hz : longL l ≤ 1000) (hK : RdT numV W (fun k => k < W.heap.size) ak marks) (hk : marks.length ≤ 100) (hck : marks.length ≤ ck) :
    Calls Try.prog 4 #[.slice ad l.length c, .slice ak marks.length ck] W fun e w' => e = .returned (.bool true) ∧ Below W.heap.size W w' := by
  have HL := Lib.hid (long_few (c := c) hO (by omega) hF)
  have HO := Lib.hid hO
  have HFw := Lib.hid hF
  have HC := Lib.hid (show cost l ≤ 1000 by have := longL_cost l; omega)
  have hz' : ¬ (1000 : Int) < (longL l : Int) := by omega
  have hlJ : ¬ (60 : Int) < (l.length : Int) := by omega
  have hlI : (l.length : Int) ≤ 60 := by omega
  have b2 : ¬ (100 : Int) < (marks.length : Int) := by omega
  have HKs := Lib.hid hK
  have HM9 := Lib.hid (And.intro hk (And.intro hck hl))
  clear hO hF hz hK hk hck
  generalize longL l = z at *
  go_enter Try.func4, Try.ntmps4
  go_wp2_with fail
  refine HL.out.mono ?_
  rintro e w1 ⟨rfl, hb1⟩
  have HB1 := Lib.hid hb1
  have HN := Lib.hid (new_any 5000 w1 (by omega) (by omega))
  clear hb1
  go_wp2_with fail
  refine HN.out.mono ?_
  rintro e w2 ⟨rfl, hd, hb⟩
  have hm2 := Md.new HB1.out hd hb
  have HO2 := Lib.hid (show Ops w2 (fun k => k < w1.heap.size) ad l from (HO.out.below (HB1.out.trans (hb.mono HB1.out.size))).mono (fun k hk => Nat.lt_of_lt_of_le hk HB1.out.size))
  have HM2 := Lib.hid hm2
  generalize w1.heap.size = g at *
  clear hd hb HN hm2 HL
  have HRr := Lib.hid (rrun_any (rs := []) (w := w2) (T := fun k => k < g) (ad := none) 5000 0 l ad c (Fs3.nil _ _ _) HM2.out.lt List.Pairwise.nil (by have := HC.out; simp [sizeL, looseL]; omega) HO2.out HFw.out ⟨by omega, by omega⟩ (by have := HM9.out; omega))
  simp only [List.map_nil, List.length_nil] at HRr
  go_wp2_with fail
  refine HRr.out.mono ?_
  rintro e w3 ⟨v3, r3, rfl, hr3, a3, c3, rfl, hf3, hb3⟩
  have hfit := runL_size (room := 5000) (fs := []) l List.Pairwise.nil
  have hnm := runL_named (room := 5000) l (fs := []) (fun f hf => by cases hf)
  have e0 : sizeL ([] : List Fil) + looseL ([] : List Fil) + ([] : List Fil).length = 0 := rfl
  have HFit := Lib.hid (show Rising Fil.name (runL 5000 [] l).1 ∧ sizeL (runL 5000 [] l).1 + looseL (runL 5000 [] l).1 + (runL 5000 [] l).1.length ≤ 1000 ∧ Named (runL 5000 [] l).1 from ⟨hfit.1, by have := HC.out; omega, hnm⟩)
  -- the document's disk, in its block
  obtain ⟨w4, hw4⟩ : ∃ w4, w4 = w3.alloc (.cells #[.int .i64 5000, .slice a3 r3.length c3] 27) := ⟨_, rfl⟩
  have al4 : Below w3.heap.size w3 w4 := by rw [hw4]; exact (Below.refl _ _).alloc (Nat.le_refl _) _
  have hb24 : Below w2.heap.size w2 w4 := hb3.trans (al4.mono hb3.size)
  have hrow4 : Row w4 w3.heap.size 27 #[.int .i64 5000, .slice a3 r3.length c3] := by rw [hw4]; exact Row.fresh w3 _ _
  have hm4 := HM2.out.wide hb24
  have hT3 : ∀ k, moreT (fun k => k < g) w2.heap.size w3.heap.size k → k < w3.heap.size := fun k hk => hk.elim (fun q => by have := HM2.out.lt k q; have := hb3.size; omega) (fun q => q.2)
  have hs34 := al4.size
  have hf4 : Fs3 w4 (moreT (fun k => k < g) w2.heap.size w4.heap.size) a3 r3 := (hf3.kept (kept_below hT3 al4)).mono fun k hk => hk.elim .inl (fun q => .inr ⟨q.1, by omega⟩)
  have hOps4 : Ops w4 (moreT (fun k => k < g) w2.heap.size w4.heap.size) ad l := (HO2.out.below hb24).mono fun k hk => .inl hk
  have HRow4 := Lib.hid (And.intro hrow4 (show moreT (fun k => k < g) w2.heap.size w4.heap.size w3.heap.size from .inr ⟨hb3.size, hrow4.lt⟩))
  have HM4 := Lib.hid hm4
  have HF4 := Lib.hid hf4
  have HOp4 := Lib.hid hOps4
  have HMp := Lib.hid hr3
  have HW4 := Lib.hid hw4
  clear hf3 hb3 hr3 hfit hnm e0 al4 hb24 hrow4 hm4 hT3 hs34 hf4 hOps4 hw4 HRr HM2 HO2
  generalize moreT (fun k => k < g) w2.heap.size w4.heap.size = T at *
  have HRun := Lib.hid (HM4.out.run l ad c (by omega) (by omega) HOp4.out (by have := HC.out; simp [sizeL, looseL]; omega))
  generalize (runL 5000 [] l).1 = fs at *
  generalize (runL 5000 [] l).2 = ran at *
  go_wp2_with fail
  rw [← HW4.out]
  generalize w3.heap.size = bt at *
  refine HRun.out.mono ?_
  rintro e w5 ⟨rfl, hm5, hk5⟩
  have HM5 := Lib.hid hm5
  have HRow5 := Lib.hid ((hk5.1 bt HRow4.out.2).trans HRow4.out.1)
  have HF5 := Lib.hid (HF4.out.kept hk5)
  have HSf := Lib.hid (show Sm fs by have := HFit.out; unfold Sm; omega)
  clear hm5 hk5 HRun HM4 HF4
  go_wp2_with fail
  refine (HM5.out.copy HSf.out).mono ?_
  rintro e w6 ⟨T6, g6, S6, rfl, ⟨hm6, ht6, hk6⟩, hd6, hS6⟩
  have HM6 := Lib.hid hm6
  have HRow6 := Lib.hid (And.intro ((hk6.1 bt HRow4.out.2).trans HRow5.out) (ht6 bt HRow4.out.2))
  have HF6 := Lib.hid ((HF5.out.kept hk6).mono ht6)
  have HD6 := Lib.hid (And.intro hd6 (fun k (hk : S6 k) => (hS6 k hk).1))
  clear hm6 ht6 hk6 hd6 hS6 HM5 HRow5 HF5 HRow4
  go_wp2_with fail
  refine (HM6.out.crash marks ak ck HSf.out (HM6.out.argR HKs.out) (by have := HM9.out; omega) HM9.out.2.1).mono ?_
  rintro e w7 ⟨rfl, hm7, hk7⟩
  have HM7 := Lib.hid hm7
  have hrow7 : Row w7 bt 27 #[.int .i64 5000, .slice a3 r3.length c3] := (hk7.1 bt HRow6.out.2).trans HRow6.out.1
  have HRow7 := Lib.hid hrow7
  have HF7 := Lib.hid (HF6.out.kept hk7)
  have HD7 := Lib.hid (HD6.out.1.kept HD6.out.2 hk7)
  have u0 : w7.cell? ⟨bt, 0, none⟩ = some (.int .i64 5000) := hrow7.cell 0
  have u1 : w7.cell? ⟨bt, 1, none⟩ = some (.slice a3 r3.length c3) := hrow7.cell 1
  have ul := hrow7.lt
  have HLsm := Lib.hid (show sizeL fs + looseL fs + fs.length ≤ 100000 by have := HFit.out; omega)
  clear hm7 hk7 hrow7 HM6 HRow6 HF6 HD6
  go_wp2_with fail
  refine (lsame_any c3 HD7.out HF7.out HM7.out.lt HMp.out HLsm.out (fun f hf => by have := HFit.out.2.2 f hf; omega)).mono ?_
  rintro e w8 ⟨rfl, hb8⟩
  have HM8 := Lib.hid (HM7.out.under hb8)
  have HF8 := Lib.hid (HF7.out.kept (HM7.out.kept hb8))
  have hrow8 := HRow7.out.under hb8 HRow7.out.lt
  have v0 : w8.cell? ⟨bt, 0, none⟩ = some (.int .i64 5000) := hrow8.cell 0
  have v1 : w8.cell? ⟨bt, 1, none⟩ = some (.slice a3 r3.length c3) := hrow8.cell 1
  have vl := hrow8.lt
  have hrl : r3.length = fs.length := by rw [← HMp.out]; simp
  have HCr := Lib.hid (rcrash_any (T := T6) 5000 c3 marks ak ck HF8.out HM8.out.lt (by rw [HMp.out, hrl]; exact HLsm.out) (HM8.out.argR HKs.out) (by have := HM9.out; omega))
  rw [HMp.out] at HCr
  clear hb8 hrow8 hrl u0 u1 ul HM7 HF7 HRow7
  go_wp2_with fail
  refine HCr.out.mono ?_
  rintro e w9 ⟨v9, r9, rfl, hr9, a9, c9, rfl, hf9, hb9⟩
  have hm9 := HM8.out.wide hb9
  obtain ⟨S9, hd9, _⟩ := hm9.dq
  have hcs := crashL_size fs marks
  have hcl := crashL_loose fs marks
  have hcn := crashL_length fs marks
  have hcnm : ∀ f ∈ crashL fs marks, f.name.length ≤ 1000 := fun f hf => by
    have : f.name ∈ fs.map Fil.name := by rw [← crashL_names fs marks]; exact List.mem_map_of_mem hf
    obtain ⟨f0, h0, e0⟩ := List.mem_map.1 this
    have := HFit.out.2.2 f0 h0
    rw [← e0]
    omega
  have HSa := Lib.hid (lsame_any c9 hd9 hf9 hm9.lt hr9 (by have := HLsm.out; omega) hcnm)
  have HM9' := Lib.hid hm9
  have HLo := Lib.hid (show Sm (crashL fs marks) ∧ looseL (crashL fs marks) = 0 from ⟨by have := HLsm.out; unfold Sm; omega, hcl⟩)
  clear hf9 hb9 hm9 hd9 hcs hcl hcn hcnm hr9 v0 v1 vl
  go_wp2_with fail
  refine HSa.out.mono ?_
  rintro e w10 ⟨rfl, hb10⟩
  have HM10 := Lib.hid (HM9'.out.under hb10)
  clear hb10
  go_wp2_with fail
  refine (HM10.out.loose HLo.out.1).mono ?_
  rw [HLo.out.2]
  rintro e w11 ⟨rfl, hm11, _⟩
  have HK := Lib.hid (known_end hm11.back)
  clear hm11
  go_wp2_with fail
  refine HK.out.mono ?_
  rintro e w12 ⟨rfl, hb12⟩
  have HB12 := Lib.hid hb12
  clear hb12
  go_wp2
  go_ret
  exact ⟨rfl, HB12.out⟩
theorem crash_walk (ad : Option Addr) (l : List Ope) (c : Nat) (ak : Option Addr) (marks : List Int) (ck : Nat) (hk9 : marks.length ≤ 140737488351232) (W : World) (hO : Ops W (fun k => k < W.heap.size) ad l) (hF : Few l) (hl9 : l.length ≤ 140737488351232) (hK : RdT numV W (fun k => k < W.heap.size) ak marks) (hck : marks.length ≤ ck) :
    Calls Try.prog 4 #[.slice ad l.length c, .slice ak marks.length ck] W fun e w' => e = .returned (.bool true) ∧ Below W.heap.size W w' := by
  by_cases hs : 1000 < longL l ∨ 60 < l.length ∨ 100 < marks.length
  · exact crash_big ad l c ak marks ck hk9 W hO hF hl9 hs
  · exact crash_small ad l c ak marks ck W hO hF (by omega) (by omega) hK (by omega) hck
end Go.Proofs.Ythheolhghhmdlaa
