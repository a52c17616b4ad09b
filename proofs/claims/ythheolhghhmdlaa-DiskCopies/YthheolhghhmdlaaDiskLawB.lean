/- DiskRenames: the walk. -/
import Derived.Test.YthheolhghhmdlaaDiskS
namespace Go.Proofs.Ythheolhghhmdlaa
open Go.RowKit Dsk

namespace Dsk
theorem readL_some {fs : List Fil} {n : Nm} {f : Fil} (h : get Fil.name n fs = some f) : readL fs n = (f.all, 0) := by unfold readL; rw [h]
theorem readL_none {fs : List Fil} {n : Nm} (h : get Fil.name n fs = none) : readL fs n = ([], 4) := by unfold readL; rw [h]
theorem ren_may {a b : Nm} (ha : 1 ≤ a.length ∧ a.length ≤ 60) (hb : 1 ≤ b.length ∧ b.length ≤ 60) : mayBe ⟨3, a, b, []⟩ = true := by simp [mayBe, named, ha, hb]
theorem doL_ren {room : Int} {fs : List Fil} {a b : Nm} (ha : 1 ≤ a.length ∧ a.length ≤ 60) (hb : 1 ≤ b.length ∧ b.length ≤ 60) : doL room fs ⟨3, a, b, []⟩ = match get Fil.name a fs with
    | none => (fs, 4)
    | some f => (put Fil.name (f.called b) (del Fil.name a fs), 0) := by
  unfold doL
  rw [ren_may ha hb]
  simp only [if_neg (show ¬ (true = false) by decide), if_neg (show ¬ ((3 : Int) = 1) by decide), if_neg (show ¬ ((3 : Int) = 2) by decide)]
  split <;> simp_all
theorem rem_may {b : Nm} (hb : 1 ≤ b.length ∧ b.length ≤ 60) : mayBe ⟨4, b, [], []⟩ = true := by simp [mayBe, named, hb]
theorem doL_rem {room : Int} {fs : List Fil} {b : Nm} (hb : 1 ≤ b.length ∧ b.length ≤ 60) : doL room fs ⟨4, b, [], []⟩ = match get Fil.name b fs with
    | none => (fs, 4)
    | some _ => (del Fil.name b fs, 0) := by
  unfold doL
  rw [rem_may hb]
  simp only [if_neg (show ¬ (true = false) by decide), if_neg (show ¬ ((4 : Int) = 1) by decide), if_neg (show ¬ ((4 : Int) = 2) by decide), if_neg (show ¬ ((4 : Int) = 3) by decide)]
  split <;> simp_all
theorem get_called {fs : List Fil} {a b : Nm} {f : Fil} : get Fil.name b (put Fil.name (f.called b) (del Fil.name a fs)) = some (f.called b) := get_ins_same (x := f.called b) (get_del_same)
theorem get_put_other {x : Fil} {n : Nm} {fs : List Fil} (hr : Rising Fil.name fs) (hne : n ≠ x.name) : get Fil.name n (put Fil.name x fs) = get Fil.name n fs := by
  cases hg : get Fil.name n fs with
  | none =>
    refine get_none.2 fun y hy => ?_
    rcases mem_put.1 hy with rfl | ⟨h1, _⟩
    · exact fun e => hne e.symm
    · exact get_none.1 hg y h1
  | some f =>
    obtain ⟨h1, h2⟩ := get_some hg
    have := get_of_mem hr.put (x := f) (mem_put.2 (.inr ⟨h1, by rw [h2]; exact hne⟩) : f ∈ put Fil.name x fs)
    rw [h2] at this
    exact this
end Dsk
theorem runL_fits {l : List Ope} {room : Int} (hc : cost l ≤ 800) : sizeL (runL room [] l).1 + looseL (runL room [] l).1 + (runL room [] l).1.length ≤ 800 ∧ Rising Fil.name (runL room [] l).1 := by
  have h := runL_size (room := room) (fs := []) l List.Pairwise.nil
  have e : sizeL ([] : List Fil) + looseL ([] : List Fil) + ([] : List Fil).length = 0 := rfl
  exact ⟨by omega, h.1⟩
/-- The end: known. -/
theorem known_end {W w : World} (hb : Below W.heap.size W w) : Calls Try.prog 11 #[] w fun e w' => e = .returned (.bool true) ∧ Below W.heap.size W w' :=
  (known_any w).mono fun _ _ ⟨h1, h2⟩ => ⟨h1, hb.trans (h2.mono hb.size)⟩
set_option maxRecDepth 100000 in
theorem ren_big (ad : Option Addr) (l : List Ope) (c : Nat) (a b : Nm) (ha9 : a.length ≤ 140737488351232) (hb9 : b.length ≤ 140737488351232) (W : World) (hO : Ops W (fun k => k < W.heap.size) ad l) (hF : Few l) (hl9 : l.length ≤ 140737488351232) (hbig : 800 < longL l ∨ 50 < l.length ∨ a.length < 1 ∨ 60 < a.length ∨ b.length < 1 ∨ 60 < b.length) :
    Calls Try.prog 9 #[.slice ad l.length c, .string ⟨a.toArray⟩, .string ⟨b.toArray⟩] W fun e w' => e = .returned (.bool true) ∧ Below W.heap.size W w' := by
  have HL := Lib.hid (long_test (c := c) hO hF hl9)
  have HBig := Lib.hid hbig
  have hlI : (l.length : Int) ≤ 140737488351232 := by omega
  have e1 := arr_size a
  have e2 := arr_size b
  clear hO hF hl9 hbig
  go_enter Try.func9, Try.ntmps9
  go_wp2_with fail
  refine HL.out.mono ?_
  rintro e w1 ⟨z, rfl, hz, hb⟩
  have HB := Lib.hid hb
  have HK := Lib.hid (known_any w1)
  have HZ := Lib.hid hz
  clear hb hz
  by_cases h0 : 800 < z
  · go_wp2_with fail
    refine HK.out.mono ?_
    rintro e w5 ⟨rfl, hb5⟩
    have HB5 := Lib.hid (HB.out.trans (hb5.mono HB.out.size))
    clear hb5
    go_wp2
    go_ret
    exact ⟨rfl, HB5.out⟩
  · have _p0 : True := trivial
    by_cases h1 : (50 : Int) < (l.length : Int)
    · go_wp2_with fail
      refine HK.out.mono ?_
      rintro e w5 ⟨rfl, hb5⟩
      have HB5 := Lib.hid (HB.out.trans (hb5.mono HB.out.size))
      clear hb5
      go_wp2
      go_ret
      exact ⟨rfl, HB5.out⟩
    · have _p1 : True := trivial
      by_cases h2 : (a.length : Int) < 1
      · go_wp2_with fail
        refine HK.out.mono ?_
        rintro e w5 ⟨rfl, hb5⟩
        have HB5 := Lib.hid (HB.out.trans (hb5.mono HB.out.size))
        clear hb5
        go_wp2
        go_ret
        exact ⟨rfl, HB5.out⟩
      · have _p2 : True := trivial
        by_cases h3 : (60 : Int) < (a.length : Int)
        · go_wp2_with fail
          refine HK.out.mono ?_
          rintro e w5 ⟨rfl, hb5⟩
          have HB5 := Lib.hid (HB.out.trans (hb5.mono HB.out.size))
          clear hb5
          go_wp2
          go_ret
          exact ⟨rfl, HB5.out⟩
        · have _p3 : True := trivial
          by_cases h4 : (b.length : Int) < 1
          · go_wp2_with fail
            refine HK.out.mono ?_
            rintro e w5 ⟨rfl, hb5⟩
            have HB5 := Lib.hid (HB.out.trans (hb5.mono HB.out.size))
            clear hb5
            go_wp2
            go_ret
            exact ⟨rfl, HB5.out⟩
          · have _p4 : True := trivial
            have h5 : (60 : Int) < (b.length : Int) := by
              have q1 := HBig.out
              have q2 := HZ.out
              omega
            go_wp2_with fail
            refine HK.out.mono ?_
            rintro e w5 ⟨rfl, hb5⟩
            have HB5 := Lib.hid (HB.out.trans (hb5.mono HB.out.size))
            clear hb5
            go_wp2
            go_ret
            exact ⟨rfl, HB5.out⟩
set_option maxRecDepth 100000 in
theorem ren_small (ad : Option Addr) (l : List Ope) (c : Nat) (a b : Nm) (W : World) (hO : Ops W (fun k => k < W.heap.size) ad l) (hF : Few l) (hl : l.length ≤ 50) (hz : longL l ≤ 800) (ha : 1 ≤ a.length ∧ a.length ≤ 60) (hb : 1 ≤ b.length ∧ b.length ≤ 60) :
    Calls Try.prog 9 #[.slice ad l.length c, .string ⟨a.toArray⟩, .string ⟨b.toArray⟩] W fun e w' => e = .returned (.bool true) ∧ Below W.heap.size W w' := by
  have HL := Lib.hid (long_few (c := c) hO (by omega) hF)
  have HO := Lib.hid hO
  have HC := Lib.hid (show cost l ≤ 800 by have := longL_cost l; omega)
  have hz' : ¬ (800 : Int) < (longL l : Int) := by omega
  have hlJ : ¬ (50 : Int) < (l.length : Int) := by omega
  have hlI : (l.length : Int) ≤ 50 := by omega
  have e1 := arr_size a
  have e2 := arr_size b
  have a1 : ¬ (a.length : Int) < 1 := by omega
  have a2 : ¬ (60 : Int) < (a.length : Int) := by omega
  have b1 : ¬ (b.length : Int) < 1 := by omega
  have b2 : ¬ (60 : Int) < (b.length : Int) := by omega
  have HA := Lib.hid ha
  have HBn := Lib.hid hb
  have HMa := Lib.hid (show a.length ≤ maxLen by simp only [maxLen]; omega)
  have HMb := Lib.hid (show b.length ≤ maxLen by simp only [maxLen]; omega)
  clear hO hF hz ha hb
  generalize longL l = z at *
  go_enter Try.func9, Try.ntmps9
  go_wp2_with fail
  refine HL.out.mono ?_
  rintro e w1 ⟨rfl, hb1⟩
  have HB1 := Lib.hid hb1
  have HN := Lib.hid (new_any 5000 w1 (by omega) (by omega))
  clear hb1
  go_wp2_with fail
  refine HN.out.mono ?_
  rintro e w2 ⟨rfl, hd, hb⟩
  have hm2 := Md.new HB1.out hd hb
  have hO2 : Ops w2 (fun k => k < w1.heap.size) ad l := (HO.out.below (HB1.out.trans (hb.mono HB1.out.size))).mono (fun k hk => Nat.lt_of_lt_of_le hk HB1.out.size)
  generalize (fun k => k < w1.heap.size) = T at *
  have HRn := Lib.hid (hm2.run l ad c (by omega) (by omega) hO2 (by have := HC.out; simp [sizeL, looseL]; omega))
  generalize w1.heap.size = g at *
  clear hd hb HN hm2 hO2 HB1 HL
  go_wp2_with fail
  refine HRn.out.mono ?_
  rintro e w3 ⟨rfl, hm3, _⟩
  have hfit := runL_fits (room := 5000) HC.out
  generalize (runL 5000 [] l).1 = fs at *
  generalize (runL 5000 [] l).2 = ran at *
  have HM3 := Lib.hid hm3
  have HF := Lib.hid (show Sm fs by unfold Sm; omega)
  have HFl := Lib.hid hfit
  clear hm3 hfit HRn
  go_wp2_with fail
  refine (HM3.out.read a HF.out HMa.out).mono ?_
  rintro e w4 ⟨T4, a4, c4, rfl, ⟨hm4, _, _⟩, hw4, _⟩
  have HM4 := Lib.hid hm4
  have HWas := Lib.hid hw4
  clear hm4 hw4
  go_wp2_with fail
  refine (HM4.out.names (by have := HFl.out; omega)).mono ?_
  rintro e w5 ⟨T5, a5, c5, rfl, ⟨hm5, ht5, hk5⟩, hn5⟩
  have HM5 := Lib.hid hm5
  have HWas5 := Lib.hid ((HWas.out.kept hk5).mono ht5)
  have HNm := Lib.hid hn5
  clear hm5 hk5 ht5 hn5 HWas
  go_wp2_with fail
  refine (HM5.out.do ⟨3, a, b, []⟩ none 0 HF.out (by omega) (by omega) (.inl rfl) (by simp)).mono ?_
  rw [doL_ren HA.out HBn.out]
  cases hg : get Fil.name a fs with
  | none =>
    rintro e w6 ⟨rfl, hm6, hk6⟩
    simp only at hm6
    have HM6 := Lib.hid hm6
    have HNm6 := Lib.hid (HNm.out.kept hk6)
    have HG := Lib.hid hg
    rw [readL_none hg]
    clear hm6 hk6 hg HWas5
    go_wp2_with fail
    refine (HM6.out.names (by have := HFl.out; omega)).mono ?_
    rintro e w7 ⟨T7, a7, c7, rfl, ⟨hm7, ht7, hk7⟩, hn7⟩
    have HM7 := Lib.hid hm7
    have HS := Lib.hid (sameNames_any a7 a5 (fs.map Fil.name) c7 c5 hn7 (HNm6.out.kept hk7) (by have := HFl.out; simp; omega))
    rw [List.length_map] at HS
    clear hm7 ht7 hk7 hn7
    go_wp2_with fail
    refine HS.out.mono ?_
    rintro e w8 ⟨rfl, hb8⟩
    have HK := Lib.hid (known_end (HM7.out.back.trans (hb8.mono HM7.out.back.size)))
    clear hb8
    go_wp2_with fail
    refine HK.out.mono ?_
    rintro e w9 ⟨rfl, hb9⟩
    have HB9 := Lib.hid hb9
    clear hb9
    go_wp2
    go_ret
    exact ⟨rfl, HB9.out⟩
  | some f =>
    rintro e w6 ⟨rfl, hm6, hk6⟩
    simp only at hm6
    have HM6 := Lib.hid hm6
    have HWas6 := Lib.hid (HWas5.out.kept hk6)
    have HG := Lib.hid hg
    rw [readL_some hg] at HWas6 ⊢
    have hsz := doL_size (room := 5000) (fs := fs) ⟨3, a, b, []⟩ HFl.out.2
    rw [doL_ren HA.out HBn.out, hg] at hsz
    simp only [List.length_nil] at hsz
    have hR2 : readL (put Fil.name (f.called b) (del Fil.name a fs)) b = (f.all, 0) := (readL_some (f := f.called b) get_called).trans rfl
    have hg2 : get Fil.name b (put Fil.name (f.called b) (del Fil.name a fs)) = some (f.called b) := get_called
    have hRa : (readL (put Fil.name (f.called b) (del Fil.name a fs)) a).2 = if a = b then 0 else 4 := by
      by_cases hab : a = b
      · subst hab
        rw [hR2, if_pos rfl]
      · rw [if_neg hab, readL_none]
        rw [get_put_other HFl.out.2.del hab]
        exact get_del_same
    generalize hf2 : put Fil.name (f.called b) (del Fil.name a fs) = fs2 at *
    have HF2 := Lib.hid (show Sm fs2 by have := HFl.out; unfold Sm; omega)
    have HR2 := Lib.hid (And.intro hR2 (And.intro hg2 hRa))
    have HFl2 := Lib.hid (show sizeL fs2 + looseL fs2 + fs2.length ≤ 802 by have := HFl.out; omega)
    clear hm6 hk6 hg hsz hR2 hg2 hRa hf2 HWas5 HNm
    go_wp2_with fail
    refine (HM6.out.read b HF2.out HMb.out).mono ?_
    rintro e w7 ⟨T7, a7, c7, rfl, ⟨hm7, ht7, hk7⟩, hw7, _⟩
    have HM7 := Lib.hid hm7
    have HWas7 := Lib.hid ((HWas6.out.kept hk7).mono ht7)
    have HNow := Lib.hid hw7
    rw [HR2.out.1] at HNow ⊢
    clear hm7 ht7 hk7 hw7 HWas6
    go_wp2_with fail
    refine (HM7.out.read a HF2.out HMa.out).mono ?_
    rintro e w8 ⟨T8, a8, c8, rfl, ⟨hm8, ht8, hk8⟩, _, _⟩
    have HM8 := Lib.hid hm8
    have HWas8 := Lib.hid ((HWas7.out.kept hk8).mono ht8)
    have HNow8 := Lib.hid ((HNow.out.kept hk8).mono ht8)
    rw [HR2.out.2.2]
    generalize (readL fs2 a).1.length = n8 at *
    clear hm8 ht8 hk8 HWas7 HNow
    have HSm := Lib.hid (same_any a7 a4 f.all f.all c7 c4 w8 HNow8.out.bytes HWas8.out.bytes)
    simp only [decide_true] at HSm
    by_cases hab : a = b
    · have hbq : (a == b) = true := by simp [hab]
      rw [if_pos hab]
      clear hab
      go_wp2_with fail
      refine HSm.out.mono ?_
      rintro e w9 ⟨rfl, rfl⟩
      go_wp2_with fail
      refine (HM8.out.do ⟨4, b, [], []⟩ none 0 HF2.out (by omega) (by omega) (.inl rfl) (by simp)).mono ?_
      rw [doL_rem HBn.out, HR2.out.2.1]
      rintro e w10 ⟨rfl, hm10, _⟩
      simp only at hm10
      have hsz3 : Sm (del Fil.name b fs2) := by
        have h1 := sizeL_del_le b fs2
        have h2 := looseL_del_le b fs2
        have h3 := del_length (key := Fil.name) b fs2
        have h4 := HFl2.out
        unfold Sm
        omega
      have hr3 : readL (del Fil.name b fs2) b = ([], 4) := readL_none get_del_same
      have HM10 := Lib.hid hm10
      have HF3 := Lib.hid (And.intro hsz3 hr3)
      clear hm10 hsz3 hr3
      go_wp2_with fail
      refine (HM10.out.read b HF3.out.1 HMb.out).mono ?_
      rintro e w11 ⟨T11, a11, c11, rfl, ⟨hm11, _, _⟩, _, _⟩
      rw [HF3.out.2]
      have HK := Lib.hid (known_end hm11.back)
      clear hm11
      go_wp2_with fail
      refine HK.out.mono ?_
      rintro e w12 ⟨rfl, hb12⟩
      have HB12 := Lib.hid hb12
      clear hb12
      go_wp2
      go_ret
      exact ⟨rfl, HB12.out⟩
    · have hbq : (a == b) = false := by simp [hab]
      rw [if_neg hab]
      clear hab
      go_wp2_with fail
      refine HSm.out.mono ?_
      rintro e w9 ⟨rfl, rfl⟩
      go_wp2_with fail
      refine (HM8.out.do ⟨4, b, [], []⟩ none 0 HF2.out (by omega) (by omega) (.inl rfl) (by simp)).mono ?_
      rw [doL_rem HBn.out, HR2.out.2.1]
      rintro e w10 ⟨rfl, hm10, _⟩
      simp only at hm10
      have hsz3 : Sm (del Fil.name b fs2) := by
        have h1 := sizeL_del_le b fs2
        have h2 := looseL_del_le b fs2
        have h3 := del_length (key := Fil.name) b fs2
        have h4 := HFl2.out
        unfold Sm
        omega
      have hr3 : readL (del Fil.name b fs2) b = ([], 4) := readL_none get_del_same
      have HM10 := Lib.hid hm10
      have HF3 := Lib.hid (And.intro hsz3 hr3)
      clear hm10 hsz3 hr3
      go_wp2_with fail
      refine (HM10.out.read b HF3.out.1 HMb.out).mono ?_
      rintro e w11 ⟨T11, a11, c11, rfl, ⟨hm11, _, _⟩, _, _⟩
      rw [HF3.out.2]
      have HK := Lib.hid (known_end hm11.back)
      clear hm11
      go_wp2_with fail
      refine HK.out.mono ?_
      rintro e w12 ⟨rfl, hb12⟩
      have HB12 := Lib.hid hb12
      clear hb12
      go_wp2
      go_ret
      exact ⟨rfl, HB12.out⟩
theorem ren_walk (ad : Option Addr) (l : List Ope) (c : Nat) (a b : Nm) (ha9 : a.length ≤ 140737488351232) (hb9 : b.length ≤ 140737488351232) (W : World) (hO : Ops W (fun k => k < W.heap.size) ad l) (hF : Few l) (hl9 : l.length ≤ 140737488351232) :
    Calls Try.prog 9 #[.slice ad l.length c, .string ⟨a.toArray⟩, .string ⟨b.toArray⟩] W fun e w' => e = .returned (.bool true) ∧ Below W.heap.size W w' := by
  by_cases hs : 800 < longL l ∨ 50 < l.length ∨ a.length < 1 ∨ 60 < a.length ∨ b.length < 1 ∨ 60 < b.length
  · exact ren_big ad l c a b ha9 hb9 W hO hF hl9 hs
  · exact ren_small ad l c a b W hO hF (by omega) (by omega) (by omega) (by omega)
end Go.Proofs.Ythheolhghhmdlaa
