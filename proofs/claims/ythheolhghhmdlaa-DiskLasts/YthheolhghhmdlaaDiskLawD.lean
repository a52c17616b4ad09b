/- DiskLasts: the walk. -/
import Derived.Test.YthheolhghhmdlaaDiskLawC
namespace Go.Proofs.Ythheolhghhmdlaa
open Go.RowKit Dsk

set_option maxRecDepth 100000 in
theorem last_small (ad : Option Addr) (l : List Ope) (c : Nat) (name : Nm) (am : Option Addr) (more : By) (cm : Nat) (ak : Option Addr) (marks : List Int) (ck : Nat) (W : World) (hO : Ops W (fun k => k < W.heap.size) ad l) (hF : Few l) (hl : l.length ≤ 50) (hz : longL l ≤ 800) (hn : 1 ≤ name.length ∧ name.length ≤ 60) (hB : Bytes W am more) (hm : more.length ≤ 100) (hK : RdT numV W (fun k => k < W.heap.size) ak marks) (hk : marks.length ≤ 60) (hck : marks.length ≤ ck) :
    Calls Try.prog 5 #[.slice ad l.length c, .string ⟨name.toArray⟩, .slice am more.length cm, .slice ak marks.length ck] W fun e w' => e = .returned (.bool true) ∧ Below W.heap.size W w' := by
  have HL := Lib.hid (long_few (c := c) hO (by omega) hF)
  have HO := Lib.hid hO
  have HC := Lib.hid (show cost l ≤ 800 by have := longL_cost l; omega)
  have hz' : ¬ (800 : Int) < (longL l : Int) := by omega
  have hlJ : ¬ (50 : Int) < (l.length : Int) := by omega
  have hlI : (l.length : Int) ≤ 50 := by omega
  have e1 := arr_size name
  have a1 : ¬ (name.length : Int) < 1 := by omega
  have a2 : ¬ (60 : Int) < (name.length : Int) := by omega
  have b1 : ¬ (100 : Int) < (more.length : Int) := by omega
  have b2 : ¬ (60 : Int) < (marks.length : Int) := by omega
  have HMa := Lib.hid (show name.length ≤ maxLen by simp only [maxLen]; omega)
  have HBy := Lib.hid hB
  have HKs := Lib.hid hK
  have HM9 := Lib.hid (And.intro hm (And.intro hk (And.intro hck hn)))
  clear hO hF hz hn hB hK hm hk hck
  generalize longL l = z at *
  go_enter Try.func5, Try.ntmps5
  go_wp2_with fail
  refine HL.out.mono ?_
  rintro e w1 ⟨rfl, hb1⟩
  have HB1 := Lib.hid hb1
  have HN := Lib.hid (new_any 5000 w1 (by omega) (by omega))
  clear hb1
  go_wp2_with fail
  refine HN.out.mono ?_
  rintro e w2 ⟨rfl, hd, hb⟩
  have hm2 := Md.new HB1.out hd hb
  have hb2 := HB1.out.trans (hb.mono HB1.out.size)
  have hO2 : Ops w2 (fun k => k < w1.heap.size) ad l := (HO.out.below hb2).mono (fun k hk => Nat.lt_of_lt_of_le hk HB1.out.size)
  generalize (fun k => k < w1.heap.size) = T at *
  have HRn := Lib.hid (hm2.run l ad c (by omega) (by omega) hO2 (by have := HC.out; simp [sizeL, looseL]; omega))
  generalize w1.heap.size = g at *
  clear hd hb HN hm2 hO2 HB1 HL hb2
  go_wp2_with fail
  refine HRn.out.mono ?_
  rintro e w3 ⟨rfl, hm3, _⟩
  have hfit := runL_fits (room := 5000) HC.out
  generalize (runL 5000 [] l).1 = fs at *
  generalize (runL 5000 [] l).2 = ran at *
  obtain ⟨fs1, fs2, fs3, F, d1, d2, r2, d3, nm4, ⟨s, hs, r4⟩, s1, s2, s3, s4, n2, hFl⟩ := lasts (more := more) (ms := marks) HM9.out.2.2.2 hfit.2 hfit.1 HM9.out.1
  have HD := Lib.hid (And.intro d1 (And.intro d2 (And.intro r2 (And.intro d3 (And.intro nm4 r4)))))
  have HSm := Lib.hid (And.intro s1 (And.intro s2 (And.intro s3 (And.intro s4 n2))))
  have HS := Lib.hid (And.intro hs hFl)
  have HF := Lib.hid (show Sm fs by unfold Sm; omega)
  have HM3 := Lib.hid hm3
  clear hm3 hfit HRn d1 d2 r2 d3 nm4 hs r4 s1 s2 s3 s4 n2 hFl
  go_wp2_with fail
  refine (HM3.out.do ⟨1, name, [], []⟩ none 0 HF.out (by omega) (by omega) (.inl rfl) (by simp)).mono ?_
  rw [HD.out.1]
  rintro e w4 ⟨rfl, hm4, _⟩
  have HM4 := Lib.hid (show Md W g 5000 fs1 T w4 from hm4)
  clear hm4
  go_wp2_with fail
  refine (HM4.out.do ⟨2, name, [], []⟩ none 0 HSm.out.1 (by omega) (by omega) (.inl rfl) (by simp)).mono ?_
  rw [HD.out.2.1]
  rintro e w5 ⟨rfl, hm5, _⟩
  have HM5 := Lib.hid (show Md W g 5000 fs2 T w5 from hm5)
  clear hm5
  go_wp2_with fail
  refine (HM5.out.read name HSm.out.2.1 HMa.out).mono ?_
  rw [HD.out.2.2.1]
  rintro e w6 ⟨T6, a6, c6, rfl, ⟨hm6, _, _⟩, hw6, hc6⟩
  have HM6 := Lib.hid hm6
  have HWas := Lib.hid hw6
  clear hm6 hw6
  go_wp2_with fail
  refine (HM6.out.names (by have := HSm.out.2.2.2.2; omega)).mono ?_
  rintro e w7 ⟨T7, a7, c7, rfl, ⟨hm7, ht7, hk7⟩, hn7⟩
  have HM7 := Lib.hid hm7
  have HWas7 := Lib.hid ((HWas.out.kept hk7).mono ht7)
  have HNm := Lib.hid hn7
  clear hm7 hk7 ht7 hn7 HWas
  go_wp2_with fail
  refine (HM7.out.do ⟨1, name, [], more⟩ am cm HSm.out.2.1 (by omega) (by omega) (HM7.out.argB HBy.out) (Nat.le_trans HM9.out.1 (by omega))).mono ?_
  rw [HD.out.2.2.2.1]
  rintro e w8 ⟨rfl, hm8, hk8⟩
  have HM8 := Lib.hid (show Md W g 5000 fs3 T7 w8 from hm8)
  have HWas8 := Lib.hid (HWas7.out.kept hk8)
  have HNm8 := Lib.hid (HNm.out.kept hk8)
  clear hm8 hk8 HWas7 HNm
  go_wp2_with fail
  refine (HM8.out.crash marks ak ck HSm.out.2.2.1 (HM8.out.argR HKs.out) (by have := HM9.out; omega) HM9.out.2.2.1).mono ?_
  rintro e w9 ⟨rfl, hm9, hk9⟩
  have HM9' := Lib.hid hm9
  have HWas9 := Lib.hid (HWas8.out.kept hk9)
  have HNm9 := Lib.hid (HNm8.out.kept hk9)
  clear hm9 hk9 HWas8 HNm8
  go_wp2_with fail
  refine (HM9'.out.read name HSm.out.2.2.2.1 HMa.out).mono ?_
  rw [HD.out.2.2.2.2.2]
  rintro e w10 ⟨T10, a10, c10, rfl, ⟨hm10, ht10, hk10⟩, hw10, hc10⟩
  have HM10 := Lib.hid hm10
  have HWas10 := Lib.hid ((HWas9.out.kept hk10).mono ht10)
  have HNm10 := Lib.hid ((HNm9.out.kept hk10).mono ht10)
  have HNow := Lib.hid hw10
  have HMr := Lib.hid (hm10.argB HBy.out)
  clear hm10 ht10 hk10 hw10 HWas9 HNm9
  simp only [List.length_append, List.length_take] at hc10 ⊢
  have hst : min s more.length = s := by have := HS.out; omega
  rw [hst] at hc10 ⊢
  clear hst
  have i1 : (F.length : Int) ≤ 1000 := by have := HS.out; omega
  have i2 : (s : Int) ≤ (more.length : Int) := by have := HS.out; omega
  have i3 : ¬ (F.length : Int) + (s : Int) < (F.length : Int) := by omega
  have i4 : ¬ (F.length : Int) + (more.length : Int) < (F.length : Int) + (s : Int) := by omega
  have i5 : (F.length : Int) ≤ (c10 : Int) := by omega
  have i6 : (F.length : Int) ≤ (F.length : Int) + (s : Int) := by omega
  have HSame := Lib.hid (same_any a10 a6 ((F ++ more.take s).take F.length) F c10 c6 w10 (HNow.out.bytes.takeB F.length) HWas10.out.bytes)
  rw [List.take_left, decide_eq_true rfl] at HSame
  go_wp2_with fail
  refine HSame.out.mono ?_
  rintro e w' ⟨rfl, rfl⟩
  go_wp2
  go_loopw [15] (fun i wr => ∃ k : Nat, k ≤ s ∧ i = .int .i64 ((F.length + k : Nat) : Int) ∧ Md W g 5000 (crashL fs3 marks) T10 wr ∧ Kept T10 w10 wr) (fun i _ => (F.length + s) - (intOf i).toNat)
  case atStart => exact ⟨0, by omega, by simp, HM10.out, fun _ _ => rfl, Nat.le_refl _⟩
  case round =>
    obtain ⟨k, hk, rfl, hmr, hkr⟩ := hrel
    have HMr2 := Lib.hid hmr
    have HKr := Lib.hid hkr
    clear hmr hkr
    by_cases hlt : k < s
    · have hs := HS.out
      obtain ⟨b1, o1, ea1, hbl1, _, hc1⟩ := (HNow.out.kept HKr.out).at_ (i := F.length + k) (by simp; omega)
      obtain ⟨b2, o2, ea2, hbl2, _, hc2⟩ := (HMr.out.kept HKr.out).at_ (i := k) (by omega)
      subst ea1
      subst ea2
      have hx : (F ++ more.take s)[F.length + k]'(by simp; omega) = more[k]'(by omega) := by
        rw [List.getElem_append_right (by omega)]
        simp
      rw [hx] at hc1
      generalize (more[k]'(by omega)) = x at *
      obtain ⟨n, hn⟩ : ∃ n, n = F.length + k := ⟨_, rfl⟩
      rw [← hn] at hc1 ⊢
      have hlt' : (n : Int) < (F.length : Int) + (s : Int) := by omega
      have hsub : (n : Int) - (F.length : Int) = (k : Int) := by omega
      have hkm : (k : Int) < (more.length : Int) := by omega
      have hnI : (n : Int) ≤ 1100 := by omega
      have HN1 := Lib.hid (show n + 1 = F.length + (k + 1) by omega)
      have HM9n := Lib.hid (fun q => (HMr2.out.under (below_dN (Below.refl _ _) q)))
      clear hx hs hn
      unfold byV at hc1 hc2
      go_wp2
      go_quiet (fail)
      go_wp2
      go_roundw
      case rel =>
        refine ⟨k + 1, by omega, ?_, HM9n.out _, fun j hj => HKr.out.1 j hj, HKr.out.2⟩
        have := HN1.out
        rw [← this]
        go_num
      case measure => simp [intOf]; omega
    · have hks : k = s := by have := HS.out; omega
      have hlt' : ¬ ((F.length + k : Nat) : Int) < (F.length : Int) + (s : Int) := by omega
      generalize F.length + k = n at *
      go_wp2_with fail
      refine (HMr2.out.names (by have h1 := HSm.out.2.2.2.1; unfold Sm at h1; omega)).mono ?_
      rintro e w11 ⟨T11, a11, c11, rfl, ⟨hm11, ht11, hk11⟩, hn11⟩
      rw [HD.out.2.2.2.2.1] at hn11
      have hl11 : (crashL fs3 marks).length = fs2.length := by
        have := congrArg List.length HD.out.2.2.2.2.1
        simpa using this
      have HS2 := Lib.hid (sameNames_any a11 a7 (fs2.map Fil.name) c11 c7 hn11 ((HNm10.out.kept HKr.out).kept hk11) (by have := HSm.out.2.2.2.2; simp; omega))
      rw [List.length_map] at HS2
      rw [hl11]
      have HM11 := Lib.hid hm11
      clear hm11 ht11 hk11 hn11 hl11
      go_wp2_with fail
      refine HS2.out.mono ?_
      rintro e w12 ⟨rfl, hb12⟩
      have HK := Lib.hid (known_end (HM11.out.back.trans (hb12.mono HM11.out.back.size)))
      clear hb12
      go_wp2_with fail
      refine HK.out.mono ?_
      rintro e w13 ⟨rfl, hb13⟩
      have HB13 := Lib.hid hb13
      clear hb13
      go_wp2
      go_ret
      exact ⟨rfl, HB13.out⟩
theorem last_walk (ad : Option Addr) (l : List Ope) (c : Nat) (name : Nm) (hn9 : name.length ≤ 140737488351232) (am : Option Addr) (more : By) (cm : Nat) (hm9 : more.length ≤ 140737488351232) (ak : Option Addr) (marks : List Int) (ck : Nat) (hk9 : marks.length ≤ 140737488351232) (W : World) (hO : Ops W (fun k => k < W.heap.size) ad l) (hF : Few l) (hl9 : l.length ≤ 140737488351232) (hB : Bytes W am more) (hK : RdT numV W (fun k => k < W.heap.size) ak marks) (hck : marks.length ≤ ck) :
    Calls Try.prog 5 #[.slice ad l.length c, .string ⟨name.toArray⟩, .slice am more.length cm, .slice ak marks.length ck] W fun e w' => e = .returned (.bool true) ∧ Below W.heap.size W w' := by
  by_cases hs : 800 < longL l ∨ 50 < l.length ∨ 100 < more.length ∨ 60 < marks.length ∨ name.length < 1 ∨ 60 < name.length
  · exact last_big ad l c name hn9 am more cm hm9 ak marks ck hk9 W hO hF hl9 hs
  · exact last_small ad l c name am more cm ak marks ck W hO hF (by omega) (by omega) (by omega) hB (by omega) hK (by omega) hck
end Go.Proofs.Ythheolhghhmdlaa
