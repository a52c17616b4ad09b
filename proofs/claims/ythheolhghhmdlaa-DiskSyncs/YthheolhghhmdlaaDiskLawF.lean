/- DiskSyncs: the walk. -/
import Derived.Test.YthheolhghhmdlaaDiskLawE
namespace Go.Proofs.Ythheolhghhmdlaa
open Go.RowKit Dsk

set_option maxRecDepth 100000 in
theorem sync_small (ad : Option Addr) (l : List Ope) (c : Nat) (ak : Option Addr) (marks : List Int) (ck : Nat) (W : World) (hO : Ops W (fun k => k < W.heap.size) ad l) (hF : Few l) (hl : l.length ≤ 50) (hz : longL l ≤ 800) (hK : RdT numV W (fun k => k < W.heap.size) ak marks) (hk : marks.length ≤ 50) (hck : marks.length ≤ ck) :
    Calls Try.prog 7 #[.slice ad l.length c, .slice ak marks.length ck] W fun e w' => e = .returned (.bool true) ∧ Below W.heap.size W w' := by
  have HL := Lib.hid (long_few (c := c) hO (by omega) hF)
  have HO := Lib.hid hO
  have HC := Lib.hid (show cost l ≤ 800 by have := longL_cost l; omega)
  have hz' : ¬ (800 : Int) < (longL l : Int) := by omega
  have hlJ : ¬ (50 : Int) < (l.length : Int) := by omega
  have hlI : (l.length : Int) ≤ 50 := by omega
  have b2 : ¬ (50 : Int) < (marks.length : Int) := by omega
  have HKs := Lib.hid hK
  have HM9 := Lib.hid (And.intro hk hck)
  clear hO hF hz hK hk hck
  generalize longL l = z at *
  go_enter Try.func7, Try.ntmps7
  go_wp2_with fail
  refine HL.out.mono ?_
  rintro e w1 ⟨rfl, hb1⟩
  have HB1 := Lib.hid hb1
  have HN := Lib.hid (new_any 5000 w1 (by omega) (by omega))
  clear hb1
  go_wp2_with fail
  refine HN.out.mono ?_
  rintro e w2 ⟨rfl, hd, hb⟩
  have hm2 := Md.new HB1.out hd hb
  have hb2 := HB1.out.trans (hb.mono HB1.out.size)
  have hO2 : Ops w2 (fun k => k < w1.heap.size) ad l := (HO.out.below hb2).mono (fun k hk => Nat.lt_of_lt_of_le hk HB1.out.size)
  generalize (fun k => k < w1.heap.size) = T at *
  have HRn := Lib.hid (hm2.run l ad c (by omega) (by omega) hO2 (by have := HC.out; simp [sizeL, looseL]; omega))
  generalize w1.heap.size = g at *
  clear hd hb HN hm2 hO2 HB1 HL hb2
  go_wp2_with fail
  refine HRn.out.mono ?_
  rintro e w3 ⟨rfl, hm3, _⟩
  have hfit := runL_fits (room := 5000) HC.out
  have hnm := runL_named (room := 5000) l (fs := []) (fun f hf => by cases hf)
  generalize (runL 5000 [] l).1 = fs at *
  generalize (runL 5000 [] l).2 = ran at *
  have HFit := Lib.hid (And.intro hfit hnm)
  have HSm := Lib.hid (show ∀ k, Sm (syn fs k) from fun k => by
    have h1 := syn_tot fs k
    have h2 := syn_length fs k
    unfold Sm
    omega)
  have hfI : (fs.length : Int) ≤ 800 := by omega
  have HM3 := Lib.hid hm3
  clear hm3 hfit hnm HRn
  go_wp2_with fail
  refine (HM3.out.names (by have := HFit.out; omega)).mono ?_
  rintro e w4 ⟨T4, a4, c4, rfl, ⟨hm4, _, _⟩, hn4⟩
  have HA := Lib.hid (show SyA W g fs a4 0 w4 from ⟨T4, by simpa [syn] using hm4, hn4⟩)
  clear hm4 hn4
  go_wp2
  go_loopw [7] (fun i wr => ∃ k : Nat, k ≤ fs.length ∧ i = .int .i64 k ∧ SyA W g fs a4 k wr) (fun i _ => fs.length - (intOf i).toNat)
  case atStart => exact ⟨0, by omega, rfl, HA.out⟩
  case round =>
    obtain ⟨k, hk, rfl, hA⟩ := hrel
    by_cases hlt : k < fs.length
    · have hlt' : (k : Int) < (fs.length : Int) := by omega
      obtain ⟨Tr, hmr, hnr⟩ := hA
      obtain ⟨b1, o1, ea, hbl, _, hc1⟩ := hnr.at_ (i := k) (by simpa using hlt)
      subst ea
      rw [List.getElem_map] at hc1
      unfold encStr at hc1
      have HMr := Lib.hid hmr
      have HNr := Lib.hid hnr
      have HSt := Lib.hid (syn_step HFit.out.1.2 HFit.out.2 hlt)
      clear hmr hnr
      generalize (fs[k]'hlt).name = n at *
      go_wp2_with fail
      refine (HMr.out.do ⟨2, n, [], []⟩ none 0 (HSm.out k) (by omega) (by omega) (.inl rfl) (by simp)).mono ?_
      rw [HSt.out]
      rintro e w5 ⟨rfl, hm5, hk5⟩
      have HR := Lib.hid (show SyA W g fs (some ⟨b1, o1, none⟩) (k + 1) w5 from ⟨Tr, hm5, HNr.out.kept hk5⟩)
      clear hm5 hk5
      go_wp2
      go_roundw
      case rel => exact ⟨k + 1, by omega, by go_num, HR.out⟩
      case measure => simp [intOf]; omega
    · have hlt' : ¬ (k : Int) < (fs.length : Int) := by omega
      have hkl : k = fs.length := by omega
      obtain ⟨Tr, hmr, hnr⟩ := hA
      rw [hkl, syn_all] at hmr
      have hsm := HSm.out fs.length
      rw [syn_all] at hsm
      have hlo := synced_loose fs
      have hcr := crash_synced fs marks
      have hnm : (fs.map Fil.synced).map Fil.name = fs.map Fil.name := by rw [← syn_all]; exact syn_names _ _
      have hln : (fs.map Fil.synced).length = fs.length := by simp
      rw [← hnm] at hnr
      rw [← hln] at hfI hlt' ⊢
      have HF9 := Lib.hid (show (fs.map Fil.synced).length ≤ 800 by rw [hln]; have := HFit.out; omega)
      have HNn := Lib.hid (show ∀ f ∈ fs.map Fil.synced, f.name.length ≤ 60 from fun f hf => by
        obtain ⟨f0, h0, rfl⟩ := List.mem_map.1 hf
        exact (HFit.out.2 f0 h0).2)
      clear HSm hlt hkl hk hln HA HM3
      generalize fs.map Fil.synced = fx at *
      have HM := Lib.hid hmr
      have HN := Lib.hid hnr
      have HS := Lib.hid (And.intro hsm (And.intro hlo hcr))
      clear hmr hnr hsm hlo hcr hnm
      generalize (k : Int) = ki at *
      go_wp2_with fail
      refine (HM.out.copy HS.out.1).mono ?_
      rintro e w6 ⟨T6, g6, S6, rfl, ⟨hm6, ht6, hk6⟩, hd6, hS6⟩
      have HM6 := Lib.hid hm6
      have HN6 := Lib.hid ((HN.out.kept hk6).mono ht6)
      have HD6 := Lib.hid (And.intro hd6 (fun k (hk : S6 k) => (hS6 k hk).1))
      clear hm6 ht6 hk6 hd6 hS6
      go_wp2_with fail
      refine HM6.out.size.mono ?_
      rintro e w' ⟨rfl, rfl⟩
      go_wp2_with fail
      refine (HM6.out.loose HS.out.1).mono ?_
      rw [HS.out.2.1]
      rintro e w7 ⟨rfl, hm7, hk7⟩
      have HM7 := Lib.hid hm7
      have HN7 := Lib.hid (HN6.out.kept hk7)
      have HD7 := Lib.hid (HD6.out.1.kept HD6.out.2 hk7)
      clear hm7 hk7
      go_wp2_with fail
      refine (HM7.out.crash marks ak ck HS.out.1 (HM7.out.argR HKs.out) (by have := HM9.out; omega) HM9.out.2).mono ?_
      rw [HS.out.2.2]
      rintro e w8 ⟨rfl, hm8, hk8⟩
      have HBo := Lib.hid (show SyB W g g6 fx a4 w8 from ⟨T6, S6, hm8, HD7.out.kept HD6.out.2 hk8, HD6.out.2, HN7.out.kept hk8⟩)
      clear hm8 hk8 HM7 HN7 HD7 HM6 HN6 HD6 HM HN
      generalize hsz : sizeL fx = sz at *
      go_wp2
      go_loopw [10, 11, 12, 13, 14] (fun i _ _ _ _ wr => ∃ k : Nat, k ≤ fx.length ∧ i = .int .i64 k ∧ SyB W g g6 fx a4 wr) (fun i _ _ _ _ _ => fx.length - (intOf i).toNat)
      case atStart => exact ⟨0, by omega, rfl, HBo.out⟩
      case round =>
        obtain ⟨k, hk, rfl, hB⟩ := hrel
        have HB := Lib.hid hB
        by_cases hlt : k < fx.length
        · have hlt2 : (k : Int) < (fx.length : Int) := by omega
          obtain ⟨Tr, Sr, hmr, hdr, hsr, hnr⟩ := hB
          obtain ⟨b1, o1, ea, hbl, _, hc1⟩ := hnr.at_ (i := k) (by simpa using hlt)
          subst ea
          rw [List.getElem_map] at hc1
          have hc2 : ∀ w2 : World, Below wr.heap.size wr w2 → w2.cell? ⟨b1, o1 + k, none⟩ = some (encStr (fx[k]'hlt).name) := fun w2 hb => (hb.cell (p := ⟨b1, o1 + k, none⟩) hbl).trans hc1
          have HC2 := Lib.hid hc2
          have HNl := Lib.hid (show (fx[k]'hlt).name.length ≤ maxLen by have := HNn.out _ (List.getElem_mem hlt); simp only [maxLen]; omega)
          clear hmr hdr hsr hnr hc2
          generalize (fx[k]'hlt).name = n at *
          unfold encStr at hc1
          go_wp2_with fail
          refine (HB.out.readD n HS.out.1 HNl.out).mono ?_
          rintro e w9 ⟨a9, c9, rfl, hB9, hby9, hb9⟩
          have hc3 := HC2.out w9 hb9
          have hbl9 : b1 < w9.heap.size := by have := hb9.size; omega
          unfold encStr at hc3
          have HB9 := Lib.hid hB9
          have HBy9 := Lib.hid hby9
          clear hB9 hby9 hb9
          go_wp2_with fail
          refine (HB9.out.readE n HS.out.1 HNl.out).mono ?_
          rintro e w10 ⟨a10, c10, rfl, hB10, hby10, hb10⟩
          have HB10 := Lib.hid hB10
          have HSa := Lib.hid (same_any a9 a10 (readL fx n).1 (readL fx n).1 c9 c10 w10 (HBy9.out.under hb10) hby10)
          rw [decide_eq_true rfl] at HSa
          clear hB10 hby10 hb10
          go_wp2_with fail
          refine HSa.out.mono ?_
          rintro e w' ⟨rfl, rfl⟩
          go_wp2
          go_roundw
          case rel =>
            first
              | exact ⟨k + 1, by omega, by go_num, HB10.out⟩
              | exact ⟨_, _, _, _, _, ⟨k + 1, by omega, by go_num, HB10.out⟩, rfl, rfl, rfl, rfl, rfl⟩
          case measure => simp [intOf]; omega
        · have hlt2 : ¬ (k : Int) < (fx.length : Int) := by omega
          obtain ⟨Tr, Sr, hmr, hdr, hsr, hnr⟩ := hB
          have HMr := Lib.hid hmr
          have HNr := Lib.hid hnr
          have HSize := Lib.hid hmr.size
          rw [hsz] at HSize
          clear hmr hnr hdr hsr hsz
          go_wp2_with fail
          refine HSize.out.mono ?_
          rintro e w' ⟨rfl, rfl⟩
          go_wp2_with fail
          refine (HMr.out.names (by have := HF9.out; omega)).mono ?_
          rintro e w11 ⟨T11, a11, c11, rfl, ⟨hm11, ht11, hk11⟩, hn11⟩
          have HS2 := Lib.hid (sameNames_any a11 a4 (fx.map Fil.name) c11 c4 hn11 (HNr.out.kept hk11) (by have := HF9.out; simp; omega))
          rw [List.length_map] at HS2
          have HM11 := Lib.hid hm11
          clear hm11 ht11 hk11 hn11
          go_wp2_with fail
          refine HS2.out.mono ?_
          rintro e w12 ⟨rfl, hb12⟩
          have HK := Lib.hid (known_end (HM11.out.back.trans (hb12.mono HM11.out.back.size)))
          clear hb12
          go_wp2_with fail
          refine HK.out.mono ?_
          rintro e w13 ⟨rfl, hb13⟩
          have HB13 := Lib.hid hb13
          clear hb13
          go_wp2
          go_ret
          exact ⟨rfl, HB13.out⟩
theorem sync_walk (ad : Option Addr) (l : List Ope) (c : Nat) (ak : Option Addr) (marks : List Int) (ck : Nat) (hk9 : marks.length ≤ 140737488351232) (W : World) (hO : Ops W (fun k => k < W.heap.size) ad l) (hF : Few l) (hl9 : l.length ≤ 140737488351232) (hK : RdT numV W (fun k => k < W.heap.size) ak marks) (hck : marks.length ≤ ck) :
    Calls Try.prog 7 #[.slice ad l.length c, .slice ak marks.length ck] W fun e w' => e = .returned (.bool true) ∧ Below W.heap.size W w' := by
  by_cases hs : 800 < longL l ∨ 50 < l.length ∨ 50 < marks.length
  · exact sync_big ad l c ak marks ck hk9 W hO hF hl9 hs
  · exact sync_small ad l c ak marks ck W hO hF (by omega) (by omega) hK (by omega) hck
end Go.Proofs.Ythheolhghhmdlaa
