/- The document's words. -/
import Derived.Test.YtdjfmmfggkkbaaaDoorGrI
namespace Go.Proofs.YtdjfmmfggkkbaaaDoor
open Go.RowKit Go.Shelf Grm

theorem cut_count2 (c : UInt8) (s : Tx) (h : s.length ≤ 2000) : (cut c s).length ≤ 2001 := by have := cut_count c s; omega
theorem words_skip (l : List Tx) (k : Nat) (h : k < l.length) (e : l[k]'h = []) : (l.take (k + 1)).filter full = (l.take k).filter full := by
  rw [List.take_succ_eq_append_getElem h, List.filter_append, e]
  simp [full]
theorem words_keep (l : List Tx) (k : Nat) (h : k < l.length) (e : l[k]'h ≠ []) : (l.take (k + 1)).filter full = (l.take k).filter full ++ [l[k]'h] := by
  rw [List.take_succ_eq_append_getElem h, List.filter_append]
  have : full (l[k]'h) = true := by cases hh : l[k]'h with | nil => exact absurd hh e | cons a t => rfl
  simp [this]
set_option maxRecDepth 100000 in
set_option maxHeartbeats 4000000 in
theorem rwords_any (s : Tx) (w : World) (h9 : s.length ≤ 2000) :
    Calls Tryd.prog 39 #[txV s] w fun e w' => (∃ v, e = .returned v ∧ TV w' w.heap.size v (wordsL s)) ∧ Below w.heap.size w w' := by
  have HC := Lib.hid (rcut_any s 32 w h9)
  have H9 := Lib.hid (cut_count2 32 s h9)
  unfold wordsL
  clear h9
  generalize cut 32 s = L at *
  go_enter Tryd.func39, Tryd.ntmps39
  go_wp2_with fail
  refine HC.out.mono ?_
  rintro e w1 ⟨⟨v1, rfl, hv1⟩, hb1⟩
  obtain ⟨ad1, cc1, rfl⟩ := hv1.shape
  have HV1 := Lib.hid hv1
  have HB1 := Lib.hid hb1
  have i3 : (L.length : Int) ≤ 2001 := by have := H9.out; omega
  clear hv1 hb1
  go_wp2
  go_loopw [4, 5] (fun ov i wr => ∃ j : Nat, j ≤ L.length ∧ i = .int .i64 j ∧ TV wr w1.heap.size ov ((L.take j).filter full) ∧ Below w1.heap.size w1 wr) (fun _ i _ => L.length - (intOf i).toNat)
  case atStart => exact ⟨0, by omega, rfl, TV.nil _ _, Below.refl _ _⟩
  case round =>
    obtain ⟨j, hj, rfl, hv, hbw⟩ := hrel
    obtain ⟨ad, cc, rfl⟩ := hv.shape
    have HV := Lib.hid hv
    have HB := Lib.hid hbw
    have HO := Lib.hid (show ((L.take j).filter full).length ≤ 1000000 by have h1 := List.length_filter_le full (L.take j); have h2 := H9.out; rw [List.length_take] at h1; omega)
    clear hv hbw
    by_cases hlt : j < L.length
    · have hlt' : (j : Int) < (L.length : Int) := by omega
      obtain ⟨b, c, hs, hbl, hc⟩ := (HV1.out.under HB.out (Nat.le_refl _)).at_ hlt
      injection hs with hs1 hs2 hs3
      subst hs1
      have HS := Lib.hid (words_skip L j hlt)
      have HK := Lib.hid (words_keep L j hlt)
      generalize L[j]'hlt = x at *
      generalize (L.take j).filter full = out at *
      rcases x with _ | ⟨y, t⟩
      · clear HK hs3
        go_wp2
        exact ⟨⟨j + 1, by omega, by go_num, by rw [HS.out rfl]; exact HV.out, HB.out⟩, by simp [intOf]; omega⟩
      · clear HS hs3
        have hca := (World.cell?_alloc_lt wr (.cells #[txV (y :: t)] 9) ⟨b, j, none⟩ hbl).trans hc
        go_wp2_with (at_builtin; refine wpList_appendT rfl _ _ rfl w1.heap.size _ out (y :: t) wr.heap.size rfl (HV.out.under ((Below.refl _ wr).alloc (Nat.le_refl _) _) (Nat.le_refl _)) rfl ((Row.fresh wr _ _).cell 0) HO.out (by have := HB.out.size; simp; omega) w1 (HB.out.alloc HB.out.size _) rfl ?_; intro g2 c2 w2 hv2 hb2; have HV2 := Lib.hid (And.intro hv2 hb2); clear hv2 hb2)
        exact ⟨⟨j + 1, by omega, by go_num, by rw [HK.out (by simp)]; exact HV2.out.1, HV2.out.2⟩, by simp [intOf]; omega⟩
    · obtain rfl : j = L.length := by omega
      have hlt' : ¬ (L.length : Int) < (L.length : Int) := by omega
      rw [List.take_length] at *
      go_wp2
      go_ret
      refine ⟨⟨_, rfl, ?_⟩, HB1.out.trans (HB.out.mono HB1.out.size)⟩
      have h1 := HV.out
      refine ⟨h1.1, ?_⟩
      rcases h1.2 with q | ⟨g, cap, cur, q1, q2, q3⟩
      · exact .inl q
      · exact .inr ⟨g, cap, cur, q1, Nat.le_trans HB1.out.size q2, q3⟩
end Go.Proofs.YtdjfmmfggkkbaaaDoor
