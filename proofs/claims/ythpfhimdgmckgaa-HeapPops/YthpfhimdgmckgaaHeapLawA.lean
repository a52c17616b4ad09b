/- Walk of the law HeapPops. -/
import Derived.Test.YthpfhimdgmckgaaHeapM
namespace Go.Proofs.Ythpfhimdgmckgaa
open Go.RowKit Hp

theorem pops_big (a : Option Addr) (n c : Nat) (w : World) (h : 60 < n) : Calls Try.prog 8 #[.slice a n c] w fun e w' => e = .returned (.bool true) ∧ Below w.heap.size w w' := by
  have h2 : (60 : Int) < (n : Int) := by omega
  go_enter Try.func8, Try.ntmps8
  go_wp2_with fail
  refine (known_any _).mono ?_
  rintro e w8 ⟨rfl, hb8⟩
  have HB := Lib.hid hb8
  clear hb8
  go_wp2
  go_ret
  exact ⟨rfl, HB.out⟩
set_option maxHeartbeats 1000000 in
set_option maxRecDepth 100000 in
theorem pops_small (a : Option Addr) (l : List (Int × Int × Int)) (c : Nat) (w : World) (hD : Dos w a l) (h : l.length ≤ 60) : Calls Try.prog 8 #[.slice a l.length c] w fun e w' => e = .returned (.bool true) ∧ Below w.heap.size w w' := by
  have h2 : ¬ (60 : Int) < (l.length : Int) := by omega
  have HD := Lib.hid hD
  clear hD
  go_enter Try.func8, Try.ntmps8
  go_wp2_with fail
  refine (Own.new 9 w (by omega)).mono ?_
  rintro e w1 ⟨g, rfl, h1⟩
  have H1 := Lib.hid h1
  clear h1
  go_wp2
  go_loopw [4] (fun i wr => ∃ (j : Nat) (f : Nat → Option Int), j ≤ l.length ∧ i = .int .i64 j ∧ Own w g 9 f wr) (fun i _ => l.length - (intOf i).toNat)
  case atStart => exact ⟨0, _, by omega, rfl, H1.out⟩
  case round =>
    obtain ⟨j, f, hj, rfl, hO⟩ := hrel
    have HO := Lib.hid hO
    clear hO H1
    by_cases hlt : j < l.length
    · have hlt' : (j : Int) < (l.length : Int) := by omega
      obtain ⟨b, o, rfl, hb, c0, c1, c2⟩ := HD.out.at_ HO.out.b hlt
      obtain ⟨d, hd⟩ : ∃ d, d = l[j]'hlt := ⟨_, rfl⟩
      rw [← hd] at c0 c1 c2
      clear hd
      go_wp2_with fail
      refine (HO.out.did d).mono ?_
      rintro e w2 ⟨v, f', rfl, _, h2⟩
      have H2 := Lib.hid h2
      clear h2
      go_wp2
      go_roundw
      case rel => exact ⟨j + 1, f', by omega, by go_num, H2.out⟩
      case measure => simp [intOf]; omega
    · have hge : ¬ (j : Int) < (l.length : Int) := by omega
      go_wp2
      go_loopw [5] (fun _ wr => ∃ f : Nat → Option Int, Own w g 9 f wr) (fun _ wr => hlen g wr)
      case atStart => exact ⟨f, HO.out⟩
      case round =>
        obtain ⟨f, hO⟩ := hrel
        have HH := Lib.hid hO.hlen
        have HO := Lib.hid hO
        clear hO
        have hc9 := cnt_le 9 f
        rcases Nat.eq_zero_or_pos (cnt 9 f) with h0 | h0
        · have hL := HO.out.len
          rw [h0] at hL
          have HL := Lib.hid hL
          have HP := Lib.hid (HO.out.popNone h0)
          clear hL h0 hc9
          go_wp2_with fail
          refine HL.out.mono ?_
          rintro e w2 ⟨rfl, rfl⟩
          go_wp2_with fail
          refine HP.out.mono ?_
          rintro e w3 ⟨rfl, h3⟩
          have H3 := Lib.hid h3.b
          clear h3
          unfold told
          go_wp2_with fail
          refine (known_any _).mono ?_
          rintro e w8 ⟨rfl, hb8⟩
          have HB := Lib.hid (then_below H3.out hb8)
          clear hb8
          go_wp2
          go_ret
          exact ⟨rfl, HB.out⟩
        · obtain ⟨m, hm⟩ : ∃ m, cnt 9 f = m + 1 := ⟨cnt 9 f - 1, by omega⟩
          have hL := HO.out.len
          rw [hm] at hL hc9
          have HL := Lib.hid hL
          have HM := Lib.hid hm
          clear hL hm h0
          go_wp2_with fail
          refine HL.out.mono ?_
          rintro e w2 ⟨rfl, rfl⟩
          go_wp2_with fail
          refine HL.out.mono ?_
          rintro e w2 ⟨rfl, rfl⟩
          go_wp2_with fail
          refine HO.out.first.mono ?_
          rintro e w3 ⟨⟨v, rfl, hv⟩, h3⟩
          obtain ⟨i, k, rfl, hf⟩ := hv.some (n := 9) (by rw [HM.out]; omega)
          have H3 := Lib.hid h3
          have HF := Lib.hid hf
          clear h3 hf hv HO HL
          unfold told
          go_wp2_with fail
          refine (H3.out.popped HF.out).mono ?_
          rintro e w4 ⟨rfl, h4⟩
          have hi9 : i < 9 := H3.out.some_lt HF.out.1
          have H4 := Lib.hid h4
          have hL := h4.len
          rw [show cnt 9 (upd f i none) = m by have := cnt_del 9 f i hi9 (by rw [HF.out.1]; rfl); have := HM.out; omega] at hL
          have HL := Lib.hid hL
          have HK := Lib.hid (h4.keyNo hi9 (upd_same _ _ _))
          clear h4 hL
          unfold told
          go_wp2_with fail
          refine HK.out.mono ?_
          rintro e w5 ⟨rfl, rfl⟩
          unfold keyed
          go_wp2_with fail
          refine HL.out.mono ?_
          rintro e w5 ⟨rfl, rfl⟩
          go_wp2
          go_roundw
          case rel => exact ⟨_, H4.out⟩
          case measure => rw [H4.out.hlen, HH.out]; have := cnt_del 9 f i hi9 (by rw [HF.out.1]; rfl); omega
theorem pops_walk (a : Option Addr) (l : List (Int × Int × Int)) (c : Nat) (w : World) (hD : Dos w a l) : Calls Try.prog 8 #[.slice a l.length c] w fun e w' => e = .returned (.bool true) ∧ Below w.heap.size w w' := by
  by_cases h : 60 < l.length
  · exact pops_big a l.length c w h
  · exact pops_small a l c w hD (by omega)
end Go.Proofs.Ythpfhimdgmckgaa
