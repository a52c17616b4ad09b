/- Walk of the law HeapClears. -/
import Derived.Test.YthpfhimdgmckgaaHeapInts
namespace Go.Proofs.Ythpfhimdgmckgaa
open Go.RowKit Hp

theorem clears_big (a : Option Addr) (n c : Nat) (o : Int) (w : World) (h : 100 < n ∨ n = 0) : Calls Try.prog 5 #[.slice a n c, .int .u8 o] w fun e w' => e = .returned (.bool true) ∧ Below w.heap.size w w' := by
  by_cases h1 : 100 < n
  · have h2 : (100 : Int) < (n : Int) := by omega
    clear h
    go_enter Try.func5, Try.ntmps5
    go_wp2_with fail
    refine (known_any _).mono ?_
    rintro e w8 ⟨rfl, hb8⟩
    have HB := Lib.hid hb8
    clear hb8
    go_wp2
    go_ret
    exact ⟨rfl, HB.out⟩
  · obtain rfl : n = 0 := by omega
    clear h
    go_enter Try.func5, Try.ntmps5
    go_wp2_with fail
    refine (known_any _).mono ?_
    rintro e w8 ⟨rfl, hb8⟩
    have HB := Lib.hid hb8
    clear hb8
    go_wp2
    go_ret
    exact ⟨rfl, HB.out⟩
set_option maxHeartbeats 2000000 in
set_option maxRecDepth 100000 in
theorem clears_small (a : Option Addr) (l : List Int) (c o : Nat) (w : World) (hA : Ints w a l) (h1 : l.length ≤ 100) (h0 : 0 < l.length) (ho : o < 256) : Calls Try.prog 5 #[.slice a l.length c, .int .u8 o] w fun e w' => e = .returned (.bool true) ∧ Below w.heap.size w w' := by
  have HA := Lib.hid hA
  clear hA
  obtain ⟨n, hn⟩ : ∃ n, l.length = n := ⟨_, rfl⟩
  rw [hn] at h1 h0 ⊢
  have HN := Lib.hid hn
  clear hn
  obtain ⟨k, hk⟩ : ∃ k, k = o % n := ⟨_, rfl⟩
  have hkn : k < n := by rw [hk]; exact Nat.mod_lt _ h0
  have hd1 : decide ((100 : Int) < (n : Int)) = false := decide_eq_false (by omega)
  have hd2 : ((n : Int) == 0) = false := by simp; omega
  have hko : (o : Int) % (n : Int) = (k : Int) := by rw [hk]; rfl
  have hko2 : Int.tmod (o : Int) (n : Int) = (k : Int) := by rw [Int.tmod_eq_emod_of_nonneg (by omega)]; exact hko
  have hn0 : (n : Int) ≠ 0 := by omega
  clear hk
  go_enter Try.func5, Try.ntmps5
  go_wp2_with fail
  refine (Own.new n w (by omega)).mono ?_
  rintro e w1 ⟨x, rfl, h1⟩
  have H1 := Lib.hid h1
  clear h1
  go_wp2_with fail
  refine (H1.out.newPair (by omega)).mono ?_
  rintro e w2 ⟨y, rfl, h2⟩
  have H2 := Lib.hid h2
  clear h2 H1
  go_wp2
  go_loopw [8] (fun i wr => ∃ (j : Nat) (f : Nat → Option Int), j ≤ n ∧ i = .int .i64 j ∧ Pair w x y n f (fun _ => none) wr) (fun i _ => n - (intOf i).toNat)
  case atStart => exact ⟨0, _, by omega, rfl, H2.out⟩
  case round =>
    obtain ⟨j, f, hj, rfl, hP⟩ := hrel
    have HP := Lib.hid hP
    clear hP H2
    by_cases hlt : j < n
    · have hlt' : (j : Int) < (n : Int) := by omega
      obtain ⟨r, hr⟩ : ∃ r : Nat, (n : Int) - 1 - (j : Int) = (r : Int) := ⟨n - 1 - j, by omega⟩
      have hrn : r < n := by omega
      go_wp2_with fail
      refine (HP.out.set r 5 hrn).mono ?_
      rintro e w3 ⟨rfl, h3⟩
      have H3 := Lib.hid h3
      clear h3
      go_wp2
      go_roundw
      case rel => exact ⟨j + 1, _, by omega, by go_num, H3.out⟩
      case measure => simp [intOf]; omega
    · have hge : ¬ (j : Int) < (n : Int) := by omega
      go_wp2_with fail
      refine HP.out.clear.mono ?_
      rintro e w3 ⟨rfl, h3⟩
      have H3 := Lib.hid h3
      clear h3 HP
      go_wp2
      clear hd1 hd2 hko hko2
      go_loopw [10] (fun i wr => ∃ j : Nat, j ≤ n ∧ i = .int .i64 j ∧ Pair w x y n (upto l j) (but (upto l j) k) wr) (fun i _ => n - (intOf i).toNat)
      case atStart =>
        refine ⟨0, by omega, rfl, ?_⟩
        rw [but_zero, upto_zero]
        exact H3.out
      case round =>
        obtain ⟨j, hj, rfl, hP⟩ := hrel
        have HP := Lib.hid hP
        clear hP H3
        by_cases hlt : j < n
        · have hlt' : (j : Int) < (n : Int) := by omega
          have hjl : j < l.length := by rw [HN.out]; exact hlt
          obtain ⟨b, ob, rfl, hb, c0⟩ := HA.out.at_ HP.out.b hjl
          obtain ⟨d, hd⟩ : ∃ d, d = l[j]'hjl := ⟨_, rfl⟩
          rw [← hd] at c0
          have HUS := upto_succ l j hjl
          rw [← hd] at HUS
          have HUS := Lib.hid HUS
          have HBS := fun hk => but_succ l j k hjl hk
          rw [← hd] at HBS
          have HBS := Lib.hid HBS
          have HD := Lib.hid hd
          clear hd
          go_wp2_with fail
          refine (HP.out.set j d hlt).mono ?_
          rintro e w4 ⟨rfl, h4⟩
          rw [HUS.out] at h4
          have H4 := Lib.hid h4
          clear h4 c0
          by_cases hjk : j = k
          · subst hjk
            have HK := Lib.hid (but_skip l j hjl)
            go_wp2
            go_roundw
            case rel => exact ⟨j + 1, by omega, by go_num, by rw [← HK.out]; exact H4.out⟩
            case measure => simp [intOf]; omega
          · have hjk' : ((j : Int) != (k : Int)) = true := by simp; omega
            obtain ⟨_, _, e1, _, c0⟩ := HA.out.at_ H4.out.b hjl
            injection e1 with e1
            injection e1 with e1 e2
            subst e1 e2
            rw [← HD.out] at c0
            go_wp2_with fail
            refine (H4.out.swap.set j d hlt).mono ?_
            rintro e w5 ⟨rfl, h5⟩
            rw [HBS.out hjk] at h5
            have H5 := Lib.hid h5.swap
            clear h5 c0
            go_wp2
            go_roundw
            case rel => exact ⟨j + 1, by omega, by go_num, H5.out⟩
            case measure => simp [intOf]; omega
        · have hge : ¬ (j : Int) < (n : Int) := by omega
          obtain rfl : j = n := by omega
          have hkl : k < l.length := by rw [HN.out]; exact hkn
          have hL := HP.out.own.len
          rw [cnt_full j (upto l j) (fun i hi => by rw [← HN.out, upto_all l i (by rw [HN.out]; exact hi)]; rfl)] at hL
          have HL := Lib.hid hL
          have HDr := Lib.hid (HP.out.dropYes (i := k) (k := l[k]'hkl) (by have := upto_all l k hkl; rw [HN.out] at this; exact this))
          clear hL
          go_wp2_with fail
          refine HL.out.mono ?_
          rintro e w4 ⟨rfl, rfl⟩
          go_wp2_with fail
          refine HDr.out.mono ?_
          rintro e w5 ⟨rfl, h5⟩
          have h5 : Pair w x y j (but (upto l j) k) (but (upto l j) k) w5 := h5
          have HN5 := Lib.hid (h5.dropNo hkn (upd_same _ _ _))
          have H5 := Lib.hid h5
          clear h5 HDr HP HL
          go_wp2_with fail
          refine HN5.out.mono ?_
          rintro e w6 ⟨rfl, rfl⟩
          go_wp2
          go_loopw [11] (fun _ wr => ∃ f, Pair w x y j f f wr) (fun _ wr => hlen y wr)
          case atStart => exact ⟨_, H5.out⟩
          case round =>
            obtain ⟨f, hP⟩ := hrel
            have HP := Lib.hid hP
            have HLy := Lib.hid hP.swap.own.len
            have HH := Lib.hid hP.swap.hlen
            clear hP H5 HN5
            rcases Nat.eq_zero_or_pos (cnt j f) with hc | hc
            · have hLy := HLy.out
              have hLx := HP.out.own.len
              rw [hc] at hLy hLx
              have HLy := Lib.hid hLy
              have HLx := Lib.hid hLx
              clear hLy hLx hc
              go_wp2_with fail
              refine HLy.out.mono ?_
              rintro e w7 ⟨rfl, rfl⟩
              go_wp2_with fail
              refine HLx.out.mono ?_
              rintro e w7 ⟨rfl, rfl⟩
              go_wp2_with fail
              refine (known_any _).mono ?_
              rintro e w8 ⟨rfl, hb8⟩
              have HB := Lib.hid (then_below HP.out.b hb8)
              clear hb8
              go_wp2
              go_ret
              exact ⟨rfl, HB.out⟩
            · have hc' : (0 : Int) < (cnt j f : Int) := by omega
              have HPop := Lib.hid (HP.out.pop hc)
              have HC := Lib.hid hc
              clear hc
              go_wp2_with fail
              refine HLy.out.mono ?_
              rintro e w7 ⟨rfl, rfl⟩
              go_wp2_with fail
              refine HPop.out.mono ?_
              rintro e w8 ⟨i, kk, rfl, hf, h8⟩
              have H8 := Lib.hid h8
              have HF := Lib.hid hf
              clear h8 hf HPop HLy
              unfold told
              go_wp2_with fail
              refine (H8.out.swap.popped HF.out).mono ?_
              rintro e w9 ⟨rfl, h9⟩
              have H9 := Lib.hid h9.swap
              clear h9 H8
              unfold told
              go_wp2
              go_roundw
              case rel => exact ⟨_, H9.out⟩
              case measure =>
                rw [H9.out.swap.hlen, HH.out]
                have hi := HP.out.own.some_lt HF.out.1
                have := cnt_del j f i hi (by rw [HF.out.1]; rfl)
                omega
theorem clears_walk (a : Option Addr) (l : List Int) (c : Nat) (o : Int) (w : World) (hA : Ints w a l) (wo : (Lit.int .u8 o).wf = true) : Calls Try.prog 5 #[.slice a l.length c, .int .u8 o] w fun e w' => e = .returned (.bool true) ∧ Below w.heap.size w w' := by
  by_cases h : 100 < l.length ∨ l.length = 0
  · exact clears_big a l.length c o w h
  · obtain ⟨o', rfl⟩ : ∃ o' : Nat, o = o' := ⟨o.toNat, by simp [Lit.wf, IntKind.min, IntKind.max, IntKind.signed, IntKind.bits] at wo; omega⟩
    exact clears_small a l c o' w hA (by omega) (by omega) (by simp [Lit.wf, IntKind.min, IntKind.max, IntKind.signed, IntKind.bits] at wo; omega)
end Go.Proofs.Ythpfhimdgmckgaa
