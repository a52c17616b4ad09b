/- Walk of the law HeapSorts. -/
import Derived.Test.YthpfhimdgmckgaaHeapO
namespace Go.Proofs.Ythpfhimdgmckgaa
open Go.RowKit Hp

theorem sorts_big (a : Option Addr) (n c : Nat) (w : World) (h : 200 < n) : Calls Try.prog 4 #[.slice a n c] w fun e w' => e = .returned (.bool true) ∧ Below w.heap.size w w' := by
  have h2 : (200 : Int) < (n : Int) := by omega
  go_enter Try.func4, Try.ntmps4
  go_wp2_with fail
  refine (known_any _).mono ?_
  rintro e w8 ⟨rfl, hb8⟩
  have HB := Lib.hid hb8
  clear hb8
  go_wp2
  go_ret
  exact ⟨rfl, HB.out⟩
/-- What the second loop keeps: those popped are marked, and come ahead of those that are in. -/
structure Half (l : List Int) (j : Nat) (f : Nat → Option Int) (s : Nat → Nat) (was : Value) : Prop where
  key : ∀ i k, f i = some k → ∃ h : i < l.length, k = l[i]'h
  left : cnt l.length f = l.length - j
  some_ : ∀ i k, f i = some k → s i = 0
  was_ : (was = .int .i64 (-1)) ∨ ∃ (p : Nat) (hp : p < l.length), was = .int .i64 p ∧ ∀ i k, f i = some k → (l[p]'hp < k ∨ (l[p]'hp = k ∧ p < i))
theorem Half.next {l : List Int} {j i : Nat} {k : Int} {f : Nat → Option Int} {s : Nat → Nat} {was : Value} (h : Half l j f s was) (hf : isFirst f i k) : Half l (j + 1) (upd f i none) (upd s i 1) (.int .i64 i) := by
  obtain ⟨hi, rfl⟩ := h.key i k hf.1
  refine ⟨fun r kr hr => ?_, ?_, fun r kr hr => ?_, .inr ⟨i, hi, rfl, fun r kr hr => ?_⟩⟩
  · by_cases e : r = i
    · subst e; rw [upd_same] at hr; cases hr
    · rw [upd_other _ _ _ _ e] at hr; exact h.key r kr hr
  · have := cnt_del l.length f i hi (by rw [hf.1]; rfl)
    have := h.left
    omega
  · by_cases e : r = i
    · subst e; rw [upd_same] at hr; cases hr
    · rw [upd_other _ _ _ _ e] at hr ⊢; exact h.some_ r kr hr
  · by_cases e : r = i
    · subst e; rw [upd_same] at hr; cases hr
    · rw [upd_other _ _ _ _ e] at hr
      have := hf.2 r kr hr
      omega
theorem Half.start (l : List Int) : Half l 0 (upto l l.length) (fun _ => 0) (.int .i64 (-1)) := by
  refine ⟨fun i k hi => ?_, ?_, fun _ _ _ => rfl, .inl rfl⟩
  · unfold upto at hi
    split at hi
    · rename_i h
      rw [List.getElem?_eq_getElem h] at hi
      injection hi with hi
      exact ⟨h, hi.symm⟩
    · cases hi
  · rw [cnt_full l.length _ (fun i hi => by rw [upto_all l i hi]; rfl)]
    omega
theorem upd_upd {α : Type} (f : Nat → α) (i : Nat) (x y : α) : upd (upd f i x) i y = upd f i y := by
  funext j
  unfold upd
  split <;> rfl

set_option maxHeartbeats 2000000 in
set_option maxRecDepth 100000 in
theorem sorts_small (a : Option Addr) (l : List Int) (c : Nat) (w : World) (hA : Ints w a l) (h1 : l.length ≤ 200) : Calls Try.prog 4 #[.slice a l.length c] w fun e w' => e = .returned (.bool true) ∧ Below w.heap.size w w' := by
  have HA := Lib.hid hA
  clear hA
  obtain ⟨n, hn⟩ : ∃ n, l.length = n := ⟨_, rfl⟩
  rw [hn] at h1 ⊢
  have HN := Lib.hid hn
  clear hn
  have hd1 : ¬ (200 : Int) < (n : Int) := by omega
  go_enter Try.func4, Try.ntmps4
  go_wp2_with fail
  refine (Own.new n w (by omega)).mono ?_
  rintro e w1 ⟨x, rfl, h1⟩
  have H1 := Lib.hid h1
  clear h1
  go_wp2
  go_loopw [5] (fun i wr => ∃ (j : Nat), j ≤ n ∧ i = .int .i64 j ∧ Own w x n (upto l j) wr) (fun i _ => n - (intOf i).toNat)
  case atStart => exact ⟨0, by omega, rfl, by rw [upto_zero]; exact H1.out⟩
  case round =>
    obtain ⟨j, hj, rfl, hP⟩ := hrel
    have HP := Lib.hid hP
    clear hP H1
    by_cases hlt : j < n
    · have hlt' : (j : Int) < (n : Int) := by omega
      obtain ⟨r, hr⟩ : ∃ r : Nat, (n : Int) - 1 - (j : Int) = (r : Int) := ⟨n - 1 - j, by omega⟩
      have hrn : (r : Int) < (n : Int) := by omega
      have hrl : r < l.length := by rw [HN.out]; omega
      have hjl : j < l.length := by rw [HN.out]; exact hlt
      obtain ⟨b, ob, rfl, hb, c0⟩ := HA.out.at_ HP.out.b hrl
      generalize l[r]'hrl = d0 at c0
      obtain ⟨d, hd⟩ : ∃ d, d = l[j]'hjl := ⟨_, rfl⟩
      have HUS := upto_succ l j hjl
      rw [← hd] at HUS
      have HUS := Lib.hid HUS
      have HD := Lib.hid hd
      clear hd
      go_wp2_with fail
      refine (HP.out.set j _ hlt).mono ?_
      rintro e w3 ⟨rfl, h3⟩
      have H3 := Lib.hid h3
      clear h3 c0
      obtain ⟨_, _, e1, _, c0⟩ := HA.out.at_ H3.out.b hjl
      injection e1 with e1
      injection e1 with e1 e2
      subst e1 e2
      rw [← HD.out] at c0
      clear HD
      go_wp2_with fail
      refine (H3.out.set j d hlt).mono ?_
      rintro e w4 ⟨rfl, h4⟩
      rw [upd_upd, HUS.out] at h4
      have H4 := Lib.hid h4
      clear h4 H3 c0
      go_wp2
      go_roundw
      case rel => exact ⟨j + 1, by omega, by go_num, H4.out⟩
      case measure => simp [intOf]; omega
    · have hge : ¬ (j : Int) < (n : Int) := by omega
      obtain rfl : j = n := by omega
      go_wp2_with ((with_reducible show wpList _ _ _ (Oper.mk _ (Op.makeSlice _ _ _) _ _ _ _ :: _) _ _); refine wpList_makeZ rfl _ _ rfl j rfl rfl ?_ ?_; omega; intro w2 HR2 HW2)
      have hOR : OwnR w x j (upto l j) wr.heap.size j (fun _ => 0) w2 := by rw [HW2.out]; exact HP.out.beside
      have H2 := Lib.hid hOR
      have HHalf : Hid (Half l 0 (upto l j) (fun _ => 0) (.int .i64 (-1))) := by have := Half.start l; rw [HN.out] at this; exact this
      clear hOR HR2 HW2
      generalize wr.heap.size = sb at *
      go_loopw [6, 8] (fun was i wr => ∃ (r : Nat) (f : Nat → Option Int) (s : Nat → Nat), r ≤ j ∧ i = .int .i64 r ∧ OwnR w x j f sb j s wr ∧ Half l r f s was) (fun _ i _ => j - (intOf i).toNat)
      case atStart => exact ⟨0, _, _, by omega, rfl, H2.out, HHalf.out⟩
      case round =>
        obtain ⟨r, f, s, hr, rfl, hO, hH⟩ := hrel
        have HO := Lib.hid hO
        have hw := hH.was_
        have hcn := hH.left
        have HH := Lib.hid hH
        clear hO hH H2 HHalf
        by_cases hrj : r < j
        · have hrj' : (r : Int) < (j : Int) := by omega
          have HC : Hid (0 < cnt j f) := by
            have hc2 := hcn
            rw [HN.out] at hc2
            show 0 < cnt j f
            omega
          clear hcn
          rcases hw with rfl | ⟨p, hp, rfl, hla⟩
          · skip
            go_wp2_with fail
            refine (HO.out.popSome HC.out).mono ?_
            rintro e w5 ⟨i, kk, rfl, hf, h5⟩
            have HNX := Lib.hid (HH.out.next hf)
            obtain ⟨hil, hik⟩ := HH.out.key i kk hf.1
            have hs0 := HH.out.some_ i kk hf.1
            have hij : i < j := by rw [← HN.out]; exact hil
            have hij' : (i : Int) < (j : Int) := by omega
            have hi0 : decide ((i : Int) < 0) = false := decide_eq_false (by omega)
            have hji : decide ((j : Int) ≤ (i : Int)) = false := decide_eq_false (by omega)
            have hji2 : decide (j ≤ i) = false := decide_eq_false (by omega)
            obtain ⟨q0, q1, q2⟩ := h5.spots.cell hij
            rw [hs0] at q0
            obtain ⟨b, ob, ha, hb, c0⟩ := HA.out.at_ h5.b hil
            rw [← hik] at c0
            subst ha
            have H5 := Lib.hid h5
            have HP5 := Lib.hid (h5.put i 1)
            clear h5 hf hs0 hik
            unfold told
            go_wp2
            go_roundw
            case rel => exact ⟨r + 1, _, _, by omega, by go_num, HP5.out, HNX.out⟩
            case measure => simp [intOf]; omega
          · skip
            go_wp2_with fail
            refine (HO.out.popSome HC.out).mono ?_
            rintro e w5 ⟨i, kk, rfl, hf, h5⟩
            have HNX := Lib.hid (HH.out.next hf)
            obtain ⟨hil, hik⟩ := HH.out.key i kk hf.1
            have hs0 := HH.out.some_ i kk hf.1
            have hij : i < j := by rw [← HN.out]; exact hil
            have hij' : (i : Int) < (j : Int) := by omega
            have hi0 : decide ((i : Int) < 0) = false := decide_eq_false (by omega)
            have hji : decide ((j : Int) ≤ (i : Int)) = false := decide_eq_false (by omega)
            have hji2 : decide (j ≤ i) = false := decide_eq_false (by omega)
            obtain ⟨q0, q1, q2⟩ := h5.spots.cell hij
            rw [hs0] at q0
            obtain ⟨b, ob, ha, hb, c0⟩ := HA.out.at_ h5.b hil
            rw [← hik] at c0
            obtain ⟨_, _, e1, _, c1⟩ := HA.out.at_ h5.b hp
            rw [ha] at e1
            injection e1 with e1
            injection e1 with e1 e2
            subst e1 e2
            subst ha
            have hlast := hla i kk hf.1
            generalize l[p]'hp = kp at *
            have hpj : (p : Int) < (j : Int) := by rw [← HN.out]; omega
            have hp0 : decide ((0 : Int) ≤ (p : Int)) = true := decide_eq_true (by omega)
            rcases hlast with hl1 | ⟨hl1, hl2⟩
            · have g1 : decide (kk < kp) = false := decide_eq_false (by omega)
              have g2 : (kk == kp) = false := by simp; omega
              clear hl1 hla
              have H5 := Lib.hid h5
              have HP5 := Lib.hid (h5.put i 1)
              clear h5 hf hs0 hik
              unfold told
              go_wp2
              go_roundw
              case rel => exact ⟨r + 1, _, _, by omega, by go_num, HP5.out, HNX.out⟩
              case measure => simp [intOf]; omega
            · subst hl1
              have g1 : decide (kp < kp) = false := decide_eq_false (by omega)
              have g3 : decide ((i : Int) < (p : Int)) = false := decide_eq_false (by omega)
              have g4 : decide (i < p) = false := decide_eq_false (by omega)
              clear hl2 hla
              have H5 := Lib.hid h5
              have HP5 := Lib.hid (h5.put i 1)
              clear h5 hf hs0 hik
              unfold told
              go_wp2
              go_roundw
              case rel => exact ⟨r + 1, _, _, by omega, by go_num, HP5.out, HNX.out⟩
              case measure => simp [intOf]; omega
        · have hrj' : ¬ (r : Int) < (j : Int) := by omega
          have hc0 : cnt j f = 0 := by
            have hc2 := hcn
            rw [HN.out] at hc2
            omega
          clear hcn hw
          have HPop := Lib.hid (HO.out.own.popNone hc0)
          have HC := Lib.hid hc0
          clear hc0
          go_wp2_with fail
          refine HPop.out.mono ?_
          rintro e w5 ⟨rfl, h5⟩
          have hL := h5.len
          rw [HC.out] at hL
          have HL := Lib.hid hL
          have H5 := Lib.hid h5
          clear hL h5
          unfold told
          go_wp2_with fail
          refine HL.out.mono ?_
          rintro e w6 ⟨rfl, rfl⟩
          go_wp2_with fail
          refine (known_any _).mono ?_
          rintro e w8 ⟨rfl, hb8⟩
          have HB := Lib.hid (then_below H5.out.b hb8)
          clear hb8
          go_wp2
          go_ret
          exact ⟨rfl, HB.out⟩
theorem sorts_walk (a : Option Addr) (l : List Int) (c : Nat) (w : World) (hA : Ints w a l) : Calls Try.prog 4 #[.slice a l.length c] w fun e w' => e = .returned (.bool true) ∧ Below w.heap.size w w' := by
  by_cases h : 200 < l.length
  · exact sorts_big a l.length c w h
  · exact sorts_small a l c w hA (by omega)
end Go.Proofs.Ythpfhimdgmckgaa
