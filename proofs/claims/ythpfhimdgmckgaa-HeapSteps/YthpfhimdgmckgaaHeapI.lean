/- Walks: the heap's empty. -/
import Derived.Test.YthpfhimdgmckgaaHeapH
namespace Go.Proofs.Ythpfhimdgmckgaa
open Go.RowKit Hp

/-- The spots when those of the first l entries are 0. -/
def zap (p : Nat → Nat) (e : Nat → Int × Nat) : Nat → Nat → Nat
  | 0 => p
  | l + 1 => upd (zap p e l) (e l).2 0
theorem zap_zero (p : Nat → Nat) (e : Nat → Int × Nat) (l i : Nat) (h : p i = 0 ∨ ∃ r, r < l ∧ (e r).2 = i) : zap p e l i = 0 := by
  induction l with
  | zero =>
    rcases h with h | ⟨r, hr, _⟩
    · exact h
    · omega
  | succ l ih =>
    simp only [zap]
    by_cases e1 : i = (e l).2
    · rw [e1, upd_same]
    · rw [upd_other _ _ _ _ e1]
      refine ih ?_
      rcases h with h | ⟨r, hr, h⟩
      · exact .inl h
      · by_cases e2 : r = l
        · subst e2; exact absurd h.symm e1
        · exact .inr ⟨r, by omega, h⟩

theorem empty_some (g tb sb c m n : Nat) (e : Nat → Int × Nat) (p : Nat → Nat) (w : World) (hQ : Qs w g tb sb c m n e p) (key : Nat → Int) (a : Nat → Nat) (hH : Hol key a n m m e p) :
    Calls Try.prog 31 #[ptr g] w fun e' w' => e' = .returned (.tuple #[]) ∧ (∃ p1, Qs w' g tb sb c 0 n e p1 ∧ ∀ i, i < n → p1 i = 0) ∧ Only (fun x => x = g ∨ x = sb) w w' := by
  have HZ := Lib.hid (show ∀ i, i < n → zap p e m i = 0 from fun i hi => by
    apply zap_zero
    by_cases h : ∃ j, j < m ∧ a j = i
    · obtain ⟨j, hj, h⟩ := h
      exact .inr ⟨j, hj, by rw [hH.ent j hj (by omega)]; exact h⟩
    · exact .inl (hH.out i hi (fun j hj e1 => h ⟨j, hj, e1⟩)))
  have HE := Lib.hid (show ∀ l, l < m → (e l).2 < n from fun l hl => by rw [hH.ent l hl (by omega)]; exact hH.low l hl)
  have k0 : w.cell? ⟨g, 0, none⟩ = some (.slice (some ⟨tb, 0, none⟩) m c) := hQ.1.cell 0
  have HQ := Lib.hid hQ
  clear hQ hH
  go_enter Try.func31, Try.ntmps31
  go_wp2
  go_loopw [9] (fun iv wr => ∃ l : Nat, l ≤ m ∧ iv = .int .i64 l ∧ Qs wr g tb sb c m n e (zap p e l) ∧ Only (fun x => x = g ∨ x = sb) w wr) (fun iv _ => m - (intOf iv).toNat)
  case atStart => exact ⟨0, Nat.zero_le _, rfl, HQ.out, Only.refl _ _⟩
  case round =>
    obtain ⟨l, hl, rfl, hQr, hOr⟩ := hrel
    clear k0 HQ
    have k0 : wr.cell? ⟨g, 0, none⟩ = some (.slice (some ⟨tb, 0, none⟩) m c) := hQr.1.cell 0
    have k1 : wr.cell? ⟨g, 1, none⟩ = some (.slice (some ⟨sb, 0, none⟩) n n) := hQr.1.cell 1
    have kf0 := hQr.1.thaw 0
    obtain ⟨lg, lt, ls⟩ := hQr.lts
    obtain ⟨gt, gs, ts, hn, hmn⟩ := hQr.2.2.2
    have hc0 : (0 : Int) ≤ (c : Int) := by omega
    by_cases hlm : l < m
    · have hlm' : (l : Int) < (m : Int) := by omega
      obtain ⟨t0, t1, _, _, _⟩ := hQr.2.1.cell hlm
      have hin := HE.out l hlm
      obtain ⟨x, hx⟩ : ∃ x, x = (e l).2 := ⟨_, rfl⟩
      obtain ⟨kx, hkx⟩ : ∃ kx, kx = (e l).1 := ⟨_, rfl⟩
      rw [← hx] at t1 hin
      rw [← hkx] at t0
      have hin' : (x : Int) < (n : Int) := by omega
      obtain ⟨s0, _, sf0⟩ := hQr.2.2.1.cell hin
      have HX := Lib.hid hx
      have HQr := Lib.hid hQr
      have HOr := Lib.hid hOr
      clear hQr hOr hx hkx
      go_wp2
      refine region_tail 7 (by kernel_rfl) (by kernel_rfl) ?_
      simp only [List.take_succ_cons, List.take_zero, List.drop_succ_cons, List.drop_zero]
      repeat still_step
      refine wpStill_nil ?_
      have HN := Lib.hid (show Qs ((wr.setCell ⟨sb, x, none⟩ (.int .i64 (0 : Nat))).alloc (.cells #[.int .i64 kx, .int .i64 x] 61)) g tb sb c m n e (zap p e (l + 1)) ∧ Only (fun i => i = g ∨ i = sb) w ((wr.setCell ⟨sb, x, none⟩ (.int .i64 (0 : Nat))).alloc (.cells #[.int .i64 kx, .int .i64 x] 61)) from by
        obtain ⟨q1, q2, q3, q4⟩ := HQr.out
        refine ⟨⟨(q1.away (a := ⟨sb, x, none⟩) gs _).past _, (q2.away (a := ⟨sb, x, none⟩) ts _).past _, ?_, q4⟩, (HOr.out.setCell (.inl (.inr rfl)) _).alloc _⟩
        simp only [zap]
        rw [← HX.out]
        exact (q3.put (i := x) 0).past _)
      clear HQr HOr
      go_wp2
      go_roundw
      case rel => exact ⟨l + 1, by omega, by go_num, HN.out.1, HN.out.2.drew⟩
      case measure => simp [intOf]; omega
    · obtain rfl : l = m := by omega
      have HN := Lib.hid (show Qs (wr.setCell ⟨g, 0, none⟩ (.slice (some ⟨tb, 0, none⟩) 0 c)) g tb sb c 0 n e (zap p e l) ∧ Only (fun i => i = g ∨ i = sb) w (wr.setCell ⟨g, 0, none⟩ (.slice (some ⟨tb, 0, none⟩) 0 c)) from by
        obtain ⟨q1, q2, q3, q4⟩ := hQr
        refine ⟨⟨q1.put 0 _, ?_, q3.away (a := ⟨g, 0, none⟩) (Ne.symm gs) _, gt, gs, ts, hn, by omega⟩, hOr.setCell (.inl (.inl rfl)) _⟩
        obtain ⟨cs, h1, h2, h3, h4, h5⟩ := q2.away (a := ⟨g, 0, none⟩) (Ne.symm gt) (.slice (some ⟨tb, 0, none⟩) 0 c)
        exact ⟨cs, h1, h2, by omega, h4, fun l hl => by omega⟩)
      clear hQr hOr
      go_wp2
      go_end0
      exact ⟨rfl, ⟨_, HN.out.1, HZ.out⟩, HN.out.2⟩
theorem empty_none (g : Nat) (sv : Value) (w : World) (h : Row w g 58 #[.slice none 0 0, sv]) :
    Calls Try.prog 31 #[ptr g] w fun e' w' => e' = .returned (.tuple #[]) ∧ w' = w.setCell ⟨g, 0, none⟩ (.slice none 0 0) := by
  have k0 : w.cell? ⟨g, 0, none⟩ = some (.slice none 0 0) := h.cell 0
  have kf0 := h.thaw 0
  have lg := h.lt
  clear h
  go_enter Try.func31, Try.ntmps31
  go_wp2
  go_loop [9] (fun iv => iv = .int .i64 0) (fun _ => 0)
  case atStart => rfl
  case round =>
    subst hrel
    go_wp2
    go_end0
    exact ⟨rfl, rfl⟩
end Go.Proofs.Ythpfhimdgmckgaa
