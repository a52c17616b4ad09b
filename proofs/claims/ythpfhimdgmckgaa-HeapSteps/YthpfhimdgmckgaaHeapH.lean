/- Walks: the heap's put of one that is in; remove. -/
import Derived.Test.YthpfhimdgmckgaaHeapG
import Derived.Deep.Cut
namespace Go.Proofs.Ythpfhimdgmckgaa
open Go.RowKit Hp

theorem put_in (g tb sb c n m i j : Nat) (k : Int) (e : Nat → Int × Nat) (p : Nat → Nat) (w : World) (hQ : Qs w g tb sb c m n e p) (hi : i < n) (hj : j < m) (key : Nat → Int) (a : Nat → Nat) (hH : Hol key a n m m e p) (hO : Heap key a m) (haj : a j = i) :
    Calls Try.prog 24 #[ptr g, ent k i] w fun e' w' => e' = .returned (.tuple #[]) ∧ (∃ a' e1 p1, Qs w' g tb sb c m n e1 p1 ∧ Hol (upd key i k) a' n m m e1 p1 ∧ Heap (upd key i k) a' m ∧ (∀ j, Mem a' m j ↔ Mem a m j)) ∧ Only (fun x => x = tb ∨ x = sb) w w' := by
  have hp : p i = j + 1 := by rw [← haj]; exact hH.pos j hj (by omega)
  have hbig : j ≤ 16777216 := by have := hQ.2.2.2.2.2.2.1; have := hQ.2.2.2.2.2.2.2; omega
  obtain ⟨lg, lt, ls⟩ := hQ.lts
  have hQ0 : Qs (w.alloc (.cells #[.int .i64 k, .int .i64 i] 61)) g tb sb c m n e p := hQ.only (S := fun _ => False) (((Only.refl _ w).alloc _)) (fun f => f) (fun f => f) (fun f => f)
  have HW := Lib.hid (holds_yes g sb n i j (.slice (some ⟨tb, 0, none⟩) m c) p (w.alloc (.cells #[.int .i64 k, .int .i64 i] 61)) hQ0.1 hQ0.2.2.1 hi hp)
  have HP := Lib.hid (spot_in g sb n i (.slice (some ⟨tb, 0, none⟩) m c) p (w.alloc (.cells #[.int .i64 k, .int .i64 i] 61)).drew hQ0.1 hQ0.2.2.1 hi j hp hbig)
  have HQ := Lib.hid hQ0
  have HH := Lib.hid hH
  have HO := Lib.hid hO
  have HA := Lib.hid haj
  clear hQ hQ0 hH hO haj hp hbig
  go_enter Try.func24, Try.ntmps24
  go_wp2_with fail
  refine HW.out.mono ?_
  rintro e' w1 ⟨rfl, rfl⟩
  go_wp2
  refine region_tail 6 (by kernel_rfl) (by kernel_rfl) ?_
  simp only [List.take_succ_cons, List.take_zero, List.drop_succ_cons, List.drop_zero]
  still_step
  still_step
  still_step
  still_step
  still_call HP.out
  still_step
  refine wpStill_nil ?_
  go_wp2_with fail
  refine (settle_any g tb sb c m n j i k (upd key i k) a e p (w.alloc (.cells #[.int .i64 k, .int .i64 i] 61)).drew HQ.out (HH.out.turned hj HA.out) HA.out (upd_same _ _ _) (HH.out.turned_mid HO.out hj HA.out) hj).mono ?_
  rintro e' w5 ⟨rfl, h1, q5⟩
  have HF := Lib.hid h1
  have HG := Lib.hid (show Only (fun x => x = tb ∨ x = sb) w w5 from (((Only.refl _ w).alloc _).drew).trans q5 (fun x hx => .inl hx))
  clear h1 q5
  go_wp2
  go_end0
  exact ⟨rfl, HF.out, HG.out⟩

theorem remove_any (g tb sb c n m i j : Nat) (e : Nat → Int × Nat) (p : Nat → Nat) (w : World) (hQ : Qs w g tb sb c (m + 1) n e p) (hi : i < n) (hj : j < m + 1) (key : Nat → Int) (a : Nat → Nat) (hH : Hol key a n (m + 1) (m + 1) e p) (hO : Heap key a (m + 1)) (haj : a j = i) :
    Calls Try.prog 32 #[ptr g, .int .i64 i] w fun e' w' => e' = .returned (.tuple #[]) ∧ (∃ a' e1 p1, Qs w' g tb sb c m n e1 p1 ∧ Hol key a' n m m e1 p1 ∧ Heap key a' m ∧ (∀ l, Mem a' m l ↔ Mem a (m + 1) l ∧ l ≠ i)) ∧ Only (fun x => x = g ∨ x = tb ∨ x = sb) w w' := by
  have hp : p i = j + 1 := by rw [← haj]; exact hH.pos j hj (by omega)
  have hbig : m + 1 ≤ 16777216 := by have := hQ.2.2.2.2.2.2.1; have := hQ.2.2.2.2.2.2.2; omega
  have hmc : m + 1 ≤ c := by obtain ⟨_, _, _, h, _⟩ := hQ.2.1; exact h
  obtain ⟨lg, lt, ls⟩ := hQ.lts
  have k0 : w.cell? ⟨g, 0, none⟩ = some (.slice (some ⟨tb, 0, none⟩) (m + 1) c) := hQ.1.cell 0
  have k1 : w.cell? ⟨g, 1, none⟩ = some (.slice (some ⟨sb, 0, none⟩) n n) := hQ.1.cell 1
  have kf0 := hQ.1.thaw 0
  obtain ⟨t0, t1, _, _, _⟩ := hQ.2.1.cell (j := m) (by omega)
  obtain ⟨s0, _, sf0⟩ := hQ.2.2.1.cell hi
  obtain ⟨kl, hkl⟩ : ∃ kl, kl = (e m).1 := ⟨_, rfl⟩
  obtain ⟨xl, hxl⟩ : ∃ xl, xl = (e m).2 := ⟨_, rfl⟩
  have hent : e m = (key (a m), a m) := hH.ent m (by omega) (by omega)
  have HL := Lib.hid (show xl = a m ∧ kl = key (a m) from ⟨by rw [hxl, hent], by rw [hkl, hent]⟩)
  rw [← hkl] at t0
  rw [← hxl] at t1
  have hi' : (i : Int) < (n : Int) := by omega
  have hm1 : IntKind.i64.wrap (m : Int) = (m : Int) := wrap_i m (by omega)
  have hmc' : (m : Int) ≤ (c : Int) := by omega
  have HP := Lib.hid (fun w1 (hw : Below w.heap.size w w1) => spot_in g sb n i (.slice (some ⟨tb, 0, none⟩) (m + 1) c) p w1 (hQ.1.under hw lg) (by obtain ⟨cs, h1, h2⟩ := hQ.2.2.1; exact ⟨cs, h1.under hw ls, h2⟩) hi j hp (by omega))
  have HQ := Lib.hid hQ
  have HH := Lib.hid hH
  have HO := Lib.hid hO
  have HA := Lib.hid haj
  clear hQ hH hO haj hp hbig hent hkl hxl
  go_enter Try.func32, Try.ntmps32
  go_wp2
  go_quiet ((go_at_call 30; exact Calls.quiet_of_same (HP.out _ ⟨rfl, rfl, rfl, Nat.le_refl _, fun _ _ => rfl⟩)))
  obtain ⟨w1, hw1⟩ : ∃ w1, w1 = w.drewN nq := ⟨_, rfl⟩
  rw [← hw1]
  have hQ1 : Qs w1 g tb sb c (m + 1) n e p := by rw [hw1]; exact HQ.out
  have hO1 : Only (fun x => x = g ∨ x = tb ∨ x = sb) w w1 := by rw [hw1]; exact ⟨rfl, rfl, rfl, Nat.le_refl _, fun _ _ _ => rfl⟩
  clear hw1 k0 k1 kf0 t0 t1 s0 sf0 lg lt ls HP
  obtain ⟨lg, lt, ls⟩ := hQ1.lts
  have k0 : w1.cell? ⟨g, 0, none⟩ = some (.slice (some ⟨tb, 0, none⟩) (m + 1) c) := hQ1.1.cell 0
  have k1 : w1.cell? ⟨g, 1, none⟩ = some (.slice (some ⟨sb, 0, none⟩) n n) := hQ1.1.cell 1
  have kf0 := hQ1.1.thaw 0
  obtain ⟨u0, u1, _, _, _⟩ := hQ1.2.1.cell (j := m) (by omega)
  have hent : e m = (key (a m), a m) := HH.out.ent m (by omega) (by omega)
  rw [hent] at u0 u1
  have t0 : w1.cell? ⟨tb, m * 2, none⟩ = some (.int .i64 kl) := by rw [HL.out.2]; exact u0
  have t1 : w1.cell? ⟨tb, m * 2 + 1, none⟩ = some (.int .i64 xl) := by rw [HL.out.1]; exact u1
  clear u0 u1
  obtain ⟨s0, _, sf0⟩ := hQ1.2.2.1.cell hi
  have hgs : g ≠ sb := hQ1.2.2.2.2.1
  have hsg : sb ≠ g := Ne.symm hgs
  have HQ1 := Lib.hid hQ1
  have HO1 := Lib.hid hO1
  clear hQ1 hO1 HQ hent
  obtain ⟨w2, hw2⟩ : ∃ w2, w2 = (((w1.setCell ⟨g, 0, none⟩ (.slice (some ⟨tb, 0, none⟩) m c)).setCell ⟨sb, i, none⟩ (.int .i64 (0 : Nat))).alloc (.cells #[.int .i64 kl, .int .i64 xl] 61)) := ⟨_, rfl⟩
  have hQ2 : Qs w2 g tb sb c m n e (upd p i 0) := by
    rw [hw2]
    obtain ⟨q1, q2, q3, q4, q5, q6, q7, q8⟩ := HQ1.out
    refine ⟨((q1.put 0 _).away (a := ⟨sb, i, none⟩) q5 _).past _, ?_, ((q3.away (a := ⟨g, 0, none⟩) (Ne.symm q5) _).put (i := i) 0).past _, q4, q5, q6, q7, by omega⟩
    have := ((q2.away (a := ⟨g, 0, none⟩) (Ne.symm q4) (.slice (some ⟨tb, 0, none⟩) m c)).away (a := ⟨sb, i, none⟩) q6 (.int .i64 (0 : Nat))).past (.cells #[.int .i64 kl, .int .i64 xl] 61)
    obtain ⟨cs, h1, h2, h3, h4, h5⟩ := this
    exact ⟨cs, h1, h2, by omega, h4, fun l hl => h5 l (by omega)⟩
  have hO2 : Only (fun x => x = g ∨ x = tb ∨ x = sb) w w2 := by
    rw [hw2]
    exact ((HO1.out.setCell (.inl (.inl rfl)) _).setCell (.inl (.inr (.inr rfl))) _).alloc _
  have HQ2 := Lib.hid hQ2
  have HO2 := Lib.hid hO2
  have HW2 := Lib.hid hw2
  clear hQ2 hO2 hw2 HO1
  have hB2 : Row w2 w1.heap.size 61 #[.int .i64 kl, .int .i64 xl] := by
    rw [HW2.out]
    have := Row.fresh ((w1.setCell ⟨g, 0, none⟩ (.slice (some ⟨tb, 0, none⟩) m c)).setCell ⟨sb, i, none⟩ (.int .i64 (0 : Nat))) 61 #[.int .i64 kl, .int .i64 xl]
    simpa using this
  have d0 : w2.cell? ⟨w1.heap.size, 0, none⟩ = some (.int .i64 kl) := hB2.cell 0
  have d1 : w2.cell? ⟨w1.heap.size, 1, none⟩ = some (.int .i64 xl) := hB2.cell 1
  clear hB2
  by_cases hjm : j < m
  · have hjm' : (j : Int) < (m : Int) := by omega
    go_upto_if 40 with (fail)
    have e2 := HW2.out
    rw [show (((0 : Nat) : Int)) = 0 from rfl] at e2
    rw [← e2]
    clear e2 k0 k1 kf0 t0 t1 s0 sf0
    have hset := settle_any g tb sb c m n j xl kl key (put a j (a m)) e (upd p i 0) w2 HQ2.out (HH.out.moved hjm HA.out) (by rw [put_same, HL.out.1]) (by rw [HL.out.1, HL.out.2]) (HO.out.moved hjm) hjm
    have HSET := Lib.hid hset
    clear hset
    go_wp2_with fail
    refine HSET.out.mono ?_
    rintro e' w5 ⟨rfl, ⟨a', e1, p1, q1, q2, q3, q4⟩, q5⟩
    have HF := Lib.hid (show (∃ a' e1 p1, Qs w5 g tb sb c m n e1 p1 ∧ Hol key a' n m m e1 p1 ∧ Heap key a' m ∧ (∀ l, Mem a' m l ↔ Mem a (m + 1) l ∧ l ≠ i)) ∧ Only (fun x => x = g ∨ x = tb ∨ x = sb) w w5 from
      ⟨⟨a', e1, p1, q1, q2, q3, fun l => (q4 l).trans (mem_moved HH.out hjm HA.out l)⟩, HO2.out.trans q5 (fun x hx => .inl (.inr hx))⟩)
    clear q1 q2 q3 q4 q5
    go_wp2
    go_end0
    exact ⟨rfl, HF.out⟩
  · have hjm' : ¬ (j : Int) < (m : Int) := by omega
    obtain rfl : j = m := by omega
    have HF := Lib.hid (show (∃ a' e1 p1, Qs w2 g tb sb c j n e1 p1 ∧ Hol key a' n j j e1 p1 ∧ Heap key a' j ∧ (∀ l, Mem a' j l ↔ Mem a (j + 1) l ∧ l ≠ i)) from ⟨a, e, _, HQ2.out, HH.out.less HA.out, HO.out.less, mem_less HH.out HA.out⟩)
    go_upto_if 40 with (fail)
    have e2 := HW2.out
    rw [show (((0 : Nat) : Int)) = 0 from rfl] at e2
    rw [← e2]
    clear e2 k0 k1 kf0 t0 t1 s0 sf0
    go_wp2
    go_end0
    exact ⟨rfl, HF.out, HO2.out⟩
end Go.Proofs.Ythpfhimdgmckgaa
