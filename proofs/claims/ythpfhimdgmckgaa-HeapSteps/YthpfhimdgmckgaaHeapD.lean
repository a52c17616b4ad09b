/- Walks: the heap's wayDown. -/
import Derived.Test.YthpfhimdgmckgaaHeapC
import Derived.WalkMore
namespace Go.Proofs.Ythpfhimdgmckgaa
open Go.RowKit Hp

/-- What wayDown keeps. -/
def DnRel (w : World) (g tb sb c m n x : Nat) (key : Nat → Int) (a0 : Nat → Nat) (s : Nat) (wr : World) : Prop :=
  ∃ a e p, Qs wr g tb sb c m n e p ∧ Row wr w.heap.size 61 #[.int .i64 (key x), .int .i64 x] ∧ Only (fun i => i = tb ∨ i = sb) w wr ∧ Hol key a n m s e p ∧ a s = x ∧ Down key a m s ∧ s < m ∧ ∀ i, Mem a m i ↔ Mem a0 m i
/-- What wayDown leaves. -/
def DnPost (w : World) (g tb sb c m n x : Nat) (key : Nat → Int) (a : Nat → Nat) (s' : Nat) (w' : World) : Prop :=
  ∃ (a' : Nat → Nat) (e1 : Nat → Int × Nat) (p1 : Nat → Nat), s' < m ∧ Qs w' g tb sb c m n e1 p1 ∧ Hol key a' n m s' e1 p1 ∧ a' s' = x ∧ Heap key a' m ∧ (∀ i, Mem a' m i ↔ Mem a m i) ∧ Only (fun i => i = tb ∨ i = sb) w w'

theorem wrap_i (x : Nat) (h : x ≤ 100000000) : IntKind.i64.wrap (x : Int) = (x : Int) := by rw [IntKind.wrap_i64]; omega
theorem le_lt {key : Nat → Int} {x y : Nat} (h : Hp.lt key x y) : Hp.lt key x y := h
set_option maxHeartbeats 4000000 in
set_option maxRecDepth 100000 in
theorem wayDown_any (g tb sb c m n s x : Nat) (key : Nat → Int) (a : Nat → Nat) (e : Nat → Int × Nat) (p : Nat → Nat) (w : World) (h : Qs w g tb sb c m n e p) (hh : Hol key a n m s e p) (hx : a s = x) (hm : Down key a m s) (hs : s < m) :
    Calls Try.prog 35 #[ptr g, .int .i64 s, ent (key x) x] w fun e' w' => ∃ s' : Nat, e' = .returned (.int .i64 s') ∧ DnPost w g tb sb c m n x key a s' w' := by
  obtain ⟨lg, lt, ls⟩ := h.lts
  have HU := Lib.hid (show DnRel w g tb sb c m n x key a s (w.alloc (.cells #[.int .i64 (key x), .int .i64 x] 61)) from ⟨a, e, p, h.only (S := fun _ => False) (((Only.refl _ w).alloc _)) (fun f => f) (fun f => f) (fun f => f), Row.fresh w _ _, (Only.refl _ w).alloc _, hh, hx, hm, hs, fun _ => Iff.rfl⟩)
  clear h hh hx hm hs
  generalize hk : key x = k
  have HK := Lib.hid hk.symm
  clear hk
  go_enter Try.func35, Try.ntmps35
  go_wp2
  go_step3
  go_wp2
  go_step3
  go_wp2
  go_loopw [1] (fun sp wr => ∃ s : Nat, sp = .int .i64 s ∧ DnRel w g tb sb c m n x key a s wr) (fun sp _ => m - (intOf sp).toNat)
  case atStart =>
    have h := HU.out
    rw [← HK.out] at h
    exact ⟨s, rfl, h⟩
  case round =>
    obtain ⟨s1, rfl, a1, e1, p1, hQ, hB, hO, hH, hax, hM, hsm, hmem⟩ := hrel
    clear HU
    obtain ⟨l, hl⟩ : ∃ l, l = 2 * s1 + 1 := ⟨_, rfl⟩
    have hbig : m ≤ 16777216 := Nat.le_trans hQ.2.2.2.2.2.2.2 hQ.2.2.2.2.2.2.1
    have k0 : wr.cell? ⟨g, 0, none⟩ = some (.slice (some ⟨tb, 0, none⟩) m c) := hQ.1.cell 0
    by_cases hlm : m ≤ l
    · have HX := Lib.hid (show DnPost w g tb sb c m n x key a s1 wr from ⟨a1, e1, p1, hsm, hQ, hH, hax, hM.done (fun d h0 hd hp => by omega), hmem, hO⟩)
      have hlm' : (m : Int) ≤ 2 * (s1 : Int) + 1 := by omega
      clear hQ hB hO hH hax hM hmem hl hlm
      go_wp2
      rw [Exit.noGoto_ret]
      go_ret
      exact ⟨s1, rfl, HX.out⟩
    · have hlm' : (l : Int) < (m : Int) := by omega
      have hl' : 2 * (s1 : Int) + 1 = (l : Int) := by omega
      obtain ⟨k2, hk2⟩ : ∃ k2, k2 = (e1 l).1 := ⟨_, rfl⟩
      obtain ⟨x2, hx2⟩ : ∃ x2, x2 = (e1 l).2 := ⟨_, rfl⟩
      have hlm0 : l < m := by omega
      have hs1 : s1 < l := by omega
      have hent2 : e1 l = (key (a1 l), a1 l) := hH.ent l hlm0 (by omega)
      have HKX2 := Lib.hid (show k2 = key x2 ∧ x2 = a1 l from ⟨by rw [hk2, hx2, hent2], by rw [hx2, hent2]⟩)
      have HD2 := Lib.hid (show l < m ∧ 0 < l ∧ (l - 1) / 2 = s1 ∧ s1 < l from ⟨hlm0, by omega, by omega, hs1⟩)
      have HQ := Lib.hid hQ
      have HB := Lib.hid hB
      have HO := Lib.hid hO
      have HH := Lib.hid hH
      have HA := Lib.hid hax
      have HM := Lib.hid hM
      have HE := Lib.hid hmem
      have HLE := Lib.hid hl
      have HC2 := Lib.hid (show ∀ W, Above wr W → W.cell? ⟨w.heap.size, 0, none⟩ = some (.int .i64 k) ∧ W.cell? ⟨w.heap.size, 1, none⟩ = some (.int .i64 x) ∧ W.cell? ⟨g, 0, none⟩ = some (.slice (some ⟨tb, 0, none⟩) m c) ∧ W.cell? ⟨tb, l * 2, none⟩ = some (.int .i64 k2) ∧ W.cell? ⟨tb, l * 2 + 1, none⟩ = some (.int .i64 x2) from fun W hW => by
        have hb2 := hB.under hW hB.lt
        have hr2 := hQ.1.under hW hQ.1.lt
        obtain ⟨t0, t1, tl, _, _⟩ := hQ.2.1.cell hlm0
        refine ⟨by rw [HK.out]; exact hb2.cell 0, hb2.cell 1, hr2.cell 0, ?_, ?_⟩
        · rw [hk2, ← t0]; exact hW.cell (p := ⟨tb, _, none⟩) tl
        · rw [hx2, ← t1]; exact hW.cell (p := ⟨tb, _, none⟩) tl)
      obtain ⟨l1, hl1⟩ : ∃ l1, l1 = l + 1 := ⟨_, rfl⟩
      have hl1' : (l : Int) + 1 = (l1 : Int) := by omega
      by_cases hl1m : l1 < m
      · have hl1m' : (l1 : Int) < (m : Int) := by omega
        obtain ⟨k3, hk3⟩ : ∃ k3, k3 = (e1 l1).1 := ⟨_, rfl⟩
        obtain ⟨x3, hx3⟩ : ∃ x3, x3 = (e1 l1).2 := ⟨_, rfl⟩
        have hent3 : e1 l1 = (key (a1 l1), a1 l1) := hH.ent l1 hl1m (by omega)
        have hkx3 : k3 = key x3 ∧ x3 = a1 l1 := ⟨by rw [hk3, hx3, hent3], by rw [hx3, hent3]⟩
        have HKX3 := Lib.hid hkx3
        have HD3 := Lib.hid (show l1 < m ∧ 0 < l1 ∧ (l1 - 1) / 2 = s1 ∧ s1 < l1 from ⟨hl1m, by omega, by omega, by omega⟩)
        have HF := Lib.hid (show ∀ W, Above wr W → W.cell? ⟨w.heap.size, 0, none⟩ = some (.int .i64 k) ∧ W.cell? ⟨w.heap.size, 1, none⟩ = some (.int .i64 x) ∧ W.cell? ⟨g, 0, none⟩ = some (.slice (some ⟨tb, 0, none⟩) m c) ∧ W.cell? ⟨tb, l * 2, none⟩ = some (.int .i64 k2) ∧ W.cell? ⟨tb, l * 2 + 1, none⟩ = some (.int .i64 x2) ∧ W.cell? ⟨tb, l1 * 2, none⟩ = some (.int .i64 k3) ∧ W.cell? ⟨tb, l1 * 2 + 1, none⟩ = some (.int .i64 x3) from fun W hW => by
          obtain ⟨c0, c1, c2, c3, c4⟩ := HC2.out W hW
          obtain ⟨t0, t1, tl, _, _⟩ := hQ.2.1.cell hl1m
          refine ⟨c0, c1, c2, c3, c4, ?_, ?_⟩
          · rw [hk3, ← t0]; exact hW.cell (p := ⟨tb, _, none⟩) tl
          · rw [hx3, ← t1]; exact hW.cell (p := ⟨tb, _, none⟩) tl)
        have hla3 : ahead k3 x3 k2 x2 = decide (Hp.lt key (a1 l1) (a1 l)) := by rw [HKX2.out.1, hkx3.1, ahead_lt, hkx3.2, HKX2.out.2]
        have HLA3 := Lib.hid hla3
        clear hla3
        have HT := Lib.hid (show ∀ d', 0 < d' → d' < m → (d' - 1) / 2 = s1 → d' = l ∨ d' = l1 from fun d' h0 h1 h2 => by omega)
        have HLL := Lib.hid hl1
        have hwl1 : IntKind.i64.wrap (l1 : Int) = (l1 : Int) := wrap_i l1 (by omega)
        clear hQ hB hO hH hax hM hmem hl hlm hk2 hx2 hk3 hx3 hent2 hent3 hkx3 hl1 hs1 HC2
        go_wp2
        refine region_in (Above wr) (by kernel_rfl) (by kernel_rfl) (Above.start wr) ?_
        refine in_pure (o := ⟨some 20, _, _, _, _, _⟩) rfl ?_ (fun W hW => by obtain ⟨f0, f1, f2, f3, f4, f5, f6⟩ := HF.out W hW; go_simp; with_reducible rfl) ?_
        simp only [Act.put, List.setIfInBounds_toArray, List.set_cons_zero, List.set_cons_succ]
        refine in_pure (o := ⟨some 21, _, _, _, _, _⟩) rfl ?_ (fun W hW => by obtain ⟨f0, f1, f2, f3, f4, f5, f6⟩ := HF.out W hW; go_simp; with_reducible rfl) ?_
        simp only [Act.put, List.setIfInBounds_toArray, List.set_cons_zero, List.set_cons_succ]
        refine in_pure (o := ⟨some 22, _, _, _, _, _⟩) rfl ?_ (fun W hW => by obtain ⟨f0, f1, f2, f3, f4, f5, f6⟩ := HF.out W hW; go_simp; with_reducible rfl) ?_
        simp only [Act.put, List.setIfInBounds_toArray, List.set_cons_zero, List.set_cons_succ]
        refine in_pure (o := ⟨some 23, _, _, _, _, _⟩) rfl ?_ (fun W hW => by obtain ⟨f0, f1, f2, f3, f4, f5, f6⟩ := HF.out W hW; go_simp; with_reducible rfl) ?_
        simp only [Act.put, List.setIfInBounds_toArray, List.set_cons_zero, List.set_cons_succ]
        refine in_pure (o := ⟨some 24, _, _, _, _, _⟩) rfl ?_ (fun W hW => by obtain ⟨f0, f1, f2, f3, f4, f5, f6⟩ := HF.out W hW; go_simp; with_reducible rfl) ?_
        simp only [Act.put, List.setIfInBounds_toArray, List.set_cons_zero, List.set_cons_succ]
        refine in_pure (o := ⟨some 25, _, _, _, _, _⟩) rfl ?_ (fun W hW => by obtain ⟨f0, f1, f2, f3, f4, f5, f6⟩ := HF.out W hW; go_simp; with_reducible rfl) ?_
        simp only [Act.put, List.setIfInBounds_toArray, List.set_cons_zero, List.set_cons_succ]
        refine in_pure (o := ⟨some 26, _, _, _, _, _⟩) rfl ?_ (fun W hW => by obtain ⟨f0, f1, f2, f3, f4, f5, f6⟩ := HF.out W hW; go_simp; with_reducible rfl) ?_
        simp only [Act.put, List.setIfInBounds_toArray, List.set_cons_zero, List.set_cons_succ]
        refine in_pure (o := ⟨some 27, _, _, _, _, _⟩) rfl (.bool true) (fun W hW => by obtain ⟨f0, f1, f2, f3, f4, f5, f6⟩ := HF.out W hW; go_simp; first | done | simp only [hl1m, hl1m', decide_true, decide_false] | trace_state) ?_
        simp only [Act.put, List.setIfInBounds_toArray, List.set_cons_zero, List.set_cons_succ]
        refine in_pure (o := ⟨some 28, _, _, _, _, _⟩) rfl ?_ (fun W hW => by obtain ⟨f0, f1, f2, f3, f4, f5, f6⟩ := HF.out W hW; go_simp; with_reducible rfl) ?_
        simp only [Act.put, List.setIfInBounds_toArray, List.set_cons_zero, List.set_cons_succ]
        refine in_pure (o := ⟨some 29, _, _, _, _, _⟩) rfl ?_ (fun W hW => by obtain ⟨f0, f1, f2, f3, f4, f5, f6⟩ := HF.out W hW; go_simp; with_reducible rfl) ?_
        simp only [Act.put, List.setIfInBounds_toArray, List.set_cons_zero, List.set_cons_succ]
        refine in_pure (o := ⟨some 30, _, _, _, _, _⟩) rfl ?_ (fun W hW => by obtain ⟨f0, f1, f2, f3, f4, f5, f6⟩ := HF.out W hW; go_simp; with_reducible rfl) ?_
        simp only [Act.put, List.setIfInBounds_toArray, List.set_cons_zero, List.set_cons_succ]
        refine in_pure (o := ⟨some 31, _, _, _, _, _⟩) rfl ?_ (fun W hW => by obtain ⟨f0, f1, f2, f3, f4, f5, f6⟩ := HF.out W hW; go_simp; with_reducible rfl) ?_
        simp only [Act.put, List.setIfInBounds_toArray, List.set_cons_zero, List.set_cons_succ]
        refine in_pure (o := ⟨some 32, _, _, _, _, _⟩) rfl ?_ (fun W hW => by obtain ⟨f0, f1, f2, f3, f4, f5, f6⟩ := HF.out W hW; go_simp; with_reducible rfl) ?_
        simp only [Act.put, List.setIfInBounds_toArray, List.set_cons_zero, List.set_cons_succ]
        refine in_pure (o := ⟨some 33, _, _, _, _, _⟩) rfl ?_ (fun W hW => by obtain ⟨f0, f1, f2, f3, f4, f5, f6⟩ := HF.out W hW; go_simp; with_reducible rfl) ?_
        simp only [Act.put, List.setIfInBounds_toArray, List.set_cons_zero, List.set_cons_succ]
        refine in_pure (o := ⟨some 34, _, _, _, _, _⟩) rfl ?_ (fun W hW => by obtain ⟨f0, f1, f2, f3, f4, f5, f6⟩ := HF.out W hW; go_simp; with_reducible rfl) ?_
        simp only [Act.put, List.setIfInBounds_toArray, List.set_cons_zero, List.set_cons_succ]
        refine in_pure (o := ⟨some 35, _, _, _, _, _⟩) rfl ?_ (fun W hW => by obtain ⟨f0, f1, f2, f3, f4, f5, f6⟩ := HF.out W hW; go_simp; with_reducible rfl) ?_
        simp only [Act.put, List.setIfInBounds_toArray, List.set_cons_zero, List.set_cons_succ]
        refine in_pure (o := ⟨some 36, _, _, _, _, _⟩) rfl ?_ (fun W hW => by obtain ⟨f0, f1, f2, f3, f4, f5, f6⟩ := HF.out W hW; go_simp; with_reducible rfl) ?_
        simp only [Act.put, List.setIfInBounds_toArray, List.set_cons_zero, List.set_cons_succ]
        refine in_pure (o := ⟨some 37, _, _, _, _, _⟩) rfl ?_ (fun W hW => by obtain ⟨f0, f1, f2, f3, f4, f5, f6⟩ := HF.out W hW; go_simp; with_reducible rfl) ?_
        simp only [Act.put, List.setIfInBounds_toArray, List.set_cons_zero, List.set_cons_succ]
        refine in_pure (o := ⟨some 38, _, _, _, _, _⟩) rfl ?_ (fun W hW => by obtain ⟨f0, f1, f2, f3, f4, f5, f6⟩ := HF.out W hW; go_simp; with_reducible rfl) ?_
        simp only [Act.put, List.setIfInBounds_toArray, List.set_cons_zero, List.set_cons_succ]
        refine in_pure (o := ⟨some 39, _, _, _, _, _⟩) rfl ?_ (fun W hW => by obtain ⟨f0, f1, f2, f3, f4, f5, f6⟩ := HF.out W hW; go_simp; with_reducible rfl) ?_
        simp only [Act.put, List.setIfInBounds_toArray, List.set_cons_zero, List.set_cons_succ]
        refine in_pure (o := ⟨some 40, _, _, _, _, _⟩) rfl ?_ (fun W hW => by obtain ⟨f0, f1, f2, f3, f4, f5, f6⟩ := HF.out W hW; go_simp; with_reducible rfl) ?_
        simp only [Act.put, List.setIfInBounds_toArray, List.set_cons_zero, List.set_cons_succ]
        refine in_pure (o := ⟨some 41, _, _, _, _, _⟩) rfl ?_ (fun W hW => by obtain ⟨f0, f1, f2, f3, f4, f5, f6⟩ := HF.out W hW; go_simp; with_reducible rfl) ?_
        simp only [Act.put, List.setIfInBounds_toArray, List.set_cons_zero, List.set_cons_succ]
        refine in_pure (o := ⟨some 42, _, _, _, _, _⟩) rfl ?_ (fun W hW => by obtain ⟨f0, f1, f2, f3, f4, f5, f6⟩ := HF.out W hW; go_simp; with_reducible rfl) ?_
        simp only [Act.put, List.setIfInBounds_toArray, List.set_cons_zero, List.set_cons_succ]
        refine in_pure (o := ⟨some 43, _, _, _, _, _⟩) rfl ?_ (fun W hW => by obtain ⟨f0, f1, f2, f3, f4, f5, f6⟩ := HF.out W hW; go_simp; with_reducible rfl) ?_
        simp only [Act.put, List.setIfInBounds_toArray, List.set_cons_zero, List.set_cons_succ]
        refine in_call (o := ⟨some 44, _, _, _, _, _⟩) rfl 37 _ (.bool (ahead k3 x3 k2 x2)) (fun W hW => by go_simp) (fun W hW => (before_any k3 k2 x3 x2 W).mono (fun e w' ⟨he, hb⟩ => ⟨he, Above.call hW hb⟩)) ?_
        simp only [Act.put, List.setIfInBounds_toArray, List.set_cons_zero, List.set_cons_succ]
        refine in_pure (o := ⟨some 45, _, _, _, _, _⟩) rfl ?_ (fun W hW => by obtain ⟨f0, f1, f2, f3, f4, f5, f6⟩ := HF.out W hW; go_simp; with_reducible rfl) ?_
        simp only [Act.put, List.setIfInBounds_toArray, List.set_cons_zero, List.set_cons_succ]
        refine in_pure (o := ⟨some 19, _, _, _, _, _⟩) rfl ?_ (fun W hW => by obtain ⟨f0, f1, f2, f3, f4, f5, f6⟩ := HF.out W hW; go_simp; with_reducible rfl) ?_
        simp only [Act.put, List.setIfInBounds_toArray, List.set_cons_zero, List.set_cons_succ]
        by_cases hb1 : Hp.lt key (a1 l1) (a1 l)
        · have HMIN := Lib.hid (show ∀ d', 0 < d' → d' < m → (d' - 1) / 2 = s1 → ¬ Hp.lt key (a1 d') (a1 l1) from fun d' h0 h1 h2 => by
            rcases HT.out d' h0 h1 h2 with e | e <;> rw [e]
            · exact lt_asymm hb1
            · exact lt_irrefl key _)
          have hav3 : ahead k3 x3 k2 x2 = true := by rw [HLA3.out]; exact decide_eq_true hb1
          rw [hav3]
          have HKX := HKX3
          have HD := HD3
          clear hav3 HLA3 hb1 HKX2 HKX3 HD2 HD3 HT HLL
          refine wpQuiet_nil fun w5 hb5 => ?_
          have hQ5 : Qs w5 g tb sb c m n e1 p1 := HQ.out.only (S := fun _ => False) (Only.of_below _ hb5) (fun f => f) (fun f => f) (fun f => f)
          have hB5 := HB.out.under hb5 HB.out.lt
          have hO5 : Only (fun i => i = tb ∨ i = sb) w w5 := HO.out.trans (S' := fun _ => False) (Only.of_below _ hb5) (fun _ f => f.elim)
          have HF' := Lib.hid (show ∀ W, Above w5 W → _ from fun W hW => HF.out W (Above.call hb5 hW))
          have HQ5 := Lib.hid hQ5
          have HB5 := Lib.hid hB5
          have HO5 := Lib.hid hO5
          clear hQ5 hB5 hO5 hb5 HQ HB HO HF k0
          have HF := HF'
          clear HF'
          go_wp2
          refine region_in (Above w5) (by kernel_rfl) (by kernel_rfl) (Above.start w5) ?_
          refine in_pure (o := ⟨some 48, _, _, _, _, _⟩) rfl ?_ (fun W hW => by obtain ⟨f0, f1, f2, f3, f4, f5, f6⟩ := HF.out W hW; go_simp; with_reducible rfl) ?_
          simp only [Act.put, List.setIfInBounds_toArray, List.set_cons_zero, List.set_cons_succ]
          refine in_pure (o := ⟨some 49, _, _, _, _, _⟩) rfl ?_ (fun W hW => by obtain ⟨f0, f1, f2, f3, f4, f5, f6⟩ := HF.out W hW; go_simp; with_reducible rfl) ?_
          simp only [Act.put, List.setIfInBounds_toArray, List.set_cons_zero, List.set_cons_succ]
          refine in_pure (o := ⟨some 50, _, _, _, _, _⟩) rfl ?_ (fun W hW => by obtain ⟨f0, f1, f2, f3, f4, f5, f6⟩ := HF.out W hW; go_simp; with_reducible rfl) ?_
          simp only [Act.put, List.setIfInBounds_toArray, List.set_cons_zero, List.set_cons_succ]
          refine in_pure (o := ⟨some 51, _, _, _, _, _⟩) rfl ?_ (fun W hW => by obtain ⟨f0, f1, f2, f3, f4, f5, f6⟩ := HF.out W hW; go_simp; with_reducible rfl) ?_
          simp only [Act.put, List.setIfInBounds_toArray, List.set_cons_zero, List.set_cons_succ]
          refine in_pure (o := ⟨some 52, _, _, _, _, _⟩) rfl ?_ (fun W hW => by obtain ⟨f0, f1, f2, f3, f4, f5, f6⟩ := HF.out W hW; go_simp; with_reducible rfl) ?_
          simp only [Act.put, List.setIfInBounds_toArray, List.set_cons_zero, List.set_cons_succ]
          refine in_pure (o := ⟨some 53, _, _, _, _, _⟩) rfl ?_ (fun W hW => by obtain ⟨f0, f1, f2, f3, f4, f5, f6⟩ := HF.out W hW; go_simp; with_reducible rfl) ?_
          simp only [Act.put, List.setIfInBounds_toArray, List.set_cons_zero, List.set_cons_succ]
          refine in_pure (o := ⟨some 54, _, _, _, _, _⟩) rfl ?_ (fun W hW => by obtain ⟨f0, f1, f2, f3, f4, f5, f6⟩ := HF.out W hW; go_simp; with_reducible rfl) ?_
          simp only [Act.put, List.setIfInBounds_toArray, List.set_cons_zero, List.set_cons_succ]
          refine in_pure (o := ⟨some 55, _, _, _, _, _⟩) rfl ?_ (fun W hW => by obtain ⟨f0, f1, f2, f3, f4, f5, f6⟩ := HF.out W hW; go_simp; with_reducible rfl) ?_
          simp only [Act.put, List.setIfInBounds_toArray, List.set_cons_zero, List.set_cons_succ]
          refine in_call (o := ⟨some 56, _, _, _, _, _⟩) rfl 37 _ (.bool (ahead k3 x3 k x)) (fun W hW => by go_simp) (fun W hW => (before_any k3 k x3 x W).mono (fun e w' ⟨he, hb⟩ => ⟨he, Above.call hW hb⟩)) ?_
          simp only [Act.put, List.setIfInBounds_toArray, List.set_cons_zero, List.set_cons_succ]
          refine in_pure (o := ⟨some 57, _, _, _, _, _⟩) rfl ?_ (fun W hW => by obtain ⟨f0, f1, f2, f3, f4, f5, f6⟩ := HF.out W hW; go_simp; with_reducible rfl) ?_
          simp only [Act.put, List.setIfInBounds_toArray, List.set_cons_zero, List.set_cons_succ]
          refine wpQuiet_nil fun w6 hb6 => ?_
          have hQ6 : Qs w6 g tb sb c m n e1 p1 := HQ5.out.only (S := fun _ => False) (Only.of_below _ hb6) (fun f => f) (fun f => f) (fun f => f)
          have hB6 := HB5.out.under hb6 HB5.out.lt
          have hO6 : Only (fun i => i = tb ∨ i = sb) w w6 := HO5.out.trans (S' := fun _ => False) (Only.of_below _ hb6) (fun _ f => f.elim)
          obtain ⟨f0, f1, f2, f3, f4, f5, f6⟩ := HF.out w6 hb6
          have HQ6 := Lib.hid hQ6
          have HB6 := Lib.hid hB6
          have HO6 := Lib.hid hO6
          have hla : ahead k3 x3 k x = decide (Hp.lt key (a1 l1) (a1 s1)) := by rw [HK.out, HKX.out.1, ahead_lt, HKX.out.2, HA.out]
          clear hQ6 hB6 hO6 hb6 HQ5 HB5 HO5 HF
          by_cases hl : Hp.lt key (a1 l1) (a1 s1)
          · have hav : ahead k3 x3 k x = true := by rw [hla]; exact decide_eq_true hl
            have HL := Lib.hid hl
            rw [hav, Bool.not_true]
            clear hla hl hav
            go_wp2_with fail
            refine (lay_any g tb sb c m n s1 x3 k3 e1 p1 w6 HQ6.out hsm (by rw [HKX.out.2]; exact HH.out.low l1 HD.out.1)).mono ?_
            rintro e w7 ⟨rfl, hQ7, hO7⟩
            have hR7 : DnRel w g tb sb c m n x key a l1 w7 := by
              refine ⟨swap a1 s1 l1, _, _, hQ7, HB6.out.only hO7 (fun e => e.elim (Nat.ne_of_gt lt) (Nat.ne_of_gt ls)), HO6.out.trans hO7 (fun i hi => .inl hi), ?_, by rw [swap_right]; exact HA.out, HM.out.step HD.out.2.1 HD.out.1 HD.out.2.2.1 HL.out HMIN.out, HD.out.1, fun i => (mem_swap hsm HD.out.1 i).trans (HE.out i)⟩
              have := HH.out.move (t := l1) hsm HD.out.1 (Nat.ne_of_lt HD.out.2.2.2)
              rw [HKX.out.1, HKX.out.2]
              exact this
            have HR7 := Lib.hid hR7
            have HDM := Lib.hid (show m - l1 < m - s1 from Nat.sub_lt_sub_left hsm HD.out.2.2.2)
            clear hQ7 hO7 hR7 HQ6 HB6 HO6 f0 f1 f2 f3 f4 f5 f6
            go_wp2
            go_roundw
            case rel => exact ⟨l1, rfl, HR7.out⟩
            case measure => exact HDM.out
          · have hav : ahead k3 x3 k x = false := by rw [hla]; exact decide_eq_false hl
            have HX := Lib.hid (show DnPost w g tb sb c m n x key a s1 w6 from ⟨a1, e1, p1, hsm, HQ6.out, HH.out, HA.out, HM.out.done (fun c' h0 hc hp => le_trans (fun hh => hl (le_lt hh)) (HMIN.out c' h0 hc hp)), HE.out, HO6.out⟩)
            rw [hav, Bool.not_false]
            clear hla hl hav
            go_wp2
            rw [Exit.noGoto_ret]
            go_ret
            exact ⟨s1, rfl, HX.out⟩
        · have HMIN := Lib.hid (show ∀ d', 0 < d' → d' < m → (d' - 1) / 2 = s1 → ¬ Hp.lt key (a1 d') (a1 l) from fun d' h0 h1 h2 => by
            rcases HT.out d' h0 h1 h2 with e | e <;> rw [e]
            · exact lt_irrefl key _
            · exact hb1)
          have hav3 : ahead k3 x3 k2 x2 = false := by rw [HLA3.out]; exact decide_eq_false hb1
          rw [hav3]
          have HKX := HKX2
          have HD := HD2
          clear hav3 HLA3 hb1 HKX2 HKX3 HD2 HD3 HT HLL
          refine wpQuiet_nil fun w5 hb5 => ?_
          have hQ5 : Qs w5 g tb sb c m n e1 p1 := HQ.out.only (S := fun _ => False) (Only.of_below _ hb5) (fun f => f) (fun f => f) (fun f => f)
          have hB5 := HB.out.under hb5 HB.out.lt
          have hO5 : Only (fun i => i = tb ∨ i = sb) w w5 := HO.out.trans (S' := fun _ => False) (Only.of_below _ hb5) (fun _ f => f.elim)
          have HF' := Lib.hid (show ∀ W, Above w5 W → _ from fun W hW => HF.out W (Above.call hb5 hW))
          have HQ5 := Lib.hid hQ5
          have HB5 := Lib.hid hB5
          have HO5 := Lib.hid hO5
          clear hQ5 hB5 hO5 hb5 HQ HB HO HF k0
          have HF := HF'
          clear HF'
          go_wp2
          refine region_in (Above w5) (by kernel_rfl) (by kernel_rfl) (Above.start w5) ?_
          refine in_pure (o := ⟨some 48, _, _, _, _, _⟩) rfl ?_ (fun W hW => by obtain ⟨f0, f1, f2, f3, f4, f5, f6⟩ := HF.out W hW; go_simp; with_reducible rfl) ?_
          simp only [Act.put, List.setIfInBounds_toArray, List.set_cons_zero, List.set_cons_succ]
          refine in_pure (o := ⟨some 49, _, _, _, _, _⟩) rfl ?_ (fun W hW => by obtain ⟨f0, f1, f2, f3, f4, f5, f6⟩ := HF.out W hW; go_simp; with_reducible rfl) ?_
          simp only [Act.put, List.setIfInBounds_toArray, List.set_cons_zero, List.set_cons_succ]
          refine in_pure (o := ⟨some 50, _, _, _, _, _⟩) rfl ?_ (fun W hW => by obtain ⟨f0, f1, f2, f3, f4, f5, f6⟩ := HF.out W hW; go_simp; with_reducible rfl) ?_
          simp only [Act.put, List.setIfInBounds_toArray, List.set_cons_zero, List.set_cons_succ]
          refine in_pure (o := ⟨some 51, _, _, _, _, _⟩) rfl ?_ (fun W hW => by obtain ⟨f0, f1, f2, f3, f4, f5, f6⟩ := HF.out W hW; go_simp; with_reducible rfl) ?_
          simp only [Act.put, List.setIfInBounds_toArray, List.set_cons_zero, List.set_cons_succ]
          refine in_pure (o := ⟨some 52, _, _, _, _, _⟩) rfl ?_ (fun W hW => by obtain ⟨f0, f1, f2, f3, f4, f5, f6⟩ := HF.out W hW; go_simp; with_reducible rfl) ?_
          simp only [Act.put, List.setIfInBounds_toArray, List.set_cons_zero, List.set_cons_succ]
          refine in_pure (o := ⟨some 53, _, _, _, _, _⟩) rfl ?_ (fun W hW => by obtain ⟨f0, f1, f2, f3, f4, f5, f6⟩ := HF.out W hW; go_simp; with_reducible rfl) ?_
          simp only [Act.put, List.setIfInBounds_toArray, List.set_cons_zero, List.set_cons_succ]
          refine in_pure (o := ⟨some 54, _, _, _, _, _⟩) rfl ?_ (fun W hW => by obtain ⟨f0, f1, f2, f3, f4, f5, f6⟩ := HF.out W hW; go_simp; with_reducible rfl) ?_
          simp only [Act.put, List.setIfInBounds_toArray, List.set_cons_zero, List.set_cons_succ]
          refine in_pure (o := ⟨some 55, _, _, _, _, _⟩) rfl ?_ (fun W hW => by obtain ⟨f0, f1, f2, f3, f4, f5, f6⟩ := HF.out W hW; go_simp; with_reducible rfl) ?_
          simp only [Act.put, List.setIfInBounds_toArray, List.set_cons_zero, List.set_cons_succ]
          refine in_call (o := ⟨some 56, _, _, _, _, _⟩) rfl 37 _ (.bool (ahead k2 x2 k x)) (fun W hW => by go_simp) (fun W hW => (before_any k2 k x2 x W).mono (fun e w' ⟨he, hb⟩ => ⟨he, Above.call hW hb⟩)) ?_
          simp only [Act.put, List.setIfInBounds_toArray, List.set_cons_zero, List.set_cons_succ]
          refine in_pure (o := ⟨some 57, _, _, _, _, _⟩) rfl ?_ (fun W hW => by obtain ⟨f0, f1, f2, f3, f4, f5, f6⟩ := HF.out W hW; go_simp; with_reducible rfl) ?_
          simp only [Act.put, List.setIfInBounds_toArray, List.set_cons_zero, List.set_cons_succ]
          refine wpQuiet_nil fun w6 hb6 => ?_
          have hQ6 : Qs w6 g tb sb c m n e1 p1 := HQ5.out.only (S := fun _ => False) (Only.of_below _ hb6) (fun f => f) (fun f => f) (fun f => f)
          have hB6 := HB5.out.under hb6 HB5.out.lt
          have hO6 : Only (fun i => i = tb ∨ i = sb) w w6 := HO5.out.trans (S' := fun _ => False) (Only.of_below _ hb6) (fun _ f => f.elim)
          obtain ⟨f0, f1, f2, f3, f4, f5, f6⟩ := HF.out w6 hb6
          have HQ6 := Lib.hid hQ6
          have HB6 := Lib.hid hB6
          have HO6 := Lib.hid hO6
          have hla : ahead k2 x2 k x = decide (Hp.lt key (a1 l) (a1 s1)) := by rw [HK.out, HKX.out.1, ahead_lt, HKX.out.2, HA.out]
          clear hQ6 hB6 hO6 hb6 HQ5 HB5 HO5 HF
          by_cases hl : Hp.lt key (a1 l) (a1 s1)
          · have hav : ahead k2 x2 k x = true := by rw [hla]; exact decide_eq_true hl
            have HL := Lib.hid hl
            rw [hav, Bool.not_true]
            clear hla hl hav
            go_wp2_with fail
            refine (lay_any g tb sb c m n s1 x2 k2 e1 p1 w6 HQ6.out hsm (by rw [HKX.out.2]; exact HH.out.low l HD.out.1)).mono ?_
            rintro e w7 ⟨rfl, hQ7, hO7⟩
            have hR7 : DnRel w g tb sb c m n x key a l w7 := by
              refine ⟨swap a1 s1 l, _, _, hQ7, HB6.out.only hO7 (fun e => e.elim (Nat.ne_of_gt lt) (Nat.ne_of_gt ls)), HO6.out.trans hO7 (fun i hi => .inl hi), ?_, by rw [swap_right]; exact HA.out, HM.out.step HD.out.2.1 HD.out.1 HD.out.2.2.1 HL.out HMIN.out, HD.out.1, fun i => (mem_swap hsm HD.out.1 i).trans (HE.out i)⟩
              have := HH.out.move (t := l) hsm HD.out.1 (Nat.ne_of_lt HD.out.2.2.2)
              rw [HKX.out.1, HKX.out.2]
              exact this
            have HR7 := Lib.hid hR7
            have HDM := Lib.hid (show m - l < m - s1 from Nat.sub_lt_sub_left hsm HD.out.2.2.2)
            clear hQ7 hO7 hR7 HQ6 HB6 HO6 f0 f1 f2 f3 f4 f5 f6
            go_wp2
            go_roundw
            case rel => exact ⟨l, rfl, HR7.out⟩
            case measure => exact HDM.out
          · have hav : ahead k2 x2 k x = false := by rw [hla]; exact decide_eq_false hl
            have HX := Lib.hid (show DnPost w g tb sb c m n x key a s1 w6 from ⟨a1, e1, p1, hsm, HQ6.out, HH.out, HA.out, HM.out.done (fun c' h0 hc hp => le_trans (fun hh => hl (le_lt hh)) (HMIN.out c' h0 hc hp)), HE.out, HO6.out⟩)
            rw [hav, Bool.not_false]
            clear hla hl hav
            go_wp2
            rw [Exit.noGoto_ret]
            go_ret
            exact ⟨s1, rfl, HX.out⟩
      · have hl1m' : ¬ (l1 : Int) < (m : Int) := by omega
        have hdd : decide (l1 < m) = false := decide_eq_false hl1m
        have hdd' : decide ((l1 : Int) < (m : Int)) = false := decide_eq_false hl1m'
        have HMIN := Lib.hid (show ∀ d', 0 < d' → d' < m → (d' - 1) / 2 = s1 → ¬ Hp.lt key (a1 d') (a1 l) from fun d' h0 h1 h2 => by
          have e : d' = l := by omega
          rw [e]
          exact lt_irrefl key _)
        have HF := HC2
        have HKX := HKX2
        have HD := HD2
        have hwl1 : IntKind.i64.wrap (l1 : Int) = (l1 : Int) := wrap_i l1 (by omega)
        clear hQ hB hO hH hax hM hmem hl hlm hk2 hx2 hent2 hl1 hs1 HC2 HKX2 HD2
        go_wp2
        go_quiet (fail)
        obtain ⟨w5, hw5⟩ : ∃ w5, w5 = wr.drewN nq := ⟨_, rfl⟩
        rw [← hw5]
        have hb5 : Above wr w5 := by rw [hw5]; exact ⟨rfl, rfl, rfl, Nat.le_refl _, fun _ _ => rfl⟩
        clear hw5
        have hQ5 : Qs w5 g tb sb c m n e1 p1 := HQ.out.only (S := fun _ => False) (Only.of_below _ hb5) (fun f => f) (fun f => f) (fun f => f)
        have hB5 := HB.out.under hb5 HB.out.lt
        have hO5 : Only (fun i => i = tb ∨ i = sb) w w5 := HO.out.trans (S' := fun _ => False) (Only.of_below _ hb5) (fun _ f => f.elim)
        have HF' := Lib.hid (show ∀ W, Above w5 W → _ from fun W hW => HF.out W (Above.call hb5 hW))
        have HQ5 := Lib.hid hQ5
        have HB5 := Lib.hid hB5
        have HO5 := Lib.hid hO5
        clear hQ5 hB5 hO5 hb5 HQ HB HO HF k0
        have HF := HF'
        clear HF'
        go_wp2
        refine region_in (Above w5) (by kernel_rfl) (by kernel_rfl) (Above.start w5) ?_
        refine in_pure (o := ⟨some 48, _, _, _, _, _⟩) rfl ?_ (fun W hW => by obtain ⟨f0, f1, f2, f3, f4⟩ := HF.out W hW; go_simp; with_reducible rfl) ?_
        simp only [Act.put, List.setIfInBounds_toArray, List.set_cons_zero, List.set_cons_succ]
        refine in_pure (o := ⟨some 49, _, _, _, _, _⟩) rfl ?_ (fun W hW => by obtain ⟨f0, f1, f2, f3, f4⟩ := HF.out W hW; go_simp; with_reducible rfl) ?_
        simp only [Act.put, List.setIfInBounds_toArray, List.set_cons_zero, List.set_cons_succ]
        refine in_pure (o := ⟨some 50, _, _, _, _, _⟩) rfl ?_ (fun W hW => by obtain ⟨f0, f1, f2, f3, f4⟩ := HF.out W hW; go_simp; with_reducible rfl) ?_
        simp only [Act.put, List.setIfInBounds_toArray, List.set_cons_zero, List.set_cons_succ]
        refine in_pure (o := ⟨some 51, _, _, _, _, _⟩) rfl ?_ (fun W hW => by obtain ⟨f0, f1, f2, f3, f4⟩ := HF.out W hW; go_simp; with_reducible rfl) ?_
        simp only [Act.put, List.setIfInBounds_toArray, List.set_cons_zero, List.set_cons_succ]
        refine in_pure (o := ⟨some 52, _, _, _, _, _⟩) rfl ?_ (fun W hW => by obtain ⟨f0, f1, f2, f3, f4⟩ := HF.out W hW; go_simp; with_reducible rfl) ?_
        simp only [Act.put, List.setIfInBounds_toArray, List.set_cons_zero, List.set_cons_succ]
        refine in_pure (o := ⟨some 53, _, _, _, _, _⟩) rfl ?_ (fun W hW => by obtain ⟨f0, f1, f2, f3, f4⟩ := HF.out W hW; go_simp; with_reducible rfl) ?_
        simp only [Act.put, List.setIfInBounds_toArray, List.set_cons_zero, List.set_cons_succ]
        refine in_pure (o := ⟨some 54, _, _, _, _, _⟩) rfl ?_ (fun W hW => by obtain ⟨f0, f1, f2, f3, f4⟩ := HF.out W hW; go_simp; with_reducible rfl) ?_
        simp only [Act.put, List.setIfInBounds_toArray, List.set_cons_zero, List.set_cons_succ]
        refine in_pure (o := ⟨some 55, _, _, _, _, _⟩) rfl ?_ (fun W hW => by obtain ⟨f0, f1, f2, f3, f4⟩ := HF.out W hW; go_simp; with_reducible rfl) ?_
        simp only [Act.put, List.setIfInBounds_toArray, List.set_cons_zero, List.set_cons_succ]
        refine in_call (o := ⟨some 56, _, _, _, _, _⟩) rfl 37 _ (.bool (ahead k2 x2 k x)) (fun W hW => by go_simp) (fun W hW => (before_any k2 k x2 x W).mono (fun e w' ⟨he, hb⟩ => ⟨he, Above.call hW hb⟩)) ?_
        simp only [Act.put, List.setIfInBounds_toArray, List.set_cons_zero, List.set_cons_succ]
        refine in_pure (o := ⟨some 57, _, _, _, _, _⟩) rfl ?_ (fun W hW => by obtain ⟨f0, f1, f2, f3, f4⟩ := HF.out W hW; go_simp; with_reducible rfl) ?_
        simp only [Act.put, List.setIfInBounds_toArray, List.set_cons_zero, List.set_cons_succ]
        refine wpQuiet_nil fun w6 hb6 => ?_
        have hQ6 : Qs w6 g tb sb c m n e1 p1 := HQ5.out.only (S := fun _ => False) (Only.of_below _ hb6) (fun f => f) (fun f => f) (fun f => f)
        have hB6 := HB5.out.under hb6 HB5.out.lt
        have hO6 : Only (fun i => i = tb ∨ i = sb) w w6 := HO5.out.trans (S' := fun _ => False) (Only.of_below _ hb6) (fun _ f => f.elim)
        obtain ⟨f0, f1, f2, f3, f4⟩ := HF.out w6 hb6
        have HQ6 := Lib.hid hQ6
        have HB6 := Lib.hid hB6
        have HO6 := Lib.hid hO6
        have hla : ahead k2 x2 k x = decide (Hp.lt key (a1 l) (a1 s1)) := by rw [HK.out, HKX.out.1, ahead_lt, HKX.out.2, HA.out]
        clear hQ6 hB6 hO6 hb6 HQ5 HB5 HO5 HF
        by_cases hl : Hp.lt key (a1 l) (a1 s1)
        · have hav : ahead k2 x2 k x = true := by rw [hla]; exact decide_eq_true hl
          have HL := Lib.hid hl
          rw [hav, Bool.not_true]
          clear hla hl hav
          go_wp2_with fail
          refine (lay_any g tb sb c m n s1 x2 k2 e1 p1 w6 HQ6.out hsm (by rw [HKX.out.2]; exact HH.out.low l HD.out.1)).mono ?_
          rintro e w7 ⟨rfl, hQ7, hO7⟩
          have hR7 : DnRel w g tb sb c m n x key a l w7 := by
            refine ⟨swap a1 s1 l, _, _, hQ7, HB6.out.only hO7 (fun e => e.elim (Nat.ne_of_gt lt) (Nat.ne_of_gt ls)), HO6.out.trans hO7 (fun i hi => .inl hi), ?_, by rw [swap_right]; exact HA.out, HM.out.step HD.out.2.1 HD.out.1 HD.out.2.2.1 HL.out HMIN.out, HD.out.1, fun i => (mem_swap hsm HD.out.1 i).trans (HE.out i)⟩
            have := HH.out.move (t := l) hsm HD.out.1 (Nat.ne_of_lt HD.out.2.2.2)
            rw [HKX.out.1, HKX.out.2]
            exact this
          have HR7 := Lib.hid hR7
          have HDM := Lib.hid (show m - l < m - s1 from Nat.sub_lt_sub_left hsm HD.out.2.2.2)
          clear hQ7 hO7 hR7 HQ6 HB6 HO6 f0 f1 f2 f3 f4
          go_wp2
          go_roundw
          case rel => exact ⟨l, rfl, HR7.out⟩
          case measure => exact HDM.out
        · have hav : ahead k2 x2 k x = false := by rw [hla]; exact decide_eq_false hl
          have HX := Lib.hid (show DnPost w g tb sb c m n x key a s1 w6 from ⟨a1, e1, p1, hsm, HQ6.out, HH.out, HA.out, HM.out.done (fun c' h0 hc hp => le_trans (fun hh => hl (le_lt hh)) (HMIN.out c' h0 hc hp)), HE.out, HO6.out⟩)
          rw [hav, Bool.not_false]
          clear hla hl hav
          go_wp2
          rw [Exit.noGoto_ret]
          go_ret
          exact ⟨s1, rfl, HX.out⟩
end Go.Proofs.Ythpfhimdgmckgaa
