/- Walks: the heap's wayUp. -/
import Derived.Test.YthpfhimdgmckgaaHeapInv
import Derived.Test.YthpfhimdgmckgaaHeapB
import Derived.Test.YthpfhimdgmckgaaRegions
namespace Go.Proofs.Ythpfhimdgmckgaa
open Go.RowKit Hp

theorem wrap_nat (x : Nat) (h : x ≤ 100000000) : wrap64 (x : Int) = (x : Int) := by unfold wrap64; omega
/-- What wayUp keeps: the hole is at s, the one on the way is x, who stood in the tree stands there. -/
def UpRel (w : World) (g tb sb c m n x : Nat) (key : Nat → Int) (a0 : Nat → Nat) (s : Nat) (wr : World) : Prop :=
  ∃ a e p, Qs wr g tb sb c m n e p ∧ Row wr w.heap.size 61 #[.int .i64 (key x), .int .i64 x] ∧ Only (fun i => i = tb ∨ i = sb) w wr ∧ Hol key a n m s e p ∧ a s = x ∧ Mid key a m s ∧ s < m ∧ ∀ i, Mem a m i ↔ Mem a0 m i

set_option maxHeartbeats 1000000 in
theorem wayUp_any (g tb sb c m n s x : Nat) (key : Nat → Int) (a : Nat → Nat) (e : Nat → Int × Nat) (p : Nat → Nat) (w : World) (h : Qs w g tb sb c m n e p) (hh : Hol key a n m s e p) (hx : a s = x) (hm : Mid key a m s) (hs : s < m) :
    Calls Try.prog 34 #[ptr g, .int .i64 s, ent (key x) x] w fun e' w' => ∃ (s' : Nat) (a' : Nat → Nat) (e1 : Nat → Int × Nat) (p1 : Nat → Nat), e' = .returned (.int .i64 s') ∧ s' < m ∧ Qs w' g tb sb c m n e1 p1 ∧ Hol key a' n m s' e1 p1 ∧ a' s' = x ∧ Down key a' m s' ∧ (∀ i, Mem a' m i ↔ Mem a m i) ∧ Only (fun i => i = tb ∨ i = sb) w w' := by
  obtain ⟨lg, lt, ls⟩ := h.lts
  have HU := Lib.hid (show UpRel w g tb sb c m n x key a s (w.alloc (.cells #[.int .i64 (key x), .int .i64 x] 61)) from ⟨a, e, p, h.only (S := fun _ => False) (((Only.refl _ w).alloc _)) (fun f => f) (fun f => f) (fun f => f), Row.fresh w _ _, (Only.refl _ w).alloc _, hh, hx, hm, hs, fun _ => Iff.rfl⟩)
  clear h hh hx hm hs
  generalize hk : key x = k
  have HK := Lib.hid hk.symm
  clear hk
  go_enter Try.func34, Try.ntmps34
  go_wp2
  go_loopw [1] (fun sp wr => ∃ s : Nat, sp = .int .i64 s ∧ UpRel w g tb sb c m n x key a s wr) (fun sp _ => (intOf sp).toNat)
  case atStart =>
    have h := HU.out
    rw [← HK.out] at h
    exact ⟨s, rfl, h⟩
  case round =>
    obtain ⟨s1, rfl, a1, e1, p1, hQ, hB, hO, hH, hax, hM, hsm, hmem⟩ := hrel
    clear HU
    cases s1 with
    | zero =>
      have HX := Lib.hid (show ∃ s' a' e1 p1, (Value.int .i64 (0 : Nat)) = .int .i64 (s' : Nat) ∧ s' < m ∧ Qs wr g tb sb c m n e1 p1 ∧ Hol key a' n m s' e1 p1 ∧ a' s' = x ∧ Down key a' m s' ∧ (∀ i, Mem a' m i ↔ Mem a m i) ∧ Only (fun i => i = tb ∨ i = sb) w wr from ⟨0, a1, e1, p1, rfl, hsm, hQ, hH, hax, hM.down (.inl rfl), hmem, hO⟩)
      clear hQ hB hO hH hax hM hsm hmem
      go_wp2
      go_ret
      obtain ⟨s', a', e1, p1, h0, hrest⟩ := HX.out
      exact ⟨s', a', e1, p1, by rw [← h0]; rfl, hrest⟩
    | succ r =>
      have hbig : m ≤ 16777216 := Nat.le_trans hQ.2.2.2.2.2.2.2 hQ.2.2.2.2.2.2.1
      obtain ⟨q, hq⟩ : ∃ q, q = r / 2 := ⟨_, rfl⟩
      have hqm : q < m := by omega
      have hqm' : (q : Int) < (m : Int) := by omega
      have hqr : q < r + 1 := by omega
      have HQ2 := Lib.hid (show (r + 1 - 1) / 2 = q by omega)
      have HLT := Lib.hid hqr
      have hr1 : r ≤ 100000000 := by omega
      have hr2 : q ≤ 100000000 := by omega
      have hr3 : ((r : Int) / 2) = (q : Int) := by omega
      have hwr : wrap64 (r : Int) = (r : Int) := wrap_nat r hr1
      have hwq : wrap64 ((r : Int) / 2) = (q : Int) := by rw [hr3]; exact wrap_nat q hr2
      clear hbig hr1 hr2 hr3 hqr
      have hlx := hQ.lts
      obtain ⟨k2, hk2⟩ : ∃ k2, k2 = (e1 q).1 := ⟨_, rfl⟩
      obtain ⟨x2, hx2⟩ : ∃ x2, x2 = (e1 q).2 := ⟨_, rfl⟩
      have HF := Lib.hid (show ∀ W, Above wr W → W.cell? ⟨w.heap.size, 0, none⟩ = some (.int .i64 k) ∧ W.cell? ⟨w.heap.size, 1, none⟩ = some (.int .i64 x) ∧ W.cell? ⟨g, 0, none⟩ = some (.slice (some ⟨tb, 0, none⟩) m c) ∧ W.cell? ⟨tb, q * 2, none⟩ = some (.int .i64 k2) ∧ W.cell? ⟨tb, q * 2 + 1, none⟩ = some (.int .i64 x2) from fun W hW => by
        have hb2 := hB.under hW hB.lt
        have hr2 := hQ.1.under hW hQ.1.lt
        obtain ⟨t0, t1, tl, _, _⟩ := hQ.2.1.cell hqm
        refine ⟨by rw [HK.out]; exact hb2.cell 0, hb2.cell 1, hr2.cell 0, ?_, ?_⟩
        · rw [hk2, ← t0]; exact hW.cell (p := ⟨tb, _, none⟩) tl
        · rw [hx2, ← t1]; exact hW.cell (p := ⟨tb, _, none⟩) tl)
      have HQ := Lib.hid hQ
      have HB := Lib.hid hB
      have HO := Lib.hid hO
      have HH := Lib.hid hH
      have HA := Lib.hid hax
      have HM := Lib.hid hM
      have HE := Lib.hid hmem
      have HK2 := Lib.hid hk2
      have HX2 := Lib.hid hx2
      have HQq := Lib.hid hq
      clear hQ hB hO hH hax hM hmem hk2 hx2 hq
      go_wp2
      refine region_in (Above wr) (by kernel_rfl) (by kernel_rfl) (Above.start wr) ?_
      refine in_pure (o := ⟨some 13, _, _, _, _, _⟩) rfl ?_ (fun W hW => by obtain ⟨f0, f1, f2, f3, f4⟩ := HF.out W hW; go_simp; with_reducible rfl) ?_
      simp only [Act.put, List.setIfInBounds_toArray, List.set_cons_zero, List.set_cons_succ]
      refine in_pure (o := ⟨some 14, _, _, _, _, _⟩) rfl ?_ (fun W hW => by obtain ⟨f0, f1, f2, f3, f4⟩ := HF.out W hW; go_simp; with_reducible rfl) ?_
      simp only [Act.put, List.setIfInBounds_toArray, List.set_cons_zero, List.set_cons_succ]
      refine in_pure (o := ⟨some 15, _, _, _, _, _⟩) rfl ?_ (fun W hW => by obtain ⟨f0, f1, f2, f3, f4⟩ := HF.out W hW; go_simp; with_reducible rfl) ?_
      simp only [Act.put, List.setIfInBounds_toArray, List.set_cons_zero, List.set_cons_succ]
      refine in_pure (o := ⟨some 16, _, _, _, _, _⟩) rfl ?_ (fun W hW => by obtain ⟨f0, f1, f2, f3, f4⟩ := HF.out W hW; go_simp; with_reducible rfl) ?_
      simp only [Act.put, List.setIfInBounds_toArray, List.set_cons_zero, List.set_cons_succ]
      refine in_pure (o := ⟨some 17, _, _, _, _, _⟩) rfl ?_ (fun W hW => by obtain ⟨f0, f1, f2, f3, f4⟩ := HF.out W hW; go_simp; with_reducible rfl) ?_
      simp only [Act.put, List.setIfInBounds_toArray, List.set_cons_zero, List.set_cons_succ]
      refine in_pure (o := ⟨some 18, _, _, _, _, _⟩) rfl ?_ (fun W hW => by obtain ⟨f0, f1, f2, f3, f4⟩ := HF.out W hW; go_simp; with_reducible rfl) ?_
      simp only [Act.put, List.setIfInBounds_toArray, List.set_cons_zero, List.set_cons_succ]
      refine in_pure (o := ⟨some 19, _, _, _, _, _⟩) rfl ?_ (fun W hW => by obtain ⟨f0, f1, f2, f3, f4⟩ := HF.out W hW; go_simp; with_reducible rfl) ?_
      simp only [Act.put, List.setIfInBounds_toArray, List.set_cons_zero, List.set_cons_succ]
      refine in_pure (o := ⟨some 20, _, _, _, _, _⟩) rfl ?_ (fun W hW => by obtain ⟨f0, f1, f2, f3, f4⟩ := HF.out W hW; go_simp; with_reducible rfl) ?_
      simp only [Act.put, List.setIfInBounds_toArray, List.set_cons_zero, List.set_cons_succ]
      refine in_call (o := ⟨some 21, _, _, _, _, _⟩) rfl 37 _ (.bool (ahead k x k2 x2)) (fun W hW => by go_simp) (fun W hW => (before_any k k2 x x2 W).mono (fun e w' ⟨he, hb⟩ => ⟨he, Above.call hW hb⟩)) ?_
      simp only [Act.put, List.setIfInBounds_toArray, List.set_cons_zero, List.set_cons_succ]
      refine in_pure (o := ⟨some 22, _, _, _, _, _⟩) rfl ?_ (fun W hW => by obtain ⟨f0, f1, f2, f3, f4⟩ := HF.out W hW; go_simp; with_reducible rfl) ?_
      simp only [Act.put, List.setIfInBounds_toArray, List.set_cons_zero, List.set_cons_succ]
      refine wpQuiet_nil fun w5 hb5 => ?_
      have hQ5 : Qs w5 g tb sb c m n e1 p1 := HQ.out.only (S := fun _ => False) (Only.of_below _ hb5) (fun f => f) (fun f => f) (fun f => f)
      have hB5 := HB.out.under hb5 HB.out.lt
      have hO5 : Only (fun i => i = tb ∨ i = sb) w w5 := HO.out.trans (S' := fun _ => False) (Only.of_below _ hb5) (fun _ f => f.elim)
      obtain ⟨_, _, f2, f3, f4⟩ := HF.out w5 hb5
      have HQ5 := Lib.hid hQ5
      have HB5 := Lib.hid hB5
      have HO5 := Lib.hid hO5
      have hent : e1 q = (key (a1 q), a1 q) := HH.out.ent q hqm (Nat.ne_of_lt HLT.out)
      have hx2 : x2 = a1 q := by rw [HX2.out, hent]
      have hk2 : k2 = key x2 := by rw [HK2.out, hent, hx2]
      have hla : ahead k x k2 x2 = decide (Hp.lt key (a1 (r + 1)) (a1 ((r + 1 - 1) / 2))) := by rw [HK.out, hk2, ahead_lt, hx2, HA.out, HQ2.out]
      have HX3 := Lib.hid hx2
      have HK3 := Lib.hid hk2
      clear hQ5 hB5 hO5 hb5 HQ HB HO HF hent hx2 hk2 HK2 HX2
      by_cases hl : Hp.lt key (a1 (r + 1)) (a1 ((r + 1 - 1) / 2))
      · have hav : ahead k x k2 x2 = true := by rw [hla]; exact decide_eq_true hl
        have HL := Lib.hid hl
        rw [hav, Bool.not_true]
        clear hla hl hav
        go_wp2_with fail
        refine (lay_any g tb sb c m n (r + 1) x2 k2 e1 p1 w5 HQ5.out hsm (by rw [HX3.out]; exact HH.out.low q hqm)).mono ?_
        rintro e w6 ⟨rfl, hQ6, hO6⟩
        have hR6 : UpRel w g tb sb c m n x key a q w6 := by
          refine ⟨swap a1 (r + 1) q, _, _, hQ6, HB5.out.only hO6 (fun e => e.elim (Nat.ne_of_gt lt) (Nat.ne_of_gt ls)), HO5.out.trans hO6 (fun i hi => .inl hi), ?_, by rw [swap_right]; exact HA.out, ?_, hqm, fun i => (mem_swap hsm hqm i).trans (HE.out i)⟩
          · have := HH.out.move (t := q) hsm hqm (Nat.ne_of_gt HLT.out)
            rw [HK3.out, HX3.out]
            exact this
          · have h1 := (HM.out.up (Nat.succ_pos r) HL.out).step (Nat.succ_pos r) hsm HL.out
            rw [HQ2.out] at h1
            exact h1.mid
        have HR6 := Lib.hid hR6
        clear hQ6 hO6 hR6 HQ5 HB5 HO5 f2 f3 f4
        go_wp2
        go_roundw
        case rel => exact ⟨q, rfl, HR6.out⟩
        case measure => exact HLT.out
      · have hav : ahead k x k2 x2 = false := by rw [hla]; exact decide_eq_false hl
        have HX := Lib.hid (show ∃ (s' : Nat) (a' : Nat → Nat) (e1 : Nat → Int × Nat) (p1 : Nat → Nat), (Value.int .i64 ((r + 1 : Nat) : Int)) = .int .i64 (s' : Nat) ∧ s' < m ∧ Qs w5 g tb sb c m n e1 p1 ∧ Hol key a' n m s' e1 p1 ∧ a' s' = x ∧ Down key a' m s' ∧ (∀ i, Mem a' m i ↔ Mem a m i) ∧ Only (fun i => i = tb ∨ i = sb) w w5 from ⟨r + 1, a1, e1, p1, rfl, hsm, HQ5.out, HH.out, HA.out, HM.out.down (.inr hl), HE.out, HO5.out⟩)
        rw [hav, Bool.not_false]
        clear hla hl hav
        go_wp2
        go_ret
        obtain ⟨s', a', e1, p1, h0, hrest⟩ := HX.out
        exact ⟨s', a', e1, p1, by rw [← h0]; rfl, hrest⟩
end Go.Proofs.Ythpfhimdgmckgaa
