/- Walks: the heap's put. -/
import Derived.Test.YthpfhimdgmckgaaHeapF
import Derived.Test.YthpfhimdgmckgaaHeapInv2
namespace Go.Proofs.Ythpfhimdgmckgaa
open Go.RowKit Hp

theorem wp_appendE {o : Oper} {a : Act} {w : World} {K : Act → World → Prop} {Q : Exit → Act → World → Prop} {tv xv : Value} (s x : Operand) (ho : o.op = .call { callee := .builtin .append, args := #[s, x], argTypes := #[54, 54] }) (v' : Value) (w' : World) (hs : a.eval s = tv) (hx : a.eval x = xv)
    (hrun : (Builtin.append_ #[54, 54] o.type #[tv, xv]).run Try.prog w = .ok v' w') (h : K (a.put o.dst v') w') : Oper.wp Try.prog o a w K Q := by
  unfold Oper.wp execOp
  simp only [ho, resolve, invoke, builtin, Sem.run_bind, Sem.run_pure, Result.andThen_ok, List.map_toArray, List.map_cons, List.map_nil, hs, hx, hrun]
  exact h
theorem TreeV.past {w : World} {tv : Value} {m : Nat} {e : Nat → Int × Nat} (h : TreeV w tv m e) (o : Obj) : TreeV (w.alloc o) tv m e := by
  rcases h with h | ⟨tb, c, h1, h2⟩
  · exact .inl h
  · exact .inr ⟨tb, c, h1, h2.past o⟩

theorem put_new (g sb n m i : Nat) (k : Int) (tv : Value) (e : Nat → Int × Nat) (p : Nat → Nat) (w : World) (hr : Row w g 58 #[tv, .slice (some ⟨sb, 0, none⟩) n n]) (ht : TreeV w tv m e) (hs : Spots w sb n p) (hgs : g ≠ sb) (hgt : tv.ownBlock ≠ some g) (hst : tv.ownBlock ≠ some sb)
    (hi : i < n) (hp : p i = 0) (hm : m < n) (hn : n ≤ 16777216) (key : Nat → Int) (a : Nat → Nat) (hH : Hol key a n m m e p) (hO : Heap key a m) (hmem : ¬ Mem a m i) :
    Calls Try.prog 24 #[ptr g, ent k i] w fun e' w' => e' = .returned (.tuple #[]) ∧ (∃ tb c a' e1 p1, Qs w' g tb sb c (m + 1) n e1 p1 ∧ Hol (upd key i k) a' n (m + 1) (m + 1) e1 p1 ∧ Heap (upd key i k) a' (m + 1) ∧ (∀ j, Mem a' (m + 1) j ↔ Mem a m j ∨ j = i) ∧ (tv.ownBlock = some tb ∨ w.heap.size ≤ tb)) ∧ Only (fun x => x = g ∨ tv.ownBlock = some x ∨ x = sb) w w' := by
  have k0 : w.cell? ⟨g, 0, none⟩ = some tv := hr.cell 0
  have k1 : w.cell? ⟨g, 1, none⟩ = some (.slice (some ⟨sb, 0, none⟩) n n) := hr.cell 1
  have kf0 := hr.thaw 0
  have lg := hr.lt
  obtain ⟨s0, ls, sf0⟩ := hs.cell hi
  have HW := Lib.hid (holds_no g sb n i tv p (w.alloc (.cells #[.int .i64 k, .int .i64 i] 61)) (hr.past _) (by obtain ⟨cs, h1, h2⟩ := hs; exact ⟨cs, h1.past _, h2⟩) hi hp)
  obtain ⟨tb, c, w2, hrun, hT2, hg2, hat2⟩ := run_appendE (w := (((w.alloc (.cells #[.int .i64 k, .int .i64 i] 61)).alloc (.cells #[.int .i64 k, .int .i64 i] 61)).drew)) 54 tv m (w.heap.size + 1) e k i ((ht.past _).past _) (by omega) (by simp) (by simp)
  have HRUN := Lib.hid hrun
  have HT2 := Lib.hid hT2
  have HG2 := Lib.hid hg2
  have HAT := Lib.hid hat2
  have hr2 : Row w2 g 58 #[tv, .slice (some ⟨sb, 0, none⟩) n n] := (hg2.block g (by simp; omega) (fun e => hgt e.symm)).trans ((hr.past _).past _)
  have hB2 : Row w2 w.heap.size 61 #[.int .i64 k, .int .i64 i] := (hg2.block w.heap.size (by simp; omega) (fun e => by have := ht.owns.lt _ e.symm; omega)).trans ((Row.fresh w _ _).past _)
  have hs2 : Spots w2 sb n p := by
    obtain ⟨cs, h1, h2⟩ := hs
    exact ⟨cs, (hg2.block sb (by simp; omega) (fun e => hst e.symm)).trans ((h1.past _).past _), h2⟩
  have htb : tb ≠ g ∧ tb ≠ sb ∧ tb ≠ w.heap.size ∧ (tv.ownBlock = some tb ∨ w.heap.size ≤ tb) := by
    rcases hat2 with h | h
    · have := ht.owns.lt tb h
      exact ⟨fun e1 => hgt (by rw [h, e1]), fun e1 => hst (by rw [h, e1]), by omega, .inl h⟩
    · simp at h
      omega
  obtain ⟨w3, hw3⟩ : ∃ w3, w3 = w2.setCell ⟨g, 0, none⟩ (.slice (some ⟨tb, 0, none⟩) (m + 1) c) := ⟨_, rfl⟩
  have hR3 : Row w3 g 58 #[.slice (some ⟨tb, 0, none⟩) (m + 1) c, .slice (some ⟨sb, 0, none⟩) n n] := by rw [hw3]; exact hr2.put 0 _
  have hT3 : Tree w3 tb c (m + 1) (upd e m (k, i)) := by rw [hw3]; exact hT2.away (a := ⟨g, 0, none⟩) htb.1 _
  have hS3 : Spots w3 sb n p := by rw [hw3]; exact hs2.away (a := ⟨g, 0, none⟩) (Ne.symm hgs) _
  have hB3 : Row w3 w.heap.size 61 #[.int .i64 k, .int .i64 i] := by rw [hw3]; exact hB2.away (a := ⟨g, 0, none⟩) (by show w.heap.size ≠ g; omega) _
  have hO3 : Only (fun x => x = g ∨ tv.ownBlock = some x ∨ x = sb) w w3 := by
    rw [hw3]
    exact ((((((Only.refl _ w).alloc _).alloc _).drew).grown hg2 (fun x hx => .inl (.inr (.inl hx))))).setCell (.inl (.inl rfl)) _
  have hQ3 : Qs w3 g tb sb c (m + 1) n (upd e m (k, i)) p := ⟨hR3, hT3, hS3, Ne.symm htb.1, hgs, htb.2.1, hn, by omega⟩
  have HW3 := Lib.hid hw3
  have HQ3 := Lib.hid hQ3
  have HB3 := Lib.hid hB3
  have HO3 := Lib.hid hO3
  have HTB := Lib.hid htb
  clear hw3 hR3 hT3 hS3 hB3 hO3 hQ3 htb
  have j0 : w2.cell? ⟨g, 0, none⟩ = some tv := hr2.cell 0
  have j1 : w2.cell? ⟨g, 1, none⟩ = some (.slice (some ⟨sb, 0, none⟩) n n) := hr2.cell 1
  have jf0 := hr2.thaw 0
  have HR2 := Lib.hid hr2
  have HB2 := Lib.hid hB2
  have HS2 := Lib.hid hs2
  clear hrun hT2 hg2 hat2 hr2 hs2 hB2
  have HR := Lib.hid hr
  have HT := Lib.hid ht
  have HS := Lib.hid hs
  have HH := Lib.hid hH
  have HO := Lib.hid hO
  have HM := Lib.hid hmem
  have HN := Lib.hid (show g ≠ sb ∧ tv.ownBlock ≠ some g ∧ tv.ownBlock ≠ some sb ∧ p i = 0 from ⟨hgs, hgt, hst, hp⟩)
  clear hr ht hs hH hO hmem hgs hgt hst hp
  go_enter Try.func24, Try.ntmps24
  go_wp2_with fail
  refine HW.out.mono ?_
  rintro e' w1 ⟨rfl, rfl⟩
  go_wp2
  refine wp_region_held_drew (S := fun W => True) (by kernel_rfl) trivial (fun hHeld => ?_)
  refine wpAnyH_take (i := 0) (oi := ⟨some 9, _, _, _, _, _⟩) (v := ?_) rfl (by kernel_rfl) (by kernel_rfl) (by kernel_rfl) (fun _ _ _ h => h) (Or.inl ⟨by rfl, ?_⟩) trivial ?_
  rotate_left
  · intro W hSw
    go_simp
    with_reducible rfl
  simp only [Act.put, List.setIfInBounds_toArray, List.set_cons_zero, List.set_cons_succ]
  refine wpAnyH_take (i := 1) (oi := ⟨some 10, _, _, _, _, _⟩) (v := ?_) rfl (by kernel_rfl) (by kernel_rfl) (by kernel_rfl) (fun _ _ _ h => h) (Or.inl ⟨by rfl, ?_⟩) trivial ?_
  rotate_left
  · intro W hSw
    go_simp
    with_reducible rfl
  simp only [Act.put, List.setIfInBounds_toArray, List.set_cons_zero, List.set_cons_succ]
  refine wpAnyH_take (i := 2) (oi := ⟨some 11, _, _, _, _, _⟩) (v := ?_) rfl (by kernel_rfl) (by kernel_rfl) (by kernel_rfl) (fun _ _ _ h => h) (Or.inl ⟨by rfl, ?_⟩) trivial ?_
  rotate_left
  · intro W hSw
    go_simp
    with_reducible rfl
  simp only [Act.put, List.setIfInBounds_toArray, List.set_cons_zero, List.set_cons_succ]
  refine wpAnyH_take (i := 3) (oi := ⟨some 12, _, _, _, _, _⟩) (v := ?_) rfl (by kernel_rfl) (by kernel_rfl) (by kernel_rfl) (fun _ _ _ h => h) (Or.inl ⟨by rfl, ?_⟩) trivial ?_
  rotate_left
  · intro W hSw
    go_simp
    with_reducible rfl
  simp only [Act.put, List.setIfInBounds_toArray, List.set_cons_zero, List.set_cons_succ]
  refine wpAnyH_ready (rs := [4, 5]) (by kernel_rfl) (by simp) ?_
  refine AllReadyH.cons (o := ⟨some 13, _, _, _, _, _⟩) rfl (fun K hK => ?_) (AllReadyH.cons (o := ⟨some 14, _, _, _, _, _⟩) rfl (fun K hK => ?_) AllReadyH.nil)
  · go_simp
    refine hK.out _ _ trivial (fun _ => ?_)
    clear hK K
    refine wpAnyH_ready (rs := [5]) (by kernel_rfl) (by simp) ?_
    refine AllReadyH.cons (o := ⟨some 14, _, _, _, _, _⟩) rfl (fun K hK => ?_) AllReadyH.nil
    go_simp
    refine hK.out _ _ trivial (fun _ => ?_)
    clear hK K
    refine wpAnyH_ready (rs := [6]) (by kernel_rfl) (by simp) ?_
    refine AllReadyH.cons (o := ⟨some 15, _, _, _, _, _⟩) rfl (fun K hK => ?_) AllReadyH.nil
    go_simp
    refine hK.out _ _ trivial (fun _ => ?_)
    clear hK K
    refine wpAnyH_ready (rs := [7]) (by kernel_rfl) (by simp) ?_
    refine AllReadyH.cons (o := ⟨some 16, _, _, _, _, _⟩) rfl (fun K hK => ?_) AllReadyH.nil
    rw [if_pos (by rfl)]
    refine wp_appendE _ _ rfl _ _ rfl rfl HRUN.out ?_
    simp only [Act.put, List.setIfInBounds_toArray, List.set_cons_zero, List.set_cons_succ]
    refine hK.out _ _ trivial (fun _ => ?_)
    clear hK K
    refine wpAnyH_take (i := 8) (oi := ⟨some 17, _, _, _, _, _⟩) (v := ?_) rfl (by kernel_rfl) (by kernel_rfl) (by kernel_rfl) (fun _ _ _ h => h) (Or.inl ⟨by rfl, ?_⟩) trivial ?_
    rotate_left
    · intro W hSw
      go_simp
      with_reducible rfl
    simp only [Act.put, List.setIfInBounds_toArray, List.set_cons_zero, List.set_cons_succ]
    refine wpAnyH_take (i := 9) (oi := ⟨some 18, _, _, _, _, _⟩) (v := ?_) rfl (by kernel_rfl) (by kernel_rfl) (by kernel_rfl) (fun _ _ _ h => h) (Or.inl ⟨by rfl, ?_⟩) trivial ?_
    rotate_left
    · intro W hSw
      go_simp
      with_reducible rfl
    simp only [Act.put, List.setIfInBounds_toArray, List.set_cons_zero, List.set_cons_succ]
    refine wpAnyH_ready (rs := [10]) (by kernel_rfl) (by simp) ?_
    refine AllReadyH.cons (o := ⟨none, _, _, _, _, _⟩) rfl (fun K hK => ?_) AllReadyH.nil
    go_simp
    refine hK.out _ _ trivial (fun _ => ?_)
    clear hK K
    refine wpAnyH_done (by kernel_rfl) ?_ _
    clear kf0 k0 k1
    rw [← HW3.out]
    clear HW3 HRUN HT2 HG2 HAT HR2 HB2 HS2 HR HT HS HW j0 j1 jf0 s0 sf0
    have k0 : w3.cell? ⟨g, 0, none⟩ = some (.slice (some ⟨tb, 0, none⟩) (m + 1) c) := HQ3.out.1.cell 0
    have k1 : w3.cell? ⟨g, 1, none⟩ = some (.slice (some ⟨sb, 0, none⟩) n n) := HQ3.out.1.cell 1
    have b0 : w3.cell? ⟨w.heap.size, 0, none⟩ = some (.int .i64 k) := HB3.out.cell 0
    have b1 : w3.cell? ⟨w.heap.size, 1, none⟩ = some (.int .i64 i) := HB3.out.cell 1
    obtain ⟨s0, ls3, sf0⟩ := HQ3.out.2.2.1.cell hi
    have hi' : (i : Int) < (n : Int) := by omega
    go_wp2
    refine region_tail 12 (by kernel_rfl) (by kernel_rfl) ?_
    simp only [List.take_succ_cons, List.take_zero, List.drop_succ_cons, List.drop_zero]
    repeat still_step
    refine wpStill_nil ?_
    go_wp2
    obtain ⟨w4, hw4⟩ : ∃ w4, w4 = (w3.setCell ⟨sb, i, none⟩ (.int .i64 ((m + 1 : Nat) : Int))).drew := ⟨_, rfl⟩
    have hQ4 : Qs w4 g tb sb c (m + 1) n (upd e m (k, i)) (upd p i (m + 1)) := by
      rw [hw4]
      obtain ⟨q1, q2, q3, q4, q5, q6, q7⟩ := HQ3.out
      exact ⟨q1.away (a := ⟨sb, i, none⟩) q5 _, q2.away (a := ⟨sb, i, none⟩) q6 _, q3.put (i := i) (m + 1), q4, q5, q6, q7⟩
    have hB4 : Row w4 w.heap.size 61 #[.int .i64 k, .int .i64 i] := by rw [hw4]; exact HB3.out.away (a := ⟨sb, i, none⟩) (by show w.heap.size ≠ sb; omega) _
    have hO4 : Only (fun x => x = g ∨ tv.ownBlock = some x ∨ x = sb) w w4 := by rw [hw4]; exact (HO3.out.setCell (.inl (.inr (.inr rfl))) _).drew
    have hw4' : w4 = (w3.setCell ⟨sb, i, none⟩ (.int .i64 ((m : Int) + 1))).drew := hw4
    rw [← hw4']
    have HP4 := Lib.hid (spot_in g sb n i (.slice (some ⟨tb, 0, none⟩) (m + 1) c) _ w4.drew hQ4.1 hQ4.2.2.1 hi m (upd_same _ _ _) (by omega))
    have c0 : w4.cell? ⟨w.heap.size, 0, none⟩ = some (.int .i64 k) := hB4.cell 0
    have c1 : w4.cell? ⟨w.heap.size, 1, none⟩ = some (.int .i64 i) := hB4.cell 1
    have HQ4 := Lib.hid hQ4
    have HO4 := Lib.hid hO4
    clear hQ4 hB4 hO4 hw4 hw4' HQ3 HB3 HO3 k0 k1 b0 b1 s0 ls3 sf0
    refine region_tail 6 (by kernel_rfl) (by kernel_rfl) ?_
    simp only [List.take_succ_cons, List.take_zero, List.drop_succ_cons, List.drop_zero]
    still_step
    still_step
    still_step
    still_step
    still_call HP4.out
    still_step
    refine wpStill_nil ?_
    go_wp2_with fail
    refine (settle_any g tb sb c (m + 1) n m i k (upd key i k) (put a m i) (upd e m (k, i)) (upd p i (m + 1)) w4.drew HQ4.out ((HH.out.more HM.out hi).hole m) (put_same _ _ _) (upd_same _ _ _) (Heap.more_mid HO.out HM.out) (by omega)).mono ?_
    rintro e' w5 ⟨rfl, ⟨a', e1, p1, q1, q2, q3, q4⟩, q5⟩
    have HF := Lib.hid (show (∃ tb c a' e1 p1, Qs w5 g tb sb c (m + 1) n e1 p1 ∧ Hol (upd key i k) a' n (m + 1) (m + 1) e1 p1 ∧ Heap (upd key i k) a' (m + 1) ∧ (∀ j, Mem a' (m + 1) j ↔ Mem a m j ∨ j = i) ∧ (tv.ownBlock = some tb ∨ w.heap.size ≤ tb)) ∧ Only (fun x => x = g ∨ tv.ownBlock = some x ∨ x = sb) w w5 from
      ⟨⟨tb, c, a', e1, p1, q1, q2, q3, fun j => (q4 j).trans (mem_more j), HTB.out.2.2.2⟩, HO4.out.drew.trans q5 (fun x hx => by
        rcases hx with rfl | rfl
        · rcases HTB.out.2.2.2 with h | h
          · exact .inl (.inr (.inl h))
          · exact .inr h
        · exact .inl (.inr (.inr rfl)))⟩)
    clear q1 q2 q3 q4 q5
    go_wp2
    go_end0
    exact ⟨rfl, HF.out⟩
  · go_simp
    refine hK.out _ _ trivial (fun _ => ?_)
    clear hK K
    refine wpAnyH_ready (rs := [4, 6]) (by kernel_rfl) (by simp) ?_
    refine AllReadyH.cons (o := ⟨some 13, _, _, _, _, _⟩) rfl (fun K hK => ?_) (AllReadyH.cons (o := ⟨some 15, _, _, _, _, _⟩) rfl (fun K hK => ?_) AllReadyH.nil)
    · go_simp
      refine hK.out _ _ trivial (fun _ => ?_)
      clear hK K
      refine wpAnyH_ready (rs := [6]) (by kernel_rfl) (by simp) ?_
      refine AllReadyH.cons (o := ⟨some 15, _, _, _, _, _⟩) rfl (fun K hK => ?_) AllReadyH.nil
      go_simp
      refine hK.out _ _ trivial (fun _ => ?_)
      clear hK K
      refine wpAnyH_ready (rs := [7]) (by kernel_rfl) (by simp) ?_
      refine AllReadyH.cons (o := ⟨some 16, _, _, _, _, _⟩) rfl (fun K hK => ?_) AllReadyH.nil
      rw [if_pos (by rfl)]
      refine wp_appendE _ _ rfl _ _ rfl rfl HRUN.out ?_
      simp only [Act.put, List.setIfInBounds_toArray, List.set_cons_zero, List.set_cons_succ]
      refine hK.out _ _ trivial (fun _ => ?_)
      clear hK K
      refine wpAnyH_take (i := 8) (oi := ⟨some 17, _, _, _, _, _⟩) (v := ?_) rfl (by kernel_rfl) (by kernel_rfl) (by kernel_rfl) (fun _ _ _ h => h) (Or.inl ⟨by rfl, ?_⟩) trivial ?_
      rotate_left
      · intro W hSw
        go_simp
        with_reducible rfl
      simp only [Act.put, List.setIfInBounds_toArray, List.set_cons_zero, List.set_cons_succ]
      refine wpAnyH_take (i := 9) (oi := ⟨some 18, _, _, _, _, _⟩) (v := ?_) rfl (by kernel_rfl) (by kernel_rfl) (by kernel_rfl) (fun _ _ _ h => h) (Or.inl ⟨by rfl, ?_⟩) trivial ?_
      rotate_left
      · intro W hSw
        go_simp
        with_reducible rfl
      simp only [Act.put, List.setIfInBounds_toArray, List.set_cons_zero, List.set_cons_succ]
      refine wpAnyH_ready (rs := [10]) (by kernel_rfl) (by simp) ?_
      refine AllReadyH.cons (o := ⟨none, _, _, _, _, _⟩) rfl (fun K hK => ?_) AllReadyH.nil
      go_simp
      refine hK.out _ _ trivial (fun _ => ?_)
      clear hK K
      refine wpAnyH_done (by kernel_rfl) ?_ _
      clear kf0 k0 k1
      rw [← HW3.out]
      clear HW3 HRUN HT2 HG2 HAT HR2 HB2 HS2 HR HT HS HW j0 j1 jf0 s0 sf0
      have k0 : w3.cell? ⟨g, 0, none⟩ = some (.slice (some ⟨tb, 0, none⟩) (m + 1) c) := HQ3.out.1.cell 0
      have k1 : w3.cell? ⟨g, 1, none⟩ = some (.slice (some ⟨sb, 0, none⟩) n n) := HQ3.out.1.cell 1
      have b0 : w3.cell? ⟨w.heap.size, 0, none⟩ = some (.int .i64 k) := HB3.out.cell 0
      have b1 : w3.cell? ⟨w.heap.size, 1, none⟩ = some (.int .i64 i) := HB3.out.cell 1
      obtain ⟨s0, ls3, sf0⟩ := HQ3.out.2.2.1.cell hi
      have hi' : (i : Int) < (n : Int) := by omega
      go_wp2
      refine region_tail 12 (by kernel_rfl) (by kernel_rfl) ?_
      simp only [List.take_succ_cons, List.take_zero, List.drop_succ_cons, List.drop_zero]
      repeat still_step
      refine wpStill_nil ?_
      go_wp2
      obtain ⟨w4, hw4⟩ : ∃ w4, w4 = (w3.setCell ⟨sb, i, none⟩ (.int .i64 ((m + 1 : Nat) : Int))).drew := ⟨_, rfl⟩
      have hQ4 : Qs w4 g tb sb c (m + 1) n (upd e m (k, i)) (upd p i (m + 1)) := by
        rw [hw4]
        obtain ⟨q1, q2, q3, q4, q5, q6, q7⟩ := HQ3.out
        exact ⟨q1.away (a := ⟨sb, i, none⟩) q5 _, q2.away (a := ⟨sb, i, none⟩) q6 _, q3.put (i := i) (m + 1), q4, q5, q6, q7⟩
      have hB4 : Row w4 w.heap.size 61 #[.int .i64 k, .int .i64 i] := by rw [hw4]; exact HB3.out.away (a := ⟨sb, i, none⟩) (by show w.heap.size ≠ sb; omega) _
      have hO4 : Only (fun x => x = g ∨ tv.ownBlock = some x ∨ x = sb) w w4 := by rw [hw4]; exact (HO3.out.setCell (.inl (.inr (.inr rfl))) _).drew
      have hw4' : w4 = (w3.setCell ⟨sb, i, none⟩ (.int .i64 ((m : Int) + 1))).drew := hw4
      rw [← hw4']
      have HP4 := Lib.hid (spot_in g sb n i (.slice (some ⟨tb, 0, none⟩) (m + 1) c) _ w4.drew hQ4.1 hQ4.2.2.1 hi m (upd_same _ _ _) (by omega))
      have c0 : w4.cell? ⟨w.heap.size, 0, none⟩ = some (.int .i64 k) := hB4.cell 0
      have c1 : w4.cell? ⟨w.heap.size, 1, none⟩ = some (.int .i64 i) := hB4.cell 1
      have HQ4 := Lib.hid hQ4
      have HO4 := Lib.hid hO4
      clear hQ4 hB4 hO4 hw4 hw4' HQ3 HB3 HO3 k0 k1 b0 b1 s0 ls3 sf0
      refine region_tail 6 (by kernel_rfl) (by kernel_rfl) ?_
      simp only [List.take_succ_cons, List.take_zero, List.drop_succ_cons, List.drop_zero]
      still_step
      still_step
      still_step
      still_step
      still_call HP4.out
      still_step
      refine wpStill_nil ?_
      go_wp2_with fail
      refine (settle_any g tb sb c (m + 1) n m i k (upd key i k) (put a m i) (upd e m (k, i)) (upd p i (m + 1)) w4.drew HQ4.out ((HH.out.more HM.out hi).hole m) (put_same _ _ _) (upd_same _ _ _) (Heap.more_mid HO.out HM.out) (by omega)).mono ?_
      rintro e' w5 ⟨rfl, ⟨a', e1, p1, q1, q2, q3, q4⟩, q5⟩
      have HF := Lib.hid (show (∃ tb c a' e1 p1, Qs w5 g tb sb c (m + 1) n e1 p1 ∧ Hol (upd key i k) a' n (m + 1) (m + 1) e1 p1 ∧ Heap (upd key i k) a' (m + 1) ∧ (∀ j, Mem a' (m + 1) j ↔ Mem a m j ∨ j = i) ∧ (tv.ownBlock = some tb ∨ w.heap.size ≤ tb)) ∧ Only (fun x => x = g ∨ tv.ownBlock = some x ∨ x = sb) w w5 from
        ⟨⟨tb, c, a', e1, p1, q1, q2, q3, fun j => (q4 j).trans (mem_more j), HTB.out.2.2.2⟩, HO4.out.drew.trans q5 (fun x hx => by
          rcases hx with rfl | rfl
          · rcases HTB.out.2.2.2 with h | h
            · exact .inl (.inr (.inl h))
            · exact .inr h
          · exact .inl (.inr (.inr rfl)))⟩)
      clear q1 q2 q3 q4 q5
      go_wp2
      go_end0
      exact ⟨rfl, HF.out⟩
    · go_simp
      refine hK.out _ _ trivial (fun _ => ?_)
      clear hK K
      refine wpAnyH_ready (rs := [4]) (by kernel_rfl) (by simp) ?_
      refine AllReadyH.cons (o := ⟨some 13, _, _, _, _, _⟩) rfl (fun K hK => ?_) AllReadyH.nil
      go_simp
      refine hK.out _ _ trivial (fun _ => ?_)
      clear hK K
      refine wpAnyH_ready (rs := [7]) (by kernel_rfl) (by simp) ?_
      refine AllReadyH.cons (o := ⟨some 16, _, _, _, _, _⟩) rfl (fun K hK => ?_) AllReadyH.nil
      rw [if_pos (by rfl)]
      refine wp_appendE _ _ rfl _ _ rfl rfl HRUN.out ?_
      simp only [Act.put, List.setIfInBounds_toArray, List.set_cons_zero, List.set_cons_succ]
      refine hK.out _ _ trivial (fun _ => ?_)
      clear hK K
      refine wpAnyH_take (i := 8) (oi := ⟨some 17, _, _, _, _, _⟩) (v := ?_) rfl (by kernel_rfl) (by kernel_rfl) (by kernel_rfl) (fun _ _ _ h => h) (Or.inl ⟨by rfl, ?_⟩) trivial ?_
      rotate_left
      · intro W hSw
        go_simp
        with_reducible rfl
      simp only [Act.put, List.setIfInBounds_toArray, List.set_cons_zero, List.set_cons_succ]
      refine wpAnyH_take (i := 9) (oi := ⟨some 18, _, _, _, _, _⟩) (v := ?_) rfl (by kernel_rfl) (by kernel_rfl) (by kernel_rfl) (fun _ _ _ h => h) (Or.inl ⟨by rfl, ?_⟩) trivial ?_
      rotate_left
      · intro W hSw
        go_simp
        with_reducible rfl
      simp only [Act.put, List.setIfInBounds_toArray, List.set_cons_zero, List.set_cons_succ]
      refine wpAnyH_ready (rs := [10]) (by kernel_rfl) (by simp) ?_
      refine AllReadyH.cons (o := ⟨none, _, _, _, _, _⟩) rfl (fun K hK => ?_) AllReadyH.nil
      go_simp
      refine hK.out _ _ trivial (fun _ => ?_)
      clear hK K
      refine wpAnyH_done (by kernel_rfl) ?_ _
      clear kf0 k0 k1
      rw [← HW3.out]
      clear HW3 HRUN HT2 HG2 HAT HR2 HB2 HS2 HR HT HS HW j0 j1 jf0 s0 sf0
      have k0 : w3.cell? ⟨g, 0, none⟩ = some (.slice (some ⟨tb, 0, none⟩) (m + 1) c) := HQ3.out.1.cell 0
      have k1 : w3.cell? ⟨g, 1, none⟩ = some (.slice (some ⟨sb, 0, none⟩) n n) := HQ3.out.1.cell 1
      have b0 : w3.cell? ⟨w.heap.size, 0, none⟩ = some (.int .i64 k) := HB3.out.cell 0
      have b1 : w3.cell? ⟨w.heap.size, 1, none⟩ = some (.int .i64 i) := HB3.out.cell 1
      obtain ⟨s0, ls3, sf0⟩ := HQ3.out.2.2.1.cell hi
      have hi' : (i : Int) < (n : Int) := by omega
      go_wp2
      refine region_tail 12 (by kernel_rfl) (by kernel_rfl) ?_
      simp only [List.take_succ_cons, List.take_zero, List.drop_succ_cons, List.drop_zero]
      repeat still_step
      refine wpStill_nil ?_
      go_wp2
      obtain ⟨w4, hw4⟩ : ∃ w4, w4 = (w3.setCell ⟨sb, i, none⟩ (.int .i64 ((m + 1 : Nat) : Int))).drew := ⟨_, rfl⟩
      have hQ4 : Qs w4 g tb sb c (m + 1) n (upd e m (k, i)) (upd p i (m + 1)) := by
        rw [hw4]
        obtain ⟨q1, q2, q3, q4, q5, q6, q7⟩ := HQ3.out
        exact ⟨q1.away (a := ⟨sb, i, none⟩) q5 _, q2.away (a := ⟨sb, i, none⟩) q6 _, q3.put (i := i) (m + 1), q4, q5, q6, q7⟩
      have hB4 : Row w4 w.heap.size 61 #[.int .i64 k, .int .i64 i] := by rw [hw4]; exact HB3.out.away (a := ⟨sb, i, none⟩) (by show w.heap.size ≠ sb; omega) _
      have hO4 : Only (fun x => x = g ∨ tv.ownBlock = some x ∨ x = sb) w w4 := by rw [hw4]; exact (HO3.out.setCell (.inl (.inr (.inr rfl))) _).drew
      have hw4' : w4 = (w3.setCell ⟨sb, i, none⟩ (.int .i64 ((m : Int) + 1))).drew := hw4
      rw [← hw4']
      have HP4 := Lib.hid (spot_in g sb n i (.slice (some ⟨tb, 0, none⟩) (m + 1) c) _ w4.drew hQ4.1 hQ4.2.2.1 hi m (upd_same _ _ _) (by omega))
      have c0 : w4.cell? ⟨w.heap.size, 0, none⟩ = some (.int .i64 k) := hB4.cell 0
      have c1 : w4.cell? ⟨w.heap.size, 1, none⟩ = some (.int .i64 i) := hB4.cell 1
      have HQ4 := Lib.hid hQ4
      have HO4 := Lib.hid hO4
      clear hQ4 hB4 hO4 hw4 hw4' HQ3 HB3 HO3 k0 k1 b0 b1 s0 ls3 sf0
      refine region_tail 6 (by kernel_rfl) (by kernel_rfl) ?_
      simp only [List.take_succ_cons, List.take_zero, List.drop_succ_cons, List.drop_zero]
      still_step
      still_step
      still_step
      still_step
      still_call HP4.out
      still_step
      refine wpStill_nil ?_
      go_wp2_with fail
      refine (settle_any g tb sb c (m + 1) n m i k (upd key i k) (put a m i) (upd e m (k, i)) (upd p i (m + 1)) w4.drew HQ4.out ((HH.out.more HM.out hi).hole m) (put_same _ _ _) (upd_same _ _ _) (Heap.more_mid HO.out HM.out) (by omega)).mono ?_
      rintro e' w5 ⟨rfl, ⟨a', e1, p1, q1, q2, q3, q4⟩, q5⟩
      have HF := Lib.hid (show (∃ tb c a' e1 p1, Qs w5 g tb sb c (m + 1) n e1 p1 ∧ Hol (upd key i k) a' n (m + 1) (m + 1) e1 p1 ∧ Heap (upd key i k) a' (m + 1) ∧ (∀ j, Mem a' (m + 1) j ↔ Mem a m j ∨ j = i) ∧ (tv.ownBlock = some tb ∨ w.heap.size ≤ tb)) ∧ Only (fun x => x = g ∨ tv.ownBlock = some x ∨ x = sb) w w5 from
        ⟨⟨tb, c, a', e1, p1, q1, q2, q3, fun j => (q4 j).trans (mem_more j), HTB.out.2.2.2⟩, HO4.out.drew.trans q5 (fun x hx => by
          rcases hx with rfl | rfl
          · rcases HTB.out.2.2.2 with h | h
            · exact .inl (.inr (.inl h))
            · exact .inr h
          · exact .inl (.inr (.inr rfl)))⟩)
      clear q1 q2 q3 q4 q5
      go_wp2
      go_end0
      exact ⟨rfl, HF.out⟩
end Go.Proofs.Ythpfhimdgmckgaa
