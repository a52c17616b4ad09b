import Derived.Test.YtdkpdmpghibmmaaGreatM2
import Derived.Deep.Cut
/- Plain mathematics: one more in the tree; another key; one less. Nothing of the program. -/
namespace Go.Proofs.YtdkpdmpghibmmaaGreat.Hp
open Hp

section
variable {key : Nat → Int} {a : Nat → Nat} {n m i j : Nat} {k : Int} {e : Nat → Int × Nat} {p : Nat → Nat}
theorem upd_key (hn : ∀ l, l < m → a l ≠ i) : ∀ l, l < m → upd key i k (a l) = key (a l) := fun l hl => upd_other _ _ _ _ (hn l hl)
theorem Hol.more (h : Hol key a n m m e p) (hm : ¬ Mem a m i) (hi : i < n) : Hol (upd key i k) (put a m i) n (m + 1) (m + 1) (upd e m (k, i)) (upd p i (m + 1)) := by
  have hn : ∀ l, l < m → a l ≠ i := fun l hl e => hm ⟨l, hl, e⟩
  refine ⟨fun l hl _ => ?_, fun l hl => ?_, fun l r hl hr he => ?_, fun l hl _ => ?_, fun l hl hx => ?_⟩
  · by_cases e1 : l = m
    · subst e1; rw [upd_same, put_same, upd_same]
    · rw [upd_other _ _ _ _ e1, put_other _ _ _ _ e1, upd_key hn l (by omega)]; exact h.ent l (by omega) e1
  · by_cases e1 : l = m
    · subst e1; rw [put_same]; exact hi
    · rw [put_other _ _ _ _ e1]; exact h.low l (by omega)
  · by_cases e1 : l = m <;> by_cases e2 : r = m
    · omega
    · subst e1; rw [put_same, put_other _ _ _ _ e2] at he; exact absurd he.symm (hn r (by omega))
    · subst e2; rw [put_same, put_other _ _ _ _ e1] at he; exact absurd he (hn l (by omega))
    · rw [put_other _ _ _ _ e1, put_other _ _ _ _ e2] at he; exact h.inj l r (by omega) (by omega) he
  · by_cases e1 : l = m
    · subst e1; rw [put_same, upd_same]
    · rw [put_other _ _ _ _ e1, upd_other _ _ _ _ (hn l (by omega))]; exact h.pos l (by omega) e1
  · have h1 : l ≠ i := fun e1 => hx m (by omega) (by rw [put_same, e1])
    rw [upd_other _ _ _ _ h1]
    exact h.out l hl (fun r hr e1 => hx r (by omega) (by rw [put_other _ _ _ _ (by omega)]; exact e1))
theorem Heap.keyed (h : Heap key a m) (hn : ∀ l, l < m → a l ≠ i) : Heap (upd key i k) a m := by
  intro l h0 hl
  rw [lt_congr (upd_key hn l hl) (upd_key hn _ (by omega))]
  exact h l h0 hl
theorem Heap.more_mid (h : Heap key a m) (hm : ¬ Mem a m i) : Mid (upd key i k) (put a m i) (m + 1) m :=
  ((Heap.keyed (k := k) h (fun l hl e => hm ⟨l, hl, e⟩)).more i).mid
theorem mem_more (l : Nat) : Mem (put a m i) (m + 1) l ↔ Mem a m l ∨ l = i := by
  constructor
  · rintro ⟨r, hr, e1⟩
    by_cases e2 : r = m
    · subst e2; rw [put_same] at e1; exact .inr e1.symm
    · rw [put_other _ _ _ _ e2] at e1; exact .inl ⟨r, by omega, e1⟩
  · rintro (⟨r, hr, e1⟩ | rfl)
    · exact ⟨r, by omega, by rw [put_other _ _ _ _ (by omega)]; exact e1⟩
    · exact ⟨m, by omega, put_same _ _ _⟩
theorem Hol.turned (h : Hol key a n m m e p) (hj : j < m) (hi : a j = i) : Hol (upd key i k) a n m j e p := by
  refine ⟨fun l hl hne => ?_, h.low, h.inj, fun l hl _ => h.pos l hl (by omega), h.out⟩
  rw [upd_other _ _ _ _ (fun e1 => hne (h.inj l j hl hj (e1.trans hi.symm)))]
  exact h.ent l hl (by omega)
theorem Hol.turned_mid (h : Hol key a n m m e p) (ho : Heap key a m) (hj : j < m) (hi : a j = i) : Mid (upd key i k) a m j :=
  ho.turned hj (fun l hl hne => upd_other _ _ _ _ (fun e1 => hne (h.inj l j hl hj (e1.trans hi.symm))))
/-- The last one fills the gap. -/
theorem Hol.moved (h : Hol key a n (m + 1) (m + 1) e p) (hj : j < m) (hi : a j = i) : Hol key (put a j (a m)) n m j e (upd p i 0) := by
  have hne : ∀ l, l < m → l ≠ j → a l ≠ i := fun l hl hlj e1 => hlj (h.inj l j (by omega) (by omega) (e1.trans hi.symm))
  refine ⟨fun l hl hlj => ?_, fun l hl => ?_, fun l r hl hr he => ?_, fun l hl hlj => ?_, fun l hl hx => ?_⟩
  · rw [put_other _ _ _ _ hlj]; exact h.ent l (by omega) (by omega)
  · by_cases e1 : l = j
    · subst e1; rw [put_same]; exact h.low m (by omega)
    · rw [put_other _ _ _ _ e1]; exact h.low l (by omega)
  · by_cases e1 : l = j <;> by_cases e2 : r = j
    · omega
    · rw [e1, put_same, put_other _ _ _ _ e2] at he; have := h.inj m r (by omega) (by omega) he; omega
    · rw [e2, put_same, put_other _ _ _ _ e1] at he; have := h.inj l m (by omega) (by omega) he; omega
    · rw [put_other _ _ _ _ e1, put_other _ _ _ _ e2] at he; exact h.inj l r (by omega) (by omega) he
  · rw [put_other _ _ _ _ hlj, upd_other _ _ _ _ (hne l hl hlj)]; exact h.pos l (by omega) (by omega)
  · by_cases e1 : l = i
    · rw [e1, upd_same]
    · rw [upd_other _ _ _ _ e1]
      refine h.out l hl (fun r hr e2 => ?_)
      by_cases e3 : r = m
      · exact hx j hj (by rw [put_same, ← e3]; exact e2)
      · by_cases e4 : r = j
        · exact e1 (e2.symm.trans (by rw [e4]; exact hi))
        · exact hx r (by omega) (by rw [put_other _ _ _ _ e4]; exact e2)
theorem mem_moved (h : Hol key a n (m + 1) (m + 1) e p) (hj : j < m) (hi : a j = i) (l : Nat) : Mem (put a j (a m)) m l ↔ Mem a (m + 1) l ∧ l ≠ i := by
  constructor
  · rintro ⟨r, hr, e1⟩
    by_cases e2 : r = j
    · rw [e2, put_same] at e1
      exact ⟨⟨m, by omega, e1⟩, fun e3 => by have := h.inj m j (by omega) (by omega) (e1.trans (e3.trans hi.symm)); omega⟩
    · rw [put_other _ _ _ _ e2] at e1
      exact ⟨⟨r, by omega, e1⟩, fun e3 => e2 (h.inj r j (by omega) (by omega) (e1.trans (e3.trans hi.symm)))⟩
  · rintro ⟨⟨r, hr, e1⟩, hne⟩
    by_cases e3 : r = m
    · exact ⟨j, hj, by rw [put_same, ← e3]; exact e1⟩
    · refine ⟨r, by omega, ?_⟩
      rw [put_other _ _ _ _ (fun e4 => hne (by rw [← e1, e4, hi]))]
      exact e1
/-- The last one itself goes. -/
theorem Hol.less (h : Hol key a n (m + 1) (m + 1) e p) (hi : a m = i) : Hol key a n m m e (upd p i 0) := by
  have hne : ∀ l, l < m → a l ≠ i := fun l hl e1 => by have := h.inj l m (by omega) (by omega) (e1.trans hi.symm); omega
  refine ⟨fun l hl _ => h.ent l (by omega) (by omega), fun l hl => h.low l (by omega), fun l r hl hr => h.inj l r (by omega) (by omega), fun l hl _ => ?_, fun l hl hx => ?_⟩
  · rw [upd_other _ _ _ _ (hne l hl)]; exact h.pos l (by omega) (by omega)
  · by_cases e1 : l = i
    · rw [e1, upd_same]
    · rw [upd_other _ _ _ _ e1]
      refine h.out l hl (fun r hr e2 => ?_)
      by_cases e3 : r = m
      · exact e1 (by rw [← e2, e3, hi])
      · exact hx r (by omega) e2
theorem mem_less (h : Hol key a n (m + 1) (m + 1) e p) (hi : a m = i) (l : Nat) : Mem a m l ↔ Mem a (m + 1) l ∧ l ≠ i := by
  constructor
  · rintro ⟨r, hr, e1⟩
    exact ⟨⟨r, by omega, e1⟩, fun e3 => by have := h.inj r m (by omega) (by omega) (e1.trans (e3.trans hi.symm)); omega⟩
  · rintro ⟨⟨r, hr, e1⟩, hne⟩
    by_cases e3 : r = m
    · exact absurd (by rw [← e1, e3, hi]) hne
    · exact ⟨r, by omega, e1⟩
end
end Go.Proofs.YtdkpdmpghibmmaaGreat.Hp

/- Walks: the heap's put. -/
namespace Go.Proofs.YtdkpdmpghibmmaaGreat.Hp
set_option maxRecDepth 100000
open Go.RowKit Hp

theorem wp_appendE {o : Oper} {a : Act} {w : World} {K : Act → World → Prop} {Q : Exit → Act → World → Prop} {tv xv : Value} (s x : Operand) (ho : o.op = .call { callee := .builtin .append, args := #[s, x], argTypes := #[175, 175] }) (v' : Value) (w' : World) (hs : a.eval s = tv) (hx : a.eval x = xv)
    (hrun : (Builtin.append_ #[175, 175] o.type #[tv, xv]).run Tryz.prog w = .ok v' w') (h : K (a.put o.dst v') w') : Oper.wp Tryz.prog o a w K Q := by
  unfold Oper.wp execOp
  simp only [ho, resolve, invoke, builtin, Sem.run_bind, Sem.run_pure, Result.andThen_ok, List.map_toArray, List.map_cons, List.map_nil, hs, hx, hrun]
  exact h
theorem TreeV.past {w : World} {tv : Value} {m : Nat} {e : Nat → Int × Nat} (h : TreeV w tv m e) (o : Obj) : TreeV (w.alloc o) tv m e := by
  rcases h with h | ⟨tb, c, h1, h2⟩
  · exact .inl h
  · exact .inr ⟨tb, c, h1, h2.past o⟩

theorem put_new (g sb n m i : Nat) (k : Int) (tv : Value) (e : Nat → Int × Nat) (p : Nat → Nat) (w : World) (hr : Row w g 179 #[tv, .slice (some ⟨sb, 0, none⟩) n n]) (ht : TreeV w tv m e) (hs : Spots w sb n p) (hgs : g ≠ sb) (hgt : tv.ownBlock ≠ some g) (hst : tv.ownBlock ≠ some sb)
    (hi : i < n) (hp : p i = 0) (hm : m < n) (hn : n ≤ 16777216) (key : Nat → Int) (a : Nat → Nat) (hH : Hol key a n m m e p) (hO : Heap key a m) (hmem : ¬ Mem a m i) :
    Calls Tryz.prog 121 #[ptr g, ent k i] w fun e' w' => e' = .returned (.tuple #[]) ∧ (∃ tb c a' e1 p1, Qs w' g tb sb c (m + 1) n e1 p1 ∧ Hol (upd key i k) a' n (m + 1) (m + 1) e1 p1 ∧ Heap (upd key i k) a' (m + 1) ∧ (∀ j, Mem a' (m + 1) j ↔ Mem a m j ∨ j = i) ∧ (tv.ownBlock = some tb ∨ w.heap.size ≤ tb)) ∧ Only (fun x => x = g ∨ tv.ownBlock = some x ∨ x = sb) w w' := by
  have k0 : w.cell? ⟨g, 0, none⟩ = some tv := hr.cell 0
  have k1 : w.cell? ⟨g, 1, none⟩ = some (.slice (some ⟨sb, 0, none⟩) n n) := hr.cell 1
  have kf0 := hr.thaw 0
  have lg := hr.lt
  obtain ⟨s0, ls, sf0⟩ := hs.cell hi
  have HW := Lib.hid (holds_no g sb n i tv p (w.alloc (.cells #[.int .i64 k, .int .i64 i] 182)) (hr.past _) (by obtain ⟨cs, h1, h2⟩ := hs; exact ⟨cs, h1.past _, h2⟩) hi hp)
  obtain ⟨tb, c, w2, hrun, hT2, hg2, hat2⟩ := run_appendE (w := (((w.alloc (.cells #[.int .i64 k, .int .i64 i] 182)).alloc (.cells #[.int .i64 k, .int .i64 i] 182)).drew)) 175 tv m (w.heap.size + 1) e k i ((ht.past _).past _) (by omega) (by simp) (by simp)
  have HRUN := Lib.hid hrun
  have HT2 := Lib.hid hT2
  have HG2 := Lib.hid hg2
  have HAT := Lib.hid hat2
  have hr2 : Row w2 g 179 #[tv, .slice (some ⟨sb, 0, none⟩) n n] := (hg2.block g (by simp; omega) (fun e => hgt e.symm)).trans ((hr.past _).past _)
  have hB2 : Row w2 w.heap.size 182 #[.int .i64 k, .int .i64 i] := (hg2.block w.heap.size (by simp; omega) (fun e => by have := ht.owns.lt _ e.symm; omega)).trans ((Row.fresh w _ _).past _)
  have hs2 : Spots w2 sb n p := by
    obtain ⟨cs, h1, h2⟩ := hs
    exact ⟨cs, (hg2.block sb (by simp; omega) (fun e => hst e.symm)).trans ((h1.past _).past _), h2⟩
  have htb : tb ≠ g ∧ tb ≠ sb ∧ tb ≠ w.heap.size ∧ (tv.ownBlock = some tb ∨ w.heap.size ≤ tb) := by
    rcases hat2 with h | h
    · have := ht.owns.lt tb h
      exact ⟨fun e1 => hgt (by rw [h, e1]), fun e1 => hst (by rw [h, e1]), by omega, .inl h⟩
    · simp at h
      omega
  obtain ⟨w3, hw3⟩ : ∃ w3, w3 = w2.setCell ⟨g, 0, none⟩ (.slice (some ⟨tb, 0, none⟩) (m + 1) c) := ⟨_, rfl⟩
  have hR3 : Row w3 g 179 #[.slice (some ⟨tb, 0, none⟩) (m + 1) c, .slice (some ⟨sb, 0, none⟩) n n] := by rw [hw3]; exact hr2.put 0 _
  have hT3 : Tree w3 tb c (m + 1) (upd e m (k, i)) := by rw [hw3]; exact hT2.away (a := ⟨g, 0, none⟩) htb.1 _
  have hS3 : Spots w3 sb n p := by rw [hw3]; exact hs2.away (a := ⟨g, 0, none⟩) (Ne.symm hgs) _
  have hB3 : Row w3 w.heap.size 182 #[.int .i64 k, .int .i64 i] := by rw [hw3]; exact hB2.away (a := ⟨g, 0, none⟩) (by show w.heap.size ≠ g; omega) _
  have hO3 : Only (fun x => x = g ∨ tv.ownBlock = some x ∨ x = sb) w w3 := by
    rw [hw3]
    exact ((((((Only.refl _ w).alloc _).alloc _).drew).grown hg2 (fun x hx => .inl (.inr (.inl hx))))).setCell (.inl (.inl rfl)) _
  have hQ3 : Qs w3 g tb sb c (m + 1) n (upd e m (k, i)) p := ⟨hR3, hT3, hS3, Ne.symm htb.1, hgs, htb.2.1, hn, by omega⟩
  have HW3 := Lib.hid hw3
  have HQ3 := Lib.hid hQ3
  have HB3 := Lib.hid hB3
  have HO3 := Lib.hid hO3
  have HTB := Lib.hid htb
  clear hw3 hR3 hT3 hS3 hB3 hO3 hQ3 htb
  have j0 : w2.cell? ⟨g, 0, none⟩ = some tv := hr2.cell 0
  have j1 : w2.cell? ⟨g, 1, none⟩ = some (.slice (some ⟨sb, 0, none⟩) n n) := hr2.cell 1
  have jf0 := hr2.thaw 0
  have HR2 := Lib.hid hr2
  have HB2 := Lib.hid hB2
  have HS2 := Lib.hid hs2
  clear hrun hT2 hg2 hat2 hr2 hs2 hB2
  have HR := Lib.hid hr
  have HT := Lib.hid ht
  have HS := Lib.hid hs
  have HH := Lib.hid hH
  have HO := Lib.hid hO
  have HM := Lib.hid hmem
  have HN := Lib.hid (show g ≠ sb ∧ tv.ownBlock ≠ some g ∧ tv.ownBlock ≠ some sb ∧ p i = 0 from ⟨hgs, hgt, hst, hp⟩)
  clear hr ht hs hH hO hmem hgs hgt hst hp
  go_enter Tryz.func121, Tryz.ntmps121
  go_wp2_with fail
  refine HW.out.mono ?_
  rintro e' w1 ⟨rfl, rfl⟩
  go_wp2
  refine wp_region_held_drew (S := fun W => True) (by kernel_rfl) trivial (fun hHeld => ?_)
  refine wpAnyH_take (i := 0) (oi := ⟨some 9, _, _, _, _, _⟩) (v := ?_) rfl (by kernel_rfl) (by kernel_rfl) (by kernel_rfl) (fun _ _ _ h => h) (Or.inl ⟨by rfl, ?_⟩) trivial ?_
  rotate_left
  · intro W hSw
    go_simp
    with_reducible rfl
  simp only [Act.put, List.setIfInBounds_toArray, List.set_cons_zero, List.set_cons_succ]
  refine wpAnyH_take (i := 1) (oi := ⟨some 10, _, _, _, _, _⟩) (v := ?_) rfl (by kernel_rfl) (by kernel_rfl) (by kernel_rfl) (fun _ _ _ h => h) (Or.inl ⟨by rfl, ?_⟩) trivial ?_
  rotate_left
  · intro W hSw
    go_simp
    with_reducible rfl
  simp only [Act.put, List.setIfInBounds_toArray, List.set_cons_zero, List.set_cons_succ]
  refine wpAnyH_take (i := 2) (oi := ⟨some 11, _, _, _, _, _⟩) (v := ?_) rfl (by kernel_rfl) (by kernel_rfl) (by kernel_rfl) (fun _ _ _ h => h) (Or.inl ⟨by rfl, ?_⟩) trivial ?_
  rotate_left
  · intro W hSw
    go_simp
    with_reducible rfl
  simp only [Act.put, List.setIfInBounds_toArray, List.set_cons_zero, List.set_cons_succ]
  refine wpAnyH_take (i := 3) (oi := ⟨some 12, _, _, _, _, _⟩) (v := ?_) rfl (by kernel_rfl) (by kernel_rfl) (by kernel_rfl) (fun _ _ _ h => h) (Or.inl ⟨by rfl, ?_⟩) trivial ?_
  rotate_left
  · intro W hSw
    go_simp
    with_reducible rfl
  simp only [Act.put, List.setIfInBounds_toArray, List.set_cons_zero, List.set_cons_succ]
  refine wpAnyH_ready (rs := [4, 5]) (by kernel_rfl) (by simp) ?_
  refine AllReadyH.cons (o := ⟨some 13, _, _, _, _, _⟩) rfl (fun K hK => ?_) (AllReadyH.cons (o := ⟨some 14, _, _, _, _, _⟩) rfl (fun K hK => ?_) AllReadyH.nil)
  · go_simp
    refine hK.out _ _ trivial (fun _ => ?_)
    clear hK K
    refine wpAnyH_ready (rs := [5]) (by kernel_rfl) (by simp) ?_
    refine AllReadyH.cons (o := ⟨some 14, _, _, _, _, _⟩) rfl (fun K hK => ?_) AllReadyH.nil
    go_simp
    refine hK.out _ _ trivial (fun _ => ?_)
    clear hK K
    refine wpAnyH_ready (rs := [6]) (by kernel_rfl) (by simp) ?_
    refine AllReadyH.cons (o := ⟨some 15, _, _, _, _, _⟩) rfl (fun K hK => ?_) AllReadyH.nil
    go_simp
    refine hK.out _ _ trivial (fun _ => ?_)
    clear hK K
    refine wpAnyH_ready (rs := [7]) (by kernel_rfl) (by simp) ?_
    refine AllReadyH.cons (o := ⟨some 16, _, _, _, _, _⟩) rfl (fun K hK => ?_) AllReadyH.nil
    rw [if_pos (by rfl)]
    refine wp_appendE _ _ rfl _ _ rfl rfl HRUN.out ?_
    simp only [Act.put, List.setIfInBounds_toArray, List.set_cons_zero, List.set_cons_succ]
    refine hK.out _ _ trivial (fun _ => ?_)
    clear hK K
    refine wpAnyH_take (i := 8) (oi := ⟨some 17, _, _, _, _, _⟩) (v := ?_) rfl (by kernel_rfl) (by kernel_rfl) (by kernel_rfl) (fun _ _ _ h => h) (Or.inl ⟨by rfl, ?_⟩) trivial ?_
    rotate_left
    · intro W hSw
      go_simp
      with_reducible rfl
    simp only [Act.put, List.setIfInBounds_toArray, List.set_cons_zero, List.set_cons_succ]
    refine wpAnyH_take (i := 9) (oi := ⟨some 18, _, _, _, _, _⟩) (v := ?_) rfl (by kernel_rfl) (by kernel_rfl) (by kernel_rfl) (fun _ _ _ h => h) (Or.inl ⟨by rfl, ?_⟩) trivial ?_
    rotate_left
    · intro W hSw
      go_simp
      with_reducible rfl
    simp only [Act.put, List.setIfInBounds_toArray, List.set_cons_zero, List.set_cons_succ]
    refine wpAnyH_ready (rs := [10]) (by kernel_rfl) (by simp) ?_
    refine AllReadyH.cons (o := ⟨none, _, _, _, _, _⟩) rfl (fun K hK => ?_) AllReadyH.nil
    go_simp
    refine hK.out _ _ trivial (fun _ => ?_)
    clear hK K
    refine wpAnyH_done (by kernel_rfl) ?_ _
    clear kf0 k0 k1
    rw [← HW3.out]
    clear HW3 HRUN HT2 HG2 HAT HR2 HB2 HS2 HR HT HS HW j0 j1 jf0 s0 sf0
    have k0 : w3.cell? ⟨g, 0, none⟩ = some (.slice (some ⟨tb, 0, none⟩) (m + 1) c) := HQ3.out.1.cell 0
    have k1 : w3.cell? ⟨g, 1, none⟩ = some (.slice (some ⟨sb, 0, none⟩) n n) := HQ3.out.1.cell 1
    have b0 : w3.cell? ⟨w.heap.size, 0, none⟩ = some (.int .i64 k) := HB3.out.cell 0
    have b1 : w3.cell? ⟨w.heap.size, 1, none⟩ = some (.int .i64 i) := HB3.out.cell 1
    obtain ⟨s0, ls3, sf0⟩ := HQ3.out.2.2.1.cell hi
    have hi' : (i : Int) < (n : Int) := by omega
    go_wp2
    refine region_tail 12 (by kernel_rfl) (by kernel_rfl) ?_
    simp only [List.take_succ_cons, List.take_zero, List.drop_succ_cons, List.drop_zero]
    repeat still_step
    refine wpStill_nil ?_
    go_wp2
    obtain ⟨w4, hw4⟩ : ∃ w4, w4 = (w3.setCell ⟨sb, i, none⟩ (.int .i64 ((m + 1 : Nat) : Int))).drew := ⟨_, rfl⟩
    have hQ4 : Qs w4 g tb sb c (m + 1) n (upd e m (k, i)) (upd p i (m + 1)) := by
      rw [hw4]
      obtain ⟨q1, q2, q3, q4, q5, q6, q7⟩ := HQ3.out
      exact ⟨q1.away (a := ⟨sb, i, none⟩) q5 _, q2.away (a := ⟨sb, i, none⟩) q6 _, q3.put (i := i) (m + 1), q4, q5, q6, q7⟩
    have hB4 : Row w4 w.heap.size 182 #[.int .i64 k, .int .i64 i] := by rw [hw4]; exact HB3.out.away (a := ⟨sb, i, none⟩) (by show w.heap.size ≠ sb; omega) _
    have hO4 : Only (fun x => x = g ∨ tv.ownBlock = some x ∨ x = sb) w w4 := by rw [hw4]; exact (HO3.out.setCell (.inl (.inr (.inr rfl))) _).drew
    have hw4' : w4 = (w3.setCell ⟨sb, i, none⟩ (.int .i64 ((m : Int) + 1))).drew := hw4
    rw [← hw4']
    have HP4 := Lib.hid (spot_in g sb n i (.slice (some ⟨tb, 0, none⟩) (m + 1) c) _ w4.drew hQ4.1 hQ4.2.2.1 hi m (upd_same _ _ _) (by omega))
    have c0 : w4.cell? ⟨w.heap.size, 0, none⟩ = some (.int .i64 k) := hB4.cell 0
    have c1 : w4.cell? ⟨w.heap.size, 1, none⟩ = some (.int .i64 i) := hB4.cell 1
    have HQ4 := Lib.hid hQ4
    have HO4 := Lib.hid hO4
    clear hQ4 hB4 hO4 hw4 hw4' HQ3 HB3 HO3 k0 k1 b0 b1 s0 ls3 sf0
    refine region_tail 6 (by kernel_rfl) (by kernel_rfl) ?_
    simp only [List.take_succ_cons, List.take_zero, List.drop_succ_cons, List.drop_zero]
    still_step
    still_step
    still_step
    still_step
    still_call HP4.out
    still_step
    refine wpStill_nil ?_
    go_wp2_with fail
    refine (settle_any g tb sb c (m + 1) n m i k (upd key i k) (put a m i) (upd e m (k, i)) (upd p i (m + 1)) w4.drew HQ4.out ((HH.out.more HM.out hi).hole m) (put_same _ _ _) (upd_same _ _ _) (Heap.more_mid HO.out HM.out) (by omega)).mono ?_
    rintro e' w5 ⟨rfl, ⟨a', e1, p1, q1, q2, q3, q4⟩, q5⟩
    have HF := Lib.hid (show (∃ tb c a' e1 p1, Qs w5 g tb sb c (m + 1) n e1 p1 ∧ Hol (upd key i k) a' n (m + 1) (m + 1) e1 p1 ∧ Heap (upd key i k) a' (m + 1) ∧ (∀ j, Mem a' (m + 1) j ↔ Mem a m j ∨ j = i) ∧ (tv.ownBlock = some tb ∨ w.heap.size ≤ tb)) ∧ Only (fun x => x = g ∨ tv.ownBlock = some x ∨ x = sb) w w5 from
      ⟨⟨tb, c, a', e1, p1, q1, q2, q3, fun j => (q4 j).trans (mem_more j), HTB.out.2.2.2⟩, HO4.out.drew.trans q5 (fun x hx => by
        rcases hx with rfl | rfl
        · rcases HTB.out.2.2.2 with h | h
          · exact .inl (.inr (.inl h))
          · exact .inr h
        · exact .inl (.inr (.inr rfl)))⟩)
    clear q1 q2 q3 q4 q5
    go_wp2
    go_end0
    exact ⟨rfl, HF.out⟩
  · go_simp
    refine hK.out _ _ trivial (fun _ => ?_)
    clear hK K
    refine wpAnyH_ready (rs := [4, 6]) (by kernel_rfl) (by simp) ?_
    refine AllReadyH.cons (o := ⟨some 13, _, _, _, _, _⟩) rfl (fun K hK => ?_) (AllReadyH.cons (o := ⟨some 15, _, _, _, _, _⟩) rfl (fun K hK => ?_) AllReadyH.nil)
    · go_simp
      refine hK.out _ _ trivial (fun _ => ?_)
      clear hK K
      refine wpAnyH_ready (rs := [6]) (by kernel_rfl) (by simp) ?_
      refine AllReadyH.cons (o := ⟨some 15, _, _, _, _, _⟩) rfl (fun K hK => ?_) AllReadyH.nil
      go_simp
      refine hK.out _ _ trivial (fun _ => ?_)
      clear hK K
      refine wpAnyH_ready (rs := [7]) (by kernel_rfl) (by simp) ?_
      refine AllReadyH.cons (o := ⟨some 16, _, _, _, _, _⟩) rfl (fun K hK => ?_) AllReadyH.nil
      rw [if_pos (by rfl)]
      refine wp_appendE _ _ rfl _ _ rfl rfl HRUN.out ?_
      simp only [Act.put, List.setIfInBounds_toArray, List.set_cons_zero, List.set_cons_succ]
      refine hK.out _ _ trivial (fun _ => ?_)
      clear hK K
      refine wpAnyH_take (i := 8) (oi := ⟨some 17, _, _, _, _, _⟩) (v := ?_) rfl (by kernel_rfl) (by kernel_rfl) (by kernel_rfl) (fun _ _ _ h => h) (Or.inl ⟨by rfl, ?_⟩) trivial ?_
      rotate_left
      · intro W hSw
        go_simp
        with_reducible rfl
      simp only [Act.put, List.setIfInBounds_toArray, List.set_cons_zero, List.set_cons_succ]
      refine wpAnyH_take (i := 9) (oi := ⟨some 18, _, _, _, _, _⟩) (v := ?_) rfl (by kernel_rfl) (by kernel_rfl) (by kernel_rfl) (fun _ _ _ h => h) (Or.inl ⟨by rfl, ?_⟩) trivial ?_
      rotate_left
      · intro W hSw
        go_simp
        with_reducible rfl
      simp only [Act.put, List.setIfInBounds_toArray, List.set_cons_zero, List.set_cons_succ]
      refine wpAnyH_ready (rs := [10]) (by kernel_rfl) (by simp) ?_
      refine AllReadyH.cons (o := ⟨none, _, _, _, _, _⟩) rfl (fun K hK => ?_) AllReadyH.nil
      go_simp
      refine hK.out _ _ trivial (fun _ => ?_)
      clear hK K
      refine wpAnyH_done (by kernel_rfl) ?_ _
      clear kf0 k0 k1
      rw [← HW3.out]
      clear HW3 HRUN HT2 HG2 HAT HR2 HB2 HS2 HR HT HS HW j0 j1 jf0 s0 sf0
      have k0 : w3.cell? ⟨g, 0, none⟩ = some (.slice (some ⟨tb, 0, none⟩) (m + 1) c) := HQ3.out.1.cell 0
      have k1 : w3.cell? ⟨g, 1, none⟩ = some (.slice (some ⟨sb, 0, none⟩) n n) := HQ3.out.1.cell 1
      have b0 : w3.cell? ⟨w.heap.size, 0, none⟩ = some (.int .i64 k) := HB3.out.cell 0
      have b1 : w3.cell? ⟨w.heap.size, 1, none⟩ = some (.int .i64 i) := HB3.out.cell 1
      obtain ⟨s0, ls3, sf0⟩ := HQ3.out.2.2.1.cell hi
      have hi' : (i : Int) < (n : Int) := by omega
      go_wp2
      refine region_tail 12 (by kernel_rfl) (by kernel_rfl) ?_
      simp only [List.take_succ_cons, List.take_zero, List.drop_succ_cons, List.drop_zero]
      repeat still_step
      refine wpStill_nil ?_
      go_wp2
      obtain ⟨w4, hw4⟩ : ∃ w4, w4 = (w3.setCell ⟨sb, i, none⟩ (.int .i64 ((m + 1 : Nat) : Int))).drew := ⟨_, rfl⟩
      have hQ4 : Qs w4 g tb sb c (m + 1) n (upd e m (k, i)) (upd p i (m + 1)) := by
        rw [hw4]
        obtain ⟨q1, q2, q3, q4, q5, q6, q7⟩ := HQ3.out
        exact ⟨q1.away (a := ⟨sb, i, none⟩) q5 _, q2.away (a := ⟨sb, i, none⟩) q6 _, q3.put (i := i) (m + 1), q4, q5, q6, q7⟩
      have hB4 : Row w4 w.heap.size 182 #[.int .i64 k, .int .i64 i] := by rw [hw4]; exact HB3.out.away (a := ⟨sb, i, none⟩) (by show w.heap.size ≠ sb; omega) _
      have hO4 : Only (fun x => x = g ∨ tv.ownBlock = some x ∨ x = sb) w w4 := by rw [hw4]; exact (HO3.out.setCell (.inl (.inr (.inr rfl))) _).drew
      have hw4' : w4 = (w3.setCell ⟨sb, i, none⟩ (.int .i64 ((m : Int) + 1))).drew := hw4
      rw [← hw4']
      have HP4 := Lib.hid (spot_in g sb n i (.slice (some ⟨tb, 0, none⟩) (m + 1) c) _ w4.drew hQ4.1 hQ4.2.2.1 hi m (upd_same _ _ _) (by omega))
      have c0 : w4.cell? ⟨w.heap.size, 0, none⟩ = some (.int .i64 k) := hB4.cell 0
      have c1 : w4.cell? ⟨w.heap.size, 1, none⟩ = some (.int .i64 i) := hB4.cell 1
      have HQ4 := Lib.hid hQ4
      have HO4 := Lib.hid hO4
      clear hQ4 hB4 hO4 hw4 hw4' HQ3 HB3 HO3 k0 k1 b0 b1 s0 ls3 sf0
      refine region_tail 6 (by kernel_rfl) (by kernel_rfl) ?_
      simp only [List.take_succ_cons, List.take_zero, List.drop_succ_cons, List.drop_zero]
      still_step
      still_step
      still_step
      still_step
      still_call HP4.out
      still_step
      refine wpStill_nil ?_
      go_wp2_with fail
      refine (settle_any g tb sb c (m + 1) n m i k (upd key i k) (put a m i) (upd e m (k, i)) (upd p i (m + 1)) w4.drew HQ4.out ((HH.out.more HM.out hi).hole m) (put_same _ _ _) (upd_same _ _ _) (Heap.more_mid HO.out HM.out) (by omega)).mono ?_
      rintro e' w5 ⟨rfl, ⟨a', e1, p1, q1, q2, q3, q4⟩, q5⟩
      have HF := Lib.hid (show (∃ tb c a' e1 p1, Qs w5 g tb sb c (m + 1) n e1 p1 ∧ Hol (upd key i k) a' n (m + 1) (m + 1) e1 p1 ∧ Heap (upd key i k) a' (m + 1) ∧ (∀ j, Mem a' (m + 1) j ↔ Mem a m j ∨ j = i) ∧ (tv.ownBlock = some tb ∨ w.heap.size ≤ tb)) ∧ Only (fun x => x = g ∨ tv.ownBlock = some x ∨ x = sb) w w5 from
        ⟨⟨tb, c, a', e1, p1, q1, q2, q3, fun j => (q4 j).trans (mem_more j), HTB.out.2.2.2⟩, HO4.out.drew.trans q5 (fun x hx => by
          rcases hx with rfl | rfl
          · rcases HTB.out.2.2.2 with h | h
            · exact .inl (.inr (.inl h))
            · exact .inr h
          · exact .inl (.inr (.inr rfl)))⟩)
      clear q1 q2 q3 q4 q5
      go_wp2
      go_end0
      exact ⟨rfl, HF.out⟩
    · go_simp
      refine hK.out _ _ trivial (fun _ => ?_)
      clear hK K
      refine wpAnyH_ready (rs := [4]) (by kernel_rfl) (by simp) ?_
      refine AllReadyH.cons (o := ⟨some 13, _, _, _, _, _⟩) rfl (fun K hK => ?_) AllReadyH.nil
      go_simp
      refine hK.out _ _ trivial (fun _ => ?_)
      clear hK K
      refine wpAnyH_ready (rs := [7]) (by kernel_rfl) (by simp) ?_
      refine AllReadyH.cons (o := ⟨some 16, _, _, _, _, _⟩) rfl (fun K hK => ?_) AllReadyH.nil
      rw [if_pos (by rfl)]
      refine wp_appendE _ _ rfl _ _ rfl rfl HRUN.out ?_
      simp only [Act.put, List.setIfInBounds_toArray, List.set_cons_zero, List.set_cons_succ]
      refine hK.out _ _ trivial (fun _ => ?_)
      clear hK K
      refine wpAnyH_take (i := 8) (oi := ⟨some 17, _, _, _, _, _⟩) (v := ?_) rfl (by kernel_rfl) (by kernel_rfl) (by kernel_rfl) (fun _ _ _ h => h) (Or.inl ⟨by rfl, ?_⟩) trivial ?_
      rotate_left
      · intro W hSw
        go_simp
        with_reducible rfl
      simp only [Act.put, List.setIfInBounds_toArray, List.set_cons_zero, List.set_cons_succ]
      refine wpAnyH_take (i := 9) (oi := ⟨some 18, _, _, _, _, _⟩) (v := ?_) rfl (by kernel_rfl) (by kernel_rfl) (by kernel_rfl) (fun _ _ _ h => h) (Or.inl ⟨by rfl, ?_⟩) trivial ?_
      rotate_left
      · intro W hSw
        go_simp
        with_reducible rfl
      simp only [Act.put, List.setIfInBounds_toArray, List.set_cons_zero, List.set_cons_succ]
      refine wpAnyH_ready (rs := [10]) (by kernel_rfl) (by simp) ?_
      refine AllReadyH.cons (o := ⟨none, _, _, _, _, _⟩) rfl (fun K hK => ?_) AllReadyH.nil
      go_simp
      refine hK.out _ _ trivial (fun _ => ?_)
      clear hK K
      refine wpAnyH_done (by kernel_rfl) ?_ _
      clear kf0 k0 k1
      rw [← HW3.out]
      clear HW3 HRUN HT2 HG2 HAT HR2 HB2 HS2 HR HT HS HW j0 j1 jf0 s0 sf0
      have k0 : w3.cell? ⟨g, 0, none⟩ = some (.slice (some ⟨tb, 0, none⟩) (m + 1) c) := HQ3.out.1.cell 0
      have k1 : w3.cell? ⟨g, 1, none⟩ = some (.slice (some ⟨sb, 0, none⟩) n n) := HQ3.out.1.cell 1
      have b0 : w3.cell? ⟨w.heap.size, 0, none⟩ = some (.int .i64 k) := HB3.out.cell 0
      have b1 : w3.cell? ⟨w.heap.size, 1, none⟩ = some (.int .i64 i) := HB3.out.cell 1
      obtain ⟨s0, ls3, sf0⟩ := HQ3.out.2.2.1.cell hi
      have hi' : (i : Int) < (n : Int) := by omega
      go_wp2
      refine region_tail 12 (by kernel_rfl) (by kernel_rfl) ?_
      simp only [List.take_succ_cons, List.take_zero, List.drop_succ_cons, List.drop_zero]
      repeat still_step
      refine wpStill_nil ?_
      go_wp2
      obtain ⟨w4, hw4⟩ : ∃ w4, w4 = (w3.setCell ⟨sb, i, none⟩ (.int .i64 ((m + 1 : Nat) : Int))).drew := ⟨_, rfl⟩
      have hQ4 : Qs w4 g tb sb c (m + 1) n (upd e m (k, i)) (upd p i (m + 1)) := by
        rw [hw4]
        obtain ⟨q1, q2, q3, q4, q5, q6, q7⟩ := HQ3.out
        exact ⟨q1.away (a := ⟨sb, i, none⟩) q5 _, q2.away (a := ⟨sb, i, none⟩) q6 _, q3.put (i := i) (m + 1), q4, q5, q6, q7⟩
      have hB4 : Row w4 w.heap.size 182 #[.int .i64 k, .int .i64 i] := by rw [hw4]; exact HB3.out.away (a := ⟨sb, i, none⟩) (by show w.heap.size ≠ sb; omega) _
      have hO4 : Only (fun x => x = g ∨ tv.ownBlock = some x ∨ x = sb) w w4 := by rw [hw4]; exact (HO3.out.setCell (.inl (.inr (.inr rfl))) _).drew
      have hw4' : w4 = (w3.setCell ⟨sb, i, none⟩ (.int .i64 ((m : Int) + 1))).drew := hw4
      rw [← hw4']
      have HP4 := Lib.hid (spot_in g sb n i (.slice (some ⟨tb, 0, none⟩) (m + 1) c) _ w4.drew hQ4.1 hQ4.2.2.1 hi m (upd_same _ _ _) (by omega))
      have c0 : w4.cell? ⟨w.heap.size, 0, none⟩ = some (.int .i64 k) := hB4.cell 0
      have c1 : w4.cell? ⟨w.heap.size, 1, none⟩ = some (.int .i64 i) := hB4.cell 1
      have HQ4 := Lib.hid hQ4
      have HO4 := Lib.hid hO4
      clear hQ4 hB4 hO4 hw4 hw4' HQ3 HB3 HO3 k0 k1 b0 b1 s0 ls3 sf0
      refine region_tail 6 (by kernel_rfl) (by kernel_rfl) ?_
      simp only [List.take_succ_cons, List.take_zero, List.drop_succ_cons, List.drop_zero]
      still_step
      still_step
      still_step
      still_step
      still_call HP4.out
      still_step
      refine wpStill_nil ?_
      go_wp2_with fail
      refine (settle_any g tb sb c (m + 1) n m i k (upd key i k) (put a m i) (upd e m (k, i)) (upd p i (m + 1)) w4.drew HQ4.out ((HH.out.more HM.out hi).hole m) (put_same _ _ _) (upd_same _ _ _) (Heap.more_mid HO.out HM.out) (by omega)).mono ?_
      rintro e' w5 ⟨rfl, ⟨a', e1, p1, q1, q2, q3, q4⟩, q5⟩
      have HF := Lib.hid (show (∃ tb c a' e1 p1, Qs w5 g tb sb c (m + 1) n e1 p1 ∧ Hol (upd key i k) a' n (m + 1) (m + 1) e1 p1 ∧ Heap (upd key i k) a' (m + 1) ∧ (∀ j, Mem a' (m + 1) j ↔ Mem a m j ∨ j = i) ∧ (tv.ownBlock = some tb ∨ w.heap.size ≤ tb)) ∧ Only (fun x => x = g ∨ tv.ownBlock = some x ∨ x = sb) w w5 from
        ⟨⟨tb, c, a', e1, p1, q1, q2, q3, fun j => (q4 j).trans (mem_more j), HTB.out.2.2.2⟩, HO4.out.drew.trans q5 (fun x hx => by
          rcases hx with rfl | rfl
          · rcases HTB.out.2.2.2 with h | h
            · exact .inl (.inr (.inl h))
            · exact .inr h
          · exact .inl (.inr (.inr rfl)))⟩)
      clear q1 q2 q3 q4 q5
      go_wp2
      go_end0
      exact ⟨rfl, HF.out⟩
end Go.Proofs.YtdkpdmpghibmmaaGreat.Hp

/- Walks: the heap's put of one that is in; remove. -/
namespace Go.Proofs.YtdkpdmpghibmmaaGreat.Hp
set_option maxRecDepth 100000
open Go.RowKit Hp

theorem put_in (g tb sb c n m i j : Nat) (k : Int) (e : Nat → Int × Nat) (p : Nat → Nat) (w : World) (hQ : Qs w g tb sb c m n e p) (hi : i < n) (hj : j < m) (key : Nat → Int) (a : Nat → Nat) (hH : Hol key a n m m e p) (hO : Heap key a m) (haj : a j = i) :
    Calls Tryz.prog 121 #[ptr g, ent k i] w fun e' w' => e' = .returned (.tuple #[]) ∧ (∃ a' e1 p1, Qs w' g tb sb c m n e1 p1 ∧ Hol (upd key i k) a' n m m e1 p1 ∧ Heap (upd key i k) a' m ∧ (∀ j, Mem a' m j ↔ Mem a m j)) ∧ Only (fun x => x = tb ∨ x = sb) w w' := by
  have hp : p i = j + 1 := by rw [← haj]; exact hH.pos j hj (by omega)
  have hbig : j ≤ 16777216 := by have := hQ.2.2.2.2.2.2.1; have := hQ.2.2.2.2.2.2.2; omega
  obtain ⟨lg, lt, ls⟩ := hQ.lts
  have hQ0 : Qs (w.alloc (.cells #[.int .i64 k, .int .i64 i] 182)) g tb sb c m n e p := hQ.only (S := fun _ => False) (((Only.refl _ w).alloc _)) (fun f => f) (fun f => f) (fun f => f)
  have HW := Lib.hid (holds_yes g sb n i j (.slice (some ⟨tb, 0, none⟩) m c) p (w.alloc (.cells #[.int .i64 k, .int .i64 i] 182)) hQ0.1 hQ0.2.2.1 hi hp)
  have HP := Lib.hid (spot_in g sb n i (.slice (some ⟨tb, 0, none⟩) m c) p (w.alloc (.cells #[.int .i64 k, .int .i64 i] 182)).drew hQ0.1 hQ0.2.2.1 hi j hp hbig)
  have HQ := Lib.hid hQ0
  have HH := Lib.hid hH
  have HO := Lib.hid hO
  have HA := Lib.hid haj
  clear hQ hQ0 hH hO haj hp hbig
  go_enter Tryz.func121, Tryz.ntmps121
  go_wp2_with fail
  refine HW.out.mono ?_
  rintro e' w1 ⟨rfl, rfl⟩
  go_wp2
  refine region_tail 6 (by kernel_rfl) (by kernel_rfl) ?_
  simp only [List.take_succ_cons, List.take_zero, List.drop_succ_cons, List.drop_zero]
  still_step
  still_step
  still_step
  still_step
  still_call HP.out
  still_step
  refine wpStill_nil ?_
  go_wp2_with fail
  refine (settle_any g tb sb c m n j i k (upd key i k) a e p (w.alloc (.cells #[.int .i64 k, .int .i64 i] 182)).drew HQ.out (HH.out.turned hj HA.out) HA.out (upd_same _ _ _) (HH.out.turned_mid HO.out hj HA.out) hj).mono ?_
  rintro e' w5 ⟨rfl, h1, q5⟩
  have HF := Lib.hid h1
  have HG := Lib.hid (show Only (fun x => x = tb ∨ x = sb) w w5 from (((Only.refl _ w).alloc _).drew).trans q5 (fun x hx => .inl hx))
  clear h1 q5
  go_wp2
  go_end0
  exact ⟨rfl, HF.out, HG.out⟩

theorem remove_any (g tb sb c n m i j : Nat) (e : Nat → Int × Nat) (p : Nat → Nat) (w : World) (hQ : Qs w g tb sb c (m + 1) n e p) (hi : i < n) (hj : j < m + 1) (key : Nat → Int) (a : Nat → Nat) (hH : Hol key a n (m + 1) (m + 1) e p) (hO : Heap key a (m + 1)) (haj : a j = i) :
    Calls Tryz.prog 142 #[ptr g, .int .i64 i] w fun e' w' => e' = .returned (.tuple #[]) ∧ (∃ a' e1 p1, Qs w' g tb sb c m n e1 p1 ∧ Hol key a' n m m e1 p1 ∧ Heap key a' m ∧ (∀ l, Mem a' m l ↔ Mem a (m + 1) l ∧ l ≠ i)) ∧ Only (fun x => x = g ∨ x = tb ∨ x = sb) w w' := by
  have hp : p i = j + 1 := by rw [← haj]; exact hH.pos j hj (by omega)
  have hbig : m + 1 ≤ 16777216 := by have := hQ.2.2.2.2.2.2.1; have := hQ.2.2.2.2.2.2.2; omega
  have hmc : m + 1 ≤ c := by obtain ⟨_, _, _, h, _⟩ := hQ.2.1; exact h
  obtain ⟨lg, lt, ls⟩ := hQ.lts
  have k0 : w.cell? ⟨g, 0, none⟩ = some (.slice (some ⟨tb, 0, none⟩) (m + 1) c) := hQ.1.cell 0
  have k1 : w.cell? ⟨g, 1, none⟩ = some (.slice (some ⟨sb, 0, none⟩) n n) := hQ.1.cell 1
  have kf0 := hQ.1.thaw 0
  obtain ⟨t0, t1, _, _, _⟩ := hQ.2.1.cell (j := m) (by omega)
  obtain ⟨s0, _, sf0⟩ := hQ.2.2.1.cell hi
  obtain ⟨kl, hkl⟩ : ∃ kl, kl = (e m).1 := ⟨_, rfl⟩
  obtain ⟨xl, hxl⟩ : ∃ xl, xl = (e m).2 := ⟨_, rfl⟩
  have hent : e m = (key (a m), a m) := hH.ent m (by omega) (by omega)
  have HL := Lib.hid (show xl = a m ∧ kl = key (a m) from ⟨by rw [hxl, hent], by rw [hkl, hent]⟩)
  rw [← hkl] at t0
  rw [← hxl] at t1
  have hi' : (i : Int) < (n : Int) := by omega
  have hm1 : IntKind.i64.wrap (m : Int) = (m : Int) := wrap_i m (by omega)
  have hmc' : (m : Int) ≤ (c : Int) := by omega
  have HP := Lib.hid (fun w1 (hw : Below w.heap.size w w1) => spot_in g sb n i (.slice (some ⟨tb, 0, none⟩) (m + 1) c) p w1 (hQ.1.under hw lg) (by obtain ⟨cs, h1, h2⟩ := hQ.2.2.1; exact ⟨cs, h1.under hw ls, h2⟩) hi j hp (by omega))
  have HQ := Lib.hid hQ
  have HH := Lib.hid hH
  have HO := Lib.hid hO
  have HA := Lib.hid haj
  clear hQ hH hO haj hp hbig hent hkl hxl
  go_enter Tryz.func142, Tryz.ntmps142
  go_wp2
  go_quiet ((go_at_call 139; exact Calls.quiet_of_same (HP.out _ ⟨rfl, rfl, rfl, Nat.le_refl _, fun _ _ => rfl⟩)))
  obtain ⟨w1, hw1⟩ : ∃ w1, w1 = w.drewN nq := ⟨_, rfl⟩
  rw [← hw1]
  have hQ1 : Qs w1 g tb sb c (m + 1) n e p := by rw [hw1]; exact HQ.out
  have hO1 : Only (fun x => x = g ∨ x = tb ∨ x = sb) w w1 := by rw [hw1]; exact ⟨rfl, rfl, rfl, Nat.le_refl _, fun _ _ _ => rfl⟩
  clear hw1 k0 k1 kf0 t0 t1 s0 sf0 lg lt ls HP
  obtain ⟨lg, lt, ls⟩ := hQ1.lts
  have k0 : w1.cell? ⟨g, 0, none⟩ = some (.slice (some ⟨tb, 0, none⟩) (m + 1) c) := hQ1.1.cell 0
  have k1 : w1.cell? ⟨g, 1, none⟩ = some (.slice (some ⟨sb, 0, none⟩) n n) := hQ1.1.cell 1
  have kf0 := hQ1.1.thaw 0
  obtain ⟨u0, u1, _, _, _⟩ := hQ1.2.1.cell (j := m) (by omega)
  have hent : e m = (key (a m), a m) := HH.out.ent m (by omega) (by omega)
  rw [hent] at u0 u1
  have t0 : w1.cell? ⟨tb, m * 2, none⟩ = some (.int .i64 kl) := by rw [HL.out.2]; exact u0
  have t1 : w1.cell? ⟨tb, m * 2 + 1, none⟩ = some (.int .i64 xl) := by rw [HL.out.1]; exact u1
  clear u0 u1
  obtain ⟨s0, _, sf0⟩ := hQ1.2.2.1.cell hi
  have hgs : g ≠ sb := hQ1.2.2.2.2.1
  have hsg : sb ≠ g := Ne.symm hgs
  have HQ1 := Lib.hid hQ1
  have HO1 := Lib.hid hO1
  clear hQ1 hO1 HQ hent
  obtain ⟨w2, hw2⟩ : ∃ w2, w2 = (((w1.setCell ⟨g, 0, none⟩ (.slice (some ⟨tb, 0, none⟩) m c)).setCell ⟨sb, i, none⟩ (.int .i64 (0 : Nat))).alloc (.cells #[.int .i64 kl, .int .i64 xl] 182)) := ⟨_, rfl⟩
  have hQ2 : Qs w2 g tb sb c m n e (upd p i 0) := by
    rw [hw2]
    obtain ⟨q1, q2, q3, q4, q5, q6, q7, q8⟩ := HQ1.out
    refine ⟨((q1.put 0 _).away (a := ⟨sb, i, none⟩) q5 _).past _, ?_, ((q3.away (a := ⟨g, 0, none⟩) (Ne.symm q5) _).put (i := i) 0).past _, q4, q5, q6, q7, by omega⟩
    have := ((q2.away (a := ⟨g, 0, none⟩) (Ne.symm q4) (.slice (some ⟨tb, 0, none⟩) m c)).away (a := ⟨sb, i, none⟩) q6 (.int .i64 (0 : Nat))).past (.cells #[.int .i64 kl, .int .i64 xl] 182)
    obtain ⟨cs, h1, h2, h3, h4, h5⟩ := this
    exact ⟨cs, h1, h2, by omega, h4, fun l hl => h5 l (by omega)⟩
  have hO2 : Only (fun x => x = g ∨ x = tb ∨ x = sb) w w2 := by
    rw [hw2]
    exact ((HO1.out.setCell (.inl (.inl rfl)) _).setCell (.inl (.inr (.inr rfl))) _).alloc _
  have HQ2 := Lib.hid hQ2
  have HO2 := Lib.hid hO2
  have HW2 := Lib.hid hw2
  clear hQ2 hO2 hw2 HO1
  have hB2 : Row w2 w1.heap.size 182 #[.int .i64 kl, .int .i64 xl] := by
    rw [HW2.out]
    have := Row.fresh ((w1.setCell ⟨g, 0, none⟩ (.slice (some ⟨tb, 0, none⟩) m c)).setCell ⟨sb, i, none⟩ (.int .i64 (0 : Nat))) 182 #[.int .i64 kl, .int .i64 xl]
    simpa using this
  have d0 : w2.cell? ⟨w1.heap.size, 0, none⟩ = some (.int .i64 kl) := hB2.cell 0
  have d1 : w2.cell? ⟨w1.heap.size, 1, none⟩ = some (.int .i64 xl) := hB2.cell 1
  clear hB2
  by_cases hjm : j < m
  · have hjm' : (j : Int) < (m : Int) := by omega
    go_upto_if 40 with (fail)
    have e2 := HW2.out
    rw [show (((0 : Nat) : Int)) = 0 from rfl] at e2
    rw [← e2]
    clear e2 k0 k1 kf0 t0 t1 s0 sf0
    have hset := settle_any g tb sb c m n j xl kl key (put a j (a m)) e (upd p i 0) w2 HQ2.out (HH.out.moved hjm HA.out) (by rw [put_same, HL.out.1]) (by rw [HL.out.1, HL.out.2]) (HO.out.moved hjm) hjm
    have HSET := Lib.hid hset
    clear hset
    go_wp2_with fail
    refine HSET.out.mono ?_
    rintro e' w5 ⟨rfl, ⟨a', e1, p1, q1, q2, q3, q4⟩, q5⟩
    have HF := Lib.hid (show (∃ a' e1 p1, Qs w5 g tb sb c m n e1 p1 ∧ Hol key a' n m m e1 p1 ∧ Heap key a' m ∧ (∀ l, Mem a' m l ↔ Mem a (m + 1) l ∧ l ≠ i)) ∧ Only (fun x => x = g ∨ x = tb ∨ x = sb) w w5 from
      ⟨⟨a', e1, p1, q1, q2, q3, fun l => (q4 l).trans (mem_moved HH.out hjm HA.out l)⟩, HO2.out.trans q5 (fun x hx => .inl (.inr hx))⟩)
    clear q1 q2 q3 q4 q5
    go_wp2
    go_end0
    exact ⟨rfl, HF.out⟩
  · have hjm' : ¬ (j : Int) < (m : Int) := by omega
    obtain rfl : j = m := by omega
    have HF := Lib.hid (show (∃ a' e1 p1, Qs w2 g tb sb c j n e1 p1 ∧ Hol key a' n j j e1 p1 ∧ Heap key a' j ∧ (∀ l, Mem a' j l ↔ Mem a (j + 1) l ∧ l ≠ i)) from ⟨a, e, _, HQ2.out, HH.out.less HA.out, HO.out.less, mem_less HH.out HA.out⟩)
    go_upto_if 40 with (fail)
    have e2 := HW2.out
    rw [show (((0 : Nat) : Int)) = 0 from rfl] at e2
    rw [← e2]
    clear e2 k0 k1 kf0 t0 t1 s0 sf0
    go_wp2
    go_end0
    exact ⟨rfl, HF.out, HO2.out⟩
end Go.Proofs.YtdkpdmpghibmmaaGreat.Hp

/- What a heap in memory is: an object of its own blocks, by what is in it. -/
namespace Go.Proofs.YtdkpdmpghibmmaaGreat.Hp
set_option maxRecDepth 100000
open Go.RowKit Hp

/-- How many of the first n are in. -/
def cnt (n : Nat) (f : Nat → Option Int) : Nat := ((List.range n).filter (fun i => (f i).isSome)).length

/-- The heap in block g, of the blocks S: of n, with f in it. -/
def Hq (w : World) (g : Nat) (S : Nat → Prop) (n : Nat) (f : Nat → Option Int) : Prop :=
  ∃ (key : Nat → Int) (a : Nat → Nat) (m sb : Nat) (p : Nat → Nat) (e : Nat → Int × Nat) (tv : Value),
    (∀ i k, f i = some k ↔ Mem a m i ∧ k = key i) ∧ Hol key a n m m e p ∧ Heap key a m ∧ n ≤ 16777216 ∧ Row w g 179 #[tv, .slice (some ⟨sb, 0, none⟩) n n] ∧ TreeV w tv m e ∧ Spots w sb n p ∧
    g ≠ sb ∧ tv.ownBlock ≠ some g ∧ tv.ownBlock ≠ some sb ∧ (∀ k, S k ↔ k = g ∨ tv.ownBlock = some k ∨ k = sb)
/-- Behind a step: f' is in, only own blocks turned. -/
def Did (w : World) (g n : Nat) (S : Nat → Prop) (f' : Nat → Option Int) (w' : World) : Prop := ∃ S', Hq w' g S' n f' ∧ (∀ k, S' k → S k ∨ w.heap.size ≤ k) ∧ Only S w w'

theorem cnt_of {key : Nat → Int} {a : Nat → Nat} {n m : Nat} {e : Nat → Int × Nat} {p : Nat → Nat} {f : Nat → Option Int} (h : Hol key a n m m e p) (hf : ∀ i k, f i = some k ↔ Mem a m i ∧ k = key i) : cnt n f = m := by
  have h1 : ((List.range m).map a).Nodup := by
    rw [List.Nodup, List.pairwise_map]
    exact List.Pairwise.imp_of_mem (fun {x y} hx hy hxy he => hxy (h.inj x y (List.mem_range.1 hx) (List.mem_range.1 hy) he)) List.nodup_range
  have h2 : ((List.range n).filter (fun i => (f i).isSome)).Nodup := List.nodup_range.filter _
  have hp : ((List.range m).map a).Perm ((List.range n).filter (fun i => (f i).isSome)) := by
    rw [List.perm_ext_iff_of_nodup h1 h2]
    intro i
    simp only [List.mem_map, List.mem_range, List.mem_filter]
    constructor
    · rintro ⟨j, hj, rfl⟩
      exact ⟨h.low j hj, by rw [(hf (a j) (key (a j))).2 ⟨⟨j, hj, rfl⟩, rfl⟩]; rfl⟩
    · rintro ⟨_, hi⟩
      obtain ⟨k, hk⟩ := Option.isSome_iff_exists.1 hi
      obtain ⟨⟨j, hj, e⟩, _⟩ := (hf i k).1 hk
      exact ⟨j, hj, e⟩
  have := hp.length_eq
  simp at this
  unfold cnt
  omega
theorem cnt_le (n : Nat) (f : Nat → Option Int) : cnt n f ≤ n := by
  have := List.length_filter_le (fun i => (f i).isSome) (List.range n)
  simpa [cnt] using this
theorem TreeV.lt {w : World} {tv : Value} {m : Nat} {e : Nat → Int × Nat} (h : TreeV w tv m e) (k : Nat) (hk : tv.ownBlock = some k) : k < w.heap.size := (h.owns.lt k hk).2
theorem TreeV.only {S : Nat → Prop} {w w' : World} {tv : Value} {m : Nat} {e : Nat → Int × Nat} (h : TreeV w tv m e) (ho : Only S w w') (hs : ∀ k, tv.ownBlock = some k → ¬ S k) : TreeV w' tv m e := by
  rcases h with h | ⟨tb, c, rfl, h⟩
  · exact .inl h
  · exact .inr ⟨tb, c, rfl, h.only ho (hs tb rfl)⟩
theorem Hq.lt {w : World} {g : Nat} {S : Nat → Prop} {n : Nat} {f : Nat → Option Int} (h : Hq w g S n f) (k : Nat) (hk : S k) : k < w.heap.size := by
  obtain ⟨key, a, m, sb, p, e, tv, _, _, _, _, hr, ht, ⟨_, hs, _⟩, _, _, _, hS⟩ := h
  rcases (hS k).1 hk with rfl | hk | rfl
  · exact hr.lt
  · exact ht.lt k hk
  · exact hs.lt
theorem Hq.own {w : World} {g : Nat} {S : Nat → Prop} {n : Nat} {f : Nat → Option Int} (h : Hq w g S n f) : S g := by
  obtain ⟨key, a, m, sb, p, e, tv, _, _, _, _, hr, ht, hs, _, _, _, hS⟩ := h
  exact (hS g).2 (.inl rfl)
theorem Hq.only {w w' : World} {g : Nat} {S S' : Nat → Prop} {n : Nat} {f : Nat → Option Int} (h : Hq w g S n f) (ho : Only S' w w') (hd : ∀ k, S k → ¬ S' k) : Hq w' g S n f := by
  obtain ⟨key, a, m, sb, p, e, tv, h1, h2, h3, h4, hr, ht, hs, h5, h6, h7, hS⟩ := h
  exact ⟨key, a, m, sb, p, e, tv, h1, h2, h3, h4, hr.only ho (hd g ((hS g).2 (.inl rfl))), ht.only ho (fun k hk => hd k ((hS k).2 (.inr (.inl hk)))), hs.only ho (hd sb ((hS sb).2 (.inr (.inr rfl)))), h5, h6, h7, hS⟩
theorem Hq.below {w w' : World} {g : Nat} {S : Nat → Prop} {n : Nat} {f : Nat → Option Int} (h : Hq w g S n f) (hb : Below w.heap.size w w') : Hq w' g S n f := h.only (Only.of_below (fun _ => False) hb) (fun _ _ f => f)
theorem Hq.some_lt {w : World} {g : Nat} {S : Nat → Prop} {n : Nat} {f : Nat → Option Int} (h : Hq w g S n f) {i : Nat} {k : Int} (hi : f i = some k) : i < n := by
  obtain ⟨key, a, m, sb, p, e, tv, h1, h2, _⟩ := h
  obtain ⟨⟨j, hj, rfl⟩, _⟩ := (h1 i k).1 hi
  exact h2.low j hj
theorem Hq.congr {w : World} {g : Nat} {S : Nat → Prop} {n : Nat} {f f' : Nat → Option Int} (h : Hq w g S n f) (he : ∀ i, f' i = f i) : Hq w g S n f' := by
  have : f' = f := funext he
  rw [this]; exact h
theorem Did.refl {w : World} {g : Nat} {S : Nat → Prop} {n : Nat} {f : Nat → Option Int} (h : Hq w g S n f) {w' : World} (hb : Below w.heap.size w w') : Did w g n S f w' := ⟨S, h.below hb, fun _ h => .inl h, Only.of_below _ hb⟩
theorem Did.trans {w w1 w2 : World} {g : Nat} {S : Nat → Prop} {n : Nat} {f1 f2 : Nat → Option Int} (h1 : Did w g n S f1 w1) (h2 : ∀ S1, Hq w1 g S1 n f1 → Did w1 g n S1 f2 w2) : Did w g n S f2 w2 := by
  obtain ⟨S1, q1, s1, o1⟩ := h1
  obtain ⟨S2, q2, s2, o2⟩ := h2 S1 q1
  refine ⟨S2, q2, fun k hk => ?_, o1.trans o2 s1⟩
  rcases s2 k hk with h | h
  · exact s1 k h
  · have := o1.size; exact .inr (by omega)
/-- With one in, the list is there. -/
theorem TreeV.some {w : World} {tv : Value} {m : Nat} {e : Nat → Int × Nat} (h : TreeV w tv m e) (hm : 0 < m) : ∃ tb c, tv = .slice (some ⟨tb, 0, none⟩) m c ∧ Tree w tb c m e := by
  rcases h with ⟨_, h⟩ | h
  · omega
  · exact h

theorem set_nil (z k : Int) (w : World) : Calls Tryz.prog 89 #[.pointer none, .int .i64 z, .int .i64 k] w fun e w' => e = .returned (.bool false) ∧ w' = w := by
  go_enter Tryz.func89, Tryz.ntmps89
  go_wp2
  go_ret
  exact ⟨rfl, rfl⟩
theorem set_out (g n : Nat) (S : Nat → Prop) (f : Nat → Option Int) (z k : Int) (w : World) (h : Hq w g S n f) (hz : z < 0 ∨ (n : Int) ≤ z) : Calls Tryz.prog 89 #[ptr g, .int .i64 z, .int .i64 k] w fun e w' => e = .returned (.bool false) ∧ w' = w := by
  obtain ⟨key, a, m, sb, p, e, tv, h1, h2, h3, h4, hr, ht, hs, h5, h6, h7, hS⟩ := h
  have HC := Lib.hid (knows_out g sb n z tv w hr hz)
  clear h1 h2 h3 h4 hr ht hs h5 h6 h7 hS hz
  go_enter Tryz.func89, Tryz.ntmps89
  go_wp2_with fail
  refine HC.out.mono ?_
  rintro e w1 ⟨rfl, rfl⟩
  go_wp2
  go_ret
  exact ⟨rfl, rfl⟩
/-- What put leaves. -/
theorem put_any (g n i : Nat) (S : Nat → Prop) (f : Nat → Option Int) (k : Int) (w : World) (h : Hq w g S n f) (hi : i < n) : Calls Tryz.prog 121 #[ptr g, ent k i] w fun e' w' => e' = .returned (.tuple #[]) ∧ Did w g n S (upd f i (some k)) w' := by
  obtain ⟨key, a, m, sb, p, e, tv, h1, h2, h3, h4, hr, ht, hs, h5, h6, h7, hS⟩ := h
  have hmn : m ≤ n := by rw [← cnt_of h2 h1]; exact cnt_le n f
  by_cases hm : Mem a m i
  · obtain ⟨j, hj, haj⟩ := hm
    obtain ⟨tb, c, rfl, hT⟩ := ht.some (by omega)
    have e6 : g ≠ tb := fun e => h6 (by rw [e]; rfl)
    have e7 : tb ≠ sb := fun e => h7 (by rw [e]; rfl)
    refine (put_in g tb sb c n m i j k e p w ⟨hr, hT, hs, e6, h5, e7, h4, hmn⟩ hi hj key a h2 h3 haj).mono ?_
    rintro e' w' ⟨rfl, ⟨a', e1, p1, q1, q2, q3, q4⟩, q5⟩
    refine ⟨rfl, S, ⟨upd key i k, a', m, sb, p1, e1, .slice (some ⟨tb, 0, none⟩) m c, fun l kl => ?_, q2, q3, h4, q1.1, .inr ⟨tb, c, rfl, q1.2.1⟩, q1.2.2.1, h5, h6, h7, hS⟩, fun k hk => .inl hk, q5.mono (fun x hx => .inl ((hS x).2 (.inr ?_)))⟩
    · rw [q4 l]
      by_cases el : l = i
      · subst el
        rw [upd_same, upd_same]
        exact ⟨fun e => ⟨⟨j, hj, haj⟩, by injection e with e; exact e.symm⟩, fun e => by rw [e.2]⟩
      · rw [upd_other _ _ _ _ el, upd_other _ _ _ _ el]
        exact h1 l kl
    · rcases hx with rfl | rfl
      · exact .inl rfl
      · exact .inr rfl
  · have hp : p i = 0 := h2.out i hi (fun j hj e => hm ⟨j, hj, e⟩)
    have hlt : m < n := by
      have hm2 := h2.more (k := k) hm hi
      have := cnt_of (f := upd f i (some k)) hm2 (fun l kl => by
        rw [mem_more l]
        by_cases el : l = i
        · subst el
          rw [upd_same, upd_same]
          exact ⟨fun e => ⟨.inr rfl, by injection e with e; exact e.symm⟩, fun e => by rw [e.2]⟩
        · rw [upd_other _ _ _ _ el, upd_other _ _ _ _ el, h1 l kl]
          exact ⟨fun ⟨x, y⟩ => ⟨.inl x, y⟩, fun ⟨x, y⟩ => ⟨x.resolve_right el, y⟩⟩)
      have h8 := cnt_le n (upd f i (some k))
      omega
    refine (put_new g sb n m i k tv e p w hr ht hs h5 h6 h7 hi hp hlt h4 key a h2 h3 hm).mono ?_
    rintro e' w' ⟨rfl, ⟨tb, c, a', e1, p1, q1, q2, q3, q4, q6⟩, q5⟩
    have el : tb ≠ g := fun e => q1.2.2.2.1 e.symm
    refine ⟨rfl, fun x => x = g ∨ tb = x ∨ x = sb, ⟨upd key i k, a', m + 1, sb, p1, e1, .slice (some ⟨tb, 0, none⟩) (m + 1) c, fun l kl => ?_, q2, q3, h4, q1.1, .inr ⟨tb, c, rfl, q1.2.1⟩, q1.2.2.1, h5, ?_, ?_, fun x => by simp [Value.ownBlock]⟩, fun x hx => ?_, q5.mono (fun x hx => .inl ((hS x).2 hx))⟩
    · rw [q4 l]
      by_cases el : l = i
      · subst el
        rw [upd_same, upd_same]
        exact ⟨fun e => ⟨.inr rfl, by injection e with e; exact e.symm⟩, fun e => by rw [e.2]⟩
      · rw [upd_other _ _ _ _ el, upd_other _ _ _ _ el, h1 l kl]
        exact ⟨fun ⟨x, y⟩ => ⟨.inl x, y⟩, fun ⟨x, y⟩ => ⟨x.resolve_right el, y⟩⟩
    · intro e; injection e with e; exact el e
    · intro e; injection e with e; exact q1.2.2.2.2.2.1 e
    · rcases hx with rfl | rfl | rfl
      · exact .inl ((hS _).2 (.inl rfl))
      · rcases q6 with q | q
        · exact .inl ((hS _).2 (.inr (.inl q)))
        · exact .inr q
      · exact .inl ((hS _).2 (.inr (.inr rfl)))
theorem set_in (g n i : Nat) (S : Nat → Prop) (f : Nat → Option Int) (k : Int) (w : World) (h : Hq w g S n f) (hi : i < n) : Calls Tryz.prog 89 #[ptr g, .int .i64 i, .int .i64 k] w fun e w' => e = .returned (.bool true) ∧ Did w g n S (upd f i (some k)) w' := by
  have HP := Lib.hid (put_any g n i S f k w h hi)
  obtain ⟨key, a, m, sb, p, e, tv, h1, h2, h3, h4, hr, ht, hs, h5, h6, h7, hS⟩ := h
  have HC := Lib.hid (knows_in g sb n i tv w hr hi)
  clear h1 h2 h3 h4 hr ht hs h5 h6 h7 hS
  go_enter Tryz.func89, Tryz.ntmps89
  go_wp2_with fail
  refine HC.out.mono ?_
  rintro e w1 ⟨rfl, rfl⟩
  go_wp2_with fail
  refine HP.out.mono ?_
  rintro e w2 ⟨rfl, hd⟩
  have HD := Lib.hid hd
  clear hd
  go_wp2
  go_ret
  exact ⟨rfl, HD.out⟩
end Go.Proofs.YtdkpdmpghibmmaaGreat.Hp

/- Walks: the heap's First, Drop, Pop, Key, Len, Clear, New. -/
namespace Go.Proofs.YtdkpdmpghibmmaaGreat.Hp
set_option maxRecDepth 100000
open Go.RowKit Hp

/-- i with the key k comes first. -/
def isFirst (f : Nat → Option Int) (i : Nat) (k : Int) : Prop := f i = some k ∧ ∀ j k', f j = some k' → k < k' ∨ (k = k' ∧ i ≤ j)
def told (i k : Int) (b : Bool) : Value := .tuple #[.int .i64 i, .int .i64 k, .bool b]
/-- What First tells. -/
def FirstV (f : Nat → Option Int) (v : Value) : Prop := (v = told 0 0 false ∧ ∀ i, f i = none) ∨ ∃ (i : Nat) (k : Int), v = told i k true ∧ isFirst f i k

theorem Did.after {w w1 w2 : World} {g : Nat} {S : Nat → Prop} {n : Nat} {f : Nat → Option Int} (h : Did w1 g n S f w2) (hb : Below w.heap.size w w1) : Did w g n S f w2 := by
  obtain ⟨S2, q1, q2, q3⟩ := h
  have := hb.size
  exact ⟨S2, q1, fun k hk => (q2 k hk).imp id (fun h => by omega), (Only.of_below S hb).trans q3 (fun i hi => .inl hi)⟩
theorem Did.then_below {w w1 w2 : World} {g : Nat} {S : Nat → Prop} {n : Nat} {f : Nat → Option Int} (h : Did w g n S f w1) (hb : Below w1.heap.size w1 w2) : Did w g n S f w2 := by
  obtain ⟨S2, q1, q2, q3⟩ := h
  exact ⟨S2, q1.below hb, q2, q3.trans (S' := fun _ => False) (Only.of_below _ hb) (fun _ f => f.elim)⟩
theorem TreeV.shape {w : World} {tv : Value} {m : Nat} {e : Nat → Int × Nat} (h : TreeV w tv m e) : ∃ a c, tv = .slice a m c := by
  rcases h with ⟨rfl, rfl⟩ | ⟨tb, c, rfl, _⟩
  · exact ⟨_, _, rfl⟩
  · exact ⟨_, _, rfl⟩
theorem first_any (g n : Nat) (S : Nat → Prop) (f : Nat → Option Int) (w : World) (h : Hq w g S n f) : Calls Tryz.prog 122 #[ptr g] w fun e w' => (∃ v, e = .returned v ∧ FirstV f v) ∧ Below w.heap.size w w' := by
  obtain ⟨key, a, m, sb, p, e, tv, h1, h2, h3, h4, hr, ht, hs, h5, h6, h7, hS⟩ := h
  by_cases hm : m = 0
  · have HV := Lib.hid (show FirstV f (told 0 0 false) from .inl ⟨rfl, fun i => by
      cases hf : f i with
      | none => rfl
      | some k => obtain ⟨⟨j, hj, _⟩, _⟩ := (h1 i k).1 hf; omega⟩)
    obtain ⟨x, c, rfl⟩ := ht.shape
    subst hm
    have HC := Lib.hid (size_any g 0 c x _ w hr)
    clear h1 h2 h3 h4 hr ht hs h5 h6 h7 hS
    go_enter Tryz.func122, Tryz.ntmps122
    go_wp2_with fail
    refine HC.out.mono ?_
    rintro e w1 ⟨rfl, rfl⟩
    go_wp2
    go_ret3
    exact ⟨⟨_, rfl, HV.out⟩, Below.refl _ _⟩
  · obtain ⟨tb, c, rfl, hT⟩ := ht.some (by omega)
    have HV := Lib.hid (show FirstV f (told (a 0) (key (a 0)) true) from .inr ⟨a 0, key (a 0), rfl, (h1 _ _).2 ⟨⟨0, by omega, rfl⟩, rfl⟩, fun j k' hj => by
      obtain ⟨⟨l, hl, rfl⟩, rfl⟩ := (h1 j k').1 hj
      have := h3.first l hl
      unfold Hp.lt at this
      omega⟩)
    have HC := Lib.hid (size_any g m c _ _ w hr)
    have hat := at_in g tb c m 0 _ e w hr hT (by omega)
    rw [h2.ent 0 (by omega) (by omega)] at hat
    have HA := Lib.hid hat
    have hm' : ((m : Int) == 0) = false := by simp; omega
    clear h1 h2 h3 h4 hr ht hs h5 h6 h7 hS hT hat
    generalize a 0 = i0 at *
    generalize key i0 = k0 at *
    go_enter Tryz.func122, Tryz.ntmps122
    go_wp2_with fail
    refine HC.out.mono ?_
    rintro e w1 ⟨rfl, rfl⟩
    go_wp2_with fail
    refine HA.out.mono ?_
    rintro e w2 ⟨rfl, hb⟩
    have HB := Lib.hid hb
    clear hb
    go_wp2
    go_quiet (fail)
    go_wp2
    go_ret3
    exact ⟨⟨_, rfl, HV.out⟩, (HB.out.alloc HB.out.size _).trans ⟨rfl, rfl, rfl, Nat.le_refl _, fun _ _ => rfl⟩⟩
theorem drop_out (g n : Nat) (S : Nat → Prop) (f : Nat → Option Int) (z : Int) (w : World) (h : Hq w g S n f) (hz : z < 0 ∨ (n : Int) ≤ z) : Calls Tryz.prog 123 #[ptr g, .int .i64 z] w fun e w' => e = .returned (.bool false) ∧ w' = w := by
  obtain ⟨key, a, m, sb, p, e, tv, h1, h2, h3, h4, hr, ht, hs, h5, h6, h7, hS⟩ := h
  have HC := Lib.hid (holds_out g sb n z tv w hr hz)
  clear h1 h2 h3 h4 hr ht hs h5 h6 h7 hS hz
  go_enter Tryz.func123, Tryz.ntmps123
  go_wp2_with fail
  refine HC.out.mono ?_
  rintro e w1 ⟨rfl, rfl⟩
  go_wp2
  go_ret
  exact ⟨rfl, rfl⟩
theorem drop_no (g n i : Nat) (S : Nat → Prop) (f : Nat → Option Int) (w : World) (h : Hq w g S n f) (hi : i < n) (hf : f i = none) : Calls Tryz.prog 123 #[ptr g, .int .i64 i] w fun e w' => e = .returned (.bool false) ∧ w' = w := by
  obtain ⟨key, a, m, sb, p, e, tv, h1, h2, h3, h4, hr, ht, hs, h5, h6, h7, hS⟩ := h
  have HC := Lib.hid (holds_no g sb n i tv p w hr hs hi (h2.out i hi (fun j hj e1 => by have := (h1 i (key i)).2 ⟨⟨j, hj, e1⟩, rfl⟩; rw [hf] at this; cases this)))
  clear h1 h2 h3 h4 hr ht hs h5 h6 h7 hS hf
  go_enter Tryz.func123, Tryz.ntmps123
  go_wp2_with fail
  refine HC.out.mono ?_
  rintro e w1 ⟨rfl, rfl⟩
  go_wp2
  go_ret
  exact ⟨rfl, rfl⟩
theorem drop_yes (g n i : Nat) (S : Nat → Prop) (f : Nat → Option Int) (k : Int) (w : World) (h : Hq w g S n f) (hf : f i = some k) : Calls Tryz.prog 123 #[ptr g, .int .i64 i] w fun e w' => e = .returned (.bool true) ∧ Did w g n S (upd f i none) w' := by
  have hi := h.some_lt hf
  obtain ⟨key, a, m, sb, p, e, tv, h1, h2, h3, h4, hr, ht, hs, h5, h6, h7, hS⟩ := h
  obtain ⟨⟨j, hj, haj⟩, _⟩ := (h1 i k).1 hf
  have hmn : m ≤ n := by rw [← cnt_of h2 h1]; exact cnt_le n f
  obtain ⟨tb, c, rfl, hT⟩ := ht.some (by omega)
  have e6 : g ≠ tb := fun e => h6 (by rw [e]; rfl)
  have e7 : tb ≠ sb := fun e => h7 (by rw [e]; rfl)
  have hp : p i = j + 1 := by rw [← haj]; exact h2.pos j hj (by omega)
  have HC := Lib.hid (holds_yes g sb n i j _ p w hr hs hi hp)
  obtain ⟨m, rfl⟩ : ∃ m', m = m' + 1 := ⟨m - 1, by omega⟩
  have HM := Lib.hid ((remove_any g tb sb c n m i j e p w ⟨hr, hT, hs, e6, h5, e7, h4, hmn⟩ hi hj key a h2 h3 haj).mono (R' := fun e' w' => e' = .returned (.tuple #[]) ∧ Did w g n S (upd f i none) w') (by
    rintro e' w' ⟨rfl, ⟨a', e1, p1, q1, q2, q3, q4⟩, q5⟩
    refine ⟨rfl, S, ⟨key, a', m, sb, p1, e1, .slice (some ⟨tb, 0, none⟩) m c, fun l kl => ?_, q2, q3, h4, q1.1, .inr ⟨tb, c, rfl, q1.2.1⟩, q1.2.2.1, h5, h6, h7, hS⟩, fun k hk => .inl hk, q5.mono (fun x hx => .inl ((hS x).2 ?_))⟩
    · rw [q4 l]
      by_cases el : l = i
      · subst el
        rw [upd_same]
        exact ⟨(fun e => by cases e), fun e => absurd rfl e.1.2⟩
      · rw [upd_other _ _ _ _ el, h1 l kl]
        exact ⟨fun ⟨x, y⟩ => ⟨⟨x, el⟩, y⟩, fun ⟨x, y⟩ => ⟨x.1, y⟩⟩
    · rcases hx with rfl | rfl | rfl
      · exact .inl rfl
      · exact .inr (.inl rfl)
      · exact .inr (.inr rfl)))
  clear h1 h2 h3 h4 hr ht hs h5 h6 h7 hS hf hT hp haj e6 e7
  go_enter Tryz.func123, Tryz.ntmps123
  go_wp2_with fail
  refine HC.out.mono ?_
  rintro e w1 ⟨rfl, rfl⟩
  go_wp2_with fail
  refine HM.out.mono ?_
  rintro e w2 ⟨rfl, hd⟩
  have HD := Lib.hid hd
  clear hd
  go_wp2
  go_ret
  exact ⟨rfl, HD.out⟩
theorem pop_any (g n : Nat) (S : Nat → Prop) (f : Nat → Option Int) (w : World) (h : Hq w g S n f) : Calls Tryz.prog 90 #[ptr g] w fun e w' =>
    (e = .returned (told 0 0 false) ∧ (∀ i, f i = none) ∧ Did w g n S f w') ∨ ∃ (i : Nat) (k : Int), e = .returned (told i k true) ∧ isFirst f i k ∧ Did w g n S (upd f i none) w' := by
  have HH := Lib.hid h
  clear h
  go_enter Tryz.func90, Tryz.ntmps90
  go_wp2_with fail
  refine (first_any g n S f w HH.out).mono ?_
  rintro e w1 ⟨⟨v, rfl, hv⟩, hb⟩
  have HB := Lib.hid hb
  clear hb
  rcases hv with ⟨rfl, hv⟩ | ⟨i, k, rfl, hv⟩
  · have HV := Lib.hid hv
    clear hv
    unfold told
    go_wp2
    go_ret3
    exact .inl ⟨rfl, HV.out, Did.refl HH.out HB.out⟩
  · have HV := Lib.hid hv
    clear hv
    unfold told
    go_wp2_with fail
    refine (drop_yes g n i S f k w1 (HH.out.below HB.out) HV.out.1).mono ?_
    rintro e w2 ⟨rfl, hd⟩
    have HD := Lib.hid hd
    clear hd
    go_wp2
    go_ret3
    refine .inr ⟨i, k, rfl, HV.out, ?_⟩
    exact HD.out.after HB.out
theorem run_field_key (k : Int) (i : Nat) (W : World) : (Instr.field 182 (.agg #[.int .i64 k, .int .i64 i]) 0).run Tryz.prog W = .ok (.int .i64 k) W := by
  simp [Instr.field, asAgg, go_sem]
def keyed (k : Int) (b : Bool) : Value := .tuple #[.int .i64 k, .bool b]
theorem key_out (g n : Nat) (S : Nat → Prop) (f : Nat → Option Int) (z : Int) (w : World) (h : Hq w g S n f) (hz : z < 0 ∨ (n : Int) ≤ z) : Calls Tryz.prog 135 #[ptr g, .int .i64 z] w fun e w' => e = .returned (keyed 0 false) ∧ w' = w := by
  obtain ⟨key, a, m, sb, p, e, tv, h1, h2, h3, h4, hr, ht, hs, h5, h6, h7, hS⟩ := h
  have HC := Lib.hid (holds_out g sb n z tv w hr hz)
  clear h1 h2 h3 h4 hr ht hs h5 h6 h7 hS hz
  go_enter Tryz.func135, Tryz.ntmps135
  go_wp2_with fail
  refine HC.out.mono ?_
  rintro e w1 ⟨rfl, rfl⟩
  go_wp2
  go_ret2
  exact ⟨rfl, rfl⟩
theorem key_no (g n i : Nat) (S : Nat → Prop) (f : Nat → Option Int) (w : World) (h : Hq w g S n f) (hi : i < n) (hf : f i = none) : Calls Tryz.prog 135 #[ptr g, .int .i64 i] w fun e w' => e = .returned (keyed 0 false) ∧ w' = w := by
  obtain ⟨key, a, m, sb, p, e, tv, h1, h2, h3, h4, hr, ht, hs, h5, h6, h7, hS⟩ := h
  have HC := Lib.hid (holds_no g sb n i tv p w hr hs hi (h2.out i hi (fun j hj e1 => by have := (h1 i (key i)).2 ⟨⟨j, hj, e1⟩, rfl⟩; rw [hf] at this; cases this)))
  clear h1 h2 h3 h4 hr ht hs h5 h6 h7 hS hf
  go_enter Tryz.func135, Tryz.ntmps135
  go_wp2_with fail
  refine HC.out.mono ?_
  rintro e w1 ⟨rfl, rfl⟩
  go_wp2
  go_ret2
  exact ⟨rfl, rfl⟩
theorem key_yes (g n i : Nat) (S : Nat → Prop) (f : Nat → Option Int) (k : Int) (w : World) (h : Hq w g S n f) (hf : f i = some k) : Calls Tryz.prog 135 #[ptr g, .int .i64 i] w fun e w' => e = .returned (keyed k true) ∧ Below w.heap.size w w' := by
  have hi := h.some_lt hf
  obtain ⟨key, a, m, sb, p, e, tv, h1, h2, h3, h4, hr, ht, hs, h5, h6, h7, hS⟩ := h
  obtain ⟨⟨j, hj, haj⟩, hk⟩ := (h1 i k).1 hf
  have hmn : m ≤ n := by rw [← cnt_of h2 h1]; exact cnt_le n f
  obtain ⟨tb, c, rfl, hT⟩ := ht.some (by omega)
  have hp : p i = j + 1 := by rw [← haj]; exact h2.pos j hj (by omega)
  have HC := Lib.hid (holds_yes g sb n i j _ p w hr hs hi hp)
  have HS := Lib.hid (show ∀ W, Above w W → Calls Tryz.prog 139 #[ptr g, .int .i64 i] W fun e w' => e = .returned (.int .i64 j) ∧ w' = W from fun W hW => spot_in g sb n i _ p W (hr.under hW hr.lt) (hs.only (S := fun _ => False) (Only.of_below _ hW) (fun f => f)) hi j hp (by omega))
  have HA := Lib.hid (show ∀ W, Above w W → Calls Tryz.prog 141 #[ptr g, .int .i64 j] W fun e w' => e = .returned (ent k i) ∧ Below W.heap.size W w' from fun W hW => by
    have := at_in g tb c m j _ e W (hr.under hW hr.lt) (hT.only (S := fun _ => False) (Only.of_below _ hW) (fun f => f)) hj
    rw [h2.ent j hj (by omega), haj, ← hk] at this
    exact this)
  clear h1 h2 h3 h4 hr ht hs h5 h6 h7 hS hf hT hp haj hk
  go_enter Tryz.func135, Tryz.ntmps135
  go_wp2_with fail
  refine HC.out.mono ?_
  rintro e w1 ⟨rfl, rfl⟩
  go_wp2
  refine region_in (Above w1) (by kernel_rfl) (by kernel_rfl) (Above.start w1) ?_
  refine in_pure (o := ⟨some 16, _, _, _, _, _⟩) rfl ?_ (fun W hW => by go_simp; with_reducible rfl) ?_
  simp only [Act.put, List.setIfInBounds_toArray, List.set_cons_zero, List.set_cons_succ]
  refine in_pure (o := ⟨some 17, _, _, _, _, _⟩) rfl ?_ (fun W hW => by go_simp; with_reducible rfl) ?_
  simp only [Act.put, List.setIfInBounds_toArray, List.set_cons_zero, List.set_cons_succ]
  refine in_pure (o := ⟨some 18, _, _, _, _, _⟩) rfl ?_ (fun W hW => by go_simp; with_reducible rfl) ?_
  simp only [Act.put, List.setIfInBounds_toArray, List.set_cons_zero, List.set_cons_succ]
  refine in_pure (o := ⟨some 19, _, _, _, _, _⟩) rfl ?_ (fun W hW => by go_simp; with_reducible rfl) ?_
  simp only [Act.put, List.setIfInBounds_toArray, List.set_cons_zero, List.set_cons_succ]
  refine in_pure (o := ⟨some 20, _, _, _, _, _⟩) rfl ?_ (fun W hW => by go_simp; with_reducible rfl) ?_
  simp only [Act.put, List.setIfInBounds_toArray, List.set_cons_zero, List.set_cons_succ]
  refine in_pure (o := ⟨some 21, _, _, _, _, _⟩) rfl ?_ (fun W hW => by go_simp; with_reducible rfl) ?_
  simp only [Act.put, List.setIfInBounds_toArray, List.set_cons_zero, List.set_cons_succ]
  refine in_pure (o := ⟨some 22, _, _, _, _, _⟩) rfl ?_ (fun W hW => by go_simp; with_reducible rfl) ?_
  simp only [Act.put, List.setIfInBounds_toArray, List.set_cons_zero, List.set_cons_succ]
  refine in_call (o := ⟨some 23, _, _, _, _, _⟩) rfl 139 _ (.int .i64 j) (fun W hW => by go_simp) (fun W hW => (HS.out W hW).mono (fun e w' ⟨he, hb⟩ => ⟨he, hb ▸ hW⟩)) ?_
  simp only [Act.put, List.setIfInBounds_toArray, List.set_cons_zero, List.set_cons_succ]
  refine in_call (o := ⟨some 24, _, _, _, _, _⟩) rfl 141 _ (.agg #[.int .i64 k, .int .i64 i]) (fun W hW => by go_simp) (fun W hW => (HA.out W hW).mono (fun e w' ⟨he, hb⟩ => ⟨he, Above.call hW hb⟩)) ?_
  simp only [Act.put, List.setIfInBounds_toArray, List.set_cons_zero, List.set_cons_succ]
  refine in_pure (o := ⟨some 25, _, _, _, _, _⟩) rfl ?_ (fun W hW => by go_simp; rw [run_field_key, Result.andThen_ok]) ?_
  simp only [Act.put, List.setIfInBounds_toArray, List.set_cons_zero, List.set_cons_succ]
  refine in_pure (o := ⟨some 4, _, _, _, _, _⟩) rfl ?_ (fun W hW => by go_simp; with_reducible rfl) ?_
  simp only [Act.put, List.setIfInBounds_toArray, List.set_cons_zero, List.set_cons_succ]
  refine in_pure (o := ⟨some 5, _, _, _, _, _⟩) rfl ?_ (fun W hW => by go_simp; with_reducible rfl) ?_
  simp only [Act.put, List.setIfInBounds_toArray, List.set_cons_zero, List.set_cons_succ]
  refine wpQuiet_nil fun w5 hb5 => ?_
  have HB := Lib.hid hb5
  clear hb5
  go_wp2
  go_ret2
  exact ⟨rfl, HB.out⟩
theorem new_out (z : Int) (w : World) (hz : z < 0 ∨ 16777216 < z) : Calls Tryz.prog 88 #[.int .i64 z] w fun e w' => e = .returned (.pointer none) ∧ w' = w := by
  rcases hz with hz | hz
  · go_enter Tryz.func88, Tryz.ntmps88
    go_wp2
    go_ret
    exact ⟨rfl, rfl⟩
  · have h0 : ¬ z < 0 := by omega
    go_enter Tryz.func88, Tryz.ntmps88
    go_wp2
    go_ret
    exact ⟨rfl, rfl⟩
theorem info64 : (Tryz.prog.info? 3).map (fun i => (i.zero, i.size, i.bytes)) = some (some (.int .i64 0), 1, 8) := by kernel_rfl
/-- 'make([]int, n)'. -/
theorem wpList_makeZ {w : World} {ops : Array Oper} {rest : List Oper} {o : Oper} {a : Act} {Q : Exit → Act → World → Prop} (hgd : o.guard = none) (x y : Operand) (ho : o.op = .makeSlice 33 x y)
    (n : Nat) (hx : a.eval x = .int .i64 n) (hy : a.eval y = .int .i64 n) (hn : n ≤ 10000000000)
    (h : ∀ w', Hid (Row w' w.heap.size 3 (List.replicate n (Value.int .i64 0)).toArray) → Hid (w' = w.alloc (.cells (List.replicate n (Value.int .i64 0)).toArray 3)) → wpList Tryz.prog ops Q rest (a.put o.dst (.slice (some ⟨w.heap.size, 0, none⟩) n n)) w') : wpList Tryz.prog ops Q (o :: rest) a w := by
  have h := h _ (Row.fresh w _ _) rfl
  obtain ⟨i, hi, hz0, hz1, hz2⟩ := info_partsE info64
  refine wpList_plain hgd fun K' hK' => ?_
  have hr := run_make (P := Tryz.prog) w 33 3 i (.int .i64 0) Tryz.underlying33 hi hz0 .i64 .i64 n n (by omega) (by omega) (by rw [hz2]; omega) (by omega)
  have e : (madeCells (Value.int IntKind.i64 0).cells ((n : Int).toNat * i.size)) = (List.replicate n (Value.int .i64 0)).toArray := by
    rw [hz1]
    apply Array.toList_inj.1
    have e1 : (Value.int IntKind.i64 0).cells = #[Value.int IntKind.i64 0] := rfl
    rw [e1, toList_madeCells_one]
    simp
  rw [e] at hr
  unfold Oper.wp execOp
  simp only [ho, hx, hy, Sem.run_bind, hr, Result.andThen_ok, Sem.run_pure]
  exact hK' _ _ h
/-- A new heap in block g. -/
def Newed (w : World) (n g : Nat) (w' : World) : Prop := ∃ S, Hq w' g S n (fun _ => none) ∧ (∀ k, S k → w.heap.size ≤ k) ∧ Below w.heap.size w w'
theorem new_in (n : Nat) (w : World) (hn : n ≤ 16777216) : Calls Tryz.prog 88 #[.int .i64 n] w fun e w' => ∃ g, e = .returned (ptr g) ∧ Newed w n g w' := by
  have hn' : ¬ (16777216 : Int) < (n : Int) := by omega
  have hd : decide ((16777216 : Int) < (n : Int)) = false := decide_eq_false hn'
  go_enter Tryz.func88, Tryz.ntmps88
  go_wp2_with ((with_reducible show wpList _ _ _ (Oper.mk _ (Op.makeSlice _ _ _) _ _ _ _ :: _) _ _); refine wpList_makeZ rfl _ _ rfl n rfl rfl ?_ ?_; omega; intro w1 HR HW1)
  go_ret
  have hb1 : Below w.heap.size w w1 := by rw [HW1.out]; exact (Below.refl _ _).alloc (Nat.le_refl _) _
  have hz : w1.heap.size = w.heap.size + 1 := by rw [HW1.out]; simp
  refine ⟨w1.heap.size, rfl, fun k => k = w1.heap.size ∨ k = w.heap.size, ⟨fun _ => 0, fun _ => 0, 0, w.heap.size, fun _ => 0, fun _ => (0, 0), .slice none 0 0, fun i k => ⟨(fun e => by cases e), fun ⟨⟨j, hj, _⟩, _⟩ => by omega⟩, ⟨fun j hj => by omega, fun j hj => by omega, fun i j hi => by omega, fun j hj => by omega, fun i hi _ => rfl⟩, fun j _ hj => by omega, hn, Row.fresh w1 _ _, .inl ⟨rfl, rfl⟩, ⟨_, HR.out.past _, by simp, fun i hi => by simp [hi]⟩, by omega, by simp [Value.ownBlock], by simp [Value.ownBlock], fun k => by simp [Value.ownBlock]⟩, fun k hk => by rcases hk with rfl | rfl <;> omega, hb1.alloc (by omega) _⟩
end Go.Proofs.YtdkpdmpghibmmaaGreat.Hp

