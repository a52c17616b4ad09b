/- dist.Around: the walk (written by mkdsj.py). -/
import Derived.Test.YthljgkaigjokjaaM7
namespace Go.Proofs.Ythljgkaigjokjaa
open Go.RowKit Go.Shelf Grm Lay Go.Sort
attribute [local go_sem] Oper.semAt_some
structure ArM (w : World) (K mb lb : Nat) (most : Int) (v : Value) (xs : List Int) (W : World) : Prop where
  mv : Row W mb 3 #[.int .i64 most]
  lv : Row W lb 43 #[v]
  own : W.ownsRow K 3 1 v xs.length (xs.map (Value.int .i64))
  bw : Below w.heap.size w W
theorem ArM.only {S : Nat → Prop} {w W W' : World} {K mb lb : Nat} {most : Int} {v : Value} {xs : List Int} (h : ArM w K mb lb most v xs W) (ho : Only S W W') (hS : ∀ k, S k → w.heap.size ≤ k ∧ k ≠ mb ∧ k ≠ lb ∧ v.ownBlock ≠ some k) : ArM w K mb lb most v xs W' :=
  ⟨h.mv.only ho (fun q => (hS _ q).2.1 rfl), h.lv.only ho (fun q => (hS _ q).2.2.1 rfl), owns_only h.own ho (fun k q s => (hS k s).2.2.2 q), h.bw.trans (ho.below (K := w.heap.size) (fun k q => (hS _ q).1) h.bw.size)⟩
def ArI (w : World) (K mb lb : Nat) (most : Int) (L : List Int) (pre : List (Nat × Int)) (T : Foot) (W : World) : Prop := ∃ v, ArM w K mb lb most v (fstI pre) W ∧ (∀ k, v.ownBlock = some k → T k) ∧ Good L most pre
def ArX (w : World) (K mb lb : Nat) (most : Int) (L : List Int) (c : Code) (_ : List (Nat × Int)) (T : Foot) (W : World) : Prop := c = .exit 0 ∧ ∃ v xs, ArM w K mb lb most v xs W ∧ (∀ k, v.ownBlock = some k → T k) ∧ xs.mergeSort (fun x y => decide (x ≤ y)) = aroundL L most ∧ xs.length ≤ 16777216
theorem ArI.abide {w : World} {K mb lb B : Nat} {most : Int} {L : List Int} (hB : w.heap.size ≤ B ∧ mb < B ∧ lb < B) : Abide B (ArI w K mb lb most L) := by
  rintro pre T A A' ⟨v, h, h2, h3⟩ _ ho
  exact ⟨v, h.only ho (fun k q => ⟨by omega, by omega, by omega, fun e => q.2 (h2 k e)⟩), h2, h3⟩
theorem ArX.abide {w : World} {K mb lb B : Nat} {most : Int} {L : List Int} (hB : w.heap.size ≤ B ∧ mb < B ∧ lb < B) (c : Code) : Abide B (ArX w K mb lb most L c) := by
  rintro pre T A A' ⟨h1, v, xs, h, h2, h3⟩ _ ho
  exact ⟨h1, v, xs, h.only ho (fun k q => ⟨by omega, by omega, by omega, fun e => q.2 (h2 k e)⟩), h2, h3⟩
theorem fstI_len (pre : List (Nat × Int)) : (fstI pre).length = pre.length := by simp [fstI]
theorem fstI_snoc (pre : List (Nat × Int)) (x : Nat × Int) : fstI (pre ++ [x]) = fstI pre ++ [((x.1 : Nat) : Int)] := by simp [fstI]
theorem news1 (w : World) (a : Value) (t : TypeId) : ∀ (j : Nat) (u : Value), [a][j]? = some u → (w.alloc (.cells #[a] t)).cell? ((⟨w.heap.size, 0, none⟩ : Addr).add j) = some u := by
  intro j u h
  rw [add_zero_addr, (Row.fresh w t #[a]).cell j]
  simpa using h
set_option maxRecDepth 100000 in
set_option maxHeartbeats 4000000 in
theorem around_any {w : World} {B N : Nat} {s most : Int} {p : Value} {l : List Ar} {L : List Int} (h : GV w B p N l) (hB : B ≤ w.heap.size) (hL : FarI (arcE l) N s L) :
    Calls Try.prog 40 #[p, .int .i64 s, .int .i64 most] w fun e w' => Below w.heap.size w w' ∧ ∃ x, e = .returned x ∧ IsV w' w.heap.size x (aroundL L most) := by
  have hN := Lib.hid (fun w' (hb : Below w.heap.size w w') => n_gv (h.under hb))
  have HIt := Lib.hid (near_it_out (h.more hB) (Nat.le_refl _))
  have HE := Lib.hid (And.intro (eds_out h.ok.1 h.ok.2.1) h.ok.2.2.1)
  have HL := Lib.hid (hL.same (same_out h.ok.1 h.ok.2.1).symm)
  have hp : ∃ q, p = .pointer q := by
    rcases h with ⟨rfl, _⟩ | ⟨K, M, g, rfl, _⟩
    · exact ⟨_, rfl⟩
    · exact ⟨_, rfl⟩
  obtain ⟨q, rfl⟩ := hp
  clear h hB hL
  refine (callsIn_wide (n := 6)).1 ?_
  refine callsIn_of_wp_marks Try.func40 rfl trivial ?_ rfl
  simp only [Try.ntmps40, List.size_toArray, List.length_cons, List.length_nil, Nat.reduceAdd, Nat.reduceSub, Array.replicate_succ, Array.replicate_zero, List.push_toArray, List.append_toArray, List.nil_append, List.cons_append]
  refine wpIn_mono ?_ noP_le
  rw [wpIn_wide]
  obtain ⟨w1, hw1⟩ : ∃ w1, w1 = (w.alloc (.cells #[.int .i64 most] 3)).alloc (.cells #[.slice none 0 0] 43) := ⟨_, rfl⟩
  have hb1 : Below w.heap.size w w1 := by
    rw [hw1]
    exact ((Below.refl _ _).alloc (Nat.le_refl _) _).alloc (by rw [World.size_alloc]; omega) _
  have hs1 : w1.heap.size = w.heap.size + 2 := by rw [hw1]; simp
  have ht1 : Row w1 w.heap.size 3 #[.int .i64 most] := by
    rw [hw1]
    exact (Row.fresh w _ _).past _
  have hr1 : Row w1 (w.heap.size + 1) 43 #[.slice none 0 0] := by
    rw [hw1]
    have h := Row.fresh (w.alloc (.cells #[.int .i64 most] 3)) 43 #[.slice none 0 0]
    rw [World.size_alloc] at h
    exact h
  have H1 := Lib.hid (And.intro hb1 (And.intro hs1 (And.intro ht1 hr1)))
  have HW1 := Lib.hid hw1
  clear hb1 hs1 ht1 hr1 hw1
  go_wp2_with (first | (go_at_call 19; rw [← HW1.out]; refine (hN.out w1 H1.out.1).mono ?_; rintro e w3 ⟨rfl, rfl⟩) | (go_at_call 59; refine (nearest_pack N s _ _ _).mono ?_; rintro e w4 ⟨bn, bs, bx, rfl, H4⟩))
  have hs1 := H1.out.2.1
  have hz4 := H4.out.2.2.2.2.size
  have hb4 := H4.out.1
  have hbb : Below w.heap.size w w4 := H1.out.1.trans (H4.out.2.2.2.2.mono (by omega))
  have hI : ArI w w4.heap.size w.heap.size (w.heap.size + 1) most L [] (fun _ => False) w4 := ⟨_, ⟨H1.out.2.2.1.under H4.out.2.2.2.2 (by omega), H1.out.2.2.2.under H4.out.2.2.2.2 (by omega), World.ownsRow_nil _ _ _ _, hbb⟩, fun k e => (by cases e), Good.nil _ _⟩
  have hseq := HIt.out w4 s bn bs bx (fun k => k = w.heap.size + 1) (6 - 1) hbb H4.out.2.1 H4.out.2.2.1 H4.out.2.2.2.1 (fun k e => by subst e; omega) (by omega)
  have HI := Lib.hid hI
  have HS := Lib.hid (show w.heap.size + 2 ≤ w4.heap.size by omega)
  have HSeq := Lib.hid hseq
  have hLN := HL.out.len
  have HLN := Lib.hid (Nat.le_trans hLN HE.out.2)
  clear hs1 hz4 hb4 hbb hI hseq hLN
  refine (wpIn_wide (n := 6)).1 ?_
  refine wpIn_rangeFunc_sep1 (F := Fence.wide) rfl (by omega) (gf := 74) (lb := #[ptr bn, ptr bs, ptr bx]) rfl trivial (enters_of Try.func74 (by kernel_rfl) rfl) HSeq.out (fun k h => by have := HS.out; omega) (fun _ => rfl)
    (ArI w w4.heap.size w.heap.size (w.heap.size + 1) most L) (ArX w w4.heap.size w.heap.size (w.heap.size + 1) most L) (ArI.abide (by have := HS.out; omega)) (fun c => ArX.abide (by have := HS.out; omega) c) HI.out (mk := ?mk) ?assign ?body ?done ?stop
  case assign =>
    intro l x W K hK
    gi_wp2
    exact hK
  case body =>
    rintro lb pre x T W ⟨v, hm, hvT, hgood⟩ hR hT hW
    obtain ⟨av, cv, rfl, hvc, hav⟩ := owns_shape hm.own
    rw [fstI_len] at *
    have t0 := hm.mv.cell 0
    have p0 := hm.lv.cell 0
    have m0 := hm.lv.thaw 0
    simp only [List.getElem?_toArray, List.getElem?_cons_zero] at t0 p0
    have hown : W.ownsRow w4.heap.size 3 1 (.slice av pre.length cv) pre.length ((fstI pre).map (Value.int .i64)) := by
      have h := hm.own
      rw [fstI_len] at h
      exact h
    have hlen := Nat.le_trans hgood.len HLN.out
    have hnext := fun e => hgood.snoc HE.out.1 HL.out hR e
    have hstop := fun e => around_stop HL.out hgood hR e
    have HQ := Lib.hid (And.intro hm (And.intro hown (And.intro hvT (And.intro hgood (And.intro hT (And.intro hW (And.intro hlen (And.intro hnext hstop))))))))
    clear hm hown hvT hgood hT hW hR hlen hnext hstop hvc hav
    by_cases h1 : most < x.2
    · have h1' : decide (most < x.2) = true := by simpa using h1
      have HH := Lib.hid h1
      clear h1
      gi_wp2
      exact ⟨T, ⟨rfl, _, fstI pre, HQ.out.1, HQ.out.2.2.1, HQ.out.2.2.2.2.2.2.2.2 HH.out, by rw [fstI_len]; exact HQ.out.2.2.2.2.2.2.1⟩, Ext.refl _ _ _ (fun k h => (HQ.out.2.2.2.2.1 k h).2)⟩
    · have h1' : decide (most < x.2) = false := by simpa using h1
      have HH := Lib.hid h1
      clear h1
      obtain ⟨i0, hi, hz0, hz1, hz2⟩ := info_partsC infoIC
      gi_wp2_with (gi_at_builtin; refine wpListIn_append_own_at _ rfl _ _ 43 rfl w4.heap.size 3 i0 (.int .i64 0) 1 8 Try.underlying43 hi hz0 hz1 hz2 rfl (by decide) _ _ ((fstI pre).map (Value.int .i64)) rfl (HQ.out.2.1.alloc _) ⟨W.heap.size, 0, none⟩ 1 1 [.int .i64 (x.1 : Nat)] rfl rfl (news1 _ _ _) (by intro u hu; simp at hu; subst hu; rfl) (by unfold maxLen; have := HQ.out.2.2.2.2.2.2.1; omega) (by have := HQ.out.2.2.2.2.2.2.1; omega) (by have := HQ.out.2.2.2.2.2.1; simp; omega) ?_; intro v' w3 hown' hg3 _ hat3; obtain ⟨g', cap', rfl⟩ := ownsRow_succ hown'; have hb3 := ((HQ.out.1.lv.past (.cells #[.int .i64 (x.1 : Nat)] 3)).only (only_grown (S := fun k => (Value.slice av pre.length cv).ownBlock = some k) hg3 (fun k q => q)) (fun q => by have := (owns_lt HQ.out.2.1 _ q).1; have := HS.out; omega)); have p3 := hb3.cell 0; have m3 := hb3.thaw 0; have HA := Lib.hid (And.intro hown' (And.intro hg3 (And.intro hb3 hat3))); clear hown' hg3 hb3 hat3 p0 m0)
      have hTw := HQ.out.2.2.2.2.1
      have hs12 := HS.out
      have hgr : Only (fun q => q = w.heap.size + 1 ∨ T q) W (w3.setCell ⟨w.heap.size + 1, 0, none⟩ (.slice (some ⟨g', 0, none⟩) (pre.length + 1) cap')) := by
        refine Only.setCell (((Only.refl _ W).alloc _).grown HA.out.2.1 (fun q e => .inl (.inr (HQ.out.2.2.1 q e)))) (.inl (.inl rfl)) _
      refine ⟨_, ⟨.slice (some ⟨g', 0, none⟩) (pre.length + 1) cap', ⟨?_, ?_, ?_, ?_⟩, ?_, HQ.out.2.2.2.2.2.2.2.1 (by have := HH.out; omega)⟩, Ext.grow (fun q h => (hTw q h).2) hgr⟩
      · exact HQ.out.1.mv.only hgr (fun q => by rcases q with q | q; omega; have := (hTw _ q).1; omega)
      · have := HA.out.2.2.1.put 0 (.slice (some ⟨g', 0, none⟩) (pre.length + 1) cap')
        simpa using this
      · rw [fstI_len, List.length_append, fstI_snoc, List.map_append]
        exact owns_only HA.out.1 ((Only.refl (fun q => q = w.heap.size + 1) w3).setCell (p := ⟨w.heap.size + 1, 0, none⟩) (.inl rfl) _) (fun q e h => by have := (owns_lt HA.out.1 q e).1; omega)
      · exact HQ.out.1.bw.trans (hgr.below (K := w.heap.size) (fun q h => by
          rcases h with h | h
          · omega
          · have := (hTw q h).1
            omega) HQ.out.1.bw.size)
      · intro q e
        rcases HA.out.2.2.2 with h | h
        · exact .inl (HQ.out.2.2.1 q (h.symm.trans e))
        · right
          rw [e] at h
          injection h with h
          have h3 := (owns_lt HA.out.1 q e).2
          rw [World.size_alloc] at h
          refine ⟨by omega, ?_⟩
          simp only [World.setCell, Array.size_modify]
          exact h3
  case done =>
    rintro D pre T W hD hS ⟨v, hm, hvT, hgood⟩ hT hK
    obtain ⟨av, cv, rfl, hvc, hav⟩ := owns_shape hm.own
    obtain ⟨NN, hNN⟩ : ∃ NN, NN = (fstI pre).length := ⟨_, rfl⟩
    have p0 := hm.lv.cell 0
    simp only [List.getElem?_toArray, List.getElem?_cons_zero] at p0
    have hql : ∀ {w5}, Only (fun q => (Value.slice av (fstI pre).length cv).ownBlock = some q) W w5 → Row w5 (w.heap.size + 1) 43 #[.slice av (fstI pre).length cv] := fun ho => hm.lv.only ho (fun q => by have := (hT _ (hvT _ q)).1; have := HS.out; omega)
    have hlen := Nat.le_trans hgood.len HLN.out
    rw [← fstI_len] at hlen
    rw [← hNN] at hm p0 hvT
    have hql2 := @hql
    rw [← hNN] at hql2
    have HZ := Lib.hid (And.intro hm (And.intro hT (And.intro hK (And.intro hD (And.intro hvT (And.intro (around_done HL.out hgood hS) (And.intro hNN (And.intro hlen trivial))))))))
    have hQl := @hql2
    clear hm hT hK hD hS hvT hgood hlen hvc hav hql hql2 hNN
    go_wp2_with (go_at_call 55; refine (sort_any (HZ.out.1.own) HZ.out.2.2.2.2.2.2.1 HZ.out.2.2.2.2.2.2.2.1).mono ?_; rintro e w5 ⟨rfl, hso, hon⟩; have hl5 := hQl hon; have p5 := hl5.cell 0; simp only [List.getElem?_toArray, List.getElem?_cons_zero] at p5; have HSo := Lib.hid (And.intro hso (And.intro hon hl5)); clear hso hon hl5)
    refine noP_ret ?_
    have hs := HS.out
    have hD := HZ.out.2.2.2.1
    have hK' := (HSo.out.2.1.block D (Array.getElem?_eq_some_iff.1 HZ.out.2.2.1).1 (fun q => by have := HZ.out.2.1 D (HZ.out.2.2.2.2.1 D q); omega)).trans HZ.out.2.2.1
    refine ⟨by simp, .inl ⟨_, _, rfl, run_takeDeferred hK', ?_⟩⟩
    have ho : Only (fun k => k = D) w5 (w5.putObj D (.deferred none)) := Only.putObj _ rfl
    refine ⟨.slice av NN cv, by simp [results, Try.results40, go_sem], ?_⟩
    have hbw := HZ.out.1.bw
    have hb5 := hbw.trans (HSo.out.2.1.below (K := w.heap.size) (fun k q => by have := (owns_lt HZ.out.1.own k q).1; omega) hbw.size)
    refine ⟨hb5.trans (ho.below (K := w.heap.size) (fun k e => by omega) hb5.size), _, rfl, ?_⟩
    have hfin := owns_base (owns_only HSo.out.1 ho (fun k q e => by have := HZ.out.2.1 k (HZ.out.2.2.2.2.1 k q); omega)) (show w.heap.size ≤ w4.heap.size by omega)
    rw [HZ.out.2.2.2.2.2.1] at hfin
    show World.ownsRow _ _ _ _ _ (aroundL L most).length _
    rw [← HZ.out.2.2.2.2.2.1, List.length_mergeSort]
    rw [HZ.out.2.2.2.2.2.1]
    exact hfin
  case stop =>
    rintro D c pre T W hD ⟨rfl, v, xs, hm, hvT, hms, hlen⟩ hT hK
    obtain ⟨av, cv, rfl, hvc, hav⟩ := owns_shape hm.own
    obtain ⟨NN, hNN⟩ : ∃ NN, NN = xs.length := ⟨_, rfl⟩
    have p0 := hm.lv.cell 0
    simp only [List.getElem?_toArray, List.getElem?_cons_zero] at p0
    have hql : ∀ {w5}, Only (fun q => (Value.slice av xs.length cv).ownBlock = some q) W w5 → Row w5 (w.heap.size + 1) 43 #[.slice av xs.length cv] := fun ho => hm.lv.only ho (fun q => by have := (hT _ (hvT _ q)).1; have := HS.out; omega)
    rw [← hNN] at hm p0 hvT
    have hql2 := @hql
    rw [← hNN] at hql2
    have HZ := Lib.hid (And.intro hm (And.intro hT (And.intro hK (And.intro hD (And.intro hvT (And.intro hms (And.intro hNN (And.intro hlen trivial))))))))
    have hQl := @hql2
    clear hm hT hK hD hvT hms hlen hvc hav hql hql2 hNN
    refine wpIn_wide.2 ?_
    go_wp2_with (go_at_call 55; refine (sort_any (HZ.out.1.own) HZ.out.2.2.2.2.2.2.1 HZ.out.2.2.2.2.2.2.2.1).mono ?_; rintro e w5 ⟨rfl, hso, hon⟩; have hl5 := hQl hon; have p5 := hl5.cell 0; simp only [List.getElem?_toArray, List.getElem?_cons_zero] at p5; have HSo := Lib.hid (And.intro hso (And.intro hon hl5)); clear hso hon hl5)
    refine noP_ret ?_
    have hs := HS.out
    have hD := HZ.out.2.2.2.1
    have hK' := (HSo.out.2.1.block D (Array.getElem?_eq_some_iff.1 HZ.out.2.2.1).1 (fun q => by have := HZ.out.2.1 D (HZ.out.2.2.2.2.1 D q); omega)).trans HZ.out.2.2.1
    refine ⟨by simp, .inl ⟨_, _, rfl, run_takeDeferred hK', ?_⟩⟩
    have ho : Only (fun k => k = D) w5 (w5.putObj D (.deferred none)) := Only.putObj _ rfl
    refine ⟨.slice av NN cv, by simp [results, Try.results40, go_sem], ?_⟩
    have hbw := HZ.out.1.bw
    have hb5 := hbw.trans (HSo.out.2.1.below (K := w.heap.size) (fun k q => by have := (owns_lt HZ.out.1.own k q).1; omega) hbw.size)
    refine ⟨hb5.trans (ho.below (K := w.heap.size) (fun k e => by omega) hb5.size), _, rfl, ?_⟩
    have hfin := owns_base (owns_only HSo.out.1 ho (fun k q e => by have := HZ.out.2.1 k (HZ.out.2.2.2.2.1 k q); omega)) (show w.heap.size ≤ w4.heap.size by omega)
    rw [HZ.out.2.2.2.2.2.1] at hfin
    show World.ownsRow _ _ _ _ _ (aroundL L most).length _
    rw [← HZ.out.2.2.2.2.2.1, List.length_mergeSort]
    rw [HZ.out.2.2.2.2.2.1]
    exact hfin
end Go.Proofs.Ythljgkaigjokjaa
