/- slices.Collect and AppendSeq of edges, over whatever tells them. -/
import Derived.Test.YtdkpdmpghibmmaaGreatGhB
import Derived.Test.YtdkpdmpghibmmaaGreatGhBw
import Derived.Test.YtdkpdmpghibmmaaGreatColl
import Derived.Test.YtdkpdmpghibmmaaGreatSepX
namespace Go.Proofs.YtdkpdmpghibmmaaGreat
open Go.RowKit Go.Shelf Grm Lay
attribute [local go_sem] Oper.semAt_some

theorem add_zero_addr (g j : Nat) : (⟨g, 0, none⟩ : Addr).add j = ⟨g, j, none⟩ := by
  unfold Addr.add
  split
  · simp_all
  · simp
theorem news3 (w : World) (a b c : Value) (t : TypeId) : ∀ (j : Nat) (u : Value), [a, b, c][j]? = some u → (w.alloc (.cells #[a, b, c] t)).cell? ((⟨w.heap.size, 0, none⟩ : Addr).add j) = some u := by
  intro j u h
  rw [add_zero_addr, (Row.fresh w t #[a, b, c]).cell j]
  simpa using h
/-- Between two rounds: what was told is laid. -/
def CollI (w : World) (K : Nat) (pre : List Ed) (T : Foot) (W : World) : Prop :=
  ∃ v, Row W w.heap.size 91 #[v] ∧ W.ownsRow K 94 3 v pre.length (ecells pre) ∧ (∀ k, v.ownBlock = some k → T k) ∧ Below w.heap.size w W
theorem CollI.abide {w : World} {K B : Nat} (h : w.heap.size < B) : Abide B (CollI w K) := by
  rintro pre T A A' ⟨v, r1, r2, r3, r4⟩ hT ho
  exact ⟨v, r1.only ho (fun q => by omega), owns_only r2 ho (fun k q h => h.2 (r3 k q)), r3, r4.trans (ho.below (K := w.heap.size) (fun k q => by omega) r4.size)⟩
set_option maxRecDepth 100000 in
set_option maxHeartbeats 4000000 in
theorem appendseq_any {w : World} {gf : Nat} {lb : Array Value} {E : List Ed} (hE : E.length ≤ 67108864) (eg : ∀ args w, (callFunc gf args).run Tryz.prog w = .ok (.enter gf args) w)
    (hseq : Hid (∀ (Wr : Foot) (W : World), Below w.heap.size w W → (∀ k, Wr k → w.heap.size ≤ k) → SeqSep Fence.wide (6 - 1) Tryz.prog gf lb (fun e : Ed => #[eV e]) Wr (fun pre x => ∃ rest, E = pre ++ x :: rest) (fun pre => pre = E) W)) :
    Calls Tryz.prog 127 #[.slice none 0 0, .func (.func gf) #[] lb] w fun e w' => Below w.heap.size w w' ∧ ∃ v, e = .returned v ∧ w'.ownsRow w.heap.size 94 3 v E.length (ecells E) := by
  obtain ⟨w1, hw1⟩ : ∃ w1, w1 = w.alloc (.cells #[.slice none 0 0] 91) := ⟨_, rfl⟩
  have hb1 : Below w.heap.size w w1 := by rw [hw1]; exact (Below.refl _ _).alloc (Nat.le_refl _) _
  have hv1 : Row w1 w.heap.size 91 #[.slice none 0 0] := by rw [hw1]; exact Row.fresh w _ _
  have hs1 : w1.heap.size = w.heap.size + 1 := by rw [hw1]; simp
  have HS := Lib.hid (And.intro hs1 (And.intro hE hb1))
  have HW1 := Lib.hid hw1
  have HI := Lib.hid (show CollI w w1.heap.size [] (fun _ => False) w1 from ⟨.slice none 0 0, hv1, World.ownsRow_nil _ _ _ _, fun k e => (by cases e), hb1⟩)
  have HSeq := Lib.hid (hseq.out (fun k => k = w.heap.size) w1 hb1 (fun k h => by omega))
  have HEg := Lib.hid eg
  clear hb1 hv1 hs1 hw1 hE hseq eg
  refine (callsIn_wide (n := 6)).1 ?_
  refine callsIn_of_wp_marks Tryz.func127 rfl trivial ?_ rfl
  simp only [Tryz.ntmps127, List.size_toArray, List.length_cons, List.length_nil, Nat.reduceAdd, Nat.reduceSub, Array.replicate_succ, Array.replicate_zero, List.push_toArray, List.append_toArray, List.nil_append, List.cons_append]
  refine wpIn_mono ?_ noP_le
  rw [wpIn_wide]
  go_wp2_with fail
  rw [← HW1.out]
  refine (wpIn_wide (n := 6)).1 ?_
  refine wpIn_rangeFunc_sepX (F := Fence.wide) rfl (by omega) (gf := gf) (lb := lb) rfl trivial HEg.out HSeq.out (fun k h => by have := HS.out; omega) (fun _ => rfl)
    (CollI w w1.heap.size) (fun _ _ _ _ => False) (CollI.abide (by have := HS.out; omega)) (fun _ _ _ _ _ h _ _ => h.elim) HI.out 94 (fun x => #[.int .i64 x.1, .int .i64 x.2.1, .int .i64 (x.2.2 : Nat)]) (mk := ?mk) ?assign ?grow ?body ?done ?stop
  case assign =>
    intro l x b W K hb hK
    gi_wp2
    exact hK
  case grow =>
    rintro pre T T' W ⟨v, r1, r2, r3, r4⟩ h
    exact ⟨v, r1, r2, fun k q => h k (r3 k q), r4⟩
  case body =>
    rintro l pre x bx T W ⟨v, r1, r2, r3, r4⟩ hx hbx hTx ⟨rest, hR⟩ hT hW
    have hpl : pre.length + 1 ≤ E.length := by rw [hR]; simp
    obtain ⟨av, cv, rfl, hvc, hav⟩ := owns_shape r2
    have p0 := r1.cell 0
    have m0 := r1.thaw 0
    have x0 := hx.cell 0
    have x1 := hx.cell 1
    have x2 := hx.cell 2
    simp only [List.getElem?_toArray, List.getElem?_cons_zero, List.getElem?_cons_succ] at p0 x0 x1 x2
    have HQ := Lib.hid (And.intro r1 (And.intro r2 (And.intro r3 (And.intro r4 (And.intro hT (And.intro hW hpl))))))
    clear r1 r2 r3 r4 hT hW hpl hvc hav hx hbx hTx hR
    obtain ⟨i0, hi, hz0, hz1, hz2⟩ := info_partsC infoE
    gi_wp2_with (gi_at_builtin; refine wpListIn_append_own_at _ rfl _ _ 91 rfl w1.heap.size 94 i0 (.agg #[.int .i64 0, .int .i64 0, .int .i64 0]) 3 24 Tryz.underlying91 hi hz0 hz1 hz2 rfl (by decide) _ _ (ecells pre) rfl (HQ.out.2.1.alloc _) ⟨W.heap.size, 0, none⟩ 1 1 [.int .i64 x.1, .int .i64 x.2.1, .int .i64 (x.2.2 : Nat)] rfl rfl (news3 _ _ _ _ _) (by intro u hu; simp at hu; rcases hu with rfl | rfl | rfl <;> rfl) (by unfold maxLen; have := HQ.out.2.2.2.2.2.2; have := HS.out.2.1; omega) (by have := HQ.out.2.2.2.2.2.2; have := HS.out.2.1; omega) (by have := HQ.out.2.2.2.2.2.1; simp; omega) ?_; intro v' w3 hown' hg3 _ hat3; obtain ⟨g', cap', rfl⟩ := ownsRow_succ hown'; have hb3 := ((HQ.out.1.past (.cells #[.int .i64 x.1, .int .i64 x.2.1, .int .i64 (x.2.2 : Nat)] 94)).only (only_grown (S := fun k => (Value.slice av pre.length cv).ownBlock = some k) hg3 (fun k q => q)) (fun q => by have := (owns_lt HQ.out.2.1 _ q).1; have := HS.out; omega)); have p3 := hb3.cell 0; have m3 := hb3.thaw 0; have HA := Lib.hid (And.intro hown' (And.intro hg3 (And.intro hb3 hat3))); clear hown' hg3 hb3 hat3 p0 m0)
    have hTw := HQ.out.2.2.2.2.1
    have hs12 := HS.out.1
    have hgr : Only (fun q => q = w.heap.size ∨ T q) W (w3.setCell ⟨w.heap.size, 0, none⟩ (.slice (some ⟨g', 0, none⟩) (pre.length + 1) cap')) := by
      refine Only.setCell (((Only.refl _ W).alloc _).grown HA.out.2.1 (fun q e => .inl (.inr (HQ.out.2.2.1 q e)))) (.inl (.inl rfl)) _
    refine ⟨_, ⟨.slice (some ⟨g', 0, none⟩) (pre.length + 1) cap', ?_, ?_, ?_, ?_⟩, Ext.grow (fun q h => (hTw q h).2) hgr⟩
    · have := HA.out.2.2.1.put 0 (.slice (some ⟨g', 0, none⟩) (pre.length + 1) cap')
      simpa using this
    · rw [List.length_append, ecells_append]
      exact owns_only HA.out.1 ((Only.refl (fun q => q = w.heap.size) w3).setCell (p := ⟨w.heap.size, 0, none⟩) (.inl rfl) _) (fun q e h => by have := (owns_lt HA.out.1 q e).1; omega)
    · intro q e
      rcases HA.out.2.2.2 with h | h
      · exact .inl (HQ.out.2.2.1 q (h.symm.trans e))
      · right
        rw [e] at h
        injection h with h
        have h3 := (owns_lt HA.out.1 q e).2
        rw [World.size_alloc] at h
        refine ⟨by omega, ?_⟩
        simp only [World.setCell, Array.size_modify]
        exact h3
    · exact HQ.out.2.2.2.1.trans (hgr.below (K := w.heap.size) (fun q h => by
        rcases h with h | h
        · omega
        · have := (hTw q h).1
          omega) HQ.out.2.2.2.1.size)
  case done =>
    rintro D pre T W hD hpre ⟨v, r1, r2, r3, r4⟩ hT hK
    have p0 := r1.cell 0
    simp only [List.getElem?_toArray, List.getElem?_cons_zero, List.getElem?_cons_succ] at p0
    have HZ := Lib.hid (And.intro r2 (And.intro r4 (And.intro hT (And.intro hK (And.intro hD (And.intro hpre r3))))))
    clear r1 r2 r3 r4 hT hK hD hpre
    obtain ⟨av, cv, rfl, _, _⟩ := owns_shape HZ.out.1
    go_wp2
    refine noP_ret ?_
    refine ⟨by simp, .inl ⟨_, _, rfl, run_takeDeferred HZ.out.2.2.2.1, ?_⟩⟩
    have ho : Only (fun k => k = D) W (W.putObj D (.deferred none)) := Only.putObj _ rfl
    refine ⟨.slice av pre.length cv, by simp [results, Tryz.results127, go_sem], ?_⟩
    have hs12 := HS.out.1
    have hD := HZ.out.2.2.2.2.1
    refine ⟨HZ.out.2.1.trans (ho.below (K := w.heap.size) (fun k e => by omega) HZ.out.2.1.size), _, rfl, ?_⟩
    rw [← HZ.out.2.2.2.2.2.1]
    exact owns_base (owns_only HZ.out.1 ho (fun k e h => by have h1 := (HZ.out.2.2.1 k (HZ.out.2.2.2.2.2.2 k e)).1; omega)) (by omega)
  case stop =>
    rintro D cc pre T W _ h
    exact h.elim
set_option maxHeartbeats 1000000 in
theorem collect_any {w : World} {gf : Nat} {lb : Array Value} {E : List Ed} (hE : E.length ≤ 67108864) (eg : ∀ args w, (callFunc gf args).run Tryz.prog w = .ok (.enter gf args) w)
    (hseq : Hid (∀ (Wr : Foot) (W : World), Below w.heap.size w W → (∀ k, Wr k → w.heap.size ≤ k) → SeqSep Fence.wide (6 - 1) Tryz.prog gf lb (fun e : Ed => #[eV e]) Wr (fun pre x => ∃ rest, E = pre ++ x :: rest) (fun pre => pre = E) W)) :
    Calls Tryz.prog 99 #[.func (.func gf) #[] lb] w fun e w' => Below w.heap.size w w' ∧ ∃ v, e = .returned v ∧ w'.ownsRow w.heap.size 94 3 v E.length (ecells E) := by
  have HC := Lib.hid (appendseq_any hE eg hseq)
  clear hE eg hseq
  go_enter Tryz.func99, Tryz.ntmps99
  go_wp2_with (first | (go_at_call 127; refine HC.out.mono ?_; rintro e w5 ⟨hb5, v, rfl, hv⟩; have HZ := Lib.hid (And.intro hb5 hv); clear hb5 hv))
  go_ret
  exact ⟨HZ.out.1, _, rfl, HZ.out.2⟩
end Go.Proofs.YtdkpdmpghibmmaaGreat
