import Derived.Test.YtdkpdmpghibmmaaGreatM9
import Derived.Test.YtdkpdmpghibmmaaGreatGhR
import Derived.Test.YtdkpdmpghibmmaaGreatShelf
import Derived.Sort.OwnSortedInts
import Derived.Maps.AppendAt
import Derived.Test.YtdkpdmpghibmmaaGreatLgV
/- slices.Sorted of a map's keys (ints). -/
namespace Go.Proofs.YtdkpdmpghibmmaaGreat
open Go.RowKit Go.Maps Go.Shelf Go.Sort Lay
attribute [local go_sem] Oper.semAt_some
theorem newI (w : World) (a : Value) (t : TypeId) : ∀ (j : Nat) (u : Value), [a][j]? = some u → (w.alloc (.cells #[a] t)).cell? ((⟨w.heap.size, 0, none⟩ : Addr).add j) = some u := by
  intro j u h
  rw [add_zero_addr, (Row.fresh w t #[a]).cell j]
  simpa using h
theorem infoInt : (Tryz.prog.info? 3).map (fun i => (i.zero, i.size, i.bytes)) = some (some (.int .i64 0), 1, 8) := by kernel_rfl
/-- What was told are keys, each once. -/
def KOk (N : Nat) (pre : List Int) : Prop := pre.Nodup ∧ ∀ z ∈ pre, 0 ≤ z ∧ z < (N : Int)
theorem KOk.le {N : Nat} {pre : List Int} (h : KOk N pre) : pre.length ≤ N := by
  have h1 : (pre.map Int.toNat).Nodup := by
    rw [List.Nodup, List.pairwise_map]
    refine List.Pairwise.imp_of_mem (fun {a b} ha hb hab e => hab ?_) h.1
    have := h.2 a ha
    have := h.2 b hb
    omega
  have h2 : (pre.map Int.toNat).Perm ((List.range N).filter fun i => i ∈ pre.map Int.toNat) := by
    refine (List.perm_ext_iff_of_nodup h1 (List.nodup_range.filter _)).2 fun i => ?_
    rw [List.mem_filter, List.mem_range]
    simp only [decide_eq_true_eq]
    refine ⟨fun h3 => ⟨?_, h3⟩, fun h => h.2⟩
    obtain ⟨x, hx, rfl⟩ := List.mem_map.1 h3
    have := h.2 x hx
    omega
  have h3 := h2.length_eq
  rw [List.length_map] at h3
  rw [h3]
  exact Nat.le_trans (List.length_filter_le _ _) (by simp)
def ColI (w : World) (K N : Nat) (pre : List Int) (T : Foot) (W : World) : Prop :=
  ∃ v, Row W w.heap.size 33 #[v] ∧ W.ownsRow K 3 1 v pre.length (pre.map (Value.int .i64)) ∧ (∀ k, v.ownBlock = some k → T k) ∧ Below w.heap.size w W ∧ KOk N pre
theorem ColI.abide {w : World} {K N B : Nat} (h : w.heap.size < B) : Abide B (ColI w K N) := by
  rintro pre T A A' ⟨v, r1, r2, r3, r4, r5⟩ hT ho
  exact ⟨v, r1.only ho (fun q => by omega), owns_only r2 ho (fun k q h => h.2 (r3 k q)), r3, r4.trans (ho.below (K := w.heap.size) (fun k q => by omega) r4.size), r5⟩
set_option maxRecDepth 100000 in
set_option maxHeartbeats 4000000 in
theorem appendseqI_any {α : Type} {w : World} {gf N : Nat} {lb : Array Value} {f : Int → Option α} (hN : N ≤ 16777216) (hf : ∀ z, (f z).isSome = true → 0 ≤ z ∧ z < (N : Int)) (eg : ∀ args w, (callFunc gf args).run Tryz.prog w = .ok (.enter gf args) w)
    (hseq : Hid (∀ (Wr : Foot) (W : World), Below w.heap.size w W → (∀ k, Wr k → w.heap.size ≤ k ∧ k < W.heap.size) → SeqSep Fence.wide (6 - 1) Tryz.prog gf lb (fun x : Int => #[.int .i64 x]) Wr (KeyR f) (KeyS f) W)) :
    Calls Tryz.prog 164 #[.slice none 0 0, .func (.func gf) #[] lb] w fun e w' => Below w.heap.size w w' ∧ ∃ v xs, e = .returned v ∧ KeyS f xs ∧ KOk N xs ∧ w'.ownsRow w.heap.size 3 1 v xs.length (xs.map (Value.int .i64)) := by
  obtain ⟨w1, hw1⟩ : ∃ w1, w1 = w.alloc (.cells #[.slice none 0 0] 33) := ⟨_, rfl⟩
  have hb1 : Below w.heap.size w w1 := by rw [hw1]; exact (Below.refl _ _).alloc (Nat.le_refl _) _
  have hv1 : Row w1 w.heap.size 33 #[.slice none 0 0] := by rw [hw1]; exact Row.fresh w _ _
  have hs1 : w1.heap.size = w.heap.size + 1 := by rw [hw1]; simp
  have HS := Lib.hid (And.intro hs1 (And.intro hN (And.intro hb1 hf)))
  have HW1 := Lib.hid hw1
  have HI := Lib.hid (show ColI w w1.heap.size N [] (fun _ => False) w1 from ⟨.slice none 0 0, hv1, World.ownsRow_nil _ _ _ _, fun k e => (by cases e), hb1, List.nodup_nil, fun z hz => by cases hz⟩)
  have HSeq := Lib.hid (hseq.out (fun k => k = w.heap.size) w1 hb1 (fun k h => by omega))
  have HEg := Lib.hid eg
  clear hb1 hv1 hs1 hw1 hN hseq eg hf
  refine (callsIn_wide (n := 6)).1 ?_
  refine callsIn_of_wp_marks Tryz.func164 rfl trivial ?_ rfl
  simp only [Tryz.ntmps164, List.size_toArray, List.length_cons, List.length_nil, Nat.reduceAdd, Nat.reduceSub, Array.replicate_succ, Array.replicate_zero, List.push_toArray, List.append_toArray, List.nil_append, List.cons_append]
  refine wpIn_mono ?_ noP_le
  rw [wpIn_wide]
  go_wp2_with fail
  rw [← HW1.out]
  refine (wpIn_wide (n := 6)).1 ?_
  refine wpIn_rangeFunc_sep1 (F := Fence.wide) rfl (by omega) (gf := gf) (lb := lb) rfl trivial HEg.out HSeq.out (fun k h => by have := HS.out; omega) (fun _ => rfl)
    (ColI w w1.heap.size N) (fun _ _ _ _ => False) (ColI.abide (by have := HS.out; omega)) (fun _ _ _ _ _ h _ _ => h.elim) HI.out (mk := ?mk) ?assign ?body ?done ?stop
  case assign =>
    intro l x W K hK
    gi_wp2
    exact hK
  case body =>
    rintro l pre x T W ⟨v, r1, r2, r3, r4, r5⟩ hR hT hW
    have hpl : KOk N (pre ++ [x]) := by
      refine ⟨?_, fun z hz => ?_⟩
      · rw [List.nodup_append]
        exact ⟨r5.1, by simp, fun a ha c hc => by simp at hc; subst hc; exact fun e => hR.2 (e ▸ ha)⟩
      · rcases List.mem_append.1 hz with h | h
        · exact r5.2 z h
        · simp at h; subst h; exact HS.out.2.2.2 _ hR.1
    have hple := hpl.le
    rw [List.length_append] at hple
    obtain ⟨av, cv, rfl, hvc, hav⟩ := owns_shape r2
    have p0 := r1.cell 0
    have m0 := r1.thaw 0
    simp only [List.getElem?_toArray, List.getElem?_cons_zero, List.getElem?_cons_succ] at p0
    have HQ := Lib.hid (And.intro r1 (And.intro r2 (And.intro r3 (And.intro r4 (And.intro hT (And.intro hW (And.intro hpl hple)))))))
    clear r1 r2 r3 r4 r5 hT hW hpl hple hvc hav hR
    obtain ⟨i0, hi, hz0, hz1, hz2⟩ := info_partsC infoInt
    gi_wp2_with (gi_at_builtin; refine wpListIn_append_own_at _ rfl _ _ 33 rfl w1.heap.size 3 i0 (.int .i64 0) 1 8 Tryz.underlying33 hi hz0 hz1 hz2 rfl (by decide) _ _ (pre.map (Value.int .i64)) rfl (HQ.out.2.1.alloc _) ⟨W.heap.size, 0, none⟩ 1 1 [.int .i64 x] rfl rfl (newI _ _ _) (by intro u hu; simp at hu; subst hu; rfl) (by unfold maxLen; have := HQ.out.2.2.2.2.2.2.2; simp at this; have := HS.out.2.1; omega) (by have := HQ.out.2.2.2.2.2.2.2; simp at this; have := HS.out.2.1; omega) (by have := HQ.out.2.2.2.2.2.1; simp; omega) ?_; intro v' w3 hown' hg3 _ hat3; obtain ⟨g', cap', rfl⟩ := ownsRow_succ hown'; have hb3 := ((HQ.out.1.past (.cells #[.int .i64 x] 3)).only (only_grown (S := fun k => (Value.slice av pre.length cv).ownBlock = some k) hg3 (fun k q => q)) (fun q => by have := (owns_lt HQ.out.2.1 _ q).1; have := HS.out; omega)); have p3 := hb3.cell 0; have m3 := hb3.thaw 0; have HA := Lib.hid (And.intro hown' (And.intro hg3 (And.intro hb3 hat3))); clear hown' hg3 hb3 hat3 p0 m0)
    have hTw := HQ.out.2.2.2.2.1
    have hs12 := HS.out.1
    have hgr : Only (fun q => q = w.heap.size ∨ T q) W (w3.setCell ⟨w.heap.size, 0, none⟩ (.slice (some ⟨g', 0, none⟩) (pre.length + 1) cap')) := by
      refine Only.setCell (((Only.refl _ W).alloc _).grown HA.out.2.1 (fun q e => .inl (.inr (HQ.out.2.2.1 q e)))) (.inl (.inl rfl)) _
    refine ⟨_, ⟨.slice (some ⟨g', 0, none⟩) (pre.length + 1) cap', ?_, ?_, ?_, ?_, HQ.out.2.2.2.2.2.2.1⟩, Ext.grow (fun q h => (hTw q h).2) hgr⟩
    · have := HA.out.2.2.1.put 0 (.slice (some ⟨g', 0, none⟩) (pre.length + 1) cap')
      simpa using this
    · rw [List.length_append, List.map_append]
      exact owns_only HA.out.1 ((Only.refl (fun q => q = w.heap.size) w3).setCell (p := ⟨w.heap.size, 0, none⟩) (.inl rfl) _) (fun q e h => by have := (owns_lt HA.out.1 q e).1; omega)
    · intro q e
      rcases HA.out.2.2.2 with h | h
      · exact .inl (HQ.out.2.2.1 q (h.symm.trans e))
      · right
        rw [e] at h
        injection h with h
        have h3 := (owns_lt HA.out.1 q e).2
        rw [World.size_alloc] at h
        refine ⟨by omega, ?_⟩
        simp only [World.setCell, Array.size_modify]
        exact h3
    · exact HQ.out.2.2.2.1.trans (hgr.below (K := w.heap.size) (fun q h => by
        rcases h with h | h
        · omega
        · have := (hTw q h).1
          omega) HQ.out.2.2.2.1.size)
  case done =>
    rintro D pre T W hD hpre ⟨v, r1, r2, r3, r4, r5⟩ hT hK
    have p0 := r1.cell 0
    simp only [List.getElem?_toArray, List.getElem?_cons_zero, List.getElem?_cons_succ] at p0
    have HZ := Lib.hid (And.intro r2 (And.intro r4 (And.intro hT (And.intro hK (And.intro hD (And.intro hpre (And.intro r3 r5)))))))
    clear r1 r2 r3 r4 r5 hT hK hD hpre
    obtain ⟨av, cv, rfl, _, _⟩ := owns_shape HZ.out.1
    go_wp2
    refine noP_ret ?_
    refine ⟨by simp, .inl ⟨_, _, rfl, run_takeDeferred HZ.out.2.2.2.1, ?_⟩⟩
    have ho : Only (fun k => k = D) W (W.putObj D (.deferred none)) := Only.putObj _ rfl
    refine ⟨.slice av pre.length cv, by simp [results, Tryz.results164, go_sem], ?_⟩
    have hs12 := HS.out.1
    have hD := HZ.out.2.2.2.2.1
    refine ⟨HZ.out.2.1.trans (ho.below (K := w.heap.size) (fun k e => by omega) HZ.out.2.1.size), _, pre, rfl, HZ.out.2.2.2.2.2.1, HZ.out.2.2.2.2.2.2.2, ?_⟩
    exact owns_base (owns_only HZ.out.1 ho (fun k e h => by have h1 := (HZ.out.2.2.1 k (HZ.out.2.2.2.2.2.2.1 k e)).1; omega)) (by omega)
  case stop =>
    rintro D cc pre T W _ h
    exact h.elim
/-- slices.Sort of ints in a row of the call's own. -/
theorem sortK_any {w : World} {K n c : Nat} {av : Option Addr} {xs : List Int} (h : w.ownsRow K 3 1 (.slice av n c) xs.length (xs.map (Value.int .i64))) (hn : n = xs.length) (hlen : xs.length ≤ 16777216) :
    Calls Tryz.prog 102 #[.slice av n c] w fun e w' => e = .returned (.tuple #[]) ∧ w'.ownsRow K 3 1 (.slice av n c) xs.length ((xs.mergeSort fun x y => decide (x ≤ y)).map (Value.int .i64)) ∧ Only (fun q => (Value.slice av n c).ownBlock = some q) w w' := by
  by_cases h0 : xs = []
  · subst h0
    subst hn
    refine (Tryz.slices_Sort_int_none av c w).mono ?_
    rintro e w' ⟨rfl, rfl⟩
    exact ⟨rfl, by simpa using h, Only.refl _ _⟩
  · rcases h.2 with ⟨_, hnil⟩ | ⟨gg, cap, cur, e, hbase, hbk, h1, h2, h3, h4⟩
    · exact (h0 (List.eq_nil_of_length_eq_zero hnil)).elim
    · injection e with e1 e2 e3
      subst e1
      subst e3
      subst e2
      have hC := Tryz.slices_Sort_int gg 0 c xs w (holds_of_blockI hbk (by simpa using h4)) (Array.getElem?_eq_some_iff.1 hbk).1 (by omega)
      refine hC.mono ?_
      rintro e w' ⟨rfl, nn, os, rfl⟩
      refine ⟨rfl, ?_, ?_⟩
      · have hq := ownsRow_sortedI (w := w) (n := nn) (os := os) (ts := xs.mergeSort fun x y => decide (x ≤ y)) (by rw [List.length_mergeSort]) hbase hbk h1 h2 h3
        exact hq
      · have hg := grownBy_sortedI (w := w) (g := gg) (n := nn) (os := os) ((xs.mergeSort fun x y => decide (x ≤ y))).toArray
        exact only_grown hg (fun k e => by injection e with e; subst e; rfl)
/-- A map's keys, rising. -/
def keysOf {α : Type} (f : Int → Option α) (N : Nat) : List Int := ((List.range N).filter fun i => (f (i : Nat)).isSome).map fun i => ((i : Nat) : Int)
theorem keysOf_length {α : Type} (f : Int → Option α) (N : Nat) : (keysOf f N).length = cntF f N := by
  unfold keysOf cntF
  rw [List.length_map]
theorem mem_keysOf {α : Type} {f : Int → Option α} {N : Nat} {z : Int} : z ∈ keysOf f N ↔ (0 ≤ z ∧ z < (N : Int)) ∧ (f z).isSome = true := by
  unfold keysOf
  rw [List.mem_map]
  constructor
  · rintro ⟨i, hi, rfl⟩
    rw [List.mem_filter, List.mem_range] at hi
    exact ⟨⟨by omega, by omega⟩, hi.2⟩
  · rintro ⟨h1, h2⟩
    refine ⟨z.toNat, List.mem_filter.2 ⟨List.mem_range.2 (by omega), ?_⟩, by omega⟩
    rw [Int.toNat_of_nonneg h1.1]
    exact h2
theorem keysOf_sorted {α : Type} (f : Int → Option α) (N : Nat) : (keysOf f N).Pairwise (· < ·) := by
  unfold keysOf
  rw [List.pairwise_map]
  exact (List.Pairwise.filter _ List.pairwise_lt_range).imp fun {a b} (h : a < b) => by omega
theorem keys_sort {α : Type} {f : Int → Option α} {N : Nat} {xs : List Int} (hS : KeyS f xs) (hf : ∀ z, (f z).isSome = true → 0 ≤ z ∧ z < (N : Int)) : (xs.mergeSort fun x y => decide (x ≤ y)) = keysOf f N := by
  have hp : (xs.mergeSort fun x y => decide (x ≤ y)).Perm (keysOf f N) := by
    refine (List.mergeSort_perm _ _).trans ((List.perm_ext_iff_of_nodup hS.1 ((keysOf_sorted f N).imp (fun {a b} (h : a < b) => by omega))).2 fun z => ?_)
    rw [hS.2, mem_keysOf]
    exact ⟨fun h => ⟨hf z h, h⟩, fun h => h.2⟩
  refine List.Perm.eq_of_pairwise (le := fun x y : Int => x ≤ y) (fun a b _ _ h1 h2 => by omega) ?_ ((keysOf_sorted f N).imp (fun {a b} (h : a < b) => by omega)) hp
  have := List.pairwise_mergeSort (le := fun x y : Int => decide (x ≤ y)) (fun a b c h1 h2 => by simp at *; omega) (fun a b => by simp; omega) xs
  exact this.imp (fun h => by simpa using h)
set_option maxHeartbeats 2000000 in
/-- slices.Sorted over whatever tells the keys. -/
theorem sorted_any {α : Type} {w : World} {gf N : Nat} {lb : Array Value} {f : Int → Option α} (hN : N ≤ 16777216) (hf : ∀ z, (f z).isSome = true → 0 ≤ z ∧ z < (N : Int)) (eg : ∀ args w, (callFunc gf args).run Tryz.prog w = .ok (.enter gf args) w)
    (hseq : Hid (∀ (Wr : Foot) (W : World), Below w.heap.size w W → (∀ k, Wr k → w.heap.size ≤ k ∧ k < W.heap.size) → SeqSep Fence.wide (6 - 1) Tryz.prog gf lb (fun x : Int => #[.int .i64 x]) Wr (KeyR f) (KeyS f) W)) :
    Calls Tryz.prog 116 #[.func (.func gf) #[] lb] w fun e w' => Below w.heap.size w w' ∧ ∃ v, e = .returned v ∧ w'.ownsRow w.heap.size 3 1 v (cntF f N) ((keysOf f N).map (Value.int .i64)) := by
  have HC := Lib.hid (appendseqI_any hN hf eg hseq)
  have HN := Lib.hid (And.intro hN hf)
  clear hN hf eg hseq
  have hcol : Calls Tryz.prog 136 #[.func (.func gf) #[] lb] w fun e w' => Below w.heap.size w w' ∧ ∃ v xs, e = .returned v ∧ KeyS f xs ∧ KOk N xs ∧ w'.ownsRow w.heap.size 3 1 v xs.length (xs.map (Value.int .i64)) := by
    go_enter Tryz.func136, Tryz.ntmps136
    go_wp2_with (first | (go_at_call 164; refine HC.out.mono ?_; rintro e w5 ⟨hb5, v, xs, rfl, hk, hko, hv⟩; have HZ := Lib.hid (And.intro hb5 (And.intro hk (And.intro hko hv))); clear hb5 hk hko hv))
    go_ret
    exact ⟨HZ.out.1, _, xs, rfl, HZ.out.2⟩
  have HCol := Lib.hid hcol
  clear hcol
  go_enter Tryz.func116, Tryz.ntmps116
  go_wp2_with fail
  refine HCol.out.mono ?_
  rintro e w5 ⟨hb5, v, xs, rfl, hk, hko, hv⟩
  obtain ⟨av, cv, rfl, _, _⟩ := owns_shape hv
  have HZ := Lib.hid (And.intro hb5 (And.intro hk (And.intro hko hv)))
  clear hb5 hk hko hv
  go_wp2_with fail
  refine (sortK_any HZ.out.2.2.2 rfl (Nat.le_trans HZ.out.2.2.1.le HN.out.1)).mono ?_
  rintro e w6 ⟨rfl, hv6, ho6⟩
  have H6 := Lib.hid (And.intro hv6 ho6)
  clear hv6 ho6
  go_wp2
  go_ret
  have hz := HZ.out.1.size
  refine ⟨HZ.out.1.trans (H6.out.2.below (K := w.heap.size) (fun k hk => (owns_lt HZ.out.2.2.2 k hk).1) hz), _, rfl, ?_⟩
  have hs := keys_sort HZ.out.2.1 HN.out.2
  have hv := H6.out.1
  rw [hs] at hv
  have hl : xs.length = cntF f N := by rw [← keysOf_length, ← hs, List.length_mergeSort]
  rw [← hl]
  exact hv
end Go.Proofs.YtdkpdmpghibmmaaGreat

/- left.rising, Outs, Ins. -/
namespace Go.Proofs.YtdkpdmpghibmmaaGreat
open Go.RowKit Go.Maps Go.Shelf Go.Sort Lay
theorem Mp.range {α : Type} {R : Rd} {E : Elem α R} {w : World} {b N : Nat} {f : Int → Option α} (h : Mp E w b N f) {z : Int} (hz : (f z).isSome = true) : 0 ≤ z ∧ z < (N : Int) := by
  obtain ⟨D, _, _, h3⟩ := h
  obtain ⟨y, hy⟩ := Option.isSome_iff_exists.1 hz
  exact ((h3 z).2 y hy).1
theorem risingW_any {w : World} {o : Option Nat} {N : Nat} {f : Int → Option Wy} (hN : N ≤ 16777216) (h : ∀ b, o = some b → Mp eWay w b N f) (hn : o = none → ∀ z, f z = none) :
    Calls Tryz.prog 80 #[.map o] w fun e w' => Below w.heap.size w w' ∧ ∃ v, e = .returned v ∧ w'.ownsRow w.heap.size 3 1 v (cntF f N) ((keysOf f N).map (Value.int .i64)) := by
  obtain ⟨w1, hw1⟩ : ∃ w1, w1 = w.alloc (.cells #[.map o] 120) := ⟨_, rfl⟩
  have hb1 : Below w.heap.size w w1 := by rw [hw1]; exact (Below.refl _ _).alloc (Nat.le_refl _) _
  have hr1 : Row w1 w.heap.size 120 #[.map o] := by rw [hw1]; exact Row.fresh w _ _
  have hf : ∀ z, (f z).isSome = true → 0 ≤ z ∧ z < (N : Int) := fun z hz => by
    cases o with
    | none => rw [hn rfl z] at hz; cases hz
    | some b => exact (h b rfl).range hz
  have hq : ∀ (Wr : Foot) (W : World), Below w1.heap.size w1 W → (∀ k, Wr k → w1.heap.size ≤ k ∧ k < W.heap.size) → SeqSep Fence.wide (6 - 1) Tryz.prog 117 #[ptr w.heap.size] (fun x : Int => #[.int .i64 x]) Wr (KeyR f) (KeyS f) W := fun Wr W hW hWr =>
    keysW_o (N := N) (6 - 1) Wr (by omega) (hr1.under hW hr1.lt) (fun b hb => ⟨((h b hb).under hb1).under hW, fun e => by have := hWr _ e; have := ((h b hb).under hb1).lt; omega⟩) hn (fun e => by have := hWr _ e; have := hr1.lt; omega) (fun k hk => (hWr k hk).2)
  have HQ := Lib.hid (sorted_any hN hf (enters_of Tryz.func117 (by kernel_rfl) rfl) (Lib.hid hq))
  have HW := Lib.hid hw1
  have H1 := Lib.hid hb1
  clear hb1 hr1 hf hq hw1 h hn
  go_enter Tryz.func80, Tryz.ntmps80
  go_wp2_with (first
    | (go_at_call 81; refine (keysW_sep_start o w).mono ?_; rintro e wx ⟨rfl, hwx⟩; rw [← HW.out] at hwx; rw [hwx]; clear hwx)
    | (go_at_call 116; refine HQ.out.mono ?_; rintro e w2 ⟨hb2, v, rfl, hv⟩; have HV := Lib.hid (And.intro hb2 hv); clear hb2 hv))
  go_ret
  exact ⟨H1.out.trans (HV.out.1.mono H1.out.size), _, rfl, owns_base HV.out.2 H1.out.size⟩
theorem risingU_any {w : World} {o : Option Nat} {N : Nat} {f : Int → Option Unit} (hN : N ≤ 16777216) (h : ∀ b, o = some b → Mp eUnit w b N f) (hn : o = none → ∀ z, f z = none) :
    Calls Tryz.prog 85 #[.map o] w fun e w' => Below w.heap.size w w' ∧ ∃ v, e = .returned v ∧ w'.ownsRow w.heap.size 3 1 v (cntF f N) ((keysOf f N).map (Value.int .i64)) := by
  obtain ⟨w1, hw1⟩ : ∃ w1, w1 = w.alloc (.cells #[.map o] 131) := ⟨_, rfl⟩
  have hb1 : Below w.heap.size w w1 := by rw [hw1]; exact (Below.refl _ _).alloc (Nat.le_refl _) _
  have hr1 : Row w1 w.heap.size 131 #[.map o] := by rw [hw1]; exact Row.fresh w _ _
  have hf : ∀ z, (f z).isSome = true → 0 ≤ z ∧ z < (N : Int) := fun z hz => by
    cases o with
    | none => rw [hn rfl z] at hz; cases hz
    | some b => exact (h b rfl).range hz
  have hq : ∀ (Wr : Foot) (W : World), Below w1.heap.size w1 W → (∀ k, Wr k → w1.heap.size ≤ k ∧ k < W.heap.size) → SeqSep Fence.wide (6 - 1) Tryz.prog 118 #[ptr w.heap.size] (fun x : Int => #[.int .i64 x]) Wr (KeyR f) (KeyS f) W := fun Wr W hW hWr =>
    keysU_o (N := N) (6 - 1) Wr (by omega) (hr1.under hW hr1.lt) (fun b hb => ⟨((h b hb).under hb1).under hW, fun e => by have := hWr _ e; have := ((h b hb).under hb1).lt; omega⟩) hn (fun e => by have := hWr _ e; have := hr1.lt; omega) (fun k hk => (hWr k hk).2)
  have HQ := Lib.hid (sorted_any hN hf (enters_of Tryz.func118 (by kernel_rfl) rfl) (Lib.hid hq))
  have HW := Lib.hid hw1
  have H1 := Lib.hid hb1
  clear hb1 hr1 hf hq hw1 h hn
  go_enter Tryz.func85, Tryz.ntmps85
  go_wp2_with (first
    | (go_at_call 83; refine (keysU_sep_start o w).mono ?_; rintro e wx ⟨rfl, hwx⟩; rw [← HW.out] at hwx; rw [hwx]; clear hwx)
    | (go_at_call 116; refine HQ.out.mono ?_; rintro e w2 ⟨hb2, v, rfl, hv⟩; have HV := Lib.hid (And.intro hb2 hv); clear hb2 hv))
  go_ret
  exact ⟨H1.out.trans (HV.out.1.mono H1.out.size), _, rfl, owns_base HV.out.2 H1.out.size⟩
/-- Outs. -/
theorem outs_any {w : World} {l bl bo bi : Nat} {go gi : Int → Option Nat} {s : LSt} (h : Lq w l bl bo bi go gi s) {v : Int} (hwv : (Lit.int .i64 v).wf = true) :
    Calls Tryz.prog 30 #[ptr l, .int .i64 v] w fun e w' => Below w.heap.size w w' ∧ ∃ x, e = .returned x ∧ w'.ownsRow w.heap.size 3 1 x (cntF (s.F v) s.lost.length) ((keysOf (s.F v) s.lost.length).map (Value.int .i64)) := by
  have HC := Lib.hid (risingW_any h.small (fun b hb => h.outs.sub v b hb) (fun hb z => h.outs.none_ v hb z))
  obtain ⟨_, r1, _⟩ := h.heads
  have e1 := h.outs.look Tryz.underlying97 (zeroRefW w) hwv
  clear h hwv
  go_enter Tryz.func30, Tryz.ntmps30
  go_wp2_with (go_at_call 80; refine HC.out.mono ?_; rintro e w2 ⟨hb2, x, rfl, hv⟩; have HV := Lib.hid (And.intro hb2 hv); clear hb2 hv)
  go_ret
  exact ⟨HV.out.1, _, rfl, HV.out.2⟩
/-- Ins. -/
theorem ins_any {w : World} {l bl bo bi : Nat} {go gi : Int → Option Nat} {s : LSt} (h : Lq w l bl bo bi go gi s) {v : Int} (hwv : (Lit.int .i64 v).wf = true) :
    Calls Tryz.prog 32 #[ptr l, .int .i64 v] w fun e w' => Below w.heap.size w w' ∧ ∃ x, e = .returned x ∧ w'.ownsRow w.heap.size 3 1 x (cntF (s.ins v) s.lost.length) ((keysOf (s.ins v) s.lost.length).map (Value.int .i64)) := by
  have HC := Lib.hid (risingU_any h.small (fun b hb => h.ins.sub v b hb) (fun hb z => h.ins.none_ v hb z))
  obtain ⟨_, _, r2⟩ := h.heads
  have e1 := h.ins.look Tryz.underlying98 (zeroRefU w) hwv
  clear h hwv
  go_enter Tryz.func32, Tryz.ntmps32
  go_wp2_with (go_at_call 85; refine HC.out.mono ?_; rintro e w2 ⟨hb2, x, rfl, hv⟩; have HV := Lib.hid (And.intro hb2 hv); clear hb2 hv)
  go_ret
  exact ⟨HV.out.1, _, rfl, HV.out.2⟩
end Go.Proofs.YtdkpdmpghibmmaaGreat

/- left.Places. -/
namespace Go.Proofs.YtdkpdmpghibmmaaGreat
open Go.RowKit Go.Maps Go.Shelf Lay
/-- Which are left, of the first k. -/
def heldK (s : LSt) (k : Nat) : List Int := ((List.range k).filter fun i => s.holds (i : Nat)).map fun i => ((i : Nat) : Int)
def LSt.held (s : LSt) : List Int := heldK s s.lost.length
theorem heldK_succ (s : LSt) (k : Nat) : heldK s (k + 1) = if s.holds (k : Nat) then heldK s k ++ [((k : Nat) : Int)] else heldK s k := by
  unfold heldK
  rw [List.range_succ, List.filter_append]
  cases h : s.holds (k : Nat)
  · simp [h]
  · simp [h]
theorem heldK_le (s : LSt) (k : Nat) : (heldK s k).length ≤ k := by
  unfold heldK
  rw [List.length_map]
  exact Nat.le_trans (List.length_filter_le _ _) (by simp)
set_option maxRecDepth 100000 in
set_option maxHeartbeats 4000000 in
theorem places_any {w : World} {l bl bo bi : Nat} {go gi : Int → Option Nat} {s : LSt} (h : Lq w l bl bo bi go gi s) :
    Calls Tryz.prog 29 #[ptr l] w fun e w' => Below w.heap.size w w' ∧ ∃ x, e = .returned x ∧ w'.ownsRow w.heap.size 3 1 x s.held.length (s.held.map (Value.int .i64)) := by
  obtain ⟨r0, _, _⟩ := h.heads
  have hsm := h.small
  have H := Lib.hid h
  obtain ⟨i0, hi, hz0, hz1, hz2⟩ := info_partsC infoInt
  clear h
  go_enter Tryz.func29, Tryz.ntmps29
  go_wp2
  go_loopw [3, 12] (fun pv vi wr => ∃ k : Nat, vi = .int .i64 (k : Nat) ∧ k ≤ s.lost.length ∧ wr.ownsRow w.heap.size 3 1 pv (heldK s k).length ((heldK s k).map (Value.int .i64)) ∧ Below w.heap.size w wr) (fun _ i _ => s.lost.length - (intOf i).toNat)
  case atStart => exact ⟨0, rfl, Nat.zero_le _, World.ownsRow_nil _ _ _ _, Below.refl _ _⟩
  case round =>
    obtain ⟨k, rfl, hk, hR, hB⟩ := hrel
    obtain ⟨av, cv, rfl, hcv, _⟩ := owns_shape hR
    have hkl := heldK_le s k
    have H2 := Lib.hid (And.intro hR (And.intro hB (Nat.le_trans hkl (Nat.le_trans hk hsm))))
    have hbs := hB.size
    clear hR hB hcv hkl
    by_cases hlt : k < s.lost.length
    · have hwk : (Lit.int .i64 (k : Nat)).wf = true := wf_nat ⟨by omega, by omega⟩ hsm
      cases hh : s.holds (k : Nat) with
      | false =>
        have HH := Lib.hid hh
        clear hh
        go_wp2_with (go_at_call 74; refine (holds_any (H.out.under H2.out.2.1) hwk).mono ?_; rw [HH.out]; rintro e w1 ⟨rfl, rfl⟩)
        refine ⟨⟨k + 1, by go_num, hlt, ?_, H2.out.2.1⟩, by simp [intOf]; omega⟩
        rw [heldK_succ, HH.out]
        exact H2.out.1
      | true =>
        have HH := Lib.hid hh
        clear hh
        go_wp2_with (first
          | (go_at_call 74; refine (holds_any (H.out.under H2.out.2.1) hwk).mono ?_; rw [HH.out]; rintro e w1 ⟨rfl, e1⟩; rw [e1]; clear e1)
          | (at_builtin; go_loud (refine wpList_append_own_at _ rfl _ _ 33 rfl w.heap.size 3 i0 (.int .i64 0) 1 8 Tryz.underlying33 hi hz0 hz1 hz2 rfl (by decide) _ _ ((heldK s k).map (Value.int .i64)) rfl (H2.out.1.alloc _) ⟨wr.heap.size, 0, none⟩ 1 1 [.int .i64 (k : Nat)] rfl rfl (newI _ _ _) (by intro u hu; simp at hu; subst hu; rfl) (by unfold maxLen; have := H2.out.2.2; omega) (by have := H2.out.2.2; omega) (by simp; omega) ?_); intro v' w3 hown' hg3 _ hat3; have HA := Lib.hid (And.intro hown' hg3); clear hown' hg3 hat3))
        have hz := H2.out.2.1.size
        have hb3 : Below w.heap.size w w3 := (H2.out.2.1.alloc hz _).grown HA.out.2 (by simp; omega) (fun j hj => (owns_lt H2.out.1 j hj).1)
        refine ⟨⟨k + 1, by go_num, hlt, ?_, hb3⟩, by simp [intOf]; omega⟩
        rw [heldK_succ, HH.out, if_pos rfl, List.length_append, List.map_append]
        exact HA.out.1
    · have hkE : k = s.lost.length := by omega
      go_wp2
      go_ret
      refine ⟨H2.out.2.1, _, rfl, ?_⟩
      have := H2.out.1
      rw [hkE] at this
      unfold LSt.held
      exact hkE ▸ this
end Go.Proofs.YtdkpdmpghibmmaaGreat

/- left: what the laws with Take need. -/
namespace Go.Proofs.YtdkpdmpghibmmaaGreat
open Go.RowKit Go.Maps Go.Shelf Grm Lay
/-- A state that may be, behind i takes. -/
structure Fine (s : LSt) (N i : Nat) : Prop where
  len : s.lost.length = N
  wf : ∀ u v y, s.F u v = some y → s.holds u = true ∧ s.holds v = true ∧ u ≠ v
  low : ∀ x ∈ s.lost, -1 ≤ x ∧ x ≤ (i : Int)
theorem Fine.diag {s : LSt} {N i : Nat} (h : Fine s N i) (v : Int) : s.F v v = none := by
  cases hF : s.F v v with
  | none => rfl
  | some y => exact absurd rfl (h.wf v v y hF).2.2
theorem take_lost_get {s : LSt} {v z : Nat} (hz : z < s.lost.length) : (s.take (v : Nat)).lost[z]? = some (if z = v then -1 else s.lost[z]'hz + (if (s.F (v : Nat) (z : Nat)).isSome || (s.F (z : Nat) (v : Nat)).isSome then 1 else 0)) := by
  unfold LSt.take
  dsimp only
  rw [Int.toNat_natCast, List.getElem?_set]
  by_cases e : v = z
  · subst e
    rw [if_pos rfl, if_pos (by rw [incF_length]; exact hz), if_pos rfl]
  · rw [if_neg e, if_neg (Ne.symm e), List.getElem?_eq_getElem (by rw [incF_length]; exact hz), incF_get hz]
theorem take_length (s : LSt) (v : Int) : (s.take v).lost.length = s.lost.length := by
  unfold LSt.take
  dsimp only
  rw [List.length_set, incF_length]
theorem holds_nat {s : LSt} {z : Nat} (hz : z < s.lost.length) : s.holds (z : Nat) = !decide (s.lost[z]'hz = -1) := by
  unfold LSt.holds
  rw [decide_eq_true (by omega : (0 : Int) ≤ (z : Nat)), decide_eq_true (by omega : ((z : Nat) : Int) < (s.lost.length : Int)), Int.toNat_natCast, List.getElem?_eq_getElem hz]
  simp
theorem take_holds {s : LSt} {N i v : Nat} (h : Fine s N i) (z : Int) : (s.take (v : Nat)).holds z = (s.holds z && !decide (z = ((v : Nat) : Int))) := by
  by_cases hz : 0 ≤ z ∧ z < (s.lost.length : Int)
  · obtain ⟨k, rfl⟩ : ∃ k : Nat, z = (k : Int) := ⟨z.toNat, by omega⟩
    have hk : k < s.lost.length := by omega
    have hk2 : k < (s.take (v : Nat)).lost.length := by rw [take_length]; exact hk
    rw [holds_nat hk2, holds_nat hk]
    have hg := take_lost_get (s := s) (v := v) hk
    rw [List.getElem?_eq_getElem hk2] at hg
    injection hg with hg
    rw [hg]
    by_cases e : k = v
    · subst e
      simp
    · rw [if_neg e]
      have hne : ¬ ((k : Nat) : Int) = (v : Nat) := by omega
      by_cases h1 : s.lost[k]'hk = -1
      · -- one that is taken has no ways
        have hh : s.holds (k : Nat) = false := by rw [holds_nat hk]; simp [h1]
        have f1 : s.F (v : Nat) (k : Nat) = none := by
          cases hF : s.F (v : Nat) (k : Nat) with
          | none => rfl
          | some y => have := (h.wf _ _ y hF).2.1; rw [hh] at this; cases this
        have f2 : s.F (k : Nat) (v : Nat) = none := by
          cases hF : s.F (k : Nat) (v : Nat) with
          | none => rfl
          | some y => have := (h.wf _ _ y hF).1; rw [hh] at this; cases this
        rw [f1, f2, h1]
        simp
      · have := (h.low _ (List.getElem_mem hk)).1
        have h2 : ¬ (s.lost[k]'hk + (if (s.F (v : Nat) (k : Nat)).isSome || (s.F (k : Nat) (v : Nat)).isSome then 1 else 0)) = -1 := by
          split <;> omega
        rw [decide_eq_false h2, decide_eq_false h1, decide_eq_false hne]
        rfl
  · have h1 : s.holds z = false := by
      cases hh : s.holds z with
      | false => rfl
      | true => exact absurd (LSt.holds_in hh) hz
    have h2 : (s.take (v : Nat)).holds z = false := by
      cases hh : (s.take (v : Nat)).holds z with
      | false => rfl
      | true => have := LSt.holds_in hh; rw [take_length] at this; exact absurd this hz
    rw [h1, h2]
    rfl
theorem take_F_some {s : LSt} {v u z : Int} {y : Wy} (h : (s.take v).F u z = some y) : u ≠ v ∧ z ≠ v ∧ s.F u z = some y := by
  have h2 : (if u = v ∨ z = v then none else s.F u z) = some y := h
  by_cases e : u = v ∨ z = v
  · rw [if_pos e] at h2; cases h2
  · rw [if_neg e] at h2
    exact ⟨fun e1 => e (.inl e1), fun e1 => e (.inr e1), h2⟩
theorem Fine.take {s : LSt} {N i v : Nat} (h : Fine s N i) : Fine (s.take (v : Nat)) N (i + 1) := by
  refine ⟨by rw [take_length]; exact h.len, fun u z y hy => ?_, fun x hx => ?_⟩
  · obtain ⟨h1, h2, h3⟩ := take_F_some hy
    obtain ⟨w1, w2, w3⟩ := h.wf u z y h3
    rw [take_holds h, take_holds h, w1, w2]
    simp [h1, h2, w3]
  · obtain ⟨k, hk, rfl⟩ := List.getElem_of_mem hx
    have hk2 : k < s.lost.length := by rw [take_length] at hk; exact hk
    have hg := take_lost_get (s := s) (v := v) hk2
    rw [List.getElem?_eq_getElem hk] at hg
    injection hg with hg
    rw [hg]
    have := h.low _ (List.getElem_mem hk2)
    split
    · omega
    · split <;> omega
theorem filter_le {p q : Nat → Bool} {l : List Nat} (h : ∀ i ∈ l, p i = true → q i = true) : (l.filter p).length ≤ (l.filter q).length := by
  induction l with
  | nil => simp
  | cons a l ih =>
    have ih := ih fun i hi => h i (List.mem_cons_of_mem _ hi)
    have ha := h a (List.mem_cons_self ..)
    rw [List.filter_cons, List.filter_cons]
    cases hp : p a
    · cases hq : q a
      · simpa using ih
      · simp; omega
    · rw [ha hp]
      simpa using ih
theorem Fine.outs_le {s : LSt} {N i : Nat} (h : Fine s N i) (v : Int) : cntF (s.F v) s.lost.length ≤ s.held.length := by
  unfold LSt.held heldK cntF
  rw [List.length_map]
  refine filter_le fun z _ hz => ?_
  obtain ⟨y, hy⟩ := Option.isSome_iff_exists.1 hz
  exact (h.wf v z y hy).2.1
theorem filter_drop {p q : Nat → Bool} {v : Nat} : ∀ {N : Nat}, v < N → p v = true → (∀ i, q i = (p i && !decide (i = v))) → ((List.range N).filter q).length + 1 = ((List.range N).filter p).length
  | 0, h, _, _ => by omega
  | N + 1, h, hp, hq => by
    rw [List.range_succ, List.filter_append, List.filter_append, List.length_append, List.length_append]
    by_cases e : v = N
    · subst e
      have : ((List.range v).filter q) = (List.range v).filter p := List.filter_congr fun i hi => by
        have := List.mem_range.1 hi
        rw [hq]
        have hne : ¬ i = v := by omega
        simp [hne]
      rw [this]
      have hqv : q v = false := by rw [hq]; simp
      simp [hp, hqv]
    · have ih := filter_drop (p := p) (q := q) (N := N) (by omega) hp hq
      have hqn : q N = p N := by
        rw [hq]
        have hne : ¬ N = v := by omega
        simp [hne]
      simp only [List.filter_cons, List.filter_nil, hqn]
      omega
theorem Fine.held_take {s : LSt} {N i v : Nat} (h : Fine s N i) (hv : s.holds (v : Nat) = true) : (s.take (v : Nat)).held.length + 1 = s.held.length := by
  unfold LSt.held heldK
  rw [List.length_map, List.length_map, take_length]
  have := (LSt.holds_in hv).2
  refine filter_drop (v := v) (by omega) hv fun z => ?_
  rw [take_holds h]
  congr 2
  simp
  omega
theorem take_none (s : LSt) (v : Int) : (∀ k, (s.take v).F v k = none) ∧ ∀ k, (s.take v).F k v = none := by
  constructor
  · intro k
    show (if v = v ∨ k = v then none else s.F v k) = none
    exact if_pos (.inl rfl)
  · intro k
    show (if k = v ∨ v = v then none else s.F k v) = none
    exact if_pos (.inr rfl)
theorem mem_held {s : LSt} {z : Int} (h : z ∈ s.held) : ∃ k : Nat, z = (k : Int) ∧ s.holds (k : Nat) = true := by
  unfold LSt.held heldK at h
  obtain ⟨k, hk, rfl⟩ := List.mem_map.1 h
  exact ⟨k, rfl, (List.mem_filter.1 hk).2⟩
section
variable {w W : World} {K l bl bo bi : Nat} {T : Nat → Prop} {s : LSt}
theorem lz_take (h : Lz w K l bl bo bi T s W) {v N i : Nat} (hf : Fine s N i) (hi : i ≤ 1000000) (hv : s.holds (v : Nat) = true) :
    Calls Tryz.prog 31 #[ptr l, .int .i64 (v : Nat)] W fun e W' => e = .returned (.bool true) ∧ LStep w K l bl bo bi T (s.take (v : Nat)) W W' := by
  obtain ⟨⟨go, gi, h1, h2⟩, h3, h4, h5⟩ := h
  refine (take_yes h1 hv (hf.diag _) (fun x hx => by have := (hf.low x hx).2; omega)).mono fun e W' ⟨h6, go', gi', h7, h8, h9⟩ => ⟨h6, ⟨⟨go', gi', h7, fun k hk => h2 k (h8 k hk)⟩, fun k hk => Nat.lt_of_lt_of_le (h3 k hk) h9.size, h4.trans (h9.below (K := w.heap.size) (fun k hk => Nat.le_trans h5 (h2 k hk).1) h4.size), h5⟩, h9.mono fun k hk => .inl (h2 k hk)⟩
theorem lz_take_not (h : Lz w K l bl bo bi T s W) {v : Int} (hwv : (Lit.int .i64 v).wf = true) (hv : s.holds v = false) :
    Calls Tryz.prog 31 #[ptr l, .int .i64 v] W fun e W' => e = .returned (.bool false) ∧ Below W.heap.size W W' := by
  obtain ⟨⟨go, gi, h1, h2⟩, h3, h4, h5⟩ := h
  exact take_not h1 hwv hv
theorem lz_outs (h : Lz w K l bl bo bi T s W) {v : Int} (hwv : (Lit.int .i64 v).wf = true) :
    Calls Tryz.prog 30 #[ptr l, .int .i64 v] W fun e W' => Below W.heap.size W W' ∧ ∃ x, e = .returned x ∧ W'.ownsRow W.heap.size 3 1 x (cntF (s.F v) s.lost.length) ((keysOf (s.F v) s.lost.length).map (Value.int .i64)) := by
  obtain ⟨⟨go, gi, h1, h2⟩, h3, h4, h5⟩ := h
  exact outs_any h1 hwv
theorem lz_ins (h : Lz w K l bl bo bi T s W) {v : Int} (hwv : (Lit.int .i64 v).wf = true) :
    Calls Tryz.prog 32 #[ptr l, .int .i64 v] W fun e W' => Below W.heap.size W W' ∧ ∃ x, e = .returned x ∧ W'.ownsRow W.heap.size 3 1 x (cntF (s.ins v) s.lost.length) ((keysOf (s.ins v) s.lost.length).map (Value.int .i64)) := by
  obtain ⟨⟨go, gi, h1, h2⟩, h3, h4, h5⟩ := h
  exact ins_any h1 hwv
theorem lz_places (h : Lz w K l bl bo bi T s W) :
    Calls Tryz.prog 29 #[ptr l] W fun e W' => Below W.heap.size W W' ∧ ∃ x, e = .returned x ∧ W'.ownsRow W.heap.size 3 1 x s.held.length (s.held.map (Value.int .i64)) := by
  obtain ⟨⟨go, gi, h1, h2⟩, h3, h4, h5⟩ := h
  exact places_any h1
theorem lz_cost (h : Lz w K l bl bo bi T s W) {v : Int} (hwv : (Lit.int .i64 v).wf = true) :
    Calls Tryz.prog 33 #[ptr l, .int .i64 v] W fun e W' => e = .returned (.int .i64 (s.cost v)) ∧ Below W.heap.size W W' := by
  obtain ⟨⟨go, gi, h1, h2⟩, h3, h4, h5⟩ := h
  exact cost_any h1 hwv
end
/-- New's state may be. -/
theorem newSt_fine {n : Nat} {l : List Ar} (hok : EndsOk n l) : Fine (newSt n l (keptL l)) n 0 := by
  have hlen : (newSt n l (keptL l)).lost.length = n := by rw [newSt_lost, List.length_replicate]
  refine ⟨hlen, fun u v y hy => ?_, fun x hx => ?_⟩
  · have key : ∀ ks : List Nat, (∀ k ∈ ks, k < l.length) → ∀ s : LSt, (∀ u v y, s.F u v = some y → (0 ≤ u ∧ u < (n : Int)) ∧ (0 ≤ v ∧ v < (n : Int))) → ∀ u v y, (ks.foldl (fun s k => s.lay (l.getD k (0, 0, 0)).1 (l.getD k (0, 0, 0)).2.1 (arcW l k)) s).F u v = some y → (0 ≤ u ∧ u < (n : Int)) ∧ (0 ≤ v ∧ v < (n : Int)) := by
      intro ks
      induction ks with
      | nil => exact fun _ s h => h
      | cons k ks ih =>
        intro hk s hs
        rw [List.foldl_cons]
        refine ih (fun k' hk' => hk k' (List.mem_cons_of_mem _ hk')) _ fun u v y hy => ?_
        unfold LSt.lay at hy
        dsimp only at hy
        split at hy
        · rename_i e
          have hkl := hk k (List.mem_cons_self ..)
          have hg : l.getD k (0, 0, 0) = l[k]'hkl := by rw [List.getD_eq_getElem?_getD, List.getElem?_eq_getElem hkl]; rfl
          have := hok _ (List.getElem_mem hkl)
          rw [e.1, e.2, hg]
          omega
        · exact hs u v y hy
    obtain ⟨h1, h2⟩ := key (keptL l) (fun k hk => by unfold keptL at hk; exact List.mem_range.1 (List.mem_filter.1 hk).1) ⟨List.replicate n 0, fun _ _ => none⟩ (fun u v y h => by cases h) u v y hy
    refine ⟨newSt_holds h1, newSt_holds h2, fun e => ?_⟩
    subst e
    rw [newSt_diag hok u] at hy
    cases hy
  · rw [newSt_lost] at hx
    rw [List.eq_of_mem_replicate hx]
    omega
end Go.Proofs.YtdkpdmpghibmmaaGreat

