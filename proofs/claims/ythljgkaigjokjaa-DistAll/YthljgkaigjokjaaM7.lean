import Derived.Test.YthljgkaigjokjaaM5
import Derived.Test.YthljgkaigjokjaaGhR
import Derived.Sort.OwnSortedInts
/- dist.Between. -/
namespace Go.Proofs.Ythljgkaigjokjaa
open Go.RowKit Go.Shelf Grm Lay
attribute [local go_sem] Oper.semAt_some
structure BtM (w : World) (tb rb : Nat) (t v : Int) (W : World) : Prop where
  tv : Row W tb 3 #[.int .i64 t]
  rv : Row W rb 3 #[.int .i64 v]
  bw : Below w.heap.size w W
theorem BtM.only {S : Nat → Prop} {w W W' : World} {tb rb : Nat} {t v : Int} (h : BtM w tb rb t v W) (ho : Only S W W') (hS : ∀ k, S k → w.heap.size ≤ k ∧ k ≠ tb ∧ k ≠ rb) : BtM w tb rb t v W' :=
  ⟨h.tv.only ho (fun q => (hS _ q).2.1 rfl), h.rv.only ho (fun q => (hS _ q).2.2 rfl), h.bw.trans (ho.below (K := w.heap.size) (fun k q => (hS _ q).1) h.bw.size)⟩
def BtI (w : World) (tb rb : Nat) (t : Int) (pre : List (Nat × Int)) (_ : Foot) (W : World) : Prop := BtM w tb rb t 0 W ∧ ∀ x ∈ pre, ((x.1 : Nat) : Int) ≠ t
def BtX (w : World) (tb rb : Nat) (t d : Int) (c : Code) (_ : List (Nat × Int)) (_ : Foot) (W : World) : Prop := c = .ret ∧ BtM w tb rb t d W
theorem BtI.abide {w : World} {tb rb B : Nat} {t : Int} (hB : w.heap.size ≤ B ∧ tb < B ∧ rb < B) : Abide B (BtI w tb rb t) := by
  rintro pre T A A' ⟨h, h2⟩ _ ho
  exact ⟨h.only ho (fun k q => by omega), h2⟩
theorem BtX.abide {w : World} {tb rb B : Nat} {t d : Int} (hB : w.heap.size ≤ B ∧ tb < B ∧ rb < B) (c : Code) : Abide B (BtX w tb rb t d c) := by
  rintro pre T A A' ⟨h1, h2⟩ _ ho
  exact ⟨h1, h2.only ho (fun k q => by omega)⟩
set_option maxRecDepth 100000 in
set_option maxHeartbeats 4000000 in
theorem between_any {w : World} {B N : Nat} {s t : Int} {p : Value} {l : List Ar} {L : List Int} (h : GV w B p N l) (hB : B ≤ w.heap.size) (hL : FarI (arcE l) N s L) :
    Calls Try.prog 32 #[p, .int .i64 s, .int .i64 t] w fun e w' => e = .returned (.int .i64 (atL L t)) ∧ Below w.heap.size w w' := by
  have hN := Lib.hid (fun w' (hb : Below w.heap.size w w') => n_gv (h.under hb))
  have HIt := Lib.hid (near_it_out (h.more hB) (Nat.le_refl _))
  have HL := Lib.hid (hL.same (same_out h.ok.1 h.ok.2.1).symm)
  have hp : ∃ q, p = .pointer q := by
    rcases h with ⟨rfl, _⟩ | ⟨K, M, g, rfl, _⟩
    · exact ⟨_, rfl⟩
    · exact ⟨_, rfl⟩
  obtain ⟨q, rfl⟩ := hp
  clear h hB hL
  refine (callsIn_wide (n := 6)).1 ?_
  refine callsIn_of_wp_marks Try.func32 rfl trivial ?_ rfl
  simp only [Try.ntmps32, List.size_toArray, List.length_cons, List.length_nil, Nat.reduceAdd, Nat.reduceSub, Array.replicate_succ, Array.replicate_zero, List.push_toArray, List.append_toArray, List.nil_append, List.cons_append]
  refine wpIn_mono ?_ noP_le
  rw [wpIn_wide]
  obtain ⟨w1, hw1⟩ : ∃ w1, w1 = (w.alloc (.cells #[.int .i64 t] 3)).alloc (.cells #[.int .i64 0] 3) := ⟨_, rfl⟩
  have hb1 : Below w.heap.size w w1 := by
    rw [hw1]
    exact ((Below.refl _ _).alloc (Nat.le_refl _) _).alloc (by rw [World.size_alloc]; omega) _
  have hs1 : w1.heap.size = w.heap.size + 2 := by rw [hw1]; simp
  have ht1 : Row w1 w.heap.size 3 #[.int .i64 t] := by
    rw [hw1]
    exact (Row.fresh w _ _).past _
  have hr1 : Row w1 (w.heap.size + 1) 3 #[.int .i64 0] := by
    rw [hw1]
    have h := Row.fresh (w.alloc (.cells #[.int .i64 t] 3)) 3 #[.int .i64 0]
    rw [World.size_alloc] at h
    exact h
  have H1 := Lib.hid (And.intro hb1 (And.intro hs1 (And.intro ht1 hr1)))
  have HW1 := Lib.hid hw1
  clear hb1 hs1 ht1 hr1 hw1
  go_wp2_with (first | (go_at_call 19; rw [← HW1.out]; refine (hN.out w1 H1.out.1).mono ?_; rintro e w3 ⟨rfl, rfl⟩) | (go_at_call 59; refine (nearest_pack N s _ _ _).mono ?_; rintro e w4 ⟨bn, bs, bx, rfl, H4⟩))
  have hs1 := H1.out.2.1
  have hz4 := H4.out.2.2.2.2.size
  have hb4 := H4.out.1
  have hbb : Below w.heap.size w w4 := H1.out.1.trans (H4.out.2.2.2.2.mono (by omega))
  have hI : BtI w w.heap.size (w.heap.size + 1) t [] (fun _ => False) w4 := ⟨⟨H1.out.2.2.1.under H4.out.2.2.2.2 (by omega), H1.out.2.2.2.under H4.out.2.2.2.2 (by omega), hbb⟩, fun x hx => by cases hx⟩
  have hseq := HIt.out w4 s bn bs bx (fun k => k = w.heap.size + 1) (6 - 1) hbb H4.out.2.1 H4.out.2.2.1 H4.out.2.2.2.1 (fun k e => by subst e; omega) (by omega)
  have HI := Lib.hid hI
  have HS := Lib.hid (show w.heap.size + 2 ≤ w4.heap.size by omega)
  have HSeq := Lib.hid hseq
  clear hs1 hz4 hb4 hbb hI hseq
  refine (wpIn_wide (n := 6)).1 ?_
  refine wpIn_rangeFunc_sep1 (F := Fence.wide) rfl (by omega) (gf := 74) (lb := #[ptr bn, ptr bs, ptr bx]) rfl trivial (enters_of Try.func74 (by kernel_rfl) rfl) HSeq.out (fun k h => by have := HS.out; omega) (fun _ => rfl)
    (BtI w w.heap.size (w.heap.size + 1) t) (BtX w w.heap.size (w.heap.size + 1) t (atL L t)) (BtI.abide (by have := HS.out; omega)) (fun c => BtX.abide (by have := HS.out; omega) c) HI.out (mk := ?mk) ?assign ?body ?done ?stop
  case assign =>
    intro l x W K hK
    gi_wp2
    exact hK
  case body =>
    rintro lb pre x T W ⟨hm, hne⟩ hR hT hW
    have t0 := hm.tv.cell 0
    have r0 := hm.rv.cell 0
    have f0 := hm.rv.thaw 0
    simp only [List.getElem?_toArray, List.getElem?_cons_zero] at t0 r0
    have hit := fun e => atL_hit HL.out hR (t := t) e
    have HQ := Lib.hid (And.intro hm (And.intro hne (And.intro hit (And.intro hT hW))))
    clear hm hne hit hT hW hR
    by_cases h1 : ((x.1 : Nat) : Int) = t
    · have h1' : (((x.1 : Nat) : Int) == t) = true := by simpa using h1
      have HH := Lib.hid h1
      clear h1
      gi_wp2
      have ho := only_one (W := W) (g := w.heap.size + 1) 0 (.int .i64 x.2)
      have hr := HQ.out.1.rv.put 0 (.int .i64 x.2)
      refine ⟨T, ⟨rfl, HQ.out.1.tv.only ho (by omega), ?_, HQ.out.1.bw.trans (ho.below (K := w.heap.size) (fun k e => by omega) HQ.out.1.bw.size)⟩, ⟨fun _ h => h, fun _ h => .inl h, fun k h => Nat.lt_of_lt_of_le (HQ.out.2.2.2.1 k h).2 ho.size, ho.mono (fun k h => .inl (.inl h))⟩⟩
      rw [HQ.out.2.2.1 HH.out]
      simpa using hr
    · have h1' : (((x.1 : Nat) : Int) == t) = false := by simpa using h1
      have HH := Lib.hid h1
      clear h1
      gi_wp2
      refine ⟨T, ⟨HQ.out.1, fun y hy => ?_⟩, Ext.refl _ _ _ (fun k h => (HQ.out.2.2.2.1 k h).2)⟩
      rcases List.mem_append.1 hy with hy | hy
      · exact HQ.out.2.1 y hy
      · rw [List.mem_singleton.1 hy]
        exact HH.out
  case done =>
    rintro D pre T W hD hS ⟨hm, hne⟩ hT hK
    have r0 := hm.rv.cell 0
    have f0 := hm.rv.thaw 0
    simp only [List.getElem?_toArray, List.getElem?_cons_zero] at r0
    have HQ := Lib.hid (And.intro hm (And.intro (atL_miss HL.out hS hne) (And.intro hK hD)))
    clear hm hne hT hK hS hD
    go_wp2
    refine noP_ret ?_
    have hs := HS.out
    have hD := HQ.out.2.2.2
    have ho := only_one (W := W) (g := w.heap.size + 1) 0 (.int .i64 (-1))
    have hr := HQ.out.1.rv.put 0 (.int .i64 (-1))
    have hm' : BtM w w.heap.size (w.heap.size + 1) t (-1) (W.setCell ⟨w.heap.size + 1, 0, none⟩ (.int .i64 (-1))) := ⟨HQ.out.1.tv.only ho (by omega), by simpa using hr, HQ.out.1.bw.trans (ho.below (K := w.heap.size) (fun k e => by omega) HQ.out.1.bw.size)⟩
    have hK' := (ho.block D (Array.getElem?_eq_some_iff.1 HQ.out.2.2.1).1 (fun q => by omega)).trans HQ.out.2.2.1
    refine ⟨by simp, .inl ⟨_, _, rfl, run_takeDeferred hK', ?_⟩⟩
    have hf := hm'.only (Only.putObj (S := fun k => k = D) (.deferred none) rfl) (fun k e => by omega)
    have r1 := hf.rv.cell 0
    simp only [List.getElem?_toArray, List.getElem?_cons_zero] at r1
    have hn := HQ.out.2.1
    generalize World.putObj _ D (.deferred none) = WF at *
    refine ⟨.int .i64 (-1), by simp [results, Try.results32, go_sem, r1], ?_⟩
    exact ⟨by rw [hn], hf.bw⟩
  case stop =>
    rintro D c pre T W hD ⟨rfl, hm⟩ hT hK
    have HQ := Lib.hid (And.intro hm (And.intro hK hD))
    clear hm hK hT hD
    refine wpIn_wide.2 ?_
    go_wp2
    refine noP_ret ?_
    have hs := HS.out
    have hD := HQ.out.2.2
    refine ⟨by simp, .inl ⟨_, _, rfl, run_takeDeferred HQ.out.2.1, ?_⟩⟩
    have hf := HQ.out.1.only (Only.putObj (S := fun k => k = D) (.deferred none) rfl) (fun k e => by omega)
    have r1 := hf.rv.cell 0
    simp only [List.getElem?_toArray, List.getElem?_cons_zero] at r1
    generalize World.putObj _ D (.deferred none) = WF at *
    refine ⟨.int .i64 (atL L t), by simp [results, Try.results32, go_sem, r1], ?_⟩
    exact ⟨rfl, hf.bw⟩
end Go.Proofs.Ythljgkaigjokjaa

/- dist.Around. -/
namespace Go.Proofs.Ythljgkaigjokjaa
open Go.RowKit Go.Shelf Grm Lay Go.Sort
attribute [local go_sem] Oper.semAt_some
/-- What is told and is no farther than most. -/
structure Good (L : List Int) (most : Int) (pre : List (Nat × Int)) : Prop where
  nodup : (pre.map Prod.fst).Nodup
  right : ∀ x ∈ pre, L[x.1]? = some x.2 ∧ 0 ≤ x.2 ∧ x.2 ≤ most
theorem Good.nil (L : List Int) (most : Int) : Good L most [] := ⟨by simp, fun x h => by cases h⟩
theorem Good.len {L : List Int} {most : Int} {pre : List (Nat × Int)} (h : Good L most pre) : pre.length ≤ L.length := by
  have h1 := nodup_short L.length (pre.map Prod.fst) h.nodup (fun v hv => by
    obtain ⟨x, hx, rfl⟩ := List.mem_map.1 hv
    exact (List.getElem?_eq_some_iff.1 (h.right x hx).1).1)
  simpa using h1
theorem Good.snoc {E : Nat → List Ed} {N : Nat} {B s most : Int} {L : List Int} {pre : List (Nat × Int)} {x : Nat × Int} (hE : Eds E N B) (hL : FarI E N s L) (h : Good L most pre) (hx : NR E N s pre x) (hm : x.2 ≤ most) : Good L most (pre ++ [x]) := by
  refine ⟨?_, fun y hy => ?_⟩
  · rw [List.map_append, List.nodup_append]
    refine ⟨h.nodup, by simp, fun a ha b hb e => ?_⟩
    simp only [List.map_cons, List.map_nil, List.mem_singleton] at hb
    subst hb
    subst e
    exact hx.2.2.2.1 ha
  · rcases List.mem_append.1 hy with hy | hy
    · exact h.right y hy
    · rw [List.mem_singleton.1 hy]
      exact ⟨(hL.at_ hx).1, hx.2.2.1.1.nonneg hE, hm⟩
def fstI (pre : List (Nat × Int)) : List Int := pre.map fun x => ((x.1 : Nat) : Int)
theorem Good.all {L : List Int} {most : Int} {pre : List (Nat × Int)} (h : Good L most pre) (hc : ∀ v d, L[v]? = some d → 0 ≤ d → d ≤ most → In1 pre v) : (fstI pre).mergeSort (fun x y => decide (x ≤ y)) = aroundL L most := by
  have hp : (pre.map Prod.fst).Perm ((List.range L.length).filter fun v => decide (0 ≤ L[v]?.getD (-1) ∧ L[v]?.getD (-1) ≤ most)) := by
    refine (List.perm_ext_iff_of_nodup h.nodup (List.Pairwise.filter _ List.nodup_range)).2 fun v => ?_
    rw [List.mem_filter, List.mem_range]
    constructor
    · intro hv
      obtain ⟨x, hx, rfl⟩ := List.mem_map.1 hv
      obtain ⟨h1, h2, h3⟩ := h.right x hx
      refine ⟨(List.getElem?_eq_some_iff.1 h1).1, ?_⟩
      rw [h1]
      simpa using ⟨h2, h3⟩
    · rintro ⟨h1, h2⟩
      rw [List.getElem?_eq_getElem h1] at h2
      simp only [Option.getD_some, decide_eq_true_eq] at h2
      exact hc v _ (List.getElem?_eq_getElem h1) h2.1 h2.2
  have hp2 : (fstI pre).Perm (aroundL L most) := by
    have := hp.map fun v => ((v : Nat) : Int)
    rw [List.map_map] at this
    exact this
  refine List.Perm.eq_of_pairwise (le := fun a b => decide ((a : Int) ≤ b) = true) (fun a b _ _ h1 h2 => ?_) (List.pairwise_mergeSort (fun a b c h1 h2 => ?_) (fun a b => ?_) _) ?_ ((List.mergeSort_perm _ _).trans hp2)
  · simp only [decide_eq_true_eq] at h1 h2
    omega
  · simp only [decide_eq_true_eq] at h1 h2 ⊢
    omega
  · simp only [Bool.or_eq_true, decide_eq_true_eq]
    omega
  · unfold aroundL
    rw [List.pairwise_map]
    exact (List.Pairwise.filter _ List.pairwise_lt_range).imp (fun h => by simp; omega)
theorem FarI.is {E : Nat → List Ed} {N : Nat} {s : Int} {L : List Int} (h : FarI E N s L) {v : Nat} {d : Int} (hv : L[v]? = some d) (h0 : 0 ≤ d) : (0 ≤ s ∧ s < (N : Int)) ∧ IsD E s.toNat v d := by
  rcases h with ⟨h1, h2, h⟩ | ⟨_, rfl⟩
  · have hlt := (List.getElem?_eq_some_iff.1 hv).1
    rcases h.2 v (by rw [← h.1]; exact hlt) with ⟨d', h3, h4⟩ | ⟨h3, _⟩
    · rw [hv] at h3
      injection h3 with h3
      subst h3
      exact ⟨⟨h1, h2⟩, h4⟩
    · rw [hv] at h3
      injection h3 with h3
      omega
  · cases hv
theorem around_done {E : Nat → List Ed} {N : Nat} {s most : Int} {L : List Int} (hL : FarI E N s L) {pre : List (Nat × Int)} (h : Good L most pre) (hS : NS E N s pre) : (fstI pre).mergeSort (fun x y => decide (x ≤ y)) = aroundL L most := by
  refine h.all fun v d hv h0 _ => ?_
  obtain ⟨h1, h2⟩ := hL.is hv h0
  rcases hS with ⟨_, _, h3⟩ | ⟨h3, _⟩
  · exact h3 _ _ h2.1
  · omega
theorem around_stop {E : Nat → List Ed} {N : Nat} {s most : Int} {L : List Int} (hL : FarI E N s L) {pre : List (Nat × Int)} (h : Good L most pre) {x : Nat × Int} (hx : NR E N s pre x) (hm : most < x.2) : (fstI pre).mergeSort (fun x y => decide (x ≤ y)) = aroundL L most := by
  refine h.all fun v d hv h0 hd => ?_
  obtain ⟨h1, h2⟩ := hL.is hv h0
  by_cases hi : In1 pre v
  · exact hi
  · have := hx.2.2.2.2 v d hi h2
    omega
/-- slices.Sort of ints in a row of the call's own. -/
theorem sort_any {w : World} {K n c : Nat} {av : Option Addr} {xs : List Int} (h : w.ownsRow K 3 1 (.slice av n c) xs.length (xs.map (Value.int .i64))) (hn : n = xs.length) (hlen : xs.length ≤ 16777216) :
    Calls Try.prog 55 #[.slice av n c] w fun e w' => e = .returned (.tuple #[]) ∧ w'.ownsRow K 3 1 (.slice av n c) xs.length ((xs.mergeSort fun x y => decide (x ≤ y)).map (Value.int .i64)) ∧ Only (fun q => (Value.slice av n c).ownBlock = some q) w w' := by
  by_cases h0 : xs = []
  · subst h0
    subst hn
    refine (Try.slices_Sort_int_none av c w).mono ?_
    rintro e w' ⟨rfl, rfl⟩
    exact ⟨rfl, by simpa using h, Only.refl _ _⟩
  · rcases h.2 with ⟨_, hnil⟩ | ⟨gg, cap, cur, e, hbase, hbk, h1, h2, h3, h4⟩
    · exact (h0 (List.eq_nil_of_length_eq_zero hnil)).elim
    · injection e with e1 e2 e3
      subst e1
      subst e3
      subst e2
      have hC := Try.slices_Sort_int gg 0 c xs w (holds_of_blockI hbk (by simpa using h4)) (Array.getElem?_eq_some_iff.1 hbk).1 (by omega)
      refine hC.mono ?_
      rintro e w' ⟨rfl, nn, os, rfl⟩
      refine ⟨rfl, ?_, ?_⟩
      · have hq := ownsRow_sortedI (w := w) (n := nn) (os := os) (ts := xs.mergeSort fun x y => decide (x ≤ y)) (by rw [List.length_mergeSort]) hbase hbk h1 h2 h3
        exact hq
      · have hg := grownBy_sortedI (w := w) (g := gg) (n := nn) (os := os) ((xs.mergeSort fun x y => decide (x ≤ y))).toArray
        exact only_grown hg (fun k e => by injection e with e; subst e; rfl)
end Go.Proofs.Ythljgkaigjokjaa

