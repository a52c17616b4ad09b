import Derived.Test.YthljgkaigjokjaaM6
import Derived.Test.YthljgkaigjokjaaShelf
import Derived.Lib.SlBuf
import Derived.Test.YthljgkaigjokjaaGhS
import Derived.Sort.OwnSortedInts
import Derived.Test.YthljgkaigjokjaaColl
/- slices.Repeat of one int (written by mkdsf.py). -/
namespace Go.Proofs.Ythljgkaigjokjaa
open Go.RowKit Go.Shelf Grm Lay

theorem sizeI1 : (Try.prog.info? 3).map (·.size) = some 1 := by kernel_rfl
theorem step_copy_run {ops : Array Oper} {o : Oper} {a : Act} {w : World} {K : Act → World → Prop} {Q : Exit → Act → World → Prop} {E : Prop} (hgd : o.guard = none) (d s : Operand) (t t' : TypeId)
    (ho : o.op = .call { callee := .builtin .copy, args := #[d, s], argTypes := #[t, t'] }) (v u : Value) (hd : a.eval d = v) (hs : a.eval s = u) {v' : Value} {w' : World}
    (hr : (Builtin.copy_ #[t, t'] o.type #[v, u]).run Try.prog w = .ok v' w') (h : K (a.put o.dst v') w') :
    if Region.wanted o (yielded ops a.tmps) = true then Oper.wp Try.prog o a w K Q else E := by
  have hw : Region.wanted o (yielded ops a.tmps) = true := by simp [Region.wanted, hgd]
  rw [if_pos hw]
  exact Lib.wp_copy_run w d s t t' ho v u hd hs hr h
/-- The first k of N are x, the rest 0. -/
def repV (x : Int) (k N : Nat) : List Int := List.replicate k x ++ List.replicate (N - k) 0
theorem repV_len {x : Int} {k N : Nat} (h : k ≤ N) : (repV x k N).length = N := by simp [repV]; omega
theorem repV_zero (x : Int) (N : Nat) : repV x 0 N = List.replicate N 0 := by simp [repV]
theorem repV_all (x : Int) (N : Nat) : repV x N N = List.replicate N x := by simp [repV]
theorem repV_at {x : Int} {k N i : Nat} (h : i < k) : (repV x k N)[i]? = some x := by
  unfold repV
  rw [List.getElem?_append_left (by simp; exact h)]
  simp [h]
theorem repV_more {x : Int} {k m N : Nat} (h : k + m ≤ N) : ((repV x k N).map (Value.int .i64)).take k ++ (List.replicate m x).map (Value.int .i64) ++ ((repV x k N).map (Value.int .i64)).drop (k + (((List.replicate m x).map (Value.int .i64))).length) = (repV x (k + m) N).map (Value.int .i64) := by
  rw [← List.map_take, ← List.map_drop, ← List.map_append, ← List.map_append]
  congr 1
  unfold repV
  rw [List.length_map, List.length_replicate, List.take_left' (by simp), List.drop_append, List.drop_eq_nil_of_le (by simp)]
  simp only [List.length_replicate, List.nil_append, List.drop_replicate]
  rw [← List.replicate_append_replicate]
  simp only [List.append_assoc]
  rw [show N - k - (k + m - k) = N - (k + m) by omega]
/-- How many are copied next. -/
theorem run_rep {w : World} {g k N ty : Nat} {x : Int} (hr : Row w g 3 ((repV x k N).map (Value.int .i64)).toArray) (hk : k ≤ N) :
    (Builtin.copy_ #[43, 43] ty #[.slice (some ⟨g, k, none⟩) (N - k) (N - k), .slice (some ⟨g, 0, none⟩) k N]).run Try.prog w = .ok (.int .i64 (min k (N - k) : Nat)) (w.setRow g ((repV x (k + min k (N - k)) N).map (Value.int .i64)).toArray) := by
  have h := run_copy_row (P := Try.prog) w 43 43 ty 3 g k (N - k) (N - k) ⟨g, 0, none⟩ k N _ 3 ((List.replicate (min k (N - k)) x).map (Value.int .i64)) Try.underlying43 sizeI1 hr (by simp [Nat.min_comm]) (fun j v hv => ?_) (by simp [repV_len hk]; omega) (fun v hv => ?_)
  · rw [show ((repV x k N).map (Value.int .i64)).toArray.toList = (repV x k N).map (Value.int .i64) from rfl, repV_more (by omega)] at h
    simpa [goInt] using h
  · have hj : j < min k (N - k) := by
      rcases Nat.lt_or_ge j (min k (N - k)) with hj | hj
      · exact hj
      · rw [List.getElem?_eq_none (by simp; omega)] at hv
        cases hv
    have e : ((List.replicate (min k (N - k)) x).map (Value.int .i64))[j]? = some (.int .i64 x) := by simp [hj]
    rw [e] at hv
    injection hv with hv
    subst hv
    have hc := hr.cell j
    have e2 : (⟨g, 0, none⟩ : Addr).add j = ⟨g, j, none⟩ := by simp [Addr.add]; omega
    rw [e2, hc]
    simp only [List.getElem?_toArray, List.getElem?_map, repV_at (show j < k by omega), Option.map_some]
  · obtain ⟨y, hy, rfl⟩ := List.mem_map.1 hv
    rfl
theorem run_rep0 {w : World} {g N ty b : Nat} {x : Int} (hr : Row w g 3 (nsV (List.replicate N 0))) (hx : Row w b 3 #[.int .i64 x]) (hN : 1 ≤ N) :
    (Builtin.copy_ #[43, 43] ty #[.slice (some ⟨g, 0, none⟩) N N, .slice (some ⟨b, 0, none⟩) 1 1]).run Try.prog w = .ok (.int .i64 1) (w.setRow g ((repV x 1 N).map (Value.int .i64)).toArray) := by
  have e0 : nsV (List.replicate N 0) = ((repV x 0 N).map (Value.int .i64)).toArray := by rw [repV_zero]; simp [nsV]
  rw [e0] at hr
  have hm : Nat.min 1 N = 1 := by show min 1 N = 1; omega
  have h := run_copy_row (P := Try.prog) w 43 43 ty 3 g 0 N N ⟨b, 0, none⟩ 1 1 _ 3 ((List.replicate 1 x).map (Value.int .i64)) Try.underlying43 sizeI1 hr (by rw [hm]; rfl) (fun j v hv => ?_) (by simp [repV_len]; omega) (fun v hv => ?_)
  · have e2 := repV_more (x := x) (k := 0) (m := 1) (N := N) (by omega)
    rw [show ((repV x 0 N).map (Value.int .i64)).toArray.toList = (repV x 0 N).map (Value.int .i64) from rfl, e2] at h
    rw [Nat.zero_add] at h
    simpa [goInt] using h
  · have hj : j = 0 := by
      rcases Nat.eq_zero_or_pos j with hj | hj
      · exact hj
      · rw [List.getElem?_eq_none (by simp; omega)] at hv
        cases hv
    subst hj
    simp only [List.replicate_one, List.map_cons, List.map_nil, List.getElem?_cons_zero, Option.some.injEq] at hv
    subst hv
    exact hx.cell 0
  · obtain ⟨y, hy, rfl⟩ := List.mem_map.1 hv
    rfl
theorem made_rep (w : World) (N : Nat) : ∃ w2, w2 = w.alloc (.cells (nsV (List.replicate N 0)) 3) ∧ Hid (Row w2 w.heap.size 3 (nsV (List.replicate N 0))) ∧ Hid (Below w.heap.size w w2) :=
  ⟨_, rfl, Lib.hid (Row.fresh w _ _), Lib.hid ((Below.refl _ _).alloc (Nat.le_refl _) _)⟩
theorem set_rep {w1 w2 : World} {N : Nat} (h : Row w2 w1.heap.size 3 (nsV (List.replicate N 0))) (hB : Below w1.heap.size w1 w2) (x : Int) : ∃ w3, w3 = w2.setRow w1.heap.size ((repV x 1 N).map (Value.int .i64)).toArray ∧ Hid (Row w3 w1.heap.size 3 ((repV x 1 N).map (Value.int .i64)).toArray) ∧ Hid (Below w1.heap.size w1 w3) :=
  ⟨_, rfl, Lib.hid (h.whole _), Lib.hid (below_setRow' hB (Nat.le_refl _) _)⟩
set_option maxRecDepth 100000 in
set_option maxHeartbeats 4000000 in
theorem repeat_any (N : Nat) (x : Int) (b : Nat) (w : World) (hx : Row w b 3 #[.int .i64 x]) (hN : 1 ≤ N) (hN2 : N ≤ 16777216) : Calls Try.prog 79 #[.slice (some ⟨b, 0, none⟩) 1 1, .int .i64 (N : Nat)] w fun e w' =>
    ∃ g, e = .returned (.slice (some ⟨g, 0, none⟩) N N) ∧ w.heap.size ≤ g ∧ Row w' g 3 ((List.replicate N x).map (Value.int .i64)).toArray ∧ Below w.heap.size w w' := by
  have hMul := Try.bits_Mul 1 N (by omega) (by omega)
  rw [show 1 * N / 18446744073709551616 = 0 by omega, show 1 * N % 18446744073709551616 = N by omega] at hMul
  have HMul := Lib.hid hMul
  clear hMul
  have HX := Lib.hid hx
  clear hx
  have hu1 : IntKind.u64.wrap ((N : Nat) : Int) = ((N : Nat) : Int) := by rw [IntKind.wrap_u64]; omega
  have hu2 : IntKind.i64.wrap ((N : Nat) : Int) = ((N : Nat) : Int) := by rw [IntKind.wrap_i64]; omega
  have hge : ¬ ((N : Nat) : Int) < 0 := by omega
  have hgt : ¬ ((9223372036854775807 : Int) < ((N : Nat) : Int)) := by omega
  go_enter Try.func79, Try.ntmps79
  go_wp2_with (first | (go_at_call 101; refine (HMul.out _).mono ?_; rintro e w1 ⟨rfl, hw1⟩; subst hw1) | (with_reducible show wpList _ _ _ (Oper.mk _ (Op.makeSlice _ _ _) _ _ _ _ :: _) _ _; refine wpList_makeI rfl (.tmp 29) (.tmp 29) rfl _ N rfl rfl rfl (by omega) ?_; obtain ⟨w2, hw2, HG, HBb⟩ := made_rep w1 N; rw [← hw2]; clear hw2; have HXb := Lib.hid (HX.out.under HBb.out HX.out.lt)) | (with_reducible show wpList _ _ _ (Oper.mk _ (Op.call ⟨Callee.builtin Builtin.copy, _, _⟩) _ _ _ _ :: _) _ _; refine Lib.wpList_copy_run _ rfl _ _ 43 43 rfl (.slice (some ⟨w1.heap.size, 0, none⟩) N N) (.slice (some ⟨b, 0, none⟩) 1 1) rfl rfl (run_rep0 HG.out HXb.out hN) ?_; obtain ⟨w3, hw3, HR3, HB3⟩ := set_rep HG.out HBb.out x; rw [← hw3]; clear hw3 HG HBb HXb))
  have hs0 := HB3.out.size
  go_loopw [8] (fun i wr => ∃ k : Nat, 1 ≤ k ∧ k ≤ N ∧ i = .int .i64 k ∧ Row wr w1.heap.size 3 ((repV x k N).map (Value.int .i64)).toArray ∧ Below w1.heap.size w1 wr) (fun i _ => N - (intOf i).toNat)
  case atStart => exact ⟨1, Nat.le_refl _, hN, rfl, HR3.out, HB3.out⟩
  case round =>
    obtain ⟨k, hk1, hk, rfl, hrow, hbel⟩ := hrel
    by_cases hlt : k < N
    · have hlt' : (k : Int) < (N : Int) := by omega
      have hne : ¬ N = k := by omega
      have hrow' : Row wr.drew w1.heap.size 3 ((repV x k N).map (Value.int .i64)).toArray := hrow.under (Below.refl _ _).drew hrow.lt
      have hr1 := fun ty => run_rep (ty := ty) hrow' hk
      obtain ⟨m, hm⟩ : ∃ m, m = min k (N - k) := ⟨_, rfl⟩
      rw [← hm] at hr1
      have hm1 : 1 ≤ m := by omega
      have hm2 : k + m ≤ N := by omega
      clear hm
      have HRun := Lib.hid hr1
      have hw : IntKind.i64.wrap ((k : Int) + (m : Int)) = (k : Int) + (m : Int) := by rw [IntKind.wrap_i64]; omega
      have HR := Lib.hid (And.intro (hrow'.whole ((repV x (k + m) N).map (Value.int .i64)).toArray) (below_setRow' hbel.drew (Nat.le_refl _) ((repV x (k + m) N).map (Value.int .i64)).toArray))
      clear hrow hbel hrow' hr1
      go_wp2
      refine wp_region_held_drew (S := fun W => True) (by kernel_rfl) trivial (fun hHeld => ?_)
      refine wpAnyH_take (i := 0) (oi := ⟨some 38, _, _, _, _, _⟩) (v := ?_) rfl (by kernel_rfl) (by kernel_rfl) (by kernel_rfl) (fun _ _ _ h => h) (Or.inl ⟨by rfl, ?_⟩) hHeld ?_
      rotate_left
      · intro W hSw
        obtain _ := hSw
        go_simp
        with_reducible rfl
      simp only [Act.put, List.setIfInBounds_toArray, List.set_cons_zero, List.set_cons_succ]
      refine wpAnyH_take (i := 1) (oi := ⟨some 39, _, _, _, _, _⟩) (v := ?_) rfl (by kernel_rfl) (by kernel_rfl) (by kernel_rfl) (fun _ _ _ h => h) (Or.inl ⟨by rfl, ?_⟩) hHeld ?_
      rotate_left
      · intro W hSw
        obtain _ := hSw
        go_simp
        with_reducible rfl
      simp only [Act.put, List.setIfInBounds_toArray, List.set_cons_zero, List.set_cons_succ]
      refine wpAnyH_take (i := 2) (oi := ⟨some 40, _, _, _, _, _⟩) (v := ?_) rfl (by kernel_rfl) (by kernel_rfl) (by kernel_rfl) (fun _ _ _ h => h) (Or.inl ⟨by rfl, ?_⟩) hHeld ?_
      rotate_left
      · intro W hSw
        obtain _ := hSw
        go_simp
        with_reducible rfl
      simp only [Act.put, List.setIfInBounds_toArray, List.set_cons_zero, List.set_cons_succ]
      refine wpAnyH_take (i := 3) (oi := ⟨some 41, _, _, _, _, _⟩) (v := ?_) rfl (by kernel_rfl) (by kernel_rfl) (by kernel_rfl) (fun _ _ _ h => h) (Or.inl ⟨by rfl, ?_⟩) hHeld ?_
      rotate_left
      · intro W hSw
        obtain _ := hSw
        go_simp
        with_reducible rfl
      simp only [Act.put, List.setIfInBounds_toArray, List.set_cons_zero, List.set_cons_succ]
      refine wpAnyH_take (i := 4) (oi := ⟨some 42, _, _, _, _, _⟩) (v := ?_) rfl (by kernel_rfl) (by kernel_rfl) (by kernel_rfl) (fun _ _ _ h => h) (Or.inl ⟨by rfl, ?_⟩) hHeld ?_
      rotate_left
      · intro W hSw
        obtain _ := hSw
        go_simp
        with_reducible rfl
      simp only [Act.put, List.setIfInBounds_toArray, List.set_cons_zero, List.set_cons_succ]
      refine wpAnyH_take (i := 5) (oi := ⟨some 43, _, _, _, _, _⟩) (v := ?_) rfl (by kernel_rfl) (by kernel_rfl) (by kernel_rfl) (fun _ _ _ h => h) (Or.inl ⟨by rfl, ?_⟩) hHeld ?_
      rotate_left
      · intro W hSw
        obtain _ := hSw
        go_simp
        with_reducible rfl
      simp only [Act.put, List.setIfInBounds_toArray, List.set_cons_zero, List.set_cons_succ]
      refine wpAnyH_take (i := 6) (oi := ⟨some 44, _, _, _, _, _⟩) (v := ?_) rfl (by kernel_rfl) (by kernel_rfl) (by kernel_rfl) (fun _ _ _ h => h) (Or.inl ⟨by rfl, ?_⟩) hHeld ?_
      rotate_left
      · intro W hSw
        obtain _ := hSw
        go_simp
        with_reducible rfl
      simp only [Act.put, List.setIfInBounds_toArray, List.set_cons_zero, List.set_cons_succ]
      refine wpAnyH_ready (rs := [7]) (by kernel_rfl) (by simp) ?_
      refine (AllReadyH.cons (o := ⟨some 45, _, _, _, _, _⟩) rfl (fun K hK => ?_) AllReadyH.nil)
      refine step_copy_run rfl (.tmp 41) (.tmp 44) 43 43 rfl (.slice (some ⟨w1.heap.size, k, none⟩) (N - k) (N - k)) (.slice (some ⟨w1.heap.size, 0, none⟩) k N) rfl rfl (HRun.out _) ?_
      refine hK.out _ _ trivial (fun hHeld2 => ?_)
      clear hK hHeld
      have hHeld := hHeld2
      clear hHeld2
      refine wpAnyH_take (i := 8) (oi := ⟨some 46, _, _, _, _, _⟩) (v := ?_) rfl (by kernel_rfl) (by kernel_rfl) (by kernel_rfl) (fun _ _ _ h => h) (Or.inl ⟨by rfl, ?_⟩) hHeld ?_
      rotate_left
      · intro W hSw
        obtain _ := hSw
        go_simp
        with_reducible rfl
      simp only [Act.put, List.setIfInBounds_toArray, List.set_cons_zero, List.set_cons_succ]
      refine wpAnyH_take (i := 9) (oi := ⟨some 8, _, _, _, _, _⟩) (v := ?_) rfl (by kernel_rfl) (by kernel_rfl) (by kernel_rfl) (fun _ _ _ h => h) (Or.inl ⟨by rfl, ?_⟩) hHeld ?_
      rotate_left
      · intro W hSw
        obtain _ := hSw
        go_simp
        with_reducible rfl
      simp only [Act.put, List.setIfInBounds_toArray, List.set_cons_zero, List.set_cons_succ]
      refine wpAnyH_done (by kernel_rfl) ?_ _

      go_wp2
      refine ⟨⟨k + m, by omega, hm2, by go_num, HR.out.1, HR.out.2⟩, by simp [intOf]; omega⟩
    · obtain rfl : k = N := by omega
      rw [repV_all] at hrow
      have HR := Lib.hid (And.intro hrow hbel)
      clear hrow hbel
      go_wp2
      go_ret
      exact ⟨_, rfl, Nat.le_refl _, HR.out.1, HR.out.2⟩
end Go.Proofs.Ythljgkaigjokjaa

/- graph.Kept. -/
namespace Go.Proofs.Ythljgkaigjokjaa
open Go.RowKit Go.Shelf Grm Lay Go.Sort

/-- Ints in a row of the call's own. -/
abbrev IsV (w : World) (K : Nat) (v : Value) (xs : List Int) : Prop := w.ownsRow K 3 1 v xs.length (xs.map (Value.int .i64))
def arcsOf (l : List Ed) : List Int := l.map fun e => ((e.2.2 : Nat) : Int)
theorem kept_nil (w : World) : Calls Try.prog 25 #[.pointer none] w fun e w' => e = .returned (.slice none 0 0) ∧ w = w' := by
  go_enter Try.func25, Try.ntmps25
  go_wp2
  go_ret
  exact ⟨rfl, rfl⟩
set_option maxRecDepth 100000 in
set_option maxHeartbeats 4000000 in
theorem kept_any {w : World} {K M g n : Nat} {l : List Ar} (h : Gra w K M g n l) : Calls Try.prog 25 #[ptr g] w fun e w' => Below w.heap.size w w' ∧ ∃ x, e = .returned x ∧ IsV w' w.heap.size x ((keptL l).map fun k => ((k : Nat) : Int)) := by
  obtain ⟨a, c, ib, cb, jb, db, h⟩ := h
  have g2 := Row.cell h.gb 2
  simp only [List.getElem?_toArray, List.getElem?_cons_zero, List.getElem?_cons_succ] at g2
  have hgl := Row.lt h.gb
  have hL : (outs n l).length ≤ 67108864 := by have h1 := h.hl; have h2 := outs_len h.ok; have h3 := keptL_len l; omega
  have hLi : ((outs n l).length : Int) ≤ 67108864 := by omega
  have HO := Lib.hid (And.intro h.io (kept_sort h.ok))
  have HL := Lib.hid hL
  clear h
  generalize outs n l = O at *
  obtain ⟨i0, hi, hz0, hz1, hz2⟩ := info_partsC infoIC
  go_enter Try.func25, Try.ntmps25
  go_wp2_with (first | (with_reducible show wpList _ _ _ (Oper.mk _ (Op.makeSlice _ _ _) _ _ _ _ :: _) _ _; refine wpList_make_own _ rfl _ _ 43 rfl w.heap.size 3 i0 (.int .i64 0) 1 Try.underlying43 hi hz0 hz1 .i64 .i64 _ O.length rfl rfl rfl (by rw [hz2]; have := HL.out; omega) (by unfold maxLen; have := HL.out; omega) (Nat.le_refl _) ?_; intro w1 hown1 hg1; obtain ⟨cc1, cf1⟩ := (show (∀ q, w1.cell? ⟨g, q, none⟩ = w.cell? ⟨g, q, none⟩) ∧ True from ⟨fun q => by unfold World.cell?; rw [hg1.block g hgl (by simp)], trivial⟩); have HW1 := Lib.hid (And.intro hown1 hg1); clear hown1 hg1))
  have hio := HO.out.1.under (K := w.heap.size) ⟨HW1.out.2.os, HW1.out.2.tape, HW1.out.2.output, HW1.out.2.size, fun k hk => HW1.out.2.block k hk (by simp)⟩ HO.out.1.lt
  have HIo := Lib.hid hio
  clear hio
  go_loopw [3, 21] (fun v i wr => ∃ (k cap gg : Nat), i = .int .i64 k ∧ k ≤ O.length ∧ v = .slice (some ⟨gg, 0, none⟩) k cap ∧ IsV wr w.heap.size v (arcsOf (O.take k)) ∧ Below w.heap.size w wr ∧ Row wr ib 37 (esV O)) (fun _ i _ => O.length - (intOf i).toNat)
  case atStart => exact ⟨0, O.length, w.heap.size, rfl, Nat.zero_le _, rfl, HW1.out.1, ⟨HW1.out.2.os, HW1.out.2.tape, HW1.out.2.output, HW1.out.2.size, fun k hk => HW1.out.2.block k hk (by simp)⟩, HIo.out⟩
  case round =>
    obtain ⟨k, cap, gg, rfl, hk, rfl, hown, hb, hio⟩ := hrel
    have htl : (arcsOf (O.take k)).length = k := by unfold arcsOf; rw [List.length_map, List.length_take]; omega
    by_cases hlt : k < O.length
    · have hlt' : (k : Int) < (O.length : Int) := by omega
      have hw1 : IntKind.i64.wrap ((k : Int) + 1) = (k : Int) + 1 := by rw [IntKind.wrap_i64]; omega
      obtain ⟨q0, q1, q2⟩ := esV_at hlt
      have y0 := (hio.cell (k * 3)).trans q0
      have y1 := (hio.cell (k * 3 + 1)).trans q1
      have y2 := (hio.cell (k * 3 + 2)).trans q2
      have htk : arcsOf (O.take (k + 1)) = arcsOf (O.take k) ++ [(((O[k]'hlt).2.2 : Nat) : Int)] := by
        unfold arcsOf
        rw [List.take_succ_eq_append_getElem hlt, List.map_append]
        rfl
      clear q0 q1 q2
      generalize O[k]'hlt = x at *
      have hown2 : wr.ownsRow w.heap.size 3 1 (.slice (some ⟨gg, 0, none⟩) k cap) k ((arcsOf (O.take k)).map (Value.int .i64)) := by
        have h := hown
        unfold IsV at h
        rw [htl] at h
        exact h
      have HR := Lib.hid (And.intro hown2 (And.intro hb (And.intro hio (And.intro htk htl))))
      clear hown hown2 hb hio htk htl
      go_wp2_with (at_builtin; refine wpList_append_own_at _ rfl _ _ 43 rfl w.heap.size 3 i0 (.int .i64 0) 1 8 Try.underlying43 hi hz0 hz1 hz2 rfl (by decide) _ k ((arcsOf (O.take k)).map (Value.int .i64)) rfl ((HR.out.1.alloc _).alloc _) ⟨wr.heap.size + 1, 0, none⟩ 1 1 [.int .i64 (x.2.2 : Nat)] rfl rfl (by have h := cell_one_new (wr.alloc (.cells #[.int .i64 x.1, .int .i64 x.2.1, .int .i64 (x.2.2 : Nat)] 37)) (.int .i64 (x.2.2 : Nat)) 3; rw [World.size_alloc] at h; exact h) (by simp [Value.oneCell']) (by unfold maxLen; have := HL.out; omega) (by have := HL.out; omega) (by have := HR.out.2.1.size; simp; omega) ?_; intro v' w3 hown' hg3 _ hat3; obtain ⟨g', cap', rfl⟩ := ownsRow_succ hown'; have HA := Lib.hid (And.intro hown' (And.intro hg3 hat3)); clear hown' hg3 hat3)
      have hgg := (owns_lt HR.out.1 gg rfl).1
      have hbal : Below w.heap.size w ((wr.alloc (.cells #[.int .i64 x.1, .int .i64 x.2.1, .int .i64 (x.2.2 : Nat)] 37)).alloc (.cells #[.int .i64 (x.2.2 : Nat)] 3)) := (HR.out.2.1.alloc HR.out.2.1.size _).alloc (by have := HR.out.2.1.size; simp; omega) _
      refine ⟨⟨k + 1, cap', g', by go_num, hlt, rfl, ?_, hbal.grown HA.out.2.1 hbal.size (fun q e => by cases e; exact hgg), ?_⟩, by simp [intOf]; omega⟩
      · show w3.ownsRow w.heap.size 3 1 _ (arcsOf (O.take (k + 1))).length _
        rw [HR.out.2.2.2.1, List.length_append, HR.out.2.2.2.2, List.map_append]
        exact HA.out.1
      · have hib := HO.out.1.lt
        exact ((HR.out.2.2.1.past _).past _).only (only_grown (S := fun q => q = gg) HA.out.2.1 (fun q e => by cases e; rfl)) (fun e => by omega)
    · obtain rfl : k = O.length := by omega
      have hlt' : ¬ (O.length : Int) < (O.length : Int) := by omega
      rw [List.take_length] at hown htl
      rcases hown.2 with ⟨hnil, _⟩ | ⟨g', cap', cur, e, hbase, hbk, h1, h2, h3, h4⟩
      · cases hnil
      rw [htl] at e
      cases e
      have hgl2 : gg < wr.heap.size := (Array.getElem?_eq_some_iff.1 hbk).1
      have hlen : (arcsOf O).length < 4611686018427387904 := by have := HL.out; omega
      have hC := Try.slices_Sort_int gg 0 cap (arcsOf O) wr (holds_of_blockI hbk (by simpa using h4)) hgl2 hlen
      rw [htl] at hC
      have HC := Lib.hid hC
      have hsrt : ((arcsOf O).mergeSort fun x y => decide (x ≤ y)) = (keptL l).map fun k => ((k : Nat) : Int) := HO.out.2
      have hkl : ((keptL l).map fun k => ((k : Nat) : Int)).length = O.length := by rw [← hsrt, List.length_mergeSort, htl]
      have HS : Hid (∀ nn os, ∃ w3, w3 = grow (putRow (Value.int .i64) (Sort.ahead wr nn) gg 0 ((arcsOf O).mergeSort fun x y => decide (x ≤ y)).toArray) os ∧ Hid (IsV w3 w.heap.size (.slice (some ⟨gg, 0, none⟩) O.length cap) ((keptL l).map fun k => ((k : Nat) : Int)) ∧ Below w.heap.size w w3)) := fun nn os => by
        have hg := grownBy_sortedI (w := wr) (g := gg) (n := nn) (os := os) ((arcsOf O).mergeSort fun x y => decide (x ≤ y)).toArray
        refine ⟨_, rfl, ?_, hb.grown hg hb.size (fun q e => by cases e; exact hbase)⟩
        have hq := ownsRow_sortedI (w := wr) (n := nn) (os := os) (ts := (arcsOf O).mergeSort fun x y => decide (x ≤ y)) (by rw [List.length_mergeSort]) hbase hbk h1 h2 h3
        rw [hsrt, htl] at hq
        show World.ownsRow _ _ _ _ _ (List.map _ _).length _
        rw [hkl]
        rw [hsrt]
        exact hq
      clear hown hb hio htl hbase hbk h1 h2 h3 h4 hC hsrt hkl hgl2 hlen
      go_wp2_with (go_at_call 55; refine HC.out.mono ?_; rintro e w' ⟨rfl, nn, os, hw'⟩; obtain ⟨w3, hw3, HF⟩ := HS.out nn os; rw [← hw3] at hw'; subst hw'; clear hw3)
      go_ret
      exact ⟨HF.out.2, _, rfl, HF.out.1⟩
end Go.Proofs.Ythljgkaigjokjaa

/- dist.toAll, From, To. -/
namespace Go.Proofs.Ythljgkaigjokjaa
open Go.RowKit Go.Shelf Grm Lay
attribute [local go_sem] Oper.semAt_some
/-- The iterator nearest over the edges E of a graph in memory, wherever its three boxes lie. -/
def NearIt (F : Nat) (p : Value) (B : Nat) (E : Nat → List Ed) (N : Nat) (w : World) : Prop := ∀ (w' : World) (s : Int) (bn bs bx : Nat) (Wr : Foot) (m : Nat), Below B w w' → Row w' bn 3 #[.int .i64 (N : Nat)] → Row w' bs 3 #[.int .i64 s] → Row w' bx 31 #[.func (.func F) #[p] #[]] →
  (∀ k, Wr k → B ≤ k ∧ k < w'.heap.size ∧ k ≠ bx) → 1 ≤ m → SeqSep Fence.wide m Try.prog 74 #[ptr bn, ptr bs, ptr bx] (fun x : Nat × Int => #[.int .i64 (x.1 : Nat), .int .i64 x.2]) Wr (NR E N s) (NS E N s) w'
theorem near_it_out {w : World} {p : Value} {B N : Nat} {l : List Ar} (h : GV w B p N l) (hB : B ≤ w.heap.size) : NearIt 20 p B (outE N l) N w := fun w' s bn bs bx Wr m hb hn hs hx hWr hm =>
  near_seq_out m Wr hm hn hs hx (h.only (S := fun k => B ≤ k) ⟨hb.os, hb.tape, hb.output, hb.size, fun k hk hn => hb.block k (by omega)⟩ (fun k h => h)) hWr (Nat.le_trans hB hb.size)
theorem near_it_in {w : World} {p : Value} {B N : Nat} {l : List Ar} (h : GV w B p N l) (hB : B ≤ w.heap.size) : NearIt 21 p B (inE N l) N w := fun w' s bn bs bx Wr m hb hn hs hx hWr hm =>
  near_seq_in m Wr hm hn hs hx (h.only (S := fun k => B ≤ k) ⟨hb.os, hb.tape, hb.output, hb.size, fun k hk hn => hb.block k (by omega)⟩ (fun k h => h)) hWr (Nat.le_trans hB hb.size)
/-- nearest's answer, its boxes by name. -/
def Nearing (N : Nat) (s : Int) (F : Nat) (p : Value) (W : World) (bn bs bx : Nat) (w' : World) : Prop := (W.heap.size ≤ bn ∧ W.heap.size ≤ bs ∧ W.heap.size ≤ bx) ∧ Row w' bn 3 #[.int .i64 (N : Nat)] ∧ Row w' bs 3 #[.int .i64 s] ∧ Row w' bx 31 #[.func (.func F) #[p] #[]] ∧ Below W.heap.size W w'
theorem nearest_pack (N : Nat) (s : Int) (F : Nat) (p : Value) (W : World) : Calls Try.prog 59 #[.int .i64 (N : Nat), .int .i64 s, .func (.func F) #[p] #[]] W fun e w' =>
    ∃ bn bs bx, e = .returned (.func (.func 74) #[] #[ptr bn, ptr bs, ptr bx]) ∧ Hid (Nearing N s F p W bn bs bx w') := by
  refine (nearest_any N s F p W).mono ?_
  rintro e w' ⟨rfl, rfl⟩
  refine ⟨_, _, _, rfl, Lib.hid ⟨⟨by omega, by omega, by omega⟩, ?_, ?_, ?_, ?_⟩⟩
  · exact ((Row.fresh W _ _).past _).past _
  · have h := (Row.fresh (W.alloc (.cells #[.int .i64 (N : Nat)] 3)) 3 #[.int .i64 s]).past (.cells #[.func (.func F) #[p] #[]] 31)
    rw [World.size_alloc] at h
    exact h
  · have h := Row.fresh ((W.alloc (.cells #[.int .i64 (N : Nat)] 3)).alloc (.cells #[.int .i64 s] 3)) 31 #[.func (.func F) #[p] #[]]
    rw [World.size_alloc, World.size_alloc] at h
    exact h
  · exact (((Below.refl _ _).alloc (Nat.le_refl _) _).alloc (by rw [World.size_alloc]; omega) _).alloc (by rw [World.size_alloc, World.size_alloc]; omega) _
/-- What lies there in a round of toAll. -/
def ToI (w : World) (N lb g : Nat) (L : List Int) (pre : List (Nat × Int)) (_ : Foot) (W : World) : Prop := Row W lb 43 #[.slice (some ⟨g, 0, none⟩) N N] ∧ Row W g 3 ((tabL L pre).map (Value.int .i64)).toArray ∧ Below w.heap.size w W
theorem ToI.abide {w : World} {N lb g B : Nat} {L : List Int} (hB : lb < B ∧ g < B ∧ w.heap.size ≤ B) : Abide B (ToI w N lb g L) := fun s T A A' h hT ho =>
  ⟨h.1.only ho (fun q => by omega), h.2.1.only ho (fun q => by omega), h.2.2.trans (ho.below (K := w.heap.size) (fun k q => by omega) h.2.2.size)⟩
theorem only_one {g : Nat} {W : World} (x : Nat) (v : Value) : Only (fun k => k = g) W (W.setCell ⟨g, x, none⟩ v) := (Only.refl (fun k => k = g) W).setCell (p := ⟨g, x, none⟩) (.inl rfl) v
theorem tabL_put {L : List Int} {pre : List (Nat × Int)} {x : Nat × Int} (h : L[x.1]? = some x.2) : (((tabL L pre).map (Value.int .i64)).toArray).setIfInBounds x.1 (.int .i64 x.2) = ((tabL L (pre ++ [x])).map (Value.int .i64)).toArray := by
  rw [List.setIfInBounds_toArray, ← List.map_set, tabL_tell h]
theorem owns_all {w : World} {K g N : Nat} {l : List Int} (h : Row w g 3 (l.map (Value.int .i64)).toArray) (hK : K ≤ g) (hl : l.length = N) (hN : N ≤ 16777216) : w.ownsRow K 3 1 (.slice (some ⟨g, 0, none⟩) N N) N (l.map (Value.int .i64)) :=
  ⟨by simp [hl], .inr ⟨g, N, (l.map (Value.int .i64)).toArray, rfl, hK, h, Nat.le_refl _, by unfold maxLen; omega, by simp [hl], by simp [hl, List.take_of_length_le]⟩⟩
set_option maxRecDepth 100000 in
set_option maxHeartbeats 4000000 in
theorem toall_any {E : Nat → List Ed} {N : Nat} {s : Int} {L : List Int} {F : Nat} {p : Value} {w : World} (hIt : NearIt F p w.heap.size E N w) (hN : N ≤ 16777216) (hL : FarI E N s L) :
    Calls Try.prog 60 #[.int .i64 (N : Nat), .int .i64 s, .func (.func F) #[p] #[]] w fun e w' => Below w.heap.size w w' ∧ ∃ x, e = .returned x ∧ IsV w' w.heap.size x L := by
  by_cases hp : 0 ≤ s ∧ s < (N : Int)
  · have hpd : decide (0 ≤ s ∧ s < (N : Int)) = true := by simpa using hp
    have hLN : L.length = N := by
      rcases hL with ⟨_, _, h⟩ | ⟨h, _⟩
      · exact h.1
      · omega
    have HP := Lib.hid (And.intro hp (And.intro hN (And.intro hL hLN)))
    have HPd := Lib.hid hpd
    have HIt := Lib.hid hIt
    clear hp hN hL hLN hpd hIt
    refine (callsIn_wide (n := 6)).1 ?_
    refine callsIn_of_wp_marks Try.func60 rfl trivial ?_ rfl
    simp only [Try.ntmps60, List.size_toArray, List.length_cons, List.length_nil, Nat.reduceAdd, Nat.reduceSub, Array.replicate_succ, Array.replicate_zero, List.push_toArray, List.append_toArray, List.nil_append, List.cons_append]
    refine wpIn_mono ?_ noP_le
    rw [wpIn_wide]
    go_wp2_with (first | (go_at_call 61; refine (isplace_any _ _ _).mono ?_; rintro e w1 ⟨rfl, rfl⟩; rw [HPd.out]) | (go_at_call 79; refine (repeat_any N (-1) _ _ (Row.fresh w1 _ _) (by have := HP.out.1; omega) HP.out.2.1).mono ?_; rintro e w2 ⟨g, rfl, hg, hrow, hb2⟩; have H2 := Lib.hid (And.intro hg (And.intro hrow hb2)); clear hg hrow hb2) | (go_at_call 59; refine (nearest_pack N s F p _).mono ?_; rintro e w4 ⟨bn, bs, bx, rfl, H4⟩))
    obtain ⟨lb, hlb⟩ : ∃ lb, lb = w2.heap.size := ⟨_, rfl⟩
    have hz := H2.out.2.2.size
    have hg := H2.out.1
    rw [World.size_alloc] at hz hg
    have hgl := H2.out.2.1.lt
    have hrl := (Row.fresh w2 43 #[.slice (some ⟨g, 0, none⟩) N N])
    have hz4 := H4.out.2.2.2.2.size
    rw [World.size_alloc] at hz4
    have hbb : Below w1.heap.size w1 w4 := ((((Below.refl _ _).alloc (Nat.le_refl _) _).trans (H2.out.2.2.mono (by rw [World.size_alloc]; omega))).alloc (by omega) _).trans (H4.out.2.2.2.2.mono (by rw [World.size_alloc]; omega))
    have hb1 := H4.out.1
    rw [World.size_alloc] at hb1
    have h0 : ToI w1 N lb g L [] (fun _ => False) w4 := by
      refine ⟨?_, ?_, hbb⟩
      · rw [hlb]
        exact hrl.under H4.out.2.2.2.2 (by rw [World.size_alloc]; omega)
      · have h := (H2.out.2.1.past (.cells #[.slice (some ⟨g, 0, none⟩) N N] 43)).under H4.out.2.2.2.2 (by rw [World.size_alloc]; omega)
        rw [tabL_nil, HP.out.2.2.2]
        exact h
    have hseq := HIt.out w4 s bn bs bx (fun k => k = g) (6 - 1) hbb H4.out.2.1 H4.out.2.2.1 H4.out.2.2.2.1 (fun k e => by subst e; omega) (by omega)
    have H0 := Lib.hid h0
    have HS := Lib.hid (show lb < w4.heap.size ∧ g < w4.heap.size ∧ w1.heap.size ≤ w4.heap.size ∧ w1.heap.size < g ∧ lb ≠ g by omega)
    clear hz hg hgl hrl hz4 hbb hb1 h0
    rw [← hlb]
    clear hlb
    refine (wpIn_wide (n := 6)).1 ?_
    refine wpIn_rangeFunc_sep1 (F := Fence.wide) rfl (by omega) (gf := 74) (lb := #[ptr bn, ptr bs, ptr bx]) rfl trivial (enters_of Try.func74 (by kernel_rfl) rfl) hseq (fun k h => by have := HS.out; omega) (fun _ => rfl)
      (ToI w1 N lb g L) (fun _ _ _ _ => False) (ToI.abide ⟨HS.out.1, HS.out.2.1, HS.out.2.2.1⟩) (fun _ _ _ _ _ h _ _ => h.elim) H0.out (mk := ?mk) ?assign ?body ?done ?stop
    case assign =>
      intro l x W K hK
      gi_wp2
      exact hK
    case body =>
      rintro l pre x T W ⟨h1, h2, h3⟩ hR hT hW
      obtain ⟨hx1, hx2, _⟩ := HP.out.2.2.1.at_ hR
      rw [HP.out.2.2.2] at hx2
      have hlt : ((x.1 : Nat) : Int) < (N : Int) := by omega
      have p0 := h1.cell 0
      simp only [List.getElem?_toArray, List.getElem?_cons_zero] at p0
      have c0 := h2.cell x.1
      have f0 := h2.thaw x.1
      rw [List.getElem?_toArray, List.getElem?_map, tabL_at (by rw [HP.out.2.2.2]; exact hx2), Option.map_some] at c0
      have HQ := Lib.hid (And.intro h1 (And.intro h2 (And.intro h3 (And.intro hT (And.intro hW hx1)))))
      clear h1 h2 h3 hT hW hx1 hR hx2
      gi_wp2
      have ho := only_one (W := W) (g := g) x.1 (.int .i64 x.2)
      have hs := HS.out
      have hr := HQ.out.2.1.put x.1 (.int .i64 x.2)
      rw [tabL_put HQ.out.2.2.2.2.2] at hr
      exact ⟨T, ⟨HQ.out.1.only ho hs.2.2.2.2, hr, HQ.out.2.2.1.trans (ho.below (K := w1.heap.size) (fun k e => by omega) HQ.out.2.2.1.size)⟩, ⟨fun _ h => h, fun _ h => .inl h, fun k h => Nat.lt_of_lt_of_le (HQ.out.2.2.2.1 k h).2 ho.size, ho.mono (fun k h => .inl (.inl h))⟩⟩
    case done =>
      rintro D pre T W hD hS ⟨h1, h2, h3⟩ hT hK
      have p0 := h1.cell 0
      simp only [List.getElem?_toArray, List.getElem?_cons_zero] at p0
      rw [tabL_done HP.out.2.2.1 hS] at h2
      have HQ := Lib.hid (And.intro h2 (And.intro h3 (And.intro hK hD)))
      clear h1 h2 h3 hT hK hS hD
      go_wp2
      refine noP_ret ?_
      have hs := HS.out
      have hD := HQ.out.2.2.2
      refine ⟨by simp, .inl ⟨_, _, rfl, run_takeDeferred HQ.out.2.2.1, ?_⟩⟩
      have ho : Only (fun k => k = D) W (W.putObj D (.deferred none)) := Only.putObj _ rfl
      refine ⟨.slice (some ⟨g, 0, none⟩) N N, by simp [results, Try.results60, go_sem], ?_⟩
      refine ⟨HQ.out.2.1.trans (ho.below (K := w1.heap.size) (fun k e => by omega) HQ.out.2.1.size), _, rfl, ?_⟩
      show World.ownsRow _ _ _ _ _ L.length _
      rw [HP.out.2.2.2]
      exact owns_all (HQ.out.1.only ho (by omega)) (by omega) HP.out.2.2.2 HP.out.2.1
    case stop =>
      rintro D c pre T W hD h hT hK
      exact h.elim
  · have hpd : decide (0 ≤ s ∧ s < (N : Int)) = false := by simpa using hp
    obtain rfl : L = [] := by
      rcases hL with ⟨h1, h2, _⟩ | ⟨_, h⟩
      · exact absurd ⟨h1, h2⟩ hp
      · exact h
    have HPd := Lib.hid hpd
    clear hp hpd hL hIt
    go_enter Try.func60, Try.ntmps60
    go_wp2_with (go_at_call 61; refine (isplace_any _ _ _).mono ?_; rintro e w1 ⟨rfl, rfl⟩; rw [HPd.out])
    go_ret
    exact ⟨Below.refl _ _, _, rfl, rfl, .inl ⟨rfl, rfl⟩⟩
/-- N of a graph, or of none. -/
theorem n_gv {w : World} {B N : Nat} {p : Value} {l : List Ar} (h : GV w B p N l) : Calls Try.prog 19 #[p] w fun e w' => e = .returned (.int .i64 (N : Nat)) ∧ w = w' := by
  rcases h with ⟨rfl, rfl, _⟩ | ⟨K, M, g, rfl, h, _⟩
  · exact n_nil w
  · exact n_any h
theorem dfrom_any {w : World} {B N : Nat} {s : Int} {p : Value} {l : List Ar} {L : List Int} (h : GV w B p N l) (hB : B ≤ w.heap.size) (hL : FarI (arcE l) N s L) :
    Calls Try.prog 33 #[p, .int .i64 s] w fun e w' => Below w.heap.size w w' ∧ ∃ x, e = .returned x ∧ IsV w' w.heap.size x L := by
  have hN := Lib.hid (n_gv h)
  have hT := Lib.hid (toall_any (near_it_out (h.more hB) (Nat.le_refl _)) h.ok.2.2.1 (hL.same (same_out h.ok.1 h.ok.2.1).symm))
  have hp : ∃ q, p = .pointer q := by
    rcases h with ⟨rfl, _⟩ | ⟨K, M, g, rfl, _⟩
    · exact ⟨_, rfl⟩
    · exact ⟨_, rfl⟩
  obtain ⟨q, rfl⟩ := hp
  clear h hB hL
  go_enter Try.func33, Try.ntmps33
  go_wp2_with (first | (go_at_call 19; refine hN.out.mono ?_; rintro e w1 ⟨rfl, rfl⟩) | (go_at_call 60; refine hT.out.mono ?_; rintro e w2 ⟨hb, x, rfl, hx⟩; have HX := Lib.hid (And.intro hb hx); clear hb hx))
  go_ret
  exact ⟨HX.out.1, _, rfl, HX.out.2⟩
theorem dto_any {w : World} {B N : Nat} {s : Int} {p : Value} {l : List Ar} {L : List Int} (h : GV w B p N l) (hB : B ≤ w.heap.size) (hL : FarI (arcE (turn l)) N s L) :
    Calls Try.prog 37 #[p, .int .i64 s] w fun e w' => Below w.heap.size w w' ∧ ∃ x, e = .returned x ∧ IsV w' w.heap.size x L := by
  have hN := Lib.hid (n_gv h)
  have hT := Lib.hid (toall_any (near_it_in (h.more hB) (Nat.le_refl _)) h.ok.2.2.1 (hL.same (same_in h.ok.1 h.ok.2.1).symm))
  have hp : ∃ q, p = .pointer q := by
    rcases h with ⟨rfl, _⟩ | ⟨K, M, g, rfl, _⟩
    · exact ⟨_, rfl⟩
    · exact ⟨_, rfl⟩
  obtain ⟨q, rfl⟩ := hp
  clear h hB hL
  go_enter Try.func37, Try.ntmps37
  go_wp2_with (first | (go_at_call 19; refine hN.out.mono ?_; rintro e w1 ⟨rfl, rfl⟩) | (go_at_call 60; refine hT.out.mono ?_; rintro e w2 ⟨hb, x, rfl, hx⟩; have HX := Lib.hid (And.intro hb hx); clear hb hx))
  go_ret
  exact ⟨HX.out.1, _, rfl, HX.out.2⟩
end Go.Proofs.Ythljgkaigjokjaa

/- dist: how a list of distances is known; what the chapter's example fixes. -/
namespace Go.Proofs.Ythljgkaigjokjaa
open Go.RowKit Go.Shelf Grm Lay
/-- A list that no arc makes shorter, each number a walk's: how far it is. -/
structure Clo (l : List Ar) (N s : Nat) (L : List Int) : Prop where
  len : L.length = N
  walk : ∀ (v : Nat) (d : Int), L[v]? = some d → d = -1 ∨ (0 ≤ d ∧ Wk (arcE l) s v d)
  zero : L[s]? = some 0
  step : ∀ x ∈ l, ∀ d : Int, L[x.1.toNat]? = some d → 0 ≤ d → ∃ d', L[x.2.1.toNat]? = some d' ∧ 0 ≤ d' ∧ d' ≤ d + x.2.2
theorem Clo.farL {l : List Ar} {N s : Nat} {L : List Int} (h : Clo l N s L) : FarL (arcE l) N s L := by
  have key : ∀ v d, Wk (arcE l) s v d → ∃ d', L[v]? = some d' ∧ 0 ≤ d' ∧ d' ≤ d := by
    intro v d hw
    induction hw with
    | nil => exact ⟨0, h.zero, by omega, by omega⟩
    | snoc hw he hv ih =>
      obtain ⟨d1, h1, h2, h3⟩ := ih
      obtain ⟨x, hx, hu, rfl⟩ := mem_arcE.1 he
      dsimp only at hv ⊢
      obtain ⟨d2, h4, h5, h6⟩ := h.step x hx d1 (by rw [hu, Int.toNat_natCast]; exact h1) h2
      rw [hv, Int.toNat_natCast] at h4
      exact ⟨d2, h4, h5, by omega⟩
  refine ⟨h.len, fun v hv => ?_⟩
  have hlt : v < L.length := by rw [h.len]; exact hv
  have hg := List.getElem?_eq_getElem hlt
  rcases h.walk v _ hg with h1 | ⟨h1, h2⟩
  · refine .inr ⟨by rw [hg, h1], fun d hw => ?_⟩
    obtain ⟨d', h3, h4, _⟩ := key v d hw
    rw [hg] at h3
    injection h3 with h3
    omega
  · refine .inl ⟨_, hg, h2, fun d hw => ?_⟩
    obtain ⟨d', h3, _, h5⟩ := key v d hw
    rw [hg] at h3
    injection h3 with h3
    omega
theorem Clo.farI {l : List Ar} {N s : Nat} {L : List Int} (h : Clo l N s L) (hs : s < N) : FarI (arcE l) N s L := .inl ⟨by omega, by omega, by simpa using h.farL⟩
theorem IsV.shape {w : World} {K : Nat} {v : Value} {l : List Int} (h : IsV w K v l) : ∃ a c, v = .slice a l.length c ∧ Zs w a l ∧ l.length ≤ c ∧ ∀ b o, a = some ⟨b, o, none⟩ → K ≤ b := by
  obtain ⟨a, c, rfl, hc, _⟩ := owns_shape h
  exact ⟨a, c, rfl, Zs.of h, hc, fun b o e => (owns_lt h b (by rw [e]; rfl)).1⟩
theorem Zs.of_row {w : World} {g : Nat} {t : TypeId} {l : List Int} (h : Row w g t (l.map (Value.int .i64)).toArray) : Zs w (some ⟨g, 0, none⟩) l := by
  refine .inr ⟨g, 0, rfl, fun i y hi => ?_⟩
  rw [Nat.zero_add, h.cell]
  simp [hi]
def k7 : List Ar := [(0, 1, 5), (1, 2, 1), (0, 2, 9)]
theorem k7_check : checkL 3 k7 = 0 := by decide
theorem k7_out : FarI (arcE k7) 3 0 [0, 5, 6] := by
  have h1 : Wk (arcE k7) 0 1 5 := Wk.snoc (Wk.nil) (mem_arcE.2 ⟨(0, 1, 5), by simp [k7], rfl, rfl⟩) rfl
  have h2 : Wk (arcE k7) 0 2 6 := Wk.snoc h1 (mem_arcE.2 ⟨(1, 2, 1), by simp [k7], rfl, rfl⟩) rfl
  refine Clo.farI (s := 0) ⟨rfl, fun v d hv => ?_, rfl, fun x hx d hd h0 => ?_⟩ (by omega)
  · match v, hv with
    | 0, hv => injection hv with hv; subst hv; exact .inr ⟨by omega, .nil⟩
    | 1, hv => injection hv with hv; subst hv; exact .inr ⟨by omega, h1⟩
    | 2, hv => injection hv with hv; subst hv; exact .inr ⟨by omega, h2⟩
  · simp only [k7, List.mem_cons, List.not_mem_nil, or_false] at hx
    rcases hx with rfl | rfl | rfl
    · injection hd with hd; subst hd; exact ⟨5, rfl, by omega, by simp⟩
    · injection hd with hd; subst hd; exact ⟨6, rfl, by omega, by simp⟩
    · injection hd with hd; subst hd; exact ⟨6, rfl, by omega, by simp⟩
theorem k7_in : FarI (arcE (turn k7)) 3 0 [0, -1, -1] := by
  refine Clo.farI (s := 0) ⟨rfl, fun v d hv => ?_, rfl, fun x hx d hd h0 => ?_⟩ (by omega)
  · match v, hv with
    | 0, hv => injection hv with hv; subst hv; exact .inr ⟨by omega, .nil⟩
    | 1, hv => injection hv with hv; subst hv; exact .inl rfl
    | 2, hv => injection hv with hv; subst hv; exact .inl rfl
  · simp only [turn, k7, List.map_cons, List.map_nil, List.mem_cons, List.not_mem_nil, or_false] at hx
    rcases hx with rfl | rfl | rfl
    · injection hd with hd; subst hd; omega
    · injection hd with hd; subst hd; omega
    · injection hd with hd; subst hd; omega
/-- A graph that New has made. -/
theorem gv_of {w' : World} {B N g : Nat} {l : List Ar} {n : Int} (hk : checkL n l = 0) (h : Gra w' B w'.heap.size g N l) : GV w' w'.heap.size (ptr g) N l := .inr ⟨B, _, g, rfl, h, Nat.le_refl _, by obtain ⟨_, _, _, _, _, h⟩ := checkL_zero hk; exact h⟩
/-- What comes next: memory new, the graph as it was. -/
theorem GV.next {w w' : World} {B N : Nat} {p : Value} {l : List Ar} (h : GV w B p N l) (hB : B ≤ w.heap.size) (hb : Below w.heap.size w w') : GV w' B p N l ∧ B ≤ w'.heap.size := ⟨h.under hb, Nat.le_trans hB hb.size⟩
set_option maxRecDepth 100000 in
set_option maxHeartbeats 1000000 in
theorem dknown_any (w : World) : Calls Try.prog 30 #[] w fun e w' => e = .returned (.bool true) ∧ Below w.heap.size w w' := by
  obtain ⟨w1, hw1⟩ : ∃ w1, w1 = w.alloc (.cells #[.int .i64 0, .int .i64 1, .int .i64 5, .int .i64 1, .int .i64 2, .int .i64 1, .int .i64 0, .int .i64 2, .int .i64 9] 33) := ⟨_, rfl⟩
  have hb1 : Below w.heap.size w w1 := by rw [hw1]; exact (Below.refl _ _).alloc (Nat.le_refl _) _
  have hA : Arcs w1 (some ⟨w.heap.size, 0, none⟩) k7 := Arcs.of_row (t := 33) (cs := #[.int .i64 0, .int .i64 1, .int .i64 5, .int .i64 1, .int .i64 2, .int .i64 1, .int .i64 0, .int .i64 2, .int .i64 9]) (by rw [hw1]; exact Row.fresh w _ _) (fun j u h => by simpa [k7, acells] using h)
  have HW := Lib.hid hw1
  have HB := Lib.hid hb1
  have HN := Lib.hid (new_any (n := 3) (c := 3) hA k7_check)
  clear hw1 hb1 hA
  go_enter Try.func30, Try.ntmps30
  go_wp2_with (first
    | (go_at_call 18; rw [← HW.out]; refine HN.out.mono ?_; rintro e w2 ⟨g, rfl, hb2, hg⟩; have HG := Lib.hid (And.intro (HB.out.trans (hb2.mono HB.out.size)) (gv_of k7_check hg)); clear hb2 hg))
  refine (dfrom_any HG.out.2 (Nat.le_refl _) k7_out).mono ?_
  rintro e w3 ⟨hb3, x, rfl, hx⟩
  obtain ⟨a3, c3, rfl, hE3, _, _⟩ := IsV.shape hx
  obtain ⟨w4, hw4⟩ : ∃ w4, w4 = w3.alloc (.cells #[.int .i64 0, .int .i64 5, .int .i64 6] 3) := ⟨_, rfl⟩
  have hb4 : Below w3.heap.size w3 w4 := by rw [hw4]; exact (Below.refl _ _).alloc (Nat.le_refl _) _
  have hE4 : Zs w4 (some ⟨w3.heap.size, 0, none⟩) [0, 5, 6] := Zs.of_row (t := 3) (by rw [hw4]; exact Row.fresh w3 _ _)
  have HS := Lib.hid (sameints_any a3 (some ⟨w3.heap.size, 0, none⟩) [0, 5, 6] [0, 5, 6] c3 3 w4 (hE3.under hb4) hE4 (by simp))
  have hb24 := hb3.trans (hb4.mono hb3.size)
  have H4 := Lib.hid (And.intro (HG.out.1.trans (hb24.mono HG.out.1.size)) (HG.out.2.next (Nat.le_refl _) hb24))
  have HW4 := Lib.hid hw4
  clear hx hE3 hE4 hb3 hb4 hw4 hb24
  go_wp2_with (first
    | (go_at_call 24; rw [← HW4.out]; refine HS.out.mono ?_; rintro e w5 ⟨rfl, hb5⟩; simp only [decide_true]; have H5 := Lib.hid (And.intro (H4.out.1.trans (hb5.mono H4.out.1.size)) (H4.out.2.1.next H4.out.2.2 hb5)); clear hb5))
  refine (dto_any H5.out.2.1 H5.out.2.2 k7_in).mono ?_
  rintro e w6 ⟨hb6, x6, rfl, hx6⟩
  obtain ⟨a6, c6, rfl, hE6, _, _⟩ := IsV.shape hx6
  obtain ⟨w7, hw7⟩ : ∃ w7, w7 = w6.alloc (.cells #[.int .i64 0, .int .i64 (-1), .int .i64 (-1)] 3) := ⟨_, rfl⟩
  have hb7 : Below w6.heap.size w6 w7 := by rw [hw7]; exact (Below.refl _ _).alloc (Nat.le_refl _) _
  have hE7 : Zs w7 (some ⟨w6.heap.size, 0, none⟩) [0, -1, -1] := Zs.of_row (t := 3) (by rw [hw7]; exact Row.fresh w6 _ _)
  have HS7 := Lib.hid (sameints_any a6 (some ⟨w6.heap.size, 0, none⟩) [0, -1, -1] [0, -1, -1] c6 3 w7 (hE6.under hb7) hE7 (by simp))
  have hb57 := hb6.trans (hb7.mono hb6.size)
  have H7 := Lib.hid (H5.out.1.trans (hb57.mono H5.out.1.size))
  have HW7 := Lib.hid hw7
  clear hx6 hE6 hE7 hb6 hb7 hw7 hb57
  go_wp2_with (first
    | (go_at_call 24; rw [← HW7.out]; refine HS7.out.mono ?_; rintro e w8 ⟨rfl, hb8⟩; simp only [decide_true]; have H8 := Lib.hid (H7.out.trans (hb8.mono H7.out.size)); clear hb8))
  go_ret
  exact ⟨rfl, H8.out⟩
end Go.Proofs.Ythljgkaigjokjaa

