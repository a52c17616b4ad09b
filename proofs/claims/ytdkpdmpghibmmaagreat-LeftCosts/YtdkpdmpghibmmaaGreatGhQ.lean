/- graph.row's of: the edges of a place, told one by one (written by mkof.py). -/
import Derived.Test.YtdkpdmpghibmmaaGreatGhB
import Derived.Test.YtdkpdmpghibmmaaGreatColl
namespace Go.Proofs.YtdkpdmpghibmmaaGreat
open Go.RowKit Go.Shelf Grm Lay
attribute [local go_sem] Oper.semAt_some

theorem of_any (r0 r1 : Value) (v : Int) (w : World) : Calls Tryz.prog 100 #[.agg #[r0, r1], .int .i64 v] w fun e w' => e = .returned (.func (.func 128) #[] #[ptr (w.heap.size + 1), ptr w.heap.size]) ∧ w' = (w.alloc (.cells #[r0, r1] 108)).alloc (.cells #[.int .i64 v] 3) := by
  go_enter Tryz.func100, Tryz.ntmps100
  go_wp2
  go_ret
  exact ⟨by simp, rfl⟩
set_option maxRecDepth 100000 in
set_option maxHeartbeats 4000000 in
/-- Of no place: nothing. -/
theorem of_none (m : Nat) {w : World} {vb rb n : Nat} {v : Int} {r0 : Value} {ac : Option Addr} {E : List Ed} (Wr : Foot) (hm : 1 ≤ m) (hv : Row w vb 3 #[.int .i64 v]) (hr : Row w rb 108 #[r0, .slice ac (n + 1) (n + 1)]) (hvn : v < 0 ∨ (n : Int) ≤ v) (hn : n ≤ 16777216) (hE : E = []) :
    SeqSep Fence.wide m Tryz.prog 128 #[ptr vb, ptr rb] (fun e : Ed => #[eV e]) Wr (fun pre x => ∃ rest, E = pre ++ x :: rest) (fun pre => pre = E) w := by
  intro lb J Jx T0 W hbW hJ hJx hY h0 hT0
  have i9 : (n : Int) ≤ 16777216 := by omega
  have c0 := (hv.under hbW hv.lt).cell 0
  have r1 := (hr.under hbW hr.lt).cell 1
  simp only [List.getElem?_toArray, List.getElem?_cons_zero, List.getElem?_cons_succ] at c0 r1
  have HB0 := Lib.hid (And.intro h0 (And.intro hT0 hE))
  clear hv hr hbW h0 hT0 hE hY hn
  refine callsIn_of_wp Tryz.func128 rfl trivial ?_ rfl
  simp only [Tryz.ntmps128, List.size_toArray, List.length_cons, List.length_nil, Nat.reduceAdd, Nat.reduceSub, Array.replicate_succ, Array.replicate_zero, List.push_toArray, List.append_toArray, List.nil_append, List.cons_append]
  rcases hvn with h | h
  all_goals
    (first | (have hd : decide (v < 0) = true := by simpa using h) | (have hd : decide (v < 0) = false := (by simp; omega)))
    (try (have hd2 : decide (v < (n : Int)) = false := (by simp; omega)))
    gi_wp2
    refine bodyPost_ret (results_none rfl _ _ _) rfl ?_
    exact ⟨⟨_, rfl⟩, T0, fun j h => (HB0.out.2.1 j h).2, .inl ⟨[], HB0.out.2.2.symm, HB0.out.1⟩⟩
set_option maxRecDepth 100000 in
set_option maxHeartbeats 4000000 in
theorem of_seq (m : Nat) {w : World} {vb rb ib cb n v s : Nat} {L E : List Ed} {f : Nat → Nat} (Wr : Foot) (hm : 1 ≤ m) (hv : Row w vb 3 #[.int .i64 (v : Nat)]) (hr : Row w rb 108 #[.slice (some ⟨ib, 0, none⟩) L.length L.length, .slice (some ⟨cb, 0, none⟩) (n + 1) (n + 1)])
    (hi : Row w ib 94 (esV L)) (hc : Row w cb 3 (cellsF n f)) (hvn : v < n) (hn : n ≤ 16777216) (hL : L.length ≤ 67108864) (hs : f v = s) (hs1 : f (v + 1) = s + E.length) (hs2 : s + E.length ≤ L.length) (hE : E = (L.drop s).take E.length) (hW : ¬ Wr ib) :
    SeqSep Fence.wide m Tryz.prog 128 #[ptr vb, ptr rb] (fun e : Ed => #[eV e]) Wr (fun pre x => ∃ rest, E = pre ++ x :: rest) (fun pre => pre = E) w := by
  intro lb J Jx T0 W hbW hJ hJx hY h0 hT0
  have i9 : (n : Int) ≤ 16777216 := by omega
  have i8 : (L.length : Int) ≤ 67108864 := by omega
  have i7 : (s : Int) + (E.length : Int) ≤ (L.length : Int) := by omega
  have i6 : (v : Int) < (n : Int) := by omega
  have hi' := hi.under hbW hi.lt
  have hc' := hc.under hbW hc.lt
  have hr' := hr.under hbW hr.lt
  have hv' := hv.under hbW hv.lt
  have HSt := Lib.hid (show ∀ W', Below W.heap.size W W' → (W'.cell? ⟨vb, 0, none⟩ = some (.int .i64 (v : Nat)) ∧ W'.cell? ⟨rb, 0, none⟩ = some (.slice (some ⟨ib, 0, none⟩) L.length L.length) ∧ W'.cell? ⟨rb, 1, none⟩ = some (.slice (some ⟨cb, 0, none⟩) (n + 1) (n + 1)) ∧ W'.cell? ⟨cb, v, none⟩ = some (.int .i64 (s : Nat)) ∧ W'.cell? ⟨cb, v + 1, none⟩ = some (.int .i64 (s + E.length : Nat))) from fun W' hW' => ⟨(hv'.under hW' hv'.lt).cell 0, (hr'.under hW' hr'.lt).cell 0, (hr'.under hW' hr'.lt).cell 1, by rw [(hc'.under hW' hc'.lt).cell v, cellsF_at (by omega), hs], by rw [(hc'.under hW' hc'.lt).cell (v + 1), cellsF_at (by omega), hs1]⟩)
  have HLt := Lib.hid hi.lt
  have HYd := Lib.hid hY
  have HA := Lib.hid (And.intro hJ (And.intro hJx hW))
  have HE := Lib.hid (And.intro hE hs2)
  have HB0 := Lib.hid (And.intro h0 (And.intro hT0 (And.intro hbW.size hi')))
  obtain ⟨s0, s1, s2, s3, s4⟩ := HSt.out W (Below.refl _ _)
  have hd : decide ((v : Int) < 0) = false := by simp
  have hd2 : decide ((v : Int) < (n : Int)) = true := by simp; omega
  have hwn : IntKind.i64.wrap ((n : Int) + 1 - 1) = (n : Int) := by rw [IntKind.wrap_i64]; omega
  clear hv hr hi hc hvn hn hL hs hs1 hs2 hE hW hY hJ hJx h0 hT0 hbW hi' hc' hr' hv'
  refine callsIn_of_wp Tryz.func128 rfl trivial ?_ rfl
  simp only [Tryz.ntmps128, List.size_toArray, List.length_cons, List.length_nil, Nat.reduceAdd, Nat.reduceSub, Array.replicate_succ, Array.replicate_zero, List.push_toArray, List.append_toArray, List.nil_append, List.cons_append]
  gi_wp2
  clear s0 s1 s2 s3 s4
  have hv0 : (0 : Int) ≤ (v : Int) + 1 := by omega
  have hwv : IntKind.i64.wrap ((v : Int) + 1) = (v : Int) + 1 := by rw [IntKind.wrap_i64]; omega
  have hvt : ((v : Int) + 1).toNat = v + 1 := by omega
  have hva : (v : Int) < (n : Int) + 1 := by omega
  have hse : (0 : Int) ≤ (s : Int) + (E.length : Int) := by omega
  have hsn : s + E.length ≤ L.length := HE.out.2
  have hst : ((s : Int) + (E.length : Int)).toNat = s + E.length := by omega
  refine wpIn_wide.2 ?_
  refine wp_region_held_drew (S := fun W => W.cell? ⟨vb, 0, none⟩ = some (.int .i64 (v : Nat)) ∧ W.cell? ⟨rb, 0, none⟩ = some (.slice (some ⟨ib, 0, none⟩) L.length L.length) ∧ W.cell? ⟨rb, 1, none⟩ = some (.slice (some ⟨cb, 0, none⟩) (n + 1) (n + 1)) ∧ W.cell? ⟨cb, v, none⟩ = some (.int .i64 (s : Nat)) ∧ W.cell? ⟨cb, v + 1, none⟩ = some (.int .i64 (s + E.length : Nat))) (by kernel_rfl) (HSt.out _ (Below.refl _ _).drew) (fun hHeld => ?_)
  refine wpAnyH_take (i := 0) (oi := ⟨some 16, _, _, _, _, _⟩) (v := ?_) rfl (by kernel_rfl) (by kernel_rfl) (by kernel_rfl) (fun _ _ _ h => h) (Or.inl ⟨by rfl, ?_⟩) hHeld ?_
  rotate_left
  · intro W hSw
    obtain ⟨s0, s1, s2, s3, s4⟩ := hSw
    go_simp
    with_reducible rfl
  simp only [Act.put, List.setIfInBounds_toArray, List.set_cons_zero, List.set_cons_succ]
  refine wpAnyH_take (i := 1) (oi := ⟨some 17, _, _, _, _, _⟩) (v := ?_) rfl (by kernel_rfl) (by kernel_rfl) (by kernel_rfl) (fun _ _ _ h => h) (Or.inl ⟨by rfl, ?_⟩) hHeld ?_
  rotate_left
  · intro W hSw
    obtain ⟨s0, s1, s2, s3, s4⟩ := hSw
    go_simp
    with_reducible rfl
  simp only [Act.put, List.setIfInBounds_toArray, List.set_cons_zero, List.set_cons_succ]
  refine wpAnyH_take (i := 2) (oi := ⟨some 18, _, _, _, _, _⟩) (v := ?_) rfl (by kernel_rfl) (by kernel_rfl) (by kernel_rfl) (fun _ _ _ h => h) (Or.inl ⟨by rfl, ?_⟩) hHeld ?_
  rotate_left
  · intro W hSw
    obtain ⟨s0, s1, s2, s3, s4⟩ := hSw
    go_simp
    with_reducible rfl
  simp only [Act.put, List.setIfInBounds_toArray, List.set_cons_zero, List.set_cons_succ]
  refine wpAnyH_take (i := 3) (oi := ⟨some 19, _, _, _, _, _⟩) (v := ?_) rfl (by kernel_rfl) (by kernel_rfl) (by kernel_rfl) (fun _ _ _ h => h) (Or.inl ⟨by rfl, ?_⟩) hHeld ?_
  rotate_left
  · intro W hSw
    obtain ⟨s0, s1, s2, s3, s4⟩ := hSw
    go_simp
    with_reducible rfl
  simp only [Act.put, List.setIfInBounds_toArray, List.set_cons_zero, List.set_cons_succ]
  refine wpAnyH_take (i := 4) (oi := ⟨some 20, _, _, _, _, _⟩) (v := ?_) rfl (by kernel_rfl) (by kernel_rfl) (by kernel_rfl) (fun _ _ _ h => h) (Or.inl ⟨by rfl, ?_⟩) hHeld ?_
  rotate_left
  · intro W hSw
    obtain ⟨s0, s1, s2, s3, s4⟩ := hSw
    go_simp
    with_reducible rfl
  simp only [Act.put, List.setIfInBounds_toArray, List.set_cons_zero, List.set_cons_succ]
  refine wpAnyH_take (i := 5) (oi := ⟨some 21, _, _, _, _, _⟩) (v := ?_) rfl (by kernel_rfl) (by kernel_rfl) (by kernel_rfl) (fun _ _ _ h => h) (Or.inl ⟨by rfl, ?_⟩) hHeld ?_
  rotate_left
  · intro W hSw
    obtain ⟨s0, s1, s2, s3, s4⟩ := hSw
    go_simp
    with_reducible rfl
  simp only [Act.put, List.setIfInBounds_toArray, List.set_cons_zero, List.set_cons_succ]
  refine wpAnyH_take (i := 6) (oi := ⟨some 22, _, _, _, _, _⟩) (v := ?_) rfl (by kernel_rfl) (by kernel_rfl) (by kernel_rfl) (fun _ _ _ h => h) (Or.inl ⟨by rfl, ?_⟩) hHeld ?_
  rotate_left
  · intro W hSw
    obtain ⟨s0, s1, s2, s3, s4⟩ := hSw
    go_simp
    with_reducible rfl
  simp only [Act.put, List.setIfInBounds_toArray, List.set_cons_zero, List.set_cons_succ]
  refine wpAnyH_take (i := 7) (oi := ⟨some 23, _, _, _, _, _⟩) (v := ?_) rfl (by kernel_rfl) (by kernel_rfl) (by kernel_rfl) (fun _ _ _ h => h) (Or.inl ⟨by rfl, ?_⟩) hHeld ?_
  rotate_left
  · intro W hSw
    obtain ⟨s0, s1, s2, s3, s4⟩ := hSw
    go_simp
    with_reducible rfl
  simp only [Act.put, List.setIfInBounds_toArray, List.set_cons_zero, List.set_cons_succ]
  refine wpAnyH_take (i := 8) (oi := ⟨some 24, _, _, _, _, _⟩) (v := ?_) rfl (by kernel_rfl) (by kernel_rfl) (by kernel_rfl) (fun _ _ _ h => h) (Or.inl ⟨by rfl, ?_⟩) hHeld ?_
  rotate_left
  · intro W hSw
    obtain ⟨s0, s1, s2, s3, s4⟩ := hSw
    go_simp
    with_reducible rfl
  simp only [Act.put, List.setIfInBounds_toArray, List.set_cons_zero, List.set_cons_succ]
  refine wpAnyH_take (i := 9) (oi := ⟨some 25, _, _, _, _, _⟩) (v := ?_) rfl (by kernel_rfl) (by kernel_rfl) (by kernel_rfl) (fun _ _ _ h => h) (Or.inl ⟨by rfl, ?_⟩) hHeld ?_
  rotate_left
  · intro W hSw
    obtain ⟨s0, s1, s2, s3, s4⟩ := hSw
    go_simp
    with_reducible rfl
  simp only [Act.put, List.setIfInBounds_toArray, List.set_cons_zero, List.set_cons_succ]
  refine wpAnyH_take (i := 10) (oi := ⟨some 26, _, _, _, _, _⟩) (v := ?_) rfl (by kernel_rfl) (by kernel_rfl) (by kernel_rfl) (fun _ _ _ h => h) (Or.inl ⟨by rfl, ?_⟩) hHeld ?_
  rotate_left
  · intro W hSw
    obtain ⟨s0, s1, s2, s3, s4⟩ := hSw
    go_simp
    with_reducible rfl
  simp only [Act.put, List.setIfInBounds_toArray, List.set_cons_zero, List.set_cons_succ]
  refine wpAnyH_take (i := 11) (oi := ⟨some 27, _, _, _, _, _⟩) (v := ?_) rfl (by kernel_rfl) (by kernel_rfl) (by kernel_rfl) (fun _ _ _ h => h) (Or.inl ⟨by rfl, ?_⟩) hHeld ?_
  rotate_left
  · intro W hSw
    obtain ⟨s0, s1, s2, s3, s4⟩ := hSw
    go_simp
    with_reducible rfl
  simp only [Act.put, List.setIfInBounds_toArray, List.set_cons_zero, List.set_cons_succ]
  refine wpAnyH_take (i := 12) (oi := ⟨some 28, _, _, _, _, _⟩) (v := ?_) rfl (by kernel_rfl) (by kernel_rfl) (by kernel_rfl) (fun _ _ _ h => h) (Or.inl ⟨by rfl, ?_⟩) hHeld ?_
  rotate_left
  · intro W hSw
    obtain ⟨s0, s1, s2, s3, s4⟩ := hSw
    go_simp
    with_reducible rfl
  simp only [Act.put, List.setIfInBounds_toArray, List.set_cons_zero, List.set_cons_succ]
  refine wpAnyH_take (i := 13) (oi := ⟨some 29, _, _, _, _, _⟩) (v := ?_) rfl (by kernel_rfl) (by kernel_rfl) (by kernel_rfl) (fun _ _ _ h => h) (Or.inl ⟨by rfl, ?_⟩) hHeld ?_
  rotate_left
  · intro W hSw
    obtain ⟨s0, s1, s2, s3, s4⟩ := hSw
    go_simp
    with_reducible rfl
  simp only [Act.put, List.setIfInBounds_toArray, List.set_cons_zero, List.set_cons_succ]
  refine wpAnyH_take (i := 14) (oi := ⟨some 30, _, _, _, _, _⟩) (v := ?_) rfl (by kernel_rfl) (by kernel_rfl) (by kernel_rfl) (fun _ _ _ h => h) (Or.inl ⟨by rfl, ?_⟩) hHeld ?_
  rotate_left
  · intro W hSw
    obtain ⟨s0, s1, s2, s3, s4⟩ := hSw
    go_simp
    with_reducible rfl
  simp only [Act.put, List.setIfInBounds_toArray, List.set_cons_zero, List.set_cons_succ]
  refine wpAnyH_take (i := 15) (oi := ⟨some 31, _, _, _, _, _⟩) (v := ?_) rfl (by kernel_rfl) (by kernel_rfl) (by kernel_rfl) (fun _ _ _ h => h) (Or.inl ⟨by rfl, ?_⟩) hHeld ?_
  rotate_left
  · intro W hSw
    obtain ⟨s0, s1, s2, s3, s4⟩ := hSw
    go_simp
    with_reducible rfl
  simp only [Act.put, List.setIfInBounds_toArray, List.set_cons_zero, List.set_cons_succ]
  refine wpAnyH_done (by kernel_rfl) ?_ _
  have HW5 := Lib.hid (show Below W.heap.size W W.drew from (Below.refl _ _).drew)
  have HB5 := Lib.hid (HB0.out.2.2.2.under HW5.out HB0.out.2.2.2.lt)
  gi_wp2
  · have hE0 : E.length = 0 := by omega
    have HE0 := Lib.hid (List.eq_nil_of_length_eq_zero hE0)
    have hEi : (E.length : Int) = 0 := by omega
    gi_loopw [31] (fun i wr => i = .int .i64 0 ∧ wr = W.drew) (fun _ _ => 0)
    case atStart => exact ⟨rfl, rfl⟩
    case round =>
      obtain ⟨rfl, rfl⟩ := hrel
      gi_wp2
      go_end0
      exact ⟨⟨_, rfl⟩, T0, fun j h => Nat.lt_of_lt_of_le (HB0.out.2.1 j h).2 HW5.out.size, .inl ⟨[], HE0.out.symm, HA.out.1 [] T0 W W.drew HB0.out.1 (fun j h => (HB0.out.2.1 j h).2) (Only.of_below _ HW5.out)⟩⟩
  gi_loopw [31] (fun i wr => ∃ (k : Nat) (T : Foot), i = .int .i64 k ∧ k ≤ E.length ∧ J (E.take k) T wr ∧ (∀ j, T j → w.heap.size ≤ j ∧ j < wr.heap.size) ∧ w.heap.size ≤ wr.heap.size ∧ Row wr ib 94 (esV L)) (fun i _ => E.length - (intOf i).toNat)
  case atStart => exact ⟨0, T0, rfl, Nat.zero_le _, HA.out.1 _ T0 W W.drew HB0.out.1 (fun j h => (HB0.out.2.1 j h).2) (Only.of_below _ HW5.out), fun j h => ⟨(HB0.out.2.1 j h).1, Nat.lt_of_lt_of_le (HB0.out.2.1 j h).2 HW5.out.size⟩, Nat.le_trans HB0.out.2.2.1 HW5.out.size, HB5.out⟩
  case round =>
    obtain ⟨k, T, rfl, hk, hJs, hT, hsz, hss⟩ := hrel
    by_cases hlt : k < E.length
    · have hlt' : (k : Int) < (E.length : Int) := by omega
      have hw1 : IntKind.i64.wrap ((k : Int) + 1) = (k : Int) + 1 := by rw [IntKind.wrap_i64]; omega
      have hkL : s + k < L.length := by omega
      have hel : E[k]'hlt = L[s + k]'hkL := by
        have e := HE.out.1
        have e2 : E[k]? = ((L.drop s).take E.length)[k]? := by rw [← e]
        rw [List.getElem?_take_of_lt hlt, List.getElem?_drop, List.getElem?_eq_getElem hlt, List.getElem?_eq_getElem hkL] at e2
        injection e2
      have hsp : E = E.take k ++ E[k]'hlt :: E.drop (k + 1) := by rw [← List.drop_eq_getElem_cons hlt, List.take_append_drop]
      have htk := List.take_succ_eq_append_getElem hlt
      obtain ⟨q0, q1, q2⟩ := esV_at hkL
      rw [← hel] at q0 q1 q2
      have ea : s * 3 + k * 3 = (s + k) * 3 := by omega
      have ed : (s + k) * 3 = s * 3 + k * 3 := ea.symm
      have y0 := (hss.cell ((s + k) * 3)).trans q0
      have y1 := (hss.cell ((s + k) * 3 + 1)).trans q1
      have y2 := (hss.cell ((s + k) * 3 + 2)).trans q2
      rw [ed] at y0 y1 y2
      clear q0 q1 q2 hel ea ed
      generalize E[k]'hlt = x at *
      have HR := Lib.hid (And.intro hJs (And.intro hT (And.intro hsz (And.intro hss (And.intro hsp htk)))))
      clear hJs hT hsz hss hsp htk
      obtain ⟨wa, hwa⟩ : ∃ wa, wa = wr.alloc (.cells #[.int .i64 x.1, .int .i64 x.2.1, .int .i64 (x.2.2 : Nat)] 94) := ⟨_, rfl⟩
      have hba : Below wr.heap.size wr wa := by rw [hwa]; exact (Below.refl _ _).alloc (Nat.le_refl _) _
      have hTa : ∀ j, T j → w.heap.size ≤ j ∧ j < wa.heap.size := fun j h => ⟨(HR.out.2.1 j h).1, Nat.lt_of_lt_of_le (HR.out.2.1 j h).2 hba.size⟩
      have hsa : w.heap.size ≤ wa.heap.size := Nat.le_trans HR.out.2.2.1 hba.size
      obtain ⟨fn, tmps, assign, body, hy, hRR⟩ := HYd.out (E.take k) x T wa (HA.out.1 _ T wr wa HR.out.1 (fun j h => (HR.out.2.1 j h).2) (Only.of_below _ hba)) ⟨_, HR.out.2.2.2.2.1⟩ hTa hsa
      have HRR := Lib.hid hRR
      have HBa := Lib.hid (And.intro hba (And.intro hTa hsa))
      rw [hwa] at hy
      clear hRR hba hTa hsa
      gi_wp2
      rw [← hwa]
      refine HRR.out.mono ?_
      rintro e W3 (⟨rfl, T', hJ3, he3⟩ | ⟨rfl, T', hJx3, he3⟩)
      · have hfar : ¬ (Wr ib ∨ T' ib) := fun h => by
          have hl := HLt.out
          rcases h with h | h
          · exact HA.out.2.2 h
          · rcases he3.more ib h with h | h
            · have := (HBa.out.2.1 ib h).1; omega
            · have := HBa.out.2.2; omega
        have hs3 := ((HR.out.2.2.2.1.under HBa.out.1 HR.out.2.2.2.1.lt).only he3.only hfar)
        have HN := Lib.hid (And.intro hJ3 (And.intro he3 hs3))
        clear hJ3 he3 hfar hs3 hwa
        gi_wp2
        go_roundw
        case rel =>
          refine ⟨k + 1, T', by go_num, by omega, by rw [HR.out.2.2.2.2.2]; exact HN.out.1, fun j h => ⟨?_, HN.out.2.1.lt j h⟩, Nat.le_trans HBa.out.2.2 HN.out.2.1.only.size, HN.out.2.2⟩
          rcases HN.out.2.1.more j h with q | q
          · exact (HBa.out.2.1 j q).1
          · exact Nat.le_trans HBa.out.2.2 q
        case measure => first | (simp [intOf]; omega) | simp [intOf]
      · gi_wp2
        refine bodyPost_ret (results_none rfl _ _ _) rfl ?_
        exact ⟨⟨_, rfl⟩, T', he3.lt, .inr ⟨_, hJx3⟩⟩
    · obtain rfl : k = E.length := by omega
      have hlt' : ¬ (E.length : Int) < (E.length : Int) := by omega
      have HR := Lib.hid (And.intro hJs hT)
      clear hJs hT hsz hss
      gi_wp2
      go_end0
      have h := HR.out.1
      rw [List.take_length] at h
      exact ⟨⟨_, rfl⟩, T, fun j h => (HR.out.2 j h).2, .inl h⟩
end Go.Proofs.YtdkpdmpghibmmaaGreat
