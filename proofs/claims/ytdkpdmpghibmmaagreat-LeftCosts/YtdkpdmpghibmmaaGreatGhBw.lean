/- slices.Backward, of numbers and of edges (written by mklay.py). -/
import Derived.Test.YtdkpdmpghibmmaaGreatGhB
namespace Go.Proofs.YtdkpdmpghibmmaaGreat
open Go.RowKit Go.Shelf Grm Lay
attribute [local go_sem] Oper.semAt_some
theorem noP_ret {Q : Exit → Act → World → Prop} {a : Act} {w : World} (h : Q .ret a w) : noP Q .ret a w := h
/-- Two results stored, the range's frame put away. -/
theorem ret_two {W : World} {h D : Nat} {t : TypeId} {u0 u1 v0 v1 : Value} (hr : Row W h t #[u0, u1]) (hD : W.heap[D]? = some (.deferred (some []))) (hlt : h < D) :
    ((W.setCell ⟨h, 0, none⟩ v0).setCell ⟨h, 1, none⟩ v1).heap[D]? = some (.deferred (some []))
    ∧ Row (((W.setCell ⟨h, 0, none⟩ v0).setCell ⟨h, 1, none⟩ v1).putObj D (.deferred none)) h t #[v0, v1]
    ∧ Only (fun k => k = h ∨ k = D) W (((W.setCell ⟨h, 0, none⟩ v0).setCell ⟨h, 1, none⟩ v1).putObj D (.deferred none)) := by
  refine ⟨?_, ?_, ?_⟩
  · rw [Below.heap_setCell _ _ _ _ (show D ≠ h by omega), Below.heap_setCell _ _ _ _ (show D ≠ h by omega)]
    exact hD
  · have h1 := (hr.put 0 v0).put 1 v1
    simp only [List.setIfInBounds_toArray, List.set_cons_zero, List.set_cons_succ] at h1
    exact (World.putObj_heap_other (by omega)).trans h1
  · exact (((Only.refl (fun k => k = h ∨ k = D) W).setCell (p := ⟨h, 0, none⟩) (Or.inl (Or.inl rfl)) v0).setCell (p := ⟨h, 1, none⟩) (Or.inl (Or.inl rfl)) v1).trans (Only.putObj (S := fun k => k = h ∨ k = D) _ (Or.inr rfl)) (fun _ => Or.inl)

theorem backI_any (a : Option Addr) (n c : Nat) (w : World) : Calls Tryz.prog 133 #[.slice a n c] w fun e w' => e = .returned (.func (.func 162) #[] #[ptr w.heap.size]) ∧ w' = w.alloc (.cells #[.slice a n c] 33) := by
  go_enter Tryz.func133, Tryz.ntmps133
  go_wp2
  go_ret
  exact ⟨rfl, rfl⟩
set_option maxRecDepth 100000 in
set_option maxHeartbeats 1000000 in
theorem backI_seq (n sb bb c : Nat) (xs : List Nat) (Wr : Foot) (hn : 1 ≤ n) (w : World) (hb : Row w bb 33 #[.slice (some ⟨sb, 0, none⟩) xs.length c]) (hs : Row w sb 3 (nsV xs)) (h1 : ¬ Wr bb) (h2 : ¬ Wr sb) (h9 : xs.length ≤ 67108864) :
    SeqSep Fence.wide n Tryz.prog 162 #[ptr bb] (fun k : Nat => #[.int .i64 (k : Nat), .int .i64 (xs[k]?.getD 0 : Nat)]) Wr (fun pre k => k + 1 + pre.length = xs.length) (fun pre => pre.length = xs.length) w := by
  intro l J Jx T0 W hbW hJ hJx hY h0 hT0
  have i9 : (xs.length : Int) ≤ 67108864 := by omega
  have hb' := hb.under hbW hb.lt
  have hs' := hs.under hbW hs.lt
  have HL := Lib.hid (And.intro hb.lt hs.lt)
  refine callsIn_of_wp Tryz.func162 rfl trivial ?_ rfl
  simp only [Tryz.ntmps162, List.size_toArray, List.length_cons, List.length_nil, Nat.reduceAdd, Nat.reduceSub, Array.replicate_succ, Array.replicate_zero, List.push_toArray, List.append_toArray, List.nil_append, List.cons_append]
  have c0 := hb'.cell 0
  simp only [List.getElem?_toArray, List.getElem?_cons_zero] at c0
  have HB0 := Lib.hid (And.intro hb' hs')
  clear hb hs hb' hs'
  gi_wp2
  gi_loopw [3] (fun i wr => ∃ (k : Nat) (pre : List Nat) (T : Foot), i = .int .i64 ((k : Int) - 1) ∧ k + pre.length = xs.length ∧ J pre T wr ∧ (∀ j, T j → w.heap.size ≤ j ∧ j < wr.heap.size) ∧ w.heap.size ≤ wr.heap.size ∧ Row wr bb 33 #[.slice (some ⟨sb, 0, none⟩) xs.length c] ∧ Row wr sb 3 (nsV xs)) (fun i _ => (intOf i + 1).toNat)
  case atStart => exact ⟨xs.length, [], T0, rfl, by simp, h0, hT0, hbW.size, HB0.out.1, HB0.out.2⟩
  case round =>
    obtain ⟨k1, pre, T, rfl, hk, hJs, hT, hsz, hbb, hss⟩ := hrel
    cases k1 with
    | zero =>
      have HJ := Lib.hid (And.intro hJs hT)
      have HK := Lib.hid hk
      clear hJs hT hY hbb hss hk
      gi_wp2
      go_end0
      exact ⟨⟨_, rfl⟩, T, fun j h => (HJ.out.2 j h).2, .inl ⟨pre, by have := HK.out; omega, HJ.out.1⟩⟩
    | succ k =>
      have hlt : k < xs.length := by omega
      have hlt' : (k : Int) < (xs.length : Int) := by omega
      have hk1 : ((k + 1 : Nat) : Int) - 1 = (k : Int) := by omega
      rw [hk1]
      obtain ⟨fn, tmps, assign, body, hy, hR⟩ := hY pre k T wr hJs (by omega) hT hsz
      have x0 := (hss.cell k)
      rw [nsV_at hlt] at x0
      have c1 := hbb.cell 0
      simp only [List.getElem?_toArray, List.getElem?_cons_zero] at c1
      have hge : xs[k]?.getD 0 = xs[k]'hlt := by rw [List.getElem?_eq_getElem hlt]; rfl
      rw [hge] at hy
      have HR := Lib.hid hR
      have HH := Lib.hid (And.intro hbb (And.intro hss (And.intro hT (And.intro hsz hk))))
      clear hR hJs hT hY hbb hss hk hge
      generalize xs[k]'hlt = y at *
      gi_wp2
      refine HR.out.mono ?_
      rintro e W3 (⟨rfl, T', hJ3, he3⟩ | ⟨rfl, T', hJx3, he3⟩)
      · have hfar : ∀ j, j < w.heap.size → ¬ Wr j → ¬ (Wr j ∨ T' j) := fun j hj hw h => by
          rcases h with h | h
          · exact hw h
          · rcases he3.more j h with h | h
            · have := (HH.out.2.2.1 j h).1; omega
            · have := HH.out.2.2.2.1; omega
        have hb3 := HH.out.1.only he3.only (hfar bb HL.out.1 h1)
        have hs3 := HH.out.2.1.only he3.only (hfar sb HL.out.2 h2)
        have HN := Lib.hid (And.intro hJ3 (And.intro he3 (And.intro hb3 hs3)))
        have c3 := hb3.cell 0
        simp only [List.getElem?_toArray, List.getElem?_cons_zero] at c3
        clear hJ3 he3 hfar hb3 hs3
        gi_wp2
        go_roundw
        case rel =>
          refine ⟨k, pre ++ [k], T', rfl, by have := HH.out.2.2.2.2; simp; omega, HN.out.1, fun j h => ⟨?_, HN.out.2.1.lt j h⟩, Nat.le_trans HH.out.2.2.2.1 HN.out.2.1.only.size, HN.out.2.2.1, HN.out.2.2.2⟩
          rcases HN.out.2.1.more j h with q | q
          · exact (HH.out.2.2.1 j q).1
          · exact Nat.le_trans HH.out.2.2.2.1 q
        case measure => first | (simp [intOf]; omega) | simp [intOf]
      · gi_wp2
        refine bodyPost_ret (results_none rfl _ _ _) rfl ?_
        exact ⟨⟨_, rfl⟩, T', he3.lt, .inr ⟨_, hJx3⟩⟩
theorem backE_any (a : Option Addr) (n c : Nat) (w : World) : Calls Tryz.prog 134 #[.slice a n c] w fun e w' => e = .returned (.func (.func 163) #[] #[ptr w.heap.size]) ∧ w' = w.alloc (.cells #[.slice a n c] 91) := by
  go_enter Tryz.func134, Tryz.ntmps134
  go_wp2
  go_ret
  exact ⟨rfl, rfl⟩
set_option maxRecDepth 100000 in
set_option maxHeartbeats 1000000 in
theorem backE_seq (n sb bb c : Nat) (xs : List Ed) (Wr : Foot) (hn : 1 ≤ n) (w : World) (hb : Row w bb 91 #[.slice (some ⟨sb, 0, none⟩) xs.length c]) (hs : Row w sb 94 (esV xs)) (h1 : ¬ Wr bb) (h2 : ¬ Wr sb) (h9 : xs.length ≤ 67108864) :
    SeqSep Fence.wide n Tryz.prog 163 #[ptr bb] (fun k : Nat => #[.int .i64 (k : Nat), eV (xs[k]?.getD (0, 0, 0))]) Wr (fun pre k => k + 1 + pre.length = xs.length) (fun pre => pre.length = xs.length) w := by
  intro l J Jx T0 W hbW hJ hJx hY h0 hT0
  have i9 : (xs.length : Int) ≤ 67108864 := by omega
  have hb' := hb.under hbW hb.lt
  have hs' := hs.under hbW hs.lt
  have HL := Lib.hid (And.intro hb.lt hs.lt)
  refine callsIn_of_wp Tryz.func163 rfl trivial ?_ rfl
  simp only [Tryz.ntmps163, List.size_toArray, List.length_cons, List.length_nil, Nat.reduceAdd, Nat.reduceSub, Array.replicate_succ, Array.replicate_zero, List.push_toArray, List.append_toArray, List.nil_append, List.cons_append]
  have c0 := hb'.cell 0
  simp only [List.getElem?_toArray, List.getElem?_cons_zero] at c0
  have HB0 := Lib.hid (And.intro hb' hs')
  clear hb hs hb' hs'
  gi_wp2
  gi_loopw [3] (fun i wr => ∃ (k : Nat) (pre : List Nat) (T : Foot), i = .int .i64 ((k : Int) - 1) ∧ k + pre.length = xs.length ∧ J pre T wr ∧ (∀ j, T j → w.heap.size ≤ j ∧ j < wr.heap.size) ∧ w.heap.size ≤ wr.heap.size ∧ Row wr bb 91 #[.slice (some ⟨sb, 0, none⟩) xs.length c] ∧ Row wr sb 94 (esV xs)) (fun i _ => (intOf i + 1).toNat)
  case atStart => exact ⟨xs.length, [], T0, rfl, by simp, h0, hT0, hbW.size, HB0.out.1, HB0.out.2⟩
  case round =>
    obtain ⟨k1, pre, T, rfl, hk, hJs, hT, hsz, hbb, hss⟩ := hrel
    cases k1 with
    | zero =>
      have HJ := Lib.hid (And.intro hJs hT)
      have HK := Lib.hid hk
      clear hJs hT hY hbb hss hk
      gi_wp2
      go_end0
      exact ⟨⟨_, rfl⟩, T, fun j h => (HJ.out.2 j h).2, .inl ⟨pre, by have := HK.out; omega, HJ.out.1⟩⟩
    | succ k =>
      have hlt : k < xs.length := by omega
      have hlt' : (k : Int) < (xs.length : Int) := by omega
      have hk1 : ((k + 1 : Nat) : Int) - 1 = (k : Int) := by omega
      rw [hk1]
      obtain ⟨fn, tmps, assign, body, hy, hR⟩ := hY pre k T wr hJs (by omega) hT hsz
      have y0 := hss.cell (k * 3)
      have y1 := hss.cell (k * 3 + 1)
      have y2 := hss.cell (k * 3 + 2)
      obtain ⟨x0, x1, x2⟩ := esV_at hlt
      rw [x0] at y0
      rw [x1] at y1
      rw [x2] at y2
      clear x0 x1 x2
      have c1 := hbb.cell 0
      simp only [List.getElem?_toArray, List.getElem?_cons_zero] at c1
      have hge : xs[k]?.getD (0, 0, 0) = xs[k]'hlt := by rw [List.getElem?_eq_getElem hlt]; rfl
      rw [hge] at hy
      have HR := Lib.hid hR
      have HH := Lib.hid (And.intro hbb (And.intro hss (And.intro hT (And.intro hsz hk))))
      clear hR hJs hT hY hbb hss hk hge
      generalize xs[k]'hlt = y at *
      gi_wp2
      refine HR.out.mono ?_
      rintro e W3 (⟨rfl, T', hJ3, he3⟩ | ⟨rfl, T', hJx3, he3⟩)
      · have hfar : ∀ j, j < w.heap.size → ¬ Wr j → ¬ (Wr j ∨ T' j) := fun j hj hw h => by
          rcases h with h | h
          · exact hw h
          · rcases he3.more j h with h | h
            · have := (HH.out.2.2.1 j h).1; omega
            · have := HH.out.2.2.2.1; omega
        have hb3 := HH.out.1.only he3.only (hfar bb HL.out.1 h1)
        have hs3 := HH.out.2.1.only he3.only (hfar sb HL.out.2 h2)
        have HN := Lib.hid (And.intro hJ3 (And.intro he3 (And.intro hb3 hs3)))
        have c3 := hb3.cell 0
        simp only [List.getElem?_toArray, List.getElem?_cons_zero] at c3
        clear hJ3 he3 hfar hb3 hs3
        gi_wp2
        go_roundw
        case rel =>
          refine ⟨k, pre ++ [k], T', rfl, by have := HH.out.2.2.2.2; simp; omega, HN.out.1, fun j h => ⟨?_, HN.out.2.1.lt j h⟩, Nat.le_trans HH.out.2.2.2.1 HN.out.2.1.only.size, HN.out.2.2.1, HN.out.2.2.2⟩
          rcases HN.out.2.1.more j h with q | q
          · exact (HH.out.2.2.1 j q).1
          · exact Nat.le_trans HH.out.2.2.2.1 q
        case measure => first | (simp [intOf]; omega) | simp [intOf]
      · gi_wp2
        refine bodyPost_ret (results_none rfl _ _ _) rfl ?_
        exact ⟨⟨_, rfl⟩, T', he3.lt, .inr ⟨_, hJx3⟩⟩
end Go.Proofs.YtdkpdmpghibmmaaGreat
