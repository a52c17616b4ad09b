/- graph.pairs: the numbers that lie side by side and whose arcs have the same ends (written by mkpairs.py). -/
import Derived.Test.YtdkpdmpghibmmaaGreatGhF
namespace Go.Proofs.YtdkpdmpghibmmaaGreat
open Go.RowKit Go.Shelf Grm Lay
attribute [local go_sem] Oper.semAt_some

/-- From where to where those with the same ends lie, when they begin at b and the next is number i. -/
def grp (same : Nat → Nat → Bool) : Nat → Nat → List Nat → List (Nat × Nat)
  | _, _, [] => []
  | b, i, [_] => [(b, i + 1)]
  | b, i, x :: y :: t => if same x y then grp same b (i + 1) (y :: t) else (b, i + 1) :: grp same (i + 1) (i + 1) (y :: t)
theorem grp_last {same : Nat → Nat → Bool} {X : List Nat} {b k : Nat} (h : k + 1 = X.length) : grp same b k (X.drop k) = (b, X.length) :: grp same (k + 1) (k + 1) (X.drop (k + 1)) := by
  have hk : k < X.length := by omega
  rw [List.drop_eq_getElem_cons hk, List.drop_of_length_le (show X.length ≤ k + 1 by omega)]
  simp [grp, h]
theorem grp_more {same : Nat → Nat → Bool} {X : List Nat} {b k : Nat} (h : k + 1 < X.length) : grp same b k (X.drop k) = if same (X[k]'(by omega)) (X[k + 1]'h) then grp same b (k + 1) (X.drop (k + 1)) else (b, k + 1) :: grp same (k + 1) (k + 1) (X.drop (k + 1)) := by
  rw [List.drop_eq_getElem_cons (show k < X.length by omega), List.drop_eq_getElem_cons h]
  simp [grp]
theorem Arcs.only {S : Nat → Prop} {w w' : World} {a : Option Addr} {l : List Ar} (h : Arcs w a l) (ho : Only S w w') (hS : ∀ b o, a = some ⟨b, o, none⟩ → l ≠ [] → ¬ S b) : Arcs w' a l := by
  rcases h with h | ⟨b, o, rfl, h⟩
  · exact .inl h
  · refine .inr ⟨b, o, rfl, fun i y hi => ?_⟩
    have hne : l ≠ [] := fun e => by subst e; cases hi
    have hc := h i y hi
    have hk := ho.block b (block_lt_of_cell hc.1) (hS b o rfl hne)
    have hcell : ∀ q, w'.cell? ⟨b, q, none⟩ = w.cell? ⟨b, q, none⟩ := fun q => by unfold World.cell?; rw [hk]
    rw [hcell, hcell, hcell]
    exact hc
/-- What pairs reads. -/
structure PairM (w : World) (xb sb pb gb n : Nat) (a : Option Addr) (l : List Ar) (c : Nat) (oi oc ii ic : Value) (X : List Nat) (d : Nat) : Prop where
  x : Row w xb 33 #[.slice (some ⟨sb, 0, none⟩) X.length d]
  s : Row w sb 3 (nsV X)
  p : Row w pb 31 #[ptr gb]
  g : Gb w gb n a l c oi oc ii ic
  h : Arcs w a l
/-- What is not written. -/
def Clean (S : Nat → Prop) (xb sb pb gb : Nat) (a : Option Addr) (l : List Ar) : Prop := (¬ S xb ∧ ¬ S sb ∧ ¬ S pb ∧ ¬ S gb) ∧ ∀ b o, a = some ⟨b, o, none⟩ → l ≠ [] → ¬ S b
theorem PairM.only {S : Nat → Prop} {w w' : World} {xb sb pb gb n : Nat} {a : Option Addr} {l : List Ar} {c : Nat} {oi oc ii ic : Value} {X : List Nat} {d : Nat} (q : PairM w xb sb pb gb n a l c oi oc ii ic X d) (ho : Only S w w') (hS : Clean S xb sb pb gb a l) : PairM w' xb sb pb gb n a l c oi oc ii ic X d :=
  ⟨q.x.only ho hS.1.1, q.s.only ho hS.1.2.1, q.p.only ho hS.1.2.2.1, Row.only q.g ho hS.1.2.2.2, q.h.only ho hS.2⟩
theorem PairM.under {w w' : World} {xb sb pb gb n : Nat} {a : Option Addr} {l : List Ar} {c : Nat} {oi oc ii ic : Value} {X : List Nat} {d : Nat} (q : PairM w xb sb pb gb n a l c oi oc ii ic X d) (hb : Below w.heap.size w w') : PairM w' xb sb pb gb n a l c oi oc ii ic X d :=
  q.only (Only.of_below (fun _ => False) hb) ⟨⟨id, id, id, id⟩, fun _ _ _ _ => id⟩
theorem PairM.old {w : World} {xb sb pb gb n : Nat} {a : Option Addr} {l : List Ar} {c : Nat} {oi oc ii ic : Value} {X : List Nat} {d : Nat} (q : PairM w xb sb pb gb n a l c oi oc ii ic X d) : (xb < w.heap.size ∧ sb < w.heap.size ∧ pb < w.heap.size ∧ gb < w.heap.size) ∧ ∀ b o, a = some ⟨b, o, none⟩ → l ≠ [] → b < w.heap.size := by
  refine ⟨⟨q.x.lt, q.s.lt, q.p.lt, Row.lt q.g⟩, fun b o e hne => ?_⟩
  have hl : 0 < l.length := List.length_pos_iff.2 hne
  obtain ⟨b', o', e', x0, _⟩ := q.h.at_ hl
  rw [e] at e'
  cases e'
  exact block_lt_of_cell x0
set_option maxRecDepth 100000 in
set_option maxHeartbeats 4000000 in
theorem pairs_seq (m : Nat) {w : World} {xb sb pb gb n : Nat} {a : Option Addr} {l : List Ar} {c : Nat} {oi oc ii ic : Value} {X : List Nat} {d : Nat} (Wr : Foot) (hm : 1 ≤ m) (q : PairM w xb sb pb gb n a l c oi oc ii ic X d) (hW : Clean Wr xb sb pb gb a l) (hX : ∀ x ∈ X, x < l.length) (h9 : X.length ≤ 67108864) (hd : X.length ≤ d) :
    SeqSep Fence.wide m Tryz.prog 131 #[ptr xb, ptr pb] (fun z : Nat × Nat => #[.slice (some ⟨sb, z.1, none⟩) (z.2 - z.1) (d - z.1)]) Wr (fun pre z => ∃ rest, grp (sameE l) 0 0 X = pre ++ z :: rest) (fun pre => pre = grp (sameE l) 0 0 X) w := by
  intro lb J Jx T0 W hbW hJ hJx hY h0 hT0
  have i9 : (X.length : Int) ≤ 67108864 := by omega
  have hd' : (X.length : Int) ≤ (d : Int) := by omega
  have q' := q.under hbW
  have HL := Lib.hid q.old
  have HYd := Lib.hid hY
  have HA := Lib.hid (And.intro hJ (And.intro hJx (And.intro hW hX)))
  refine callsIn_of_wp Tryz.func131 rfl trivial ?_ rfl
  simp only [Tryz.ntmps131, List.size_toArray, List.length_cons, List.length_nil, Nat.reduceAdd, Nat.reduceSub, Array.replicate_succ, Array.replicate_zero, List.push_toArray, List.append_toArray, List.nil_append, List.cons_append]
  have c0 := q'.x.cell 0
  simp only [List.getElem?_toArray, List.getElem?_cons_zero] at c0
  have HB0 := Lib.hid (And.intro q' (And.intro hbW.size (And.intro h0 hT0)))
  clear q q' hW hX hY hJ hJx hbW h0 hT0 h9 hd
  gi_wp2
  gi_loopw [4, 10] (fun b i wr => ∃ (k bg : Nat) (pre : List (Nat × Nat)) (T : Foot), b = .int .i64 bg ∧ i = .int .i64 k ∧ k ≤ X.length ∧ bg ≤ k ∧ grp (sameE l) 0 0 X = pre ++ grp (sameE l) bg k (X.drop k) ∧ J pre T wr ∧ (∀ j, T j → w.heap.size ≤ j ∧ j < wr.heap.size) ∧ w.heap.size ≤ wr.heap.size ∧ PairM wr xb sb pb gb n a l c oi oc ii ic X d) (fun _ i _ => X.length - (intOf i).toNat)
  case atStart => exact ⟨0, 0, [], T0, rfl, rfl, by omega, by omega, rfl, HB0.out.2.2.1, HB0.out.2.2.2, HB0.out.2.1, HB0.out.1⟩
  case round =>
    obtain ⟨k, bg, pre, T, rfl, rfl, hk, hbg, hG, hJs, hT, hsz, hq⟩ := hrel
    have c1 := hq.x.cell 0
    simp only [List.getElem?_toArray, List.getElem?_cons_zero] at c1
    have HH := Lib.hid (And.intro hG (And.intro hJs (And.intro hT (And.intro hsz hq))))
    have hbg' : (bg : Int) ≤ (k : Int) := by omega
    clear hG hJs hT hsz
    by_cases hlt : k < X.length
    · have hlt' : (k : Int) < (X.length : Int) := by omega
      have x0 := hq.s.cell k
      rw [nsV_at hlt] at x0
      have hw1 : IntKind.i64.wrap ((k : Int) + 1) = (k : Int) + 1 := by rw [IntKind.wrap_i64]; omega
      clear hq
      by_cases hl1 : k + 1 = X.length
      · have hl1' : (k : Int) + 1 = (X.length : Int) := by omega
        gi_wp2
        obtain ⟨w5, hw5⟩ : ∃ w5, w5 = wr.drew := ⟨_, rfl⟩
        have HW5 := Lib.hid (show Below wr.heap.size wr w5 by rw [hw5]; exact (Below.refl _ _).drew)
        refine wpIn_wide.2 ?_
        refine wp_region_held_drew (S := fun _ => True) (by kernel_rfl) trivial (fun hHeld => ?_)
        refine wpAnyH_take (i := 0) (oi := ⟨some 20, _, _, _, _, _⟩) (v := ?_) rfl (by kernel_rfl) (by kernel_rfl) (by kernel_rfl) (fun _ _ _ h => h) (Or.inl ⟨by rfl, ?_⟩) trivial ?_
        rotate_left
        · intro W _
          go_simp
          with_reducible rfl
        simp only [Act.put, List.setIfInBounds_toArray, List.set_cons_zero, List.set_cons_succ]
        refine wpAnyH_take (i := 1) (oi := ⟨some 21, _, _, _, _, _⟩) (v := ?_) rfl (by kernel_rfl) (by kernel_rfl) (by kernel_rfl) (fun _ _ _ h => h) (Or.inl ⟨by rfl, ?_⟩) trivial ?_
        rotate_left
        · intro W _
          go_simp
          with_reducible rfl
        simp only [Act.put, List.setIfInBounds_toArray, List.set_cons_zero, List.set_cons_succ]
        refine wpAnyH_take (i := 2) (oi := ⟨some 22, _, _, _, _, _⟩) (v := ?_) rfl (by kernel_rfl) (by kernel_rfl) (by kernel_rfl) (fun _ _ _ h => h) (Or.inl ⟨by rfl, ?_⟩) trivial ?_
        rotate_left
        · intro W _
          go_simp
          with_reducible rfl
        simp only [Act.put, List.setIfInBounds_toArray, List.set_cons_zero, List.set_cons_succ]
        refine wpAnyH_take (i := 3) (oi := ⟨some 23, _, _, _, _, _⟩) (v := undef) rfl (by kernel_rfl) (by kernel_rfl) (by kernel_rfl) (fun _ _ _ h => h) (Or.inr ⟨by rfl, rfl⟩) trivial ?_
        simp only [Act.put, List.setIfInBounds_toArray, List.set_cons_zero, List.set_cons_succ]
        refine wpAnyH_take (i := 4) (oi := ⟨some 24, _, _, _, _, _⟩) (v := undef) rfl (by kernel_rfl) (by kernel_rfl) (by kernel_rfl) (fun _ _ _ h => h) (Or.inr ⟨by rfl, rfl⟩) trivial ?_
        simp only [Act.put, List.setIfInBounds_toArray, List.set_cons_zero, List.set_cons_succ]
        refine wpAnyH_take (i := 5) (oi := ⟨some 25, _, _, _, _, _⟩) (v := undef) rfl (by kernel_rfl) (by kernel_rfl) (by kernel_rfl) (fun _ _ _ h => h) (Or.inr ⟨by rfl, rfl⟩) trivial ?_
        simp only [Act.put, List.setIfInBounds_toArray, List.set_cons_zero, List.set_cons_succ]
        refine wpAnyH_take (i := 6) (oi := ⟨some 26, _, _, _, _, _⟩) (v := undef) rfl (by kernel_rfl) (by kernel_rfl) (by kernel_rfl) (fun _ _ _ h => h) (Or.inr ⟨by rfl, rfl⟩) trivial ?_
        simp only [Act.put, List.setIfInBounds_toArray, List.set_cons_zero, List.set_cons_succ]
        refine wpAnyH_take (i := 7) (oi := ⟨some 27, _, _, _, _, _⟩) (v := undef) rfl (by kernel_rfl) (by kernel_rfl) (by kernel_rfl) (fun _ _ _ h => h) (Or.inr ⟨by rfl, rfl⟩) trivial ?_
        simp only [Act.put, List.setIfInBounds_toArray, List.set_cons_zero, List.set_cons_succ]
        refine wpAnyH_take (i := 8) (oi := ⟨some 28, _, _, _, _, _⟩) (v := undef) rfl (by kernel_rfl) (by kernel_rfl) (by kernel_rfl) (fun _ _ _ h => h) (Or.inr ⟨by rfl, rfl⟩) trivial ?_
        simp only [Act.put, List.setIfInBounds_toArray, List.set_cons_zero, List.set_cons_succ]
        refine wpAnyH_take (i := 9) (oi := ⟨some 29, _, _, _, _, _⟩) (v := undef) rfl (by kernel_rfl) (by kernel_rfl) (by kernel_rfl) (fun _ _ _ h => h) (Or.inr ⟨by rfl, rfl⟩) trivial ?_
        simp only [Act.put, List.setIfInBounds_toArray, List.set_cons_zero, List.set_cons_succ]
        refine wpAnyH_take (i := 10) (oi := ⟨some 30, _, _, _, _, _⟩) (v := undef) rfl (by kernel_rfl) (by kernel_rfl) (by kernel_rfl) (fun _ _ _ h => h) (Or.inr ⟨by rfl, rfl⟩) trivial ?_
        simp only [Act.put, List.setIfInBounds_toArray, List.set_cons_zero, List.set_cons_succ]
        refine wpAnyH_take (i := 11) (oi := ⟨some 31, _, _, _, _, _⟩) (v := ?_) rfl (by kernel_rfl) (by kernel_rfl) (by kernel_rfl) (fun _ _ _ h => h) (Or.inl ⟨by rfl, ?_⟩) trivial ?_
        rotate_left
        · intro W _
          go_simp
          with_reducible rfl
        simp only [Act.put, List.setIfInBounds_toArray, List.set_cons_zero, List.set_cons_succ]
        refine wpAnyH_done (by kernel_rfl) ?_ _
        rw [← hw5]
        clear hw5
        have hJ5 := HA.out.1 pre T wr w5 HH.out.2.1 (fun j h => (HH.out.2.2.1 j h).2) (Only.of_below _ HW5.out)
        have hT5 : ∀ j, T j → w.heap.size ≤ j ∧ j < w5.heap.size := fun j h => ⟨(HH.out.2.2.1 j h).1, Nat.lt_of_lt_of_le (HH.out.2.2.1 j h).2 HW5.out.size⟩
        have hsz5 : w.heap.size ≤ w5.heap.size := Nat.le_trans HH.out.2.2.2.1 HW5.out.size
        have q5 := HH.out.2.2.2.2.under HW5.out
        obtain ⟨fn, tmps, assign, body, hy, hR⟩ := HYd.out pre (bg, X.length) T w5 hJ5 ⟨_, HH.out.1.trans (by rw [grp_last hl1])⟩ hT5 hsz5
        have d0 := q5.x.cell 0
        simp only [List.getElem?_toArray, List.getElem?_cons_zero] at d0
        have HR := Lib.hid hR
        have HQ5 := Lib.hid (And.intro q5 (And.intro hT5 hsz5))
        clear hJ5 hT5 hsz5 q5 hR c1 x0
        gi_wp2
        refine HR.out.mono ?_
        rintro e W3 (⟨rfl, T', hJ3, he3⟩ | ⟨rfl, T', hJx3, he3⟩)
        · have hcl : Clean (fun j => Wr j ∨ T' j) xb sb pb gb a l := by
            have hfar : ∀ j, j < w.heap.size → ¬ Wr j → ¬ (Wr j ∨ T' j) := fun j hj hw h => by
              rcases h with h | h
              · exact hw h
              · rcases he3.more j h with h | h
                · have := (HQ5.out.2.1 j h).1; omega
                · have := HQ5.out.2.2; omega
            exact ⟨⟨hfar xb HL.out.1.1 HA.out.2.2.1.1.1, hfar sb HL.out.1.2.1 HA.out.2.2.1.1.2.1, hfar pb HL.out.1.2.2.1 HA.out.2.2.1.1.2.2.1, hfar gb HL.out.1.2.2.2 HA.out.2.2.1.1.2.2.2⟩, fun b o e hne => hfar b (HL.out.2 b o e hne) (HA.out.2.2.1.2 b o e hne)⟩
          have q3 := HQ5.out.1.only he3.only hcl
          have HN := Lib.hid (And.intro hJ3 (And.intro he3 q3))
          clear hJ3 he3 hcl q3
          gi_wp2
          go_roundw
          case rel =>
            refine ⟨k + 1, k + 1, pre ++ [(bg, X.length)], T', by go_num, by go_num, by omega, by omega, ?_, HN.out.1, fun j h => ⟨?_, HN.out.2.1.lt j h⟩, Nat.le_trans HQ5.out.2.2 HN.out.2.1.only.size, HN.out.2.2⟩
            · rw [HH.out.1, grp_last hl1, List.append_assoc]
              rfl
            · rcases HN.out.2.1.more j h with q | q
              · exact (HQ5.out.2.1 j q).1
              · exact Nat.le_trans HQ5.out.2.2 q
          case measure => first | (simp [intOf]; omega) | simp [intOf]
        · gi_wp2
          refine bodyPost_ret (results_none rfl _ _ _) rfl ?_
          exact ⟨⟨_, rfl⟩, T', he3.lt, .inr ⟨_, hJx3⟩⟩
      · have hl1' : ¬ (k : Int) + 1 = (X.length : Int) := by omega
        have hlt1 : k + 1 < X.length := by omega
        have hlt1' : (k : Int) + 1 < (X.length : Int) := by omega
        have hk0 : (0 : Int) ≤ (k : Int) + 1 := by omega
        have hb1 : ((k : Int) + 1 == (X.length : Int)) = false := by simpa using hl1'
        have x1 := HH.out.2.2.2.2.s.cell (k + 1)
        rw [nsV_at hlt1] at x1
        have HSt := Lib.hid (show ∀ W, Below wr.heap.size wr W → (W.cell? ⟨pb, 0, none⟩ = some (ptr gb) ∧ W.cell? ⟨xb, 0, none⟩ = some (.slice (some ⟨sb, 0, none⟩) X.length d) ∧ W.cell? ⟨sb, k + 1, none⟩ = some (.int .i64 ((X[k + 1]'hlt1 : Nat) : Int))) from fun W hW => ⟨(HH.out.2.2.2.2.under hW).p.cell 0, (HH.out.2.2.2.2.under hW).x.cell 0, ((HH.out.2.2.2.2.under hW).s.cell (k + 1)).trans (nsV_at hlt1)⟩)
        have HX2 := Lib.hid (And.intro (HA.out.2.2.2 _ (List.getElem_mem hlt)) (HA.out.2.2.2 _ (List.getElem_mem hlt1)))
        have HG2 := Lib.hid (grp_more (same := sameE l) (b := bg) hlt1)
        gi_wp2
        clear x1
        generalize X[k]'hlt = x at *
        generalize X[k + 1]'hlt1 = y at *
        refine wpIn_wide.2 ?_
        refine wp_region_held_drew (S := fun W => W.cell? ⟨pb, 0, none⟩ = some (ptr gb) ∧ W.cell? ⟨xb, 0, none⟩ = some (.slice (some ⟨sb, 0, none⟩) X.length d) ∧ W.cell? ⟨sb, k + 1, none⟩ = some (.int .i64 ((y : Nat) : Int))) (by kernel_rfl) (HSt.out _ (Below.refl _ _).drew) (fun hHeld => ?_)
        refine wpAnyH_take (i := 0) (oi := ⟨some 20, _, _, _, _, _⟩) (v := ?_) rfl (by kernel_rfl) (by kernel_rfl) (by kernel_rfl) (fun _ _ _ h => h) (Or.inl ⟨by rfl, ?_⟩) hHeld ?_
        rotate_left
        · intro W hSw
          obtain ⟨s0, s1, s2⟩ := hSw
          go_simp
          with_reducible rfl
        simp only [Act.put, List.setIfInBounds_toArray, List.set_cons_zero, List.set_cons_succ]
        refine wpAnyH_take (i := 1) (oi := ⟨some 21, _, _, _, _, _⟩) (v := ?_) rfl (by kernel_rfl) (by kernel_rfl) (by kernel_rfl) (fun _ _ _ h => h) (Or.inl ⟨by rfl, ?_⟩) hHeld ?_
        rotate_left
        · intro W hSw
          obtain ⟨s0, s1, s2⟩ := hSw
          go_simp
          with_reducible rfl
        simp only [Act.put, List.setIfInBounds_toArray, List.set_cons_zero, List.set_cons_succ]
        refine wpAnyH_take (i := 2) (oi := ⟨some 22, _, _, _, _, _⟩) (v := ?_) rfl (by kernel_rfl) (by kernel_rfl) (by kernel_rfl) (fun _ _ _ h => h) (Or.inl ⟨by rfl, ?_⟩) hHeld ?_
        rotate_left
        · intro W hSw
          obtain ⟨s0, s1, s2⟩ := hSw
          go_simp
          with_reducible rfl
        simp only [Act.put, List.setIfInBounds_toArray, List.set_cons_zero, List.set_cons_succ]
        refine wpAnyH_take (i := 3) (oi := ⟨some 23, _, _, _, _, _⟩) (v := ?_) rfl (by kernel_rfl) (by kernel_rfl) (by kernel_rfl) (fun _ _ _ h => h) (Or.inl ⟨by rfl, ?_⟩) hHeld ?_
        rotate_left
        · intro W hSw
          obtain ⟨s0, s1, s2⟩ := hSw
          go_simp
          with_reducible rfl
        simp only [Act.put, List.setIfInBounds_toArray, List.set_cons_zero, List.set_cons_succ]
        refine wpAnyH_take (i := 4) (oi := ⟨some 24, _, _, _, _, _⟩) (v := ?_) rfl (by kernel_rfl) (by kernel_rfl) (by kernel_rfl) (fun _ _ _ h => h) (Or.inl ⟨by rfl, ?_⟩) hHeld ?_
        rotate_left
        · intro W hSw
          obtain ⟨s0, s1, s2⟩ := hSw
          go_simp
          with_reducible rfl
        simp only [Act.put, List.setIfInBounds_toArray, List.set_cons_zero, List.set_cons_succ]
        refine wpAnyH_take (i := 5) (oi := ⟨some 25, _, _, _, _, _⟩) (v := ?_) rfl (by kernel_rfl) (by kernel_rfl) (by kernel_rfl) (fun _ _ _ h => h) (Or.inl ⟨by rfl, ?_⟩) hHeld ?_
        rotate_left
        · intro W hSw
          obtain ⟨s0, s1, s2⟩ := hSw
          go_simp
          with_reducible rfl
        simp only [Act.put, List.setIfInBounds_toArray, List.set_cons_zero, List.set_cons_succ]
        refine wpAnyH_take (i := 6) (oi := ⟨some 26, _, _, _, _, _⟩) (v := ?_) rfl (by kernel_rfl) (by kernel_rfl) (by kernel_rfl) (fun _ _ _ h => h) (Or.inl ⟨by rfl, ?_⟩) hHeld ?_
        rotate_left
        · intro W hSw
          obtain ⟨s0, s1, s2⟩ := hSw
          go_simp
          with_reducible rfl
        simp only [Act.put, List.setIfInBounds_toArray, List.set_cons_zero, List.set_cons_succ]
        refine wpAnyH_take (i := 7) (oi := ⟨some 27, _, _, _, _, _⟩) (v := ?_) rfl (by kernel_rfl) (by kernel_rfl) (by kernel_rfl) (fun _ _ _ h => h) (Or.inl ⟨by rfl, ?_⟩) hHeld ?_
        rotate_left
        · intro W hSw
          obtain ⟨s0, s1, s2⟩ := hSw
          go_simp
          with_reducible rfl
        simp only [Act.put, List.setIfInBounds_toArray, List.set_cons_zero, List.set_cons_succ]
        refine wpAnyH_take (i := 8) (oi := ⟨some 28, _, _, _, _, _⟩) (v := ?_) rfl (by kernel_rfl) (by kernel_rfl) (by kernel_rfl) (fun _ _ _ h => h) (Or.inl ⟨by rfl, ?_⟩) hHeld ?_
        rotate_left
        · intro W hSw
          obtain ⟨s0, s1, s2⟩ := hSw
          go_simp
          with_reducible rfl
        simp only [Act.put, List.setIfInBounds_toArray, List.set_cons_zero, List.set_cons_succ]
        refine wpAnyH_take (i := 9) (oi := ⟨some 29, _, _, _, _, _⟩) (v := ?_) rfl (by kernel_rfl) (by kernel_rfl) (by kernel_rfl) (fun _ _ _ h => h) (Or.inl ⟨by rfl, ?_⟩) hHeld ?_
        rotate_left
        · intro W hSw
          obtain ⟨s0, s1, s2⟩ := hSw
          go_simp
          with_reducible rfl
        simp only [Act.put, List.setIfInBounds_toArray, List.set_cons_zero, List.set_cons_succ]
        refine wpAnyH_ready (rs := [10]) (by kernel_rfl) (by simp) ?_
        refine (AllReadyH.cons (o := ⟨some 30, _, _, _, _, _⟩) rfl (fun K hK => ?_) AllReadyH.nil)
        have hq := HH.out.2.2.2.2.under (Below.refl _ _).drew
        go_simp
        refine (same_any hq.g hq.h HX2.out.1 HX2.out.2).mono ?_
        clear hq
        rintro e w5 ⟨rfl, hbx⟩
        have HW5 := Lib.hid (show Below wr.heap.size wr w5 from ((Below.refl wr.heap.size wr).drew).trans hbx)
        have hSn := HSt.out _ HW5.out
        clear hbx
        refine hK.out _ _ hSn (fun hHeld2 => ?_)
        clear hK K hHeld hSn
        have hHeld := hHeld2
        clear hHeld2
        refine wpAnyH_take (i := 11) (oi := ⟨some 31, _, _, _, _, _⟩) (v := ?_) rfl (by kernel_rfl) (by kernel_rfl) (by kernel_rfl) (fun _ _ _ h => h) (Or.inl ⟨by rfl, ?_⟩) hHeld ?_
        rotate_left
        · intro W hSw
          obtain ⟨s0, s1, s2⟩ := hSw
          go_simp
          with_reducible rfl
        simp only [Act.put, List.setIfInBounds_toArray, List.set_cons_zero, List.set_cons_succ]
        refine wpAnyH_done (by kernel_rfl) ?_ _
        cases hse : sameE l x y with
        | true =>
          have HSe := Lib.hid hse
          clear hse hHeld
          gi_wp2
          refine ⟨⟨k + 1, bg, pre, T, rfl, by go_num, by omega, by omega, ?_, HA.out.1 pre T wr w5 HH.out.2.1 (fun j h => (HH.out.2.2.1 j h).2) (Only.of_below _ HW5.out), fun j h => ⟨(HH.out.2.2.1 j h).1, Nat.lt_of_lt_of_le (HH.out.2.2.1 j h).2 HW5.out.size⟩, Nat.le_trans HH.out.2.2.2.1 HW5.out.size, HH.out.2.2.2.2.under HW5.out⟩, by simp [intOf]; omega⟩
          rw [HH.out.1, HG2.out, HSe.out, if_pos rfl]
        | false =>
          have HSe := Lib.hid hse
          clear hse hHeld
          have hJ5 := HA.out.1 pre T wr w5 HH.out.2.1 (fun j h => (HH.out.2.2.1 j h).2) (Only.of_below _ HW5.out)
          have hT5 : ∀ j, T j → w.heap.size ≤ j ∧ j < w5.heap.size := fun j h => ⟨(HH.out.2.2.1 j h).1, Nat.lt_of_lt_of_le (HH.out.2.2.1 j h).2 HW5.out.size⟩
          have hsz5 : w.heap.size ≤ w5.heap.size := Nat.le_trans HH.out.2.2.2.1 HW5.out.size
          have q5 := HH.out.2.2.2.2.under HW5.out
          obtain ⟨fn, tmps, assign, body, hy, hR⟩ := HYd.out pre (bg, k + 1) T w5 hJ5 ⟨_, HH.out.1.trans (by rw [HG2.out, HSe.out, if_neg Bool.false_ne_true])⟩ hT5 hsz5
          have d0 := q5.x.cell 0
          simp only [List.getElem?_toArray, List.getElem?_cons_zero] at d0
          have HR := Lib.hid hR
          have HQ5 := Lib.hid (And.intro q5 (And.intro hT5 hsz5))
          clear hJ5 hT5 hsz5 q5 hR c1 x0
          gi_wp2
          refine HR.out.mono ?_
          rintro e W3 (⟨rfl, T', hJ3, he3⟩ | ⟨rfl, T', hJx3, he3⟩)
          · have hcl : Clean (fun j => Wr j ∨ T' j) xb sb pb gb a l := by
              have hfar : ∀ j, j < w.heap.size → ¬ Wr j → ¬ (Wr j ∨ T' j) := fun j hj hw h => by
                rcases h with h | h
                · exact hw h
                · rcases he3.more j h with h | h
                  · have := (HQ5.out.2.1 j h).1; omega
                  · have := HQ5.out.2.2; omega
              exact ⟨⟨hfar xb HL.out.1.1 HA.out.2.2.1.1.1, hfar sb HL.out.1.2.1 HA.out.2.2.1.1.2.1, hfar pb HL.out.1.2.2.1 HA.out.2.2.1.1.2.2.1, hfar gb HL.out.1.2.2.2 HA.out.2.2.1.1.2.2.2⟩, fun b o e hne => hfar b (HL.out.2 b o e hne) (HA.out.2.2.1.2 b o e hne)⟩
            have q3 := HQ5.out.1.only he3.only hcl
            have HN := Lib.hid (And.intro hJ3 (And.intro he3 q3))
            clear hJ3 he3 hcl q3
            gi_wp2
            go_roundw
            case rel =>
              refine ⟨k + 1, k + 1, pre ++ [(bg, k + 1)], T', by go_num, by go_num, by omega, by omega, ?_, HN.out.1, fun j h => ⟨?_, HN.out.2.1.lt j h⟩, Nat.le_trans HQ5.out.2.2 HN.out.2.1.only.size, HN.out.2.2⟩
              · rw [HH.out.1, HG2.out, HSe.out, if_neg Bool.false_ne_true, List.append_assoc]
                rfl
              · rcases HN.out.2.1.more j h with q | q
                · exact (HQ5.out.2.1 j q).1
                · exact Nat.le_trans HQ5.out.2.2 q
            case measure => first | (simp [intOf]; omega) | simp [intOf]
          · gi_wp2
            refine bodyPost_ret (results_none rfl _ _ _) rfl ?_
            exact ⟨⟨_, rfl⟩, T', he3.lt, .inr ⟨_, hJx3⟩⟩
    · obtain rfl : k = X.length := by omega
      have hlt' : ¬ (X.length : Int) < (X.length : Int) := by omega
      clear hq
      gi_wp2
      go_end0
      have e : grp (sameE l) 0 0 X = pre := by rw [HH.out.1, List.drop_length]; simp [grp]
      refine ⟨⟨_, rfl⟩, T, fun j h => (HH.out.2.2.1 j h).2, .inl ?_⟩
      rw [e]
      exact HH.out.2.1
theorem pairs_any (gb : Nat) (a : Option Addr) (m c : Nat) (w : World) : Calls Tryz.prog 108 #[ptr gb, .slice a m c] w fun e w' => e = .returned (.func (.func 131) #[] #[ptr (w.heap.size + 1), ptr w.heap.size]) ∧ w' = (w.alloc (.cells #[ptr gb] 31)).alloc (.cells #[.slice a m c] 33) := by
  go_enter Tryz.func108, Tryz.ntmps108
  go_wp2
  go_ret
  exact ⟨by simp, rfl⟩
end Go.Proofs.YtdkpdmpghibmmaaGreat
