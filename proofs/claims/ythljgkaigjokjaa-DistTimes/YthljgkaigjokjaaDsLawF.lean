/- A law's map built arc by arc; DistTurned (written by mkdlf.py). -/
import Derived.Test.YthljgkaigjokjaaDsLawC
import Derived.Deep.AppendLies
namespace Go.Proofs.Ythljgkaigjokjaa
open Go.RowKit Go.Shelf Grm Lay
attribute [local go_sem] Oper.semAt_some
/-- A law's two maps: m (in block mb, as Of gave it, or changed), t (in block tb), to which arcs are laid. -/
structure Tz (w : World) (mb tb K0 N ML : Nat) (M' : List Ar) (am : Option Addr) (cm : Nat) (v : Value) (TL : List Ar) (W : World) : Prop where
  tv : Row W tb 24 #[.int .i64 (N : Nat), v]
  own : AV W K0 v TL
  mv : Row W mb 24 #[.int .i64 (N : Nat), .slice am ML cm]
  mo : AV W w.heap.size (.slice am ML cm) M'
  bw : Below w.heap.size w W
  sz : K0 ≤ W.heap.size
  lo : w.heap.size ≤ mb ∧ mb < tb ∧ tb < K0 ∧ (∀ b, (Value.slice am ML cm).ownBlock = some b → b < mb) ∧ M'.length = ML
theorem Tz.only {w W W' : World} {mb tb K0 N ML cm : Nat} {M' TL : List Ar} {am : Option Addr} {v : Value} (h : Tz w mb tb K0 N ML M' am cm v TL W) {S : Nat → Prop} (ho : Only S W W') (hS : ∀ q, S q → W.heap.size ≤ q) : Tz w mb tb K0 N ML M' am cm v TL W' := by
  have hz := h.sz
  have hl := h.lo
  refine ⟨h.tv.only ho (fun q => by have := hS _ q; omega), owns_only h.own ho (fun k q s => by have := hS _ s; have := (owns_lt h.own k q).2; omega), h.mv.only ho (fun q => by have := hS _ q; omega), owns_only h.mo ho (fun k q s => by have := hS _ s; have := (owns_lt h.mo k q).2; omega), h.bw.trans (ho.below (K := w.heap.size) (fun k q => by have := hS _ q; have := h.bw.size; omega) h.bw.size), Nat.le_trans h.sz ho.size, h.lo⟩
/-- Behind the append, and behind the store. -/
theorem tz_app {w wr : World} {mb tb K0 N ML cm ct : Nat} {M' TL : List Ar} {am at_ : Option Addr} {y : Ar} (h : Tz w mb tb K0 N ML M' am cm (.slice at_ TL.length ct) TL wr) :
    ∀ g' cap w4, w4.ownsRow K0 33 3 (.slice (some ⟨g', 0, none⟩) (TL.length + 1) cap) (TL.length + 1) (acells TL ++ [.int .i64 y.1, .int .i64 y.2.1, .int .i64 y.2.2]) →
      (wr.drew.alloc (.cells #[.int .i64 y.1, .int .i64 y.2.1, .int .i64 y.2.2] 33)).grownBy w4 (Value.slice at_ TL.length ct).ownBlock → ((Value.slice at_ TL.length ct).ownBlock = some g' ∨ g' = (wr.drew.alloc (.cells #[.int .i64 y.1, .int .i64 y.2.1, .int .i64 y.2.2] 33)).heap.size) →
      Row w4 tb 24 #[.int .i64 (N : Nat), .slice at_ TL.length ct] ∧ Only (fun q => q = tb ∨ (Value.slice at_ TL.length ct).ownBlock = some q) wr w4 ∧
      Only (fun q => q = tb ∨ (Value.slice at_ TL.length ct).ownBlock = some q) wr (w4.setCell ⟨tb, 1, none⟩ (.slice (some ⟨g', 0, none⟩) (TL.length + 1) cap)) ∧
      Tz w mb tb K0 N ML M' am cm (.slice (some ⟨g', 0, none⟩) (TL.length + 1) cap) (TL ++ [y]) (w4.setCell ⟨tb, 1, none⟩ (.slice (some ⟨g', 0, none⟩) (TL.length + 1) cap)) := by
  intro g' cap w4 hown hg hat
  have hz := h.sz
  have hl := h.lo
  have ho : Only (fun q => q = tb ∨ (Value.slice at_ TL.length ct).ownBlock = some q) wr w4 := ((((Only.refl _ wr).drew).alloc _).grown hg (fun q e => .inl (.inr e)))
  have htl := h.tv.lt
  have hlt : ∀ q, (Value.slice at_ TL.length ct).ownBlock = some q → K0 ≤ q ∧ q < wr.heap.size := fun q e => owns_lt h.own q e
  have ht4 : Row w4 tb 24 #[.int .i64 (N : Nat), .slice at_ TL.length ct] := by
    refine Row.only (S := fun q => (Value.slice at_ TL.length ct).ownBlock = some q) h.tv ((((Only.refl (fun q => (Value.slice at_ TL.length ct).ownBlock = some q) wr).drew).alloc _).grown hg (fun q e => .inl e)) (fun e => by have := (hlt _ e).1; omega)
  have ho5 : Only (fun q => q = tb ∨ (Value.slice at_ TL.length ct).ownBlock = some q) wr (w4.setCell ⟨tb, 1, none⟩ (.slice (some ⟨g', 0, none⟩) (TL.length + 1) cap)) := Only.setCell ho (.inl (.inl rfl)) _
  refine ⟨ht4, ho, ho5, ?_, ?_, ?_, ?_, ?_, ?_, hl⟩
  · have := ht4.put 1 (.slice (some ⟨g', 0, none⟩) (TL.length + 1) cap)
    simpa using this
  · unfold AV
    rw [List.length_append, acells_append]
    refine owns_only hown ((Only.refl (fun q => q = tb) w4).setCell (p := ⟨tb, 1, none⟩) (.inl rfl) _) (fun q e s => by have := (owns_lt hown q e).1; omega)
  · exact h.mv.only ho5 (fun q => by rcases q with q | q; omega; have := (hlt _ q).1; omega)
  · exact owns_only h.mo ho5 (fun k e s => by have := hl.2.2.2.1 k e; rcases s with s | s; omega; have := (hlt _ s).1; omega)
  · exact h.bw.trans (ho5.below (K := w.heap.size) (fun k s => by rcases s with s | s; omega; have := (hlt _ s).1; omega) h.bw.size)
  · exact Nat.le_trans hz ho5.size
theorem new_at {W : World} {N n c : Nat} {M : List Ar} {a : Option Addr} (hn : M.length = n) (hA : Arcs W a M) (hck : checkL (N : Nat) M = 0) :
    Calls Try.prog 18 #[.agg #[.int .i64 (N : Nat), .slice a n c]] W fun e w' => ∃ g B, e = .returned (ptr g) ∧ Below W.heap.size W w' ∧ GV w' B (ptr g) N M ∧ B ≤ w'.heap.size := by
  subst hn
  refine (new_any hA hck).mono ?_
  rintro e w3 ⟨g, rfl, hb3, hg⟩
  exact ⟨g, _, rfl, hb3, gv_of hck hg, Nat.le_refl _⟩
theorem total_at {W : World} {n : Nat} {c : Nat} {M : List Ar} {a : Option Addr} (N : Int) (hn : M.length = n) (hA : Arcs W a M) :
    Calls Try.prog 34 #[.agg #[.int .i64 N, .slice a n c]] W fun e w' => e = .returned (.int .i64 (totalR N M)) ∧ Below W.heap.size W w' := by
  subst hn
  exact total_any N a M c W hA
theorem same_at {W : World} {a b : Option Addr} {L : List Int} {n c d : Nat} (hn : L.length = n) (hA : Zs W a L) (hB : Zs W b L) (hl : n ≤ 1000000000 := by omega) :
    Calls Try.prog 24 #[.slice a n c, .slice b n d] W fun e w' => e = .returned (.bool true) ∧ Below W.heap.size W w' := by
  subst hn
  have h := sameints_any a b L L c d W hA hB hl
  simpa using h
theorem turn_map (l : List Ar) : l.map turnA = turn l := rfl
theorem turn_length (l : List Ar) : (turn l).length = l.length := by simp [turn]
theorem turn_sum (l : List Ar) : sumL (turn l) = sumL l := by
  induction l with
  | nil => rfl
  | cons x l ih =>
    show sumL ((x.2.1, x.1, x.2.2) :: turn l) = _
    rw [sumL_cons, sumL_cons, ih]
/-- Both maps, whole. -/
structure Sz (w : World) (mb tb N : Nat) (M TM : List Ar) (am : Option Addr) (cm : Nat) (at_ : Option Addr) (ct : Nat) (W : World) : Prop where
  mv : Row W mb 24 #[.int .i64 (N : Nat), .slice am M.length cm]
  tv : Row W tb 24 #[.int .i64 (N : Nat), .slice at_ M.length ct]
  arcs : Arcs W am M
  tarcs : Arcs W at_ TM
  bw : Below w.heap.size w W
theorem Sz.next {w W W' : World} {mb tb N cm ct : Nat} {M TM : List Ar} {am at_ : Option Addr} (h : Sz w mb tb N M TM am cm at_ ct W) (hb : Below W.heap.size W W') : Sz w mb tb N M TM am cm at_ ct W' :=
  ⟨h.mv.under hb h.mv.lt, h.tv.under hb h.tv.lt, h.arcs.under hb, h.tarcs.under hb, h.bw.trans (hb.mono h.bw.size)⟩
theorem Sz.cells {w W : World} {mb tb N cm ct : Nat} {M TM : List Ar} {am at_ : Option Addr} (h : Sz w mb tb N M TM am cm at_ ct W) : W.cell? ⟨mb, 0, none⟩ = some (.int .i64 (N : Nat)) ∧ W.cell? ⟨mb, 1, none⟩ = some (.slice am M.length cm) ∧ W.cell? ⟨tb, 0, none⟩ = some (.int .i64 (N : Nat)) ∧ W.cell? ⟨tb, 1, none⟩ = some (.slice at_ M.length ct) := by
  have r0 := h.mv.cell 0
  have r1 := h.mv.cell 1
  have r2 := h.tv.cell 0
  have r3 := h.tv.cell 1
  simp only [List.getElem?_toArray, List.getElem?_cons_zero, List.getElem?_cons_succ] at r0 r1 r2 r3
  exact ⟨r0, r1, r2, r3⟩
set_option maxRecDepth 100000 in
set_option maxHeartbeats 8000000 in
theorem dturned_walk (n : Int) (a : Option Addr) (l : List Ar) (c : Nat) (x : Int) (w : World) (hA : Arcs w a l) (hF : ∀ y ∈ l, FitA y) (hx : 0 ≤ x ∧ x < 256) :
    Calls Try.prog 13 #[.int .i64 n, .slice a l.length c, .int .u8 x] w fun e w' => e = .returned (.bool true) ∧ Below w.heap.size w w' := by
  have HO := Lib.hid (dof_any n a l c w hA hF)
  have hck := ofL_check n l
  have hck2 := ofT_check n l
  have hN1 := ofN_le n
  have hLl := ofL_len n l
  clear hA hF
  rw [turn_map] at hck2
  generalize ofL n l = M at *
  generalize ofN n = N at *
  obtain ⟨s, hu, hs1⟩ := at_place (N := N) hx.1 hN1.1
  have hxw : IntKind.i64.wrap x = x := by rw [IntKind.wrap_i64]; omega
  have hn0 : ¬ ((N : Nat) : Int) = 0 := by omega
  have hok : EndsOk N M := by
    obtain ⟨k, h, _, _, h2, _⟩ := checkL_zero hck
    have : N = k := by omega
    subst this
    exact h2
  have hln := len_of hck
  obtain ⟨L, hL⟩ := FarI.ex (eds_arc hok hln) s
  have hfl : L.length = N := by
    rcases hL with ⟨_, _, h⟩ | ⟨h, _⟩
    · exact h.1
    · omega
  have HTot := Lib.hid (show totalR N M = sumL M ∧ totalR N (turn M) = sumL M from ⟨by unfold totalR; rw [if_pos hck], by unfold totalR; rw [if_pos hck2, turn_sum]⟩)
  have HCk := Lib.hid (And.intro hck hck2)
  have HFt := Lib.hid (show FarI (arcE (turn (turn M))) N s L by rw [turn_turn]; exact hL)
  have HFm := Lib.hid hL
  have HLn := Lib.hid hfl
  have HLl := Lib.hid hLl
  have HTl := Lib.hid (show True ∧ (turn M).length = M.length from ⟨trivial, turn_length M⟩)
  clear hck hck2 hok hln hL hfl hLl hx
  obtain ⟨i0, hi, hz0, hz1, hz2⟩ := info_partsC infoA
  go_enter Try.func13, Try.ntmps13
  go_upto_region 3 with (first | (go_at_call 45; refine HO.out.mono ?_; rintro e w1 ⟨hb1, am, cm, rfl, hv1⟩; have H1 := Lib.hid (And.intro hb1 hv1); clear hb1 hv1))
  obtain ⟨w3, hw3⟩ : ∃ w3, w3 = (w1.alloc (.cells #[.int .i64 (N : Nat), .slice am M.length cm] 24)).alloc (.cells #[.int .i64 (N : Nat), .slice none 0 0] 24) := ⟨_, rfl⟩
  have hb3 : Below w1.heap.size w1 w3 := by rw [hw3]; exact ((Below.refl _ _).alloc (Nat.le_refl _) _).alloc (by simp) _
  have hm3 : Row w3 w1.heap.size 24 #[.int .i64 (N : Nat), .slice am M.length cm] := by rw [hw3]; exact (Row.fresh w1 _ _).past _
  have ht3 : Row w3 (w1.heap.size + 1) 24 #[.int .i64 (N : Nat), .slice none 0 0] := by
    rw [hw3]
    have := Row.fresh (w1.alloc (.cells #[.int .i64 (N : Nat), .slice am M.length cm] 24)) 24 #[.int .i64 (N : Nat), .slice none 0 0]
    rwa [World.size_alloc] at this
  have hs3 : w3.heap.size = w1.heap.size + 2 := by rw [hw3]; simp
  rw [← hw3]
  have h0 : Tz w w1.heap.size (w1.heap.size + 1) (w1.heap.size + 2) N M.length M am cm (.slice none 0 0) [] w3 :=
    ⟨ht3, AV.nil _ _, hm3, owns_only H1.out.2 (Only.of_below (fun _ => False) hb3) (fun _ _ h => h), H1.out.1.trans (hb3.mono H1.out.1.size), by omega, ⟨H1.out.1.size, by omega, by omega, fun b e => (owns_lt H1.out.2 b e).2, rfl⟩⟩
  have H0 := Lib.hid h0
  clear hw3 hb3 hm3 ht3 hs3 h0
  go_wp2
  go_loopw [9] (fun i wr => ∃ (k : Nat) (v : Value), i = .int .i64 k ∧ k ≤ M.length ∧ Tz w w1.heap.size (w1.heap.size + 1) (w1.heap.size + 2) N M.length M am cm v (turn (M.take k)) wr) (fun i _ => M.length - (intOf i).toNat)
  case atStart => exact ⟨0, _, rfl, Nat.zero_le _, H0.out⟩
  case round =>
    obtain ⟨k, v, rfl, hk, htz⟩ := hrel
    have m1 := htz.mv.cell 1
    simp only [List.getElem?_toArray, List.getElem?_cons_zero, List.getElem?_cons_succ] at m1
    by_cases hlt : k < M.length
    · have hlt1 : (k : Int) < (M.length : Int) := by omega
      have hw1' : IntKind.i64.wrap ((k : Int) + 1) = (k : Int) + 1 := by have := HLl.out; rw [IntKind.wrap_i64]; omega
      have htk : turn (M.take k) ++ [((M[k]'hlt).2.1, (M[k]'hlt).1, (M[k]'hlt).2.2)] = turn (M.take (k + 1)) := by unfold turn; rw [List.take_succ_eq_append_getElem hlt, List.map_append]; rfl
      have hll : (turn (M.take k)).length = k := by rw [turn_length, List.length_take]; omega
      obtain ⟨at_, ct, rfl⟩ := htz.own.shape
      obtain ⟨ba, oa, rfl, y0, y1, y2⟩ := (AV.arcs htz.mo).at_ hlt
      generalize M[k]'hlt = xx at *
      obtain ⟨x0, x1, x2⟩ := xx
      simp only at y0 y1 y2 htk
      obtain ⟨TL, hTL⟩ : ∃ TL, TL = turn (M.take k) := ⟨_, rfl⟩
      rw [← hTL] at htz htk hll
      have r1 := htz.tv.cell 1
      have m2 := htz.tv.lt
      have hsz := htz.sz
      have hlo := htz.lo
      simp only [List.getElem?_toArray, List.getElem?_cons_zero, List.getElem?_cons_succ] at r1
      have HSt := Lib.hid (show ∀ W, Only (fun q => q = w1.heap.size + 1 ∨ (Value.slice at_ TL.length ct).ownBlock = some q) wr W → (W.cell? ⟨w1.heap.size, 1, none⟩ = some (.slice (some ⟨ba, oa, none⟩) M.length cm) ∧ W.cell? ⟨ba, oa + k * 3, none⟩ = some (.int .i64 x0) ∧ W.cell? ⟨ba, oa + k * 3 + 1, none⟩ = some (.int .i64 x1) ∧ W.cell? ⟨ba, oa + k * 3 + 2, none⟩ = some (.int .i64 x2)) from fun W hW => by
        have hba : ∀ q, (q = w1.heap.size + 1 ∨ (Value.slice at_ TL.length ct).ownBlock = some q) → w1.heap.size < q := fun q s => by
          rcases s with s | s
          · omega
          · have := (owns_lt htz.own q s).1
            omega
        have hbl : ba < w1.heap.size := htz.lo.2.2.2.1 ba rfl
        have hc : ∀ o u, wr.cell? ⟨ba, o, none⟩ = some u → W.cell? ⟨ba, o, none⟩ = some u := fun o u h => by
          rw [World.cell?_of_block (w := wr) (w' := W) (hW.block ba (block_lt_of_cell h) (fun s => by have := hba _ s; omega))]
          exact h
        have hm := (htz.mv.only hW (fun s => by have := hba _ s; omega)).cell 1
        simp only [List.getElem?_toArray, List.getElem?_cons_zero, List.getElem?_cons_succ] at hm
        exact ⟨hm, hc _ _ y0, hc _ _ y1, hc _ _ y2⟩)
      have HTail := Lib.hid (tz_app (y := (x1, x0, x2)) htz)
      have HV := Lib.hid (show wr.drew.ownsRow (w1.heap.size + 2) 33 3 (.slice at_ TL.length ct) TL.length (acells TL) from htz.own)
      have HQs := Lib.hid (show w1.heap.size + 2 ≤ wr.heap.size from hsz)
      have HTl0 := HTl
      have HTl := Lib.hid (show TL.length ≤ 40 by have := HLl.out; omega)
      have HTk := Lib.hid htk
      clear htz y0 y1 y2 hlo hTL hll htk
      go_upto_region 6 with (fail)
      refine wp_region_held_drew (S := fun W => W.cell? ⟨w1.heap.size, 1, none⟩ = some (.slice (some ⟨ba, oa, none⟩) M.length cm) ∧ W.cell? ⟨ba, oa + k * 3, none⟩ = some (.int .i64 x0) ∧ W.cell? ⟨ba, oa + k * 3 + 1, none⟩ = some (.int .i64 x1) ∧ W.cell? ⟨ba, oa + k * 3 + 2, none⟩ = some (.int .i64 x2)) (by kernel_rfl) (HSt.out _ (Only.refl _ _).drew) (fun hHeld => ?_)
      refine wpAnyH_take (i := 0) (oi := ⟨some 25, _, _, _, _, _⟩) (v := ?_) rfl (by kernel_rfl) (by kernel_rfl) (by kernel_rfl) (fun _ _ _ h => h) (Or.inl ⟨by rfl, ?_⟩) hHeld ?_
      rotate_left
      · intro W hSw
        obtain ⟨s0, s1, s2, s3⟩ := hSw
        go_simp
        with_reducible rfl
      simp only [Act.put, List.setIfInBounds_toArray, List.set_cons_zero, List.set_cons_succ]
      refine wpAnyH_take (i := 2) (oi := ⟨some 27, _, _, _, _, _⟩) (v := ?_) rfl (by kernel_rfl) (by kernel_rfl) (by kernel_rfl) (fun _ _ _ h => h) (Or.inl ⟨by rfl, ?_⟩) hHeld ?_
      rotate_left
      · intro W hSw
        obtain ⟨s0, s1, s2, s3⟩ := hSw
        go_simp
        with_reducible rfl
      simp only [Act.put, List.setIfInBounds_toArray, List.set_cons_zero, List.set_cons_succ]
      refine wpAnyH_take (i := 3) (oi := ⟨some 28, _, _, _, _, _⟩) (v := ?_) rfl (by kernel_rfl) (by kernel_rfl) (by kernel_rfl) (fun _ _ _ h => h) (Or.inl ⟨by rfl, ?_⟩) hHeld ?_
      rotate_left
      · intro W hSw
        obtain ⟨s0, s1, s2, s3⟩ := hSw
        go_simp
        with_reducible rfl
      simp only [Act.put, List.setIfInBounds_toArray, List.set_cons_zero, List.set_cons_succ]
      refine wpAnyH_take (i := 4) (oi := ⟨some 29, _, _, _, _, _⟩) (v := ?_) rfl (by kernel_rfl) (by kernel_rfl) (by kernel_rfl) (fun _ _ _ h => h) (Or.inl ⟨by rfl, ?_⟩) hHeld ?_
      rotate_left
      · intro W hSw
        obtain ⟨s0, s1, s2, s3⟩ := hSw
        go_simp
        with_reducible rfl
      simp only [Act.put, List.setIfInBounds_toArray, List.set_cons_zero, List.set_cons_succ]
      refine wpAnyH_take (i := 5) (oi := ⟨some 30, _, _, _, _, _⟩) (v := ?_) rfl (by kernel_rfl) (by kernel_rfl) (by kernel_rfl) (fun _ _ _ h => h) (Or.inl ⟨by rfl, ?_⟩) hHeld ?_
      rotate_left
      · intro W hSw
        obtain ⟨s0, s1, s2, s3⟩ := hSw
        go_simp
        with_reducible rfl
      simp only [Act.put, List.setIfInBounds_toArray, List.set_cons_zero, List.set_cons_succ]
      refine wpAnyH_take (i := 6) (oi := ⟨some 31, _, _, _, _, _⟩) (v := ?_) rfl (by kernel_rfl) (by kernel_rfl) (by kernel_rfl) (fun _ _ _ h => h) (Or.inl ⟨by rfl, ?_⟩) hHeld ?_
      rotate_left
      · intro W hSw
        obtain ⟨s0, s1, s2, s3⟩ := hSw
        go_simp
        with_reducible rfl
      simp only [Act.put, List.setIfInBounds_toArray, List.set_cons_zero, List.set_cons_succ]
      refine wpAnyH_take (i := 7) (oi := ⟨some 32, _, _, _, _, _⟩) (v := ?_) rfl (by kernel_rfl) (by kernel_rfl) (by kernel_rfl) (fun _ _ _ h => h) (Or.inl ⟨by rfl, ?_⟩) hHeld ?_
      rotate_left
      · intro W hSw
        obtain ⟨s0, s1, s2, s3⟩ := hSw
        go_simp
        with_reducible rfl
      simp only [Act.put, List.setIfInBounds_toArray, List.set_cons_zero, List.set_cons_succ]
      refine wpAnyH_take (i := 8) (oi := ⟨some 33, _, _, _, _, _⟩) (v := ?_) rfl (by kernel_rfl) (by kernel_rfl) (by kernel_rfl) (fun _ _ _ h => h) (Or.inl ⟨by rfl, ?_⟩) hHeld ?_
      rotate_left
      · intro W hSw
        obtain ⟨s0, s1, s2, s3⟩ := hSw
        go_simp
        with_reducible rfl
      simp only [Act.put, List.setIfInBounds_toArray, List.set_cons_zero, List.set_cons_succ]
      refine wpAnyH_take (i := 9) (oi := ⟨some 34, _, _, _, _, _⟩) (v := ?_) rfl (by kernel_rfl) (by kernel_rfl) (by kernel_rfl) (fun _ _ _ h => h) (Or.inl ⟨by rfl, ?_⟩) hHeld ?_
      rotate_left
      · intro W hSw
        obtain ⟨s0, s1, s2, s3⟩ := hSw
        go_simp
        with_reducible rfl
      simp only [Act.put, List.setIfInBounds_toArray, List.set_cons_zero, List.set_cons_succ]
      refine wpAnyH_take (i := 10) (oi := ⟨some 35, _, _, _, _, _⟩) (v := ?_) rfl (by kernel_rfl) (by kernel_rfl) (by kernel_rfl) (fun _ _ _ h => h) (Or.inl ⟨by rfl, ?_⟩) hHeld ?_
      rotate_left
      · intro W hSw
        obtain ⟨s0, s1, s2, s3⟩ := hSw
        go_simp
        with_reducible rfl
      simp only [Act.put, List.setIfInBounds_toArray, List.set_cons_zero, List.set_cons_succ]
      refine wpAnyH_take (i := 11) (oi := ⟨some 36, _, _, _, _, _⟩) (v := ?_) rfl (by kernel_rfl) (by kernel_rfl) (by kernel_rfl) (fun _ _ _ h => h) (Or.inl ⟨by rfl, ?_⟩) hHeld ?_
      rotate_left
      · intro W hSw
        obtain ⟨s0, s1, s2, s3⟩ := hSw
        go_simp
        with_reducible rfl
      simp only [Act.put, List.setIfInBounds_toArray, List.set_cons_zero, List.set_cons_succ]
      refine wpAnyH_take (i := 12) (oi := ⟨some 37, _, _, _, _, _⟩) (v := ?_) rfl (by kernel_rfl) (by kernel_rfl) (by kernel_rfl) (fun _ _ _ h => h) (Or.inl ⟨by rfl, ?_⟩) hHeld ?_
      rotate_left
      · intro W hSw
        obtain ⟨s0, s1, s2, s3⟩ := hSw
        go_simp
        with_reducible rfl
      simp only [Act.put, List.setIfInBounds_toArray, List.set_cons_zero, List.set_cons_succ]
      refine wpAnyH_take (i := 13) (oi := ⟨some 38, _, _, _, _, _⟩) (v := ?_) rfl (by kernel_rfl) (by kernel_rfl) (by kernel_rfl) (fun _ _ _ h => h) (Or.inl ⟨by rfl, ?_⟩) hHeld ?_
      rotate_left
      · intro W hSw
        obtain ⟨s0, s1, s2, s3⟩ := hSw
        go_simp
        with_reducible rfl
      simp only [Act.put, List.setIfInBounds_toArray, List.set_cons_zero, List.set_cons_succ]
      refine wpAnyH_take (i := 14) (oi := ⟨some 39, _, _, _, _, _⟩) (v := ?_) rfl (by kernel_rfl) (by kernel_rfl) (by kernel_rfl) (fun _ _ _ h => h) (Or.inl ⟨by rfl, ?_⟩) hHeld ?_
      rotate_left
      · intro W hSw
        obtain ⟨s0, s1, s2, s3⟩ := hSw
        go_simp
        with_reducible rfl
      simp only [Act.put, List.setIfInBounds_toArray, List.set_cons_zero, List.set_cons_succ]
      refine wpAnyH_take (i := 15) (oi := ⟨some 40, _, _, _, _, _⟩) (v := ?_) rfl (by kernel_rfl) (by kernel_rfl) (by kernel_rfl) (fun _ _ _ h => h) (Or.inl ⟨by rfl, ?_⟩) hHeld ?_
      rotate_left
      · intro W hSw
        obtain ⟨s0, s1, s2, s3⟩ := hSw
        go_simp
        with_reducible rfl
      simp only [Act.put, List.setIfInBounds_toArray, List.set_cons_zero, List.set_cons_succ]
      refine wpAnyH_take (i := 16) (oi := ⟨some 41, _, _, _, _, _⟩) (v := ?_) rfl (by kernel_rfl) (by kernel_rfl) (by kernel_rfl) (fun _ _ _ h => h) (Or.inl ⟨by rfl, ?_⟩) hHeld ?_
      rotate_left
      · intro W hSw
        obtain ⟨s0, s1, s2, s3⟩ := hSw
        go_simp
        with_reducible rfl
      simp only [Act.put, List.setIfInBounds_toArray, List.set_cons_zero, List.set_cons_succ]
      refine wpAnyH_take (i := 17) (oi := ⟨some 42, _, _, _, _, _⟩) (v := ?_) rfl (by kernel_rfl) (by kernel_rfl) (by kernel_rfl) (fun _ _ _ h => h) (Or.inl ⟨by rfl, ?_⟩) hHeld ?_
      rotate_left
      · intro W hSw
        obtain ⟨s0, s1, s2, s3⟩ := hSw
        go_simp
        with_reducible rfl
      simp only [Act.put, List.setIfInBounds_toArray, List.set_cons_zero, List.set_cons_succ]
      refine wpAnyH_take (i := 18) (oi := ⟨some 43, _, _, _, _, _⟩) (v := ?_) rfl (by kernel_rfl) (by kernel_rfl) (by kernel_rfl) (fun _ _ _ h => h) (Or.inl ⟨by rfl, ?_⟩) hHeld ?_
      rotate_left
      · intro W hSw
        obtain ⟨s0, s1, s2, s3⟩ := hSw
        go_simp
        with_reducible rfl
      simp only [Act.put, List.setIfInBounds_toArray, List.set_cons_zero, List.set_cons_succ]
      refine wpAnyH_take (i := 19) (oi := ⟨some 44, _, _, _, _, _⟩) (v := ?_) rfl (by kernel_rfl) (by kernel_rfl) (by kernel_rfl) (fun _ _ _ h => h) (Or.inl ⟨by rfl, ?_⟩) hHeld ?_
      rotate_left
      · intro W hSw
        obtain ⟨s0, s1, s2, s3⟩ := hSw
        go_simp
        with_reducible rfl
      simp only [Act.put, List.setIfInBounds_toArray, List.set_cons_zero, List.set_cons_succ]
      refine wpAnyH_take (i := 20) (oi := ⟨some 45, _, _, _, _, _⟩) (v := ?_) rfl (by kernel_rfl) (by kernel_rfl) (by kernel_rfl) (fun _ _ _ h => h) (Or.inl ⟨by rfl, ?_⟩) hHeld ?_
      rotate_left
      · intro W hSw
        obtain ⟨s0, s1, s2, s3⟩ := hSw
        go_simp
        with_reducible rfl
      simp only [Act.put, List.setIfInBounds_toArray, List.set_cons_zero, List.set_cons_succ]
      refine wpAnyH_ready (rs := [1, 21]) (by kernel_rfl) (by simp) ?_
      refine (AllReadyH.cons (o := ⟨some 26, _, _, _, _, _⟩) rfl (fun K hK => ?_) (AllReadyH.cons (o := ⟨some 46, _, _, _, _, _⟩) rfl (fun K hK => ?_) AllReadyH.nil))
      · skip
        go_simp
        refine hK.out _ _ hHeld (fun hHeld2 => ?_)
        clear hK hHeld
        have hHeld := hHeld2
        clear hHeld2
        refine wpAnyH_ready (rs := [21]) (by kernel_rfl) (by simp) ?_
        refine (AllReadyH.cons (o := ⟨some 46, _, _, _, _, _⟩) rfl (fun K hK => ?_) AllReadyH.nil)
        go_simp
        refine hK.out _ _ (HSt.out _ (((Only.refl (fun q => q = w1.heap.size + 1 ∨ (Value.slice at_ TL.length ct).ownBlock = some q) wr).drew).alloc _)) (fun hHeld2 => ?_)
        clear hK hHeld
        have hHeld := hHeld2
        clear hHeld2
        refine wpAnyH_ready (rs := [22]) (by kernel_rfl) (by simp) ?_
        refine (AllReadyH.cons (o := ⟨some 47, _, _, _, _, _⟩) rfl (fun K hK => ?_) AllReadyH.nil)
        refine step_append_lies _ rfl (.tmp 26) (.tmp 46) 22 rfl (w1.heap.size + 2) 33 i0 (.agg #[.int .i64 0, .int .i64 0, .int .i64 0]) 3 24 Try.underlying22 hi hz0 hz1 hz2 rfl (by omega) (.slice at_ TL.length ct) TL.length (acells TL) (by rfl) (HV.out.alloc _) ⟨wr.heap.size, 0, none⟩ 1 1 [.int .i64 x1, .int .i64 x0, .int .i64 x2] (by rfl) rfl (news3 wr.drew _ _ _ _) (by intro u hu; simp at hu; rcases hu with rfl | rfl | rfl <;> rfl) (by omega) (by unfold maxLen; have := HTl.out; omega) (by have := HTl.out; omega) (by have := HQs.out; first | exact this | exact Nat.le_trans this (Nat.le_succ _) | exact Nat.le_trans this (by rw [show ∀ W : World, W.drew.heap.size = W.heap.size from fun _ => rfl, World.size_alloc]; exact Nat.le_succ _)) _ rfl ?_
        intro g' cap w4 hown hgrow hat hlt4
        have HT := Lib.hid (HTail.out g' cap w4 hown hgrow hat)
        have t1 := HT.out.1.cell 1
        have t2 := HT.out.1.thaw 1
        simp only [List.getElem?_toArray, List.getElem?_cons_zero, List.getElem?_cons_succ] at t1
        have hs4 := HSt.out _ HT.out.2.1
        clear hown hgrow hat hlt4
        refine hK.out _ _ hs4 (fun hHeld2 => ?_)
        clear hK hHeld
        have hHeld := hHeld2
        clear hHeld2
        refine wpAnyH_take (i := 23) (oi := ⟨some 48, _, _, _, _, _⟩) (v := ?_) rfl (by kernel_rfl) (by kernel_rfl) (by kernel_rfl) (fun _ _ _ h => h) (Or.inl ⟨by rfl, ?_⟩) hHeld ?_
        rotate_left
        · intro W hSw
          obtain ⟨s0, s1, s2, s3⟩ := hSw
          go_simp
          with_reducible rfl
        simp only [Act.put, List.setIfInBounds_toArray, List.set_cons_zero, List.set_cons_succ]
        refine wpAnyH_ready (rs := [24]) (by kernel_rfl) (by simp) ?_
        refine (AllReadyH.cons (o := ⟨none, _, _, _, _, _⟩) rfl (fun K hK => ?_) AllReadyH.nil)
        go_simp
        refine hK.out _ _ (HSt.out _ HT.out.2.2.1) (fun _ => ?_)
        clear hK
        refine wpAnyH_done (by kernel_rfl) ?_ _
        go_wp2
        refine ⟨⟨k + 1, _, by go_num, by omega, by rw [← HTk.out]; exact HT.out.2.2.2⟩, by have := hlt1; simp [intOf]; omega⟩
      · skip
        go_simp
        refine hK.out _ _ (HSt.out _ (((Only.refl (fun q => q = w1.heap.size + 1 ∨ (Value.slice at_ TL.length ct).ownBlock = some q) wr).drew).alloc _)) (fun hHeld2 => ?_)
        clear hK hHeld
        have hHeld := hHeld2
        clear hHeld2
        refine wpAnyH_ready (rs := [1]) (by kernel_rfl) (by simp) ?_
        refine (AllReadyH.cons (o := ⟨some 26, _, _, _, _, _⟩) rfl (fun K hK => ?_) AllReadyH.nil)
        go_simp
        refine hK.out _ _ hHeld (fun hHeld2 => ?_)
        clear hK hHeld
        have hHeld := hHeld2
        clear hHeld2
        refine wpAnyH_ready (rs := [22]) (by kernel_rfl) (by simp) ?_
        refine (AllReadyH.cons (o := ⟨some 47, _, _, _, _, _⟩) rfl (fun K hK => ?_) AllReadyH.nil)
        refine step_append_lies _ rfl (.tmp 26) (.tmp 46) 22 rfl (w1.heap.size + 2) 33 i0 (.agg #[.int .i64 0, .int .i64 0, .int .i64 0]) 3 24 Try.underlying22 hi hz0 hz1 hz2 rfl (by omega) (.slice at_ TL.length ct) TL.length (acells TL) (by rfl) (HV.out.alloc _) ⟨wr.heap.size, 0, none⟩ 1 1 [.int .i64 x1, .int .i64 x0, .int .i64 x2] (by rfl) rfl (news3 wr.drew _ _ _ _) (by intro u hu; simp at hu; rcases hu with rfl | rfl | rfl <;> rfl) (by omega) (by unfold maxLen; have := HTl.out; omega) (by have := HTl.out; omega) (by have := HQs.out; first | exact this | exact Nat.le_trans this (Nat.le_succ _) | exact Nat.le_trans this (by rw [show ∀ W : World, W.drew.heap.size = W.heap.size from fun _ => rfl, World.size_alloc]; exact Nat.le_succ _)) _ rfl ?_
        intro g' cap w4 hown hgrow hat hlt4
        have HT := Lib.hid (HTail.out g' cap w4 hown hgrow hat)
        have t1 := HT.out.1.cell 1
        have t2 := HT.out.1.thaw 1
        simp only [List.getElem?_toArray, List.getElem?_cons_zero, List.getElem?_cons_succ] at t1
        have hs4 := HSt.out _ HT.out.2.1
        clear hown hgrow hat hlt4
        refine hK.out _ _ hs4 (fun hHeld2 => ?_)
        clear hK hHeld
        have hHeld := hHeld2
        clear hHeld2
        refine wpAnyH_take (i := 23) (oi := ⟨some 48, _, _, _, _, _⟩) (v := ?_) rfl (by kernel_rfl) (by kernel_rfl) (by kernel_rfl) (fun _ _ _ h => h) (Or.inl ⟨by rfl, ?_⟩) hHeld ?_
        rotate_left
        · intro W hSw
          obtain ⟨s0, s1, s2, s3⟩ := hSw
          go_simp
          with_reducible rfl
        simp only [Act.put, List.setIfInBounds_toArray, List.set_cons_zero, List.set_cons_succ]
        refine wpAnyH_ready (rs := [24]) (by kernel_rfl) (by simp) ?_
        refine (AllReadyH.cons (o := ⟨none, _, _, _, _, _⟩) rfl (fun K hK => ?_) AllReadyH.nil)
        go_simp
        refine hK.out _ _ (HSt.out _ HT.out.2.2.1) (fun _ => ?_)
        clear hK
        refine wpAnyH_done (by kernel_rfl) ?_ _
        go_wp2
        refine ⟨⟨k + 1, _, by go_num, by omega, by rw [← HTk.out]; exact HT.out.2.2.2⟩, by have := hlt1; simp [intOf]; omega⟩
    · obtain rfl : k = M.length := by omega
      obtain ⟨at_, ct, rfl⟩ := htz.own.shape
      rw [List.take_length] at htz
      have h9 : Sz w w1.heap.size (w1.heap.size + 1) N M (turn M) am cm at_ ct wr := by
        refine ⟨htz.mv, ?_, AV.arcs htz.mo, AV.arcs htz.own, htz.bw⟩
        have h := htz.tv
        rw [HTl.out.2] at h
        exact h
      have HZ := Lib.hid h9
      have z := h9.cells
      obtain ⟨z0, z1, z2, z3⟩ := z
      clear htz h9 m1 H0
      go_upto_region 9 with (first
        | (go_at_call 18; refine (new_at rfl HZ.out.arcs HCk.out.1).mono ?_; rintro e w5 ⟨g1, B1, rfl, hb, hgv⟩; have HG1 := Lib.hid hgv; have HZ2 := Lib.hid (HZ.out.next hb); clear HZ z0 z1 z2 z3 hb hgv; have HZ := HZ2; clear HZ2)
        | (go_at_call 33; refine (dfrom_any HG1.out.1 HG1.out.2 HFm.out).mono ?_; rintro e w6 ⟨hb, xv, rfl, hx⟩; obtain ⟨ad, cd, rfl, hzs, _, _⟩ := IsV.shape hx; rw [HLn.out]; have HZl := Lib.hid hzs; have HZ2 := Lib.hid (HZ.out.next hb); clear HZ hb hx hzs; have HZ := HZ2; clear HZ2))
      refine wp_region_held_drew (S := fun W => W.cell? ⟨w1.heap.size, 0, none⟩ = some (.int .i64 (N : Nat)) ∧ W.cell? ⟨w1.heap.size, 1, none⟩ = some (.slice am M.length cm) ∧ W.cell? ⟨w1.heap.size + 1, 0, none⟩ = some (.int .i64 (N : Nat)) ∧ W.cell? ⟨w1.heap.size + 1, 1, none⟩ = some (.slice at_ M.length ct)) (by kernel_rfl) (HZ.out.next (Below.refl _ _).drew).cells (fun hHeld => ?_)
      have HZ2 := Lib.hid (HZ.out.next (Below.refl _ _).drew)
      clear HZ
      have HZ := HZ2
      clear HZ2
      have HZl2 := Lib.hid (HZl.out.under (Below.refl _ _).drew)
      clear HZl
      have HZl := HZl2
      clear HZl2
      refine wpAnyH_take (i := 0) (oi := ⟨some 58, _, _, _, _, _⟩) (v := ?_) rfl (by kernel_rfl) (by kernel_rfl) (by kernel_rfl) (fun _ _ _ h => h) (Or.inl ⟨by rfl, ?_⟩) hHeld ?_
      rotate_left
      · intro W hSw
        obtain ⟨s0, s1, s2, s3⟩ := hSw
        go_simp
        with_reducible rfl
      simp only [Act.put, List.setIfInBounds_toArray, List.set_cons_zero, List.set_cons_succ]
      refine wpAnyH_take (i := 1) (oi := ⟨some 59, _, _, _, _, _⟩) (v := ?_) rfl (by kernel_rfl) (by kernel_rfl) (by kernel_rfl) (fun _ _ _ h => h) (Or.inl ⟨by rfl, ?_⟩) hHeld ?_
      rotate_left
      · intro W hSw
        obtain ⟨s0, s1, s2, s3⟩ := hSw
        go_simp
        with_reducible rfl
      simp only [Act.put, List.setIfInBounds_toArray, List.set_cons_zero, List.set_cons_succ]
      refine wpAnyH_take (i := 2) (oi := ⟨some 60, _, _, _, _, _⟩) (v := ?_) rfl (by kernel_rfl) (by kernel_rfl) (by kernel_rfl) (fun _ _ _ h => h) (Or.inl ⟨by rfl, ?_⟩) hHeld ?_
      rotate_left
      · intro W hSw
        obtain ⟨s0, s1, s2, s3⟩ := hSw
        go_simp
        with_reducible rfl
      simp only [Act.put, List.setIfInBounds_toArray, List.set_cons_zero, List.set_cons_succ]
      refine wpAnyH_take (i := 3) (oi := ⟨some 61, _, _, _, _, _⟩) (v := ?_) rfl (by kernel_rfl) (by kernel_rfl) (by kernel_rfl) (fun _ _ _ h => h) (Or.inl ⟨by rfl, ?_⟩) hHeld ?_
      rotate_left
      · intro W hSw
        obtain ⟨s0, s1, s2, s3⟩ := hSw
        go_simp
        with_reducible rfl
      simp only [Act.put, List.setIfInBounds_toArray, List.set_cons_zero, List.set_cons_succ]
      refine wpAnyH_take (i := 4) (oi := ⟨some 62, _, _, _, _, _⟩) (v := ?_) rfl (by kernel_rfl) (by kernel_rfl) (by kernel_rfl) (fun _ _ _ h => h) (Or.inl ⟨by rfl, ?_⟩) hHeld ?_
      rotate_left
      · intro W hSw
        obtain ⟨s0, s1, s2, s3⟩ := hSw
        go_simp
        with_reducible rfl
      simp only [Act.put, List.setIfInBounds_toArray, List.set_cons_zero, List.set_cons_succ]
      refine wpAnyH_take (i := 5) (oi := ⟨some 63, _, _, _, _, _⟩) (v := ?_) rfl (by kernel_rfl) (by kernel_rfl) (by kernel_rfl) (fun _ _ _ h => h) (Or.inl ⟨by rfl, ?_⟩) hHeld ?_
      rotate_left
      · intro W hSw
        obtain ⟨s0, s1, s2, s3⟩ := hSw
        go_simp
        with_reducible rfl
      simp only [Act.put, List.setIfInBounds_toArray, List.set_cons_zero, List.set_cons_succ]
      refine wpAnyH_take (i := 6) (oi := ⟨some 64, _, _, _, _, _⟩) (v := ?_) rfl (by kernel_rfl) (by kernel_rfl) (by kernel_rfl) (fun _ _ _ h => h) (Or.inl ⟨by rfl, ?_⟩) hHeld ?_
      rotate_left
      · intro W hSw
        obtain ⟨s0, s1, s2, s3⟩ := hSw
        go_simp
        with_reducible rfl
      simp only [Act.put, List.setIfInBounds_toArray, List.set_cons_zero, List.set_cons_succ]
      refine wpAnyH_take (i := 7) (oi := ⟨some 65, _, _, _, _, _⟩) (v := ?_) rfl (by kernel_rfl) (by kernel_rfl) (by kernel_rfl) (fun _ _ _ h => h) (Or.inl ⟨by rfl, ?_⟩) hHeld ?_
      rotate_left
      · intro W hSw
        obtain ⟨s0, s1, s2, s3⟩ := hSw
        go_simp
        with_reducible rfl
      simp only [Act.put, List.setIfInBounds_toArray, List.set_cons_zero, List.set_cons_succ]
      refine wpAnyH_take (i := 9) (oi := ⟨some 67, _, _, _, _, _⟩) (v := ?_) rfl (by kernel_rfl) (by kernel_rfl) (by kernel_rfl) (fun _ _ _ h => h) (Or.inl ⟨by rfl, ?_⟩) hHeld ?_
      rotate_left
      · intro W hSw
        obtain ⟨s0, s1, s2, s3⟩ := hSw
        go_simp
        with_reducible rfl
      simp only [Act.put, List.setIfInBounds_toArray, List.set_cons_zero, List.set_cons_succ]
      refine wpAnyH_ready (rs := [8]) (by kernel_rfl) (by simp) ?_
      refine (AllReadyH.cons (o := ⟨some 66, _, _, _, _, _⟩) rfl (fun K hK => ?_) AllReadyH.nil)
      go_simp
      refine (new_at HTl.out.2 HZ.out.tarcs HCk.out.2).mono ?_
      rintro e W' ⟨g2, B2, rfl, hb, hgv⟩
      have HZ2 := Lib.hid (HZ.out.next hb)
      refine hK.out _ _ HZ2.out.cells (fun hHeld2 => ?_)
      clear hK hHeld
      have hHeld := hHeld2
      clear hHeld2
      clear HZ
      have HZ := HZ2
      clear HZ2
      have HG2 := Lib.hid hgv
      clear hgv
      have hzl := HZl.out.under hb
      have HZl2 := Lib.hid hzl
      clear hzl HZl hb
      have HZl := HZl2
      clear HZl2
      refine wpAnyH_ready (rs := [10]) (by kernel_rfl) (by simp) ?_
      refine (AllReadyH.cons (o := ⟨some 68, _, _, _, _, _⟩) rfl (fun K hK => ?_) AllReadyH.nil)
      go_simp
      refine (dto_any HG2.out.1 HG2.out.2 HFt.out).mono ?_
      rintro e W' ⟨hb, xv2, rfl, hx2⟩
      have HZ2 := Lib.hid (HZ.out.next hb)
      refine hK.out _ _ HZ2.out.cells (fun hHeld2 => ?_)
      clear hK hHeld
      have hHeld := hHeld2
      clear hHeld2
      clear HZ
      have HZ := HZ2
      clear HZ2
      obtain ⟨ad2, cd2, rfl, hzs2, _, _⟩ := IsV.shape hx2
      rw [HLn.out]
      have HZt := Lib.hid hzs2
      have hzl := HZl.out.under hb
      have HZl2 := Lib.hid hzl
      clear hzl HZl hb hx2 hzs2
      have HZl := HZl2
      clear HZl2
      refine wpAnyH_ready (rs := [11]) (by kernel_rfl) (by simp) ?_
      refine (AllReadyH.cons (o := ⟨some 69, _, _, _, _, _⟩) rfl (fun K hK => ?_) AllReadyH.nil)
      go_simp
      refine (same_at HLn.out HZl.out HZt.out).mono ?_
      rintro e W' ⟨rfl, hb⟩
      have HZ2 := Lib.hid (HZ.out.next hb)
      refine hK.out _ _ HZ2.out.cells (fun hHeld2 => ?_)
      clear hK hHeld
      have hHeld := hHeld2
      clear hHeld2
      clear HZ
      have HZ := HZ2
      clear HZ2
      clear hb
      refine wpAnyH_take (i := 12) (oi := ⟨some 70, _, _, _, _, _⟩) (v := ?_) rfl (by kernel_rfl) (by kernel_rfl) (by kernel_rfl) (fun _ _ _ h => h) (Or.inl ⟨by rfl, ?_⟩) hHeld ?_
      rotate_left
      · intro W hSw
        obtain ⟨s0, s1, s2, s3⟩ := hSw
        go_simp
        with_reducible rfl
      simp only [Act.put, List.setIfInBounds_toArray, List.set_cons_zero, List.set_cons_succ]
      refine wpAnyH_take (i := 13) (oi := ⟨some 71, _, _, _, _, _⟩) (v := ?_) rfl (by kernel_rfl) (by kernel_rfl) (by kernel_rfl) (fun _ _ _ h => h) (Or.inl ⟨by rfl, ?_⟩) hHeld ?_
      rotate_left
      · intro W hSw
        obtain ⟨s0, s1, s2, s3⟩ := hSw
        go_simp
        with_reducible rfl
      simp only [Act.put, List.setIfInBounds_toArray, List.set_cons_zero, List.set_cons_succ]
      refine wpAnyH_take (i := 14) (oi := ⟨some 72, _, _, _, _, _⟩) (v := ?_) rfl (by kernel_rfl) (by kernel_rfl) (by kernel_rfl) (fun _ _ _ h => h) (Or.inl ⟨by rfl, ?_⟩) hHeld ?_
      rotate_left
      · intro W hSw
        obtain ⟨s0, s1, s2, s3⟩ := hSw
        go_simp
        with_reducible rfl
      simp only [Act.put, List.setIfInBounds_toArray, List.set_cons_zero, List.set_cons_succ]
      refine wpAnyH_take (i := 16) (oi := ⟨some 74, _, _, _, _, _⟩) (v := ?_) rfl (by kernel_rfl) (by kernel_rfl) (by kernel_rfl) (fun _ _ _ h => h) (Or.inl ⟨by rfl, ?_⟩) hHeld ?_
      rotate_left
      · intro W hSw
        obtain ⟨s0, s1, s2, s3⟩ := hSw
        go_simp
        with_reducible rfl
      simp only [Act.put, List.setIfInBounds_toArray, List.set_cons_zero, List.set_cons_succ]
      refine wpAnyH_ready (rs := [15]) (by kernel_rfl) (by simp) ?_
      refine (AllReadyH.cons (o := ⟨some 73, _, _, _, _, _⟩) rfl (fun K hK => ?_) AllReadyH.nil)
      go_simp
      refine (total_any _ _ _ _ _ HZ.out.arcs).mono ?_
      rintro e W' ⟨rfl, hb⟩
      rw [HTot.out.1]
      have HZ2 := Lib.hid (HZ.out.next hb)
      refine hK.out _ _ HZ2.out.cells (fun hHeld2 => ?_)
      clear hK hHeld
      have hHeld := hHeld2
      clear hHeld2
      clear HZ
      have HZ := HZ2
      clear HZ2
      clear hb
      refine wpAnyH_ready (rs := [17]) (by kernel_rfl) (by simp) ?_
      refine (AllReadyH.cons (o := ⟨some 75, _, _, _, _, _⟩) rfl (fun K hK => ?_) AllReadyH.nil)
      go_simp
      refine (total_at _ HTl.out.2 HZ.out.tarcs).mono ?_
      rintro e W' ⟨rfl, hb⟩
      rw [HTot.out.2]
      have HZ2 := Lib.hid (HZ.out.next hb)
      refine hK.out _ _ HZ2.out.cells (fun hHeld2 => ?_)
      clear hK hHeld
      have hHeld := hHeld2
      clear hHeld2
      clear HZ
      have HZ := HZ2
      clear HZ2
      clear hb
      refine wpAnyH_take (i := 18) (oi := ⟨some 76, _, _, _, _, _⟩) (v := ?_) rfl (by kernel_rfl) (by kernel_rfl) (by kernel_rfl) (fun _ _ _ h => h) (Or.inl ⟨by rfl, ?_⟩) hHeld ?_
      rotate_left
      · intro W hSw
        obtain ⟨s0, s1, s2, s3⟩ := hSw
        go_simp
        with_reducible rfl
      simp only [Act.put, List.setIfInBounds_toArray, List.set_cons_zero, List.set_cons_succ]
      refine wpAnyH_take (i := 19) (oi := ⟨some 77, _, _, _, _, _⟩) (v := ?_) rfl (by kernel_rfl) (by kernel_rfl) (by kernel_rfl) (fun _ _ _ h => h) (Or.inl ⟨by rfl, ?_⟩) hHeld ?_
      rotate_left
      · intro W hSw
        obtain ⟨s0, s1, s2, s3⟩ := hSw
        go_simp
        with_reducible rfl
      simp only [Act.put, List.setIfInBounds_toArray, List.set_cons_zero, List.set_cons_succ]
      refine wpAnyH_take (i := 20) (oi := ⟨some 78, _, _, _, _, _⟩) (v := ?_) rfl (by kernel_rfl) (by kernel_rfl) (by kernel_rfl) (fun _ _ _ h => h) (Or.inl ⟨by rfl, ?_⟩) hHeld ?_
      rotate_left
      · intro W hSw
        obtain ⟨s0, s1, s2, s3⟩ := hSw
        go_simp
        with_reducible rfl
      simp only [Act.put, List.setIfInBounds_toArray, List.set_cons_zero, List.set_cons_succ]
      refine wpAnyH_ready (rs := [21]) (by kernel_rfl) (by simp) ?_
      refine (AllReadyH.cons (o := ⟨some 79, _, _, _, _, _⟩) rfl (fun K hK => ?_) AllReadyH.nil)
      go_simp
      refine (dknown_any _).mono ?_
      rintro e W' ⟨rfl, hb⟩
      have HZ2 := Lib.hid (HZ.out.next hb)
      refine hK.out _ _ HZ2.out.cells (fun hHeld2 => ?_)
      clear hK hHeld
      have hHeld := hHeld2
      clear hHeld2
      clear HZ
      have HZ := HZ2
      clear HZ2
      refine wpAnyH_take (i := 22) (oi := ⟨some 80, _, _, _, _, _⟩) (v := ?_) rfl (by kernel_rfl) (by kernel_rfl) (by kernel_rfl) (fun _ _ _ h => h) (Or.inl ⟨by rfl, ?_⟩) hHeld ?_
      rotate_left
      · intro W hSw
        obtain ⟨s0, s1, s2, s3⟩ := hSw
        go_simp
        with_reducible rfl
      simp only [Act.put, List.setIfInBounds_toArray, List.set_cons_zero, List.set_cons_succ]
      refine wpAnyH_take (i := 23) (oi := ⟨some 6, _, _, _, _, _⟩) (v := ?_) rfl (by kernel_rfl) (by kernel_rfl) (by kernel_rfl) (fun _ _ _ h => h) (Or.inl ⟨by rfl, ?_⟩) hHeld ?_
      rotate_left
      · intro W hSw
        obtain ⟨s0, s1, s2, s3⟩ := hSw
        go_simp
        with_reducible rfl
      simp only [Act.put, List.setIfInBounds_toArray, List.set_cons_zero, List.set_cons_succ]
      refine wpAnyH_done (by kernel_rfl) ?_ _
      go_wp2
      go_ret
      exact ⟨rfl, HZ.out.bw⟩
theorem dturned_row (n : Int) (a : Option Addr) (l : List Ar) (c : Nat) (x : Int) (w : World) (hA : Arcs w a l) (hF : ∀ y ∈ l, FitA y) (hx : (Lit.int .u8 x).wf = true) :
    Calls Try.prog 13 #[.int .i64 n, .slice a l.length c, .int .u8 x] w fun e w' => e = .returned (.bool true) ∧ Below w.heap.size w w' :=
  dturned_walk n a l c x w hA hF (u8_of hx)
end Go.Proofs.Ythljgkaigjokjaa
