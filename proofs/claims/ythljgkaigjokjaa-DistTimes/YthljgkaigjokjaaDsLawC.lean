/- DistBy: the walk. -/
import Derived.Test.YthljgkaigjokjaaDsLawB
namespace Go.Proofs.Ythljgkaigjokjaa
open Go.RowKit Go.Shelf Grm Lay
/-- A law's map out of Of, and its graph. -/
structure Oz (w : World) (mb N : Nat) (M : List Ar) (am : Option Addr) (cm B : Nat) (p : Value) (W : World) : Prop where
  row : Row W mb 24 #[.int .i64 (N : Nat), .slice am M.length cm]
  arcs : Arcs W am M
  gv : GV W B p N M
  hB : B ≤ W.heap.size
  bw : Below w.heap.size w W
theorem Oz.next {w W W' : World} {mb N cm B : Nat} {M : List Ar} {am : Option Addr} {p : Value} (h : Oz w mb N M am cm B p W) (hb : Below W.heap.size W W') : Oz w mb N M am cm B p W' :=
  ⟨h.row.under hb h.row.lt, h.arcs.under hb, h.gv.under hb, Nat.le_trans h.hB hb.size, h.bw.trans (hb.mono h.bw.size)⟩
theorem Oz.cells {w W : World} {mb N cm B : Nat} {M : List Ar} {am : Option Addr} {p : Value} (h : Oz w mb N M am cm B p W) : W.cell? ⟨mb, 0, none⟩ = some (.int .i64 (N : Nat)) ∧ W.cell? ⟨mb, 1, none⟩ = some (.slice am M.length cm) := by
  have r0 := h.row.cell 0
  have r1 := h.row.cell 1
  simp only [List.getElem?_toArray, List.getElem?_cons_zero, List.getElem?_cons_succ] at r0 r1
  exact ⟨r0, r1⟩
theorem gra_ptr {w : World} {B N : Nat} {g : Nat} {l : List Ar} (h : GV w B (ptr g) N l) : ∃ K M, Gra w K M g N l := by
  rcases h with ⟨h, _⟩ | ⟨K, M, g', h1, h2, _⟩
  · cases h
  · cases h1
    exact ⟨K, M, h2⟩
theorem out_gv {w : World} {B N : Nat} {g : Nat} {l : List Ar} (h : GV w B (ptr g) N l) (v : Int) : Calls Try.prog 20 #[ptr g, .int .i64 v] w fun e w' => Below w.heap.size w w' ∧ ∃ x, e = .returned x ∧ EV w' w.heap.size x (outI N l v) := by
  obtain ⟨K, M, h⟩ := gra_ptr h
  exact out_any h v
theorem in_gv {w : World} {B N : Nat} {g : Nat} {l : List Ar} (h : GV w B (ptr g) N l) (v : Int) : Calls Try.prog 21 #[ptr g, .int .i64 v] w fun e w' => Below w.heap.size w w' ∧ ∃ x, e = .returned x ∧ EV w' w.heap.size x (inI N l v) := by
  obtain ⟨K, M, h⟩ := gra_ptr h
  exact in_any h v
/-- New of the law's map. -/
theorem new_oz {w w1 : World} {N cm : Nat} {M : List Ar} {am : Option Addr} (hb : Below w.heap.size w w1) (hv : AV w1 w.heap.size (.slice am M.length cm) M) (hck : checkL (N : Nat) M = 0) :
    Calls Try.prog 18 #[.agg #[.int .i64 (N : Nat), .slice am M.length cm]] (w1.alloc (.cells #[.int .i64 (N : Nat), .slice am M.length cm] 24)) fun e w' => ∃ g B, e = .returned (ptr g) ∧ Hid (Oz w w1.heap.size N M am cm B (ptr g) w') := by
  obtain ⟨w2, hw2⟩ : ∃ w2, w2 = w1.alloc (.cells #[.int .i64 (N : Nat), .slice am M.length cm] 24) := ⟨_, rfl⟩
  have hb2 : Below w1.heap.size w1 w2 := by rw [hw2]; exact (Below.refl _ _).alloc (Nat.le_refl _) _
  have hr2 : Row w2 w1.heap.size 24 #[.int .i64 (N : Nat), .slice am M.length cm] := by rw [hw2]; exact Row.fresh w1 _ _
  rw [← hw2]
  have hA2 := (AV.arcs hv).under hb2
  refine (new_any hA2 hck).mono ?_
  rintro e w3 ⟨g, rfl, hb3, hg⟩
  exact ⟨g, _, rfl, Lib.hid ⟨hr2.under hb3 hr2.lt, hA2.under hb3, gv_of hck hg, Nat.le_refl _, hb.trans ((hb2.trans (hb3.mono hb2.size)).mono hb.size)⟩⟩
/-- A number of a place. -/
theorem at_place {x : Int} {N : Nat} (h0 : 0 ≤ x) (hN : 1 ≤ N) : ∃ u : Nat, x.tmod (N : Int) = (u : Int) ∧ u < N := by
  have h1 := Int.emod_nonneg x (show ((N : Nat) : Int) ≠ 0 by omega)
  have h2 := Int.emod_lt_of_pos x (show (0 : Int) < ((N : Nat) : Int) by omega)
  exact ⟨(x % (N : Int)).toNat, by rw [Int.tmod_eq_emod_of_nonneg h0]; omega, by omega⟩
set_option maxRecDepth 100000 in
set_option maxHeartbeats 4000000 in
theorem dby_walk (n : Int) (a : Option Addr) (l : List Ar) (c : Nat) (x y z : Int) (w : World) (hA : Arcs w a l) (hF : ∀ y ∈ l, FitA y) (hx : 0 ≤ x ∧ x < 256) (hy : 0 ≤ y ∧ y < 256) (hz : 0 ≤ z ∧ z < 256) :
    Calls Try.prog 11 #[.int .i64 n, .slice a l.length c, .int .u8 x, .int .u8 y, .int .u8 z] w fun e w' => e = .returned (.bool true) ∧ Below w.heap.size w w' := by
  have HO := Lib.hid (dof_any n a l c w hA hF)
  have hck := ofL_check n l
  have hN1 := ofN_le n
  clear hA hF
  generalize ofL n l = M at *
  generalize ofN n = N at *
  obtain ⟨u, hu, hu1⟩ := at_place (N := N) hx.1 hN1.1
  obtain ⟨v, hv, hv1⟩ := at_place (N := N) hy.1 hN1.1
  obtain ⟨t, ht, ht1⟩ := at_place (N := N) hz.1 hN1.1
  have hxw : IntKind.i64.wrap x = x := by rw [IntKind.wrap_i64]; omega
  have hyw : IntKind.i64.wrap y = y := by rw [IntKind.wrap_i64]; omega
  have hzw : IntKind.i64.wrap z = z := by rw [IntKind.wrap_i64]; omega
  have hn0 : ¬ ((N : Nat) : Int) = 0 := by omega
  have hok : EndsOk N M := by
    obtain ⟨k, h, _, _, h2, _⟩ := checkL_zero hck
    have : N = k := by omega
    subst this
    exact h2
  have hln := len_of hck
  have hmc : M.length ≤ 67108864 := by
    obtain ⟨_, _, _, h, _⟩ := checkL_zero hck
    exact h
  obtain ⟨Lu, hLu⟩ := FarI.ex (eds_arc hok hln) u
  obtain ⟨Lv, hLv⟩ := FarI.ex (eds_arc hok hln) v
  have hself := far_self hok hln hLu hu1
  have hAs := far_sum hok hln hLu v
  have hj := fun h0 h1 => far_join hok hln hLu hLv hu1 (v := v) (x := t) h0 h1
  have hsl := sumL_le hln M.length (Nat.le_refl _)
  rw [List.take_length] at hsl
  have hedge := fun e he => far_edge (e := e) hok hln hLu hu1 he
  have hBs := far_sum hok hln hLv t
  have htr : totalR N M = sumL M := by unfold totalR; rw [if_pos hck]
  have HD := Lib.hid (And.intro hck (And.intro hLu (And.intro hLv (And.intro hedge htr))))
  generalize hA : atL Lu v = A at *
  generalize hB : atL Lv t = B at *
  generalize hC : atL Lu t = C at *
  generalize hS : sumL M = S at *
  have HV := Lib.hid (And.intro hA (And.intro hB (And.intro hC (And.intro hself hS))))
  clear hA hB hC hS hself hck hLu hLv hok hln hedge htr hx hy hz
  have hSA : ¬ S < A := by omega
  by_cases hA0 : 0 ≤ A
  · have d1 : decide (0 ≤ A) = true := by simpa using hA0
    by_cases hB0 : 0 ≤ B
    · obtain ⟨hc1, hc2⟩ := hj hA0 hB0
      have hwAB : IntKind.i64.wrap (A + B) = A + B := by rw [IntKind.wrap_i64]; omega
      have d2 : decide (0 ≤ B) = true := by simpa using hB0
      have d3 : decide (C < 0) = false := by simp; omega
      have d4 : decide (A + B < C) = false := by simp; omega
      clear hj hA0 hB0 hc1 hc2 hBs
      go_enter Try.func11, Try.ntmps11
      go_wp2_with (first
        | (go_at_call 45; refine HO.out.mono ?_; rintro e w1 ⟨hb1, am, cm, rfl, hv1⟩; have H1 := Lib.hid (And.intro hb1 hv1); clear hb1 hv1)
        | (go_at_call 18; refine (new_oz H1.out.1 H1.out.2 HD.out.1).mono ?_; rintro e w2 ⟨g, Bd, rfl, HS⟩; have r0 := HS.out.cells.1; have r1 := HS.out.cells.2)
        | (go_at_call 32; (with_reducible show Calls _ _ #[_, .int .i64 ((u : Nat) : Int), _] _ _); refine (between_any HS.out.gv HS.out.hB HD.out.2.1).mono ?_; rintro e w3 ⟨rfl, hb⟩; (first | rw [HV.out.2.2.2.1] | rw [HV.out.1] | rw [HV.out.2.2.1]); have HS2 := Lib.hid (HS.out.next hb); clear HS r0 r1; have r0 := HS2.out.cells.1; have r1 := HS2.out.cells.2; have HS := HS2; clear HS2 hb)
        | (go_at_call 32; (with_reducible show Calls _ _ #[_, .int .i64 ((v : Nat) : Int), _] _ _); refine (between_any HS.out.gv HS.out.hB HD.out.2.2.1).mono ?_; rintro e w3 ⟨rfl, hb⟩; rw [HV.out.2.1]; have HS2 := Lib.hid (HS.out.next hb); clear HS r0 r1; have r0 := HS2.out.cells.1; have r1 := HS2.out.cells.2; have HS := HS2; clear HS2 hb)
        | (go_at_call 34; refine (total_any _ _ _ _ _ HS.out.arcs).mono ?_; rintro e w3 ⟨rfl, hb⟩; rw [HD.out.2.2.2.2]; have HS2 := Lib.hid (HS.out.next hb); clear HS r0 r1; have r0 := HS2.out.cells.1; have r1 := HS2.out.cells.2; have HS := HS2; clear HS2 hb)
        | (go_at_call 20; refine (out_gv HS.out.gv _).mono ?_; rintro e w4 ⟨hb, xv, rfl, hE⟩; obtain ⟨ae, ce, rfl, hEs, _, _⟩ := EV.shape hE; have HEs := Lib.hid hEs; clear hE hEs; have HS2 := Lib.hid (HS.out.next hb); clear HS r0 r1; have r0 := HS2.out.cells.1; have r1 := HS2.out.cells.2; have HS := HS2; clear HS2 hb))
      obtain ⟨E, hE⟩ : ∃ E, E = outI N M (u : Int) := ⟨_, rfl⟩
      rw [← hE] at HEs
      rw [← hE]
      have hEl := outI_len N M (u : Int) (by omega)
      rw [← hE] at hEl
      have HL := Lib.hid (show ∀ e ∈ E, 0 ≤ atL Lu e.1 ∧ atL Lu e.1 ≤ e.2.1 from fun e he => HD.out.2.2.2.1 e (by rw [hE, outI_at] at he; exact he))
      clear hE
      go_loopw [20] (fun vi wr => ∃ i : Nat, vi = .int .i64 (i : Nat) ∧ i ≤ E.length ∧ Oz w w1.heap.size N M am cm Bd (ptr g) wr ∧ Es wr ae E) (fun i _ => E.length - (intOf i).toNat)
      case atStart => exact ⟨0, rfl, Nat.zero_le _, HS.out, HEs.out⟩
      case round =>
        obtain ⟨i, rfl, hi, hoz, hes⟩ := hrel
        by_cases hlt : i < E.length
        · have hlt' : (i : Int) < (E.length : Int) := by omega
          have hw1 : IntKind.i64.wrap ((i : Int) + 1) = (i : Int) + 1 := by rw [IntKind.wrap_i64]; omega
          obtain ⟨eb, eo, rfl, e0, e1, e2⟩ := hes.at_ hlt
          obtain ⟨f1, f2⟩ := HL.out _ (List.getElem_mem hlt)
          generalize E[i]'hlt = e at *
          generalize hG : atL Lu e.1 = G at *
          have HG := Lib.hid hG
          have g1 : decide (G < 0) = false := by simp; omega
          have g2 : decide (e.2.1 < G) = false := by simp; omega
          have HQ := Lib.hid (And.intro hoz (And.intro hes hi))
          have HNx := Lib.hid (show ∀ W', Below wr.heap.size wr W' → W'.cell? ⟨eb, eo + i * 3 + 1, none⟩ = some (.int .i64 e.2.1) from fun W' hW => (hW.cell (block_lt_of_cell e1)).trans e1)
          clear hoz hes hi f1 f2 hG
          go_wp2_with (go_at_call 32; refine (between_any HQ.out.1.gv HQ.out.1.hB HD.out.2.1).mono ?_; rintro er w5 ⟨rfl, hb⟩; rw [HG.out]; have e1' := HNx.out _ hb; have HN := Lib.hid (And.intro (HQ.out.1.next hb) (HQ.out.2.1.under hb)); clear hb e0 e1 e2)
          refine ⟨⟨i + 1, by go_num, by omega, HN.out.1, HN.out.2⟩, by simp [intOf]; omega⟩
        · obtain rfl : i = E.length := by omega
          have HQ := Lib.hid hoz
          clear hoz hes hi
          go_wp2_with (go_at_call 30; refine (dknown_any _).mono ?_; rintro er w5 ⟨rfl, hb⟩; have HN := Lib.hid (HQ.out.next hb); clear hb)
          go_ret
          exact ⟨rfl, HN.out.bw⟩
    · have d2 : decide (0 ≤ B) = false := by simpa using hB0
      clear hj hA0 hB0 hBs
      go_enter Try.func11, Try.ntmps11
      go_wp2_with (first
        | (go_at_call 45; refine HO.out.mono ?_; rintro e w1 ⟨hb1, am, cm, rfl, hv1⟩; have H1 := Lib.hid (And.intro hb1 hv1); clear hb1 hv1)
        | (go_at_call 18; refine (new_oz H1.out.1 H1.out.2 HD.out.1).mono ?_; rintro e w2 ⟨g, Bd, rfl, HS⟩; have r0 := HS.out.cells.1; have r1 := HS.out.cells.2)
        | (go_at_call 32; (with_reducible show Calls _ _ #[_, .int .i64 ((u : Nat) : Int), _] _ _); refine (between_any HS.out.gv HS.out.hB HD.out.2.1).mono ?_; rintro e w3 ⟨rfl, hb⟩; (first | rw [HV.out.2.2.2.1] | rw [HV.out.1] | rw [HV.out.2.2.1]); have HS2 := Lib.hid (HS.out.next hb); clear HS r0 r1; have r0 := HS2.out.cells.1; have r1 := HS2.out.cells.2; have HS := HS2; clear HS2 hb)
        | (go_at_call 32; (with_reducible show Calls _ _ #[_, .int .i64 ((v : Nat) : Int), _] _ _); refine (between_any HS.out.gv HS.out.hB HD.out.2.2.1).mono ?_; rintro e w3 ⟨rfl, hb⟩; rw [HV.out.2.1]; have HS2 := Lib.hid (HS.out.next hb); clear HS r0 r1; have r0 := HS2.out.cells.1; have r1 := HS2.out.cells.2; have HS := HS2; clear HS2 hb)
        | (go_at_call 34; refine (total_any _ _ _ _ _ HS.out.arcs).mono ?_; rintro e w3 ⟨rfl, hb⟩; rw [HD.out.2.2.2.2]; have HS2 := Lib.hid (HS.out.next hb); clear HS r0 r1; have r0 := HS2.out.cells.1; have r1 := HS2.out.cells.2; have HS := HS2; clear HS2 hb)
        | (go_at_call 20; refine (out_gv HS.out.gv _).mono ?_; rintro e w4 ⟨hb, xv, rfl, hE⟩; obtain ⟨ae, ce, rfl, hEs, _, _⟩ := EV.shape hE; have HEs := Lib.hid hEs; clear hE hEs; have HS2 := Lib.hid (HS.out.next hb); clear HS r0 r1; have r0 := HS2.out.cells.1; have r1 := HS2.out.cells.2; have HS := HS2; clear HS2 hb))
      obtain ⟨E, hE⟩ : ∃ E, E = outI N M (u : Int) := ⟨_, rfl⟩
      rw [← hE] at HEs
      rw [← hE]
      have hEl := outI_len N M (u : Int) (by omega)
      rw [← hE] at hEl
      have HL := Lib.hid (show ∀ e ∈ E, 0 ≤ atL Lu e.1 ∧ atL Lu e.1 ≤ e.2.1 from fun e he => HD.out.2.2.2.1 e (by rw [hE, outI_at] at he; exact he))
      clear hE
      go_loopw [20] (fun vi wr => ∃ i : Nat, vi = .int .i64 (i : Nat) ∧ i ≤ E.length ∧ Oz w w1.heap.size N M am cm Bd (ptr g) wr ∧ Es wr ae E) (fun i _ => E.length - (intOf i).toNat)
      case atStart => exact ⟨0, rfl, Nat.zero_le _, HS.out, HEs.out⟩
      case round =>
        obtain ⟨i, rfl, hi, hoz, hes⟩ := hrel
        by_cases hlt : i < E.length
        · have hlt' : (i : Int) < (E.length : Int) := by omega
          have hw1 : IntKind.i64.wrap ((i : Int) + 1) = (i : Int) + 1 := by rw [IntKind.wrap_i64]; omega
          obtain ⟨eb, eo, rfl, e0, e1, e2⟩ := hes.at_ hlt
          obtain ⟨f1, f2⟩ := HL.out _ (List.getElem_mem hlt)
          generalize E[i]'hlt = e at *
          generalize hG : atL Lu e.1 = G at *
          have HG := Lib.hid hG
          have g1 : decide (G < 0) = false := by simp; omega
          have g2 : decide (e.2.1 < G) = false := by simp; omega
          have HQ := Lib.hid (And.intro hoz (And.intro hes hi))
          have HNx := Lib.hid (show ∀ W', Below wr.heap.size wr W' → W'.cell? ⟨eb, eo + i * 3 + 1, none⟩ = some (.int .i64 e.2.1) from fun W' hW => (hW.cell (block_lt_of_cell e1)).trans e1)
          clear hoz hes hi f1 f2 hG
          go_wp2_with (go_at_call 32; refine (between_any HQ.out.1.gv HQ.out.1.hB HD.out.2.1).mono ?_; rintro er w5 ⟨rfl, hb⟩; rw [HG.out]; have e1' := HNx.out _ hb; have HN := Lib.hid (And.intro (HQ.out.1.next hb) (HQ.out.2.1.under hb)); clear hb e0 e1 e2)
          refine ⟨⟨i + 1, by go_num, by omega, HN.out.1, HN.out.2⟩, by simp [intOf]; omega⟩
        · obtain rfl : i = E.length := by omega
          have HQ := Lib.hid hoz
          clear hoz hes hi
          go_wp2_with (go_at_call 30; refine (dknown_any _).mono ?_; rintro er w5 ⟨rfl, hb⟩; have HN := Lib.hid (HQ.out.next hb); clear hb)
          go_ret
          exact ⟨rfl, HN.out.bw⟩
  · have d1 : decide (0 ≤ A) = false := by simpa using hA0
    clear hj hA0 hBs
    go_enter Try.func11, Try.ntmps11
    go_wp2_with (first
      | (go_at_call 45; refine HO.out.mono ?_; rintro e w1 ⟨hb1, am, cm, rfl, hv1⟩; have H1 := Lib.hid (And.intro hb1 hv1); clear hb1 hv1)
      | (go_at_call 18; refine (new_oz H1.out.1 H1.out.2 HD.out.1).mono ?_; rintro e w2 ⟨g, Bd, rfl, HS⟩; have r0 := HS.out.cells.1; have r1 := HS.out.cells.2)
      | (go_at_call 32; (with_reducible show Calls _ _ #[_, .int .i64 ((u : Nat) : Int), _] _ _); refine (between_any HS.out.gv HS.out.hB HD.out.2.1).mono ?_; rintro e w3 ⟨rfl, hb⟩; (first | rw [HV.out.2.2.2.1] | rw [HV.out.1] | rw [HV.out.2.2.1]); have HS2 := Lib.hid (HS.out.next hb); clear HS r0 r1; have r0 := HS2.out.cells.1; have r1 := HS2.out.cells.2; have HS := HS2; clear HS2 hb)
      | (go_at_call 32; (with_reducible show Calls _ _ #[_, .int .i64 ((v : Nat) : Int), _] _ _); refine (between_any HS.out.gv HS.out.hB HD.out.2.2.1).mono ?_; rintro e w3 ⟨rfl, hb⟩; rw [HV.out.2.1]; have HS2 := Lib.hid (HS.out.next hb); clear HS r0 r1; have r0 := HS2.out.cells.1; have r1 := HS2.out.cells.2; have HS := HS2; clear HS2 hb)
      | (go_at_call 34; refine (total_any _ _ _ _ _ HS.out.arcs).mono ?_; rintro e w3 ⟨rfl, hb⟩; rw [HD.out.2.2.2.2]; have HS2 := Lib.hid (HS.out.next hb); clear HS r0 r1; have r0 := HS2.out.cells.1; have r1 := HS2.out.cells.2; have HS := HS2; clear HS2 hb)
      | (go_at_call 20; refine (out_gv HS.out.gv _).mono ?_; rintro e w4 ⟨hb, xv, rfl, hE⟩; obtain ⟨ae, ce, rfl, hEs, _, _⟩ := EV.shape hE; have HEs := Lib.hid hEs; clear hE hEs; have HS2 := Lib.hid (HS.out.next hb); clear HS r0 r1; have r0 := HS2.out.cells.1; have r1 := HS2.out.cells.2; have HS := HS2; clear HS2 hb))
    obtain ⟨E, hE⟩ : ∃ E, E = outI N M (u : Int) := ⟨_, rfl⟩
    rw [← hE] at HEs
    rw [← hE]
    have hEl := outI_len N M (u : Int) (by omega)
    rw [← hE] at hEl
    have HL := Lib.hid (show ∀ e ∈ E, 0 ≤ atL Lu e.1 ∧ atL Lu e.1 ≤ e.2.1 from fun e he => HD.out.2.2.2.1 e (by rw [hE, outI_at] at he; exact he))
    clear hE
    go_loopw [20] (fun vi wr => ∃ i : Nat, vi = .int .i64 (i : Nat) ∧ i ≤ E.length ∧ Oz w w1.heap.size N M am cm Bd (ptr g) wr ∧ Es wr ae E) (fun i _ => E.length - (intOf i).toNat)
    case atStart => exact ⟨0, rfl, Nat.zero_le _, HS.out, HEs.out⟩
    case round =>
      obtain ⟨i, rfl, hi, hoz, hes⟩ := hrel
      by_cases hlt : i < E.length
      · have hlt' : (i : Int) < (E.length : Int) := by omega
        have hw1 : IntKind.i64.wrap ((i : Int) + 1) = (i : Int) + 1 := by rw [IntKind.wrap_i64]; omega
        obtain ⟨eb, eo, rfl, e0, e1, e2⟩ := hes.at_ hlt
        obtain ⟨f1, f2⟩ := HL.out _ (List.getElem_mem hlt)
        generalize E[i]'hlt = e at *
        generalize hG : atL Lu e.1 = G at *
        have HG := Lib.hid hG
        have g1 : decide (G < 0) = false := by simp; omega
        have g2 : decide (e.2.1 < G) = false := by simp; omega
        have HQ := Lib.hid (And.intro hoz (And.intro hes hi))
        have HNx := Lib.hid (show ∀ W', Below wr.heap.size wr W' → W'.cell? ⟨eb, eo + i * 3 + 1, none⟩ = some (.int .i64 e.2.1) from fun W' hW => (hW.cell (block_lt_of_cell e1)).trans e1)
        clear hoz hes hi f1 f2 hG
        go_wp2_with (go_at_call 32; refine (between_any HQ.out.1.gv HQ.out.1.hB HD.out.2.1).mono ?_; rintro er w5 ⟨rfl, hb⟩; rw [HG.out]; have e1' := HNx.out _ hb; have HN := Lib.hid (And.intro (HQ.out.1.next hb) (HQ.out.2.1.under hb)); clear hb e0 e1 e2)
        refine ⟨⟨i + 1, by go_num, by omega, HN.out.1, HN.out.2⟩, by simp [intOf]; omega⟩
      · obtain rfl : i = E.length := by omega
        have HQ := Lib.hid hoz
        clear hoz hes hi
        go_wp2_with (go_at_call 30; refine (dknown_any _).mono ?_; rintro er w5 ⟨rfl, hb⟩; have HN := Lib.hid (HQ.out.next hb); clear hb)
        go_ret
        exact ⟨rfl, HN.out.bw⟩
theorem u8_of {x : Int} (h : (Lit.int .u8 x).wf = true) : 0 ≤ x ∧ x < 256 := by
  obtain ⟨y, rfl⟩ := B_of x h
  exact ⟨B_ge y, B_lt y⟩
theorem dby_row (n : Int) (a : Option Addr) (l : List Ar) (c : Nat) (x y z : Int) (w : World) (hA : Arcs w a l) (hF : ∀ y ∈ l, FitA y) (hx : (Lit.int .u8 x).wf = true) (hy : (Lit.int .u8 y).wf = true) (hz : (Lit.int .u8 z).wf = true) :
    Calls Try.prog 11 #[.int .i64 n, .slice a l.length c, .int .u8 x, .int .u8 y, .int .u8 z] w fun e w' => e = .returned (.bool true) ∧ Below w.heap.size w w' :=
  dby_walk n a l c x y z w hA hF (u8_of hx) (u8_of hy) (u8_of hz)
end Go.Proofs.Ythljgkaigjokjaa
