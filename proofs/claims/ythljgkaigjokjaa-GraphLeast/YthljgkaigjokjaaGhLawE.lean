/- GraphLeast (written by mkglawe.py). -/
import Derived.Test.YthljgkaigjokjaaGhLawB
import Derived.Test.YthljgkaigjokjaaGhLawC
namespace Go.Proofs.Ythljgkaigjokjaa
open Go.RowKit Go.Shelf Grm Lay

theorem best_self {l : List Ar} (u : Nat) : bestArc l u u = none := by unfold bestArc; rw [if_pos rfl]
/-- One arc more, no less than one of the same ends. -/
theorem more_idle {M : List Ar} {k : Nat} (hk : k < M.length) {d : Int} (hd : 0 ≤ d) : Idle M [((M[k]'hk).1, (M[k]'hk).2.1, (M[k]'hk).2.2 + d)] := by
  intro y hy
  simp only [List.mem_singleton] at hy
  subst hy
  right
  refine ⟨k, hk, ?_, ?_, ?_⟩
  · unfold fromN; rw [List.getElem?_eq_getElem hk]; rfl
  · unfold toN; rw [List.getElem?_eq_getElem hk]; rfl
  · unfold wN; rw [List.getElem?_eq_getElem hk]; simp only [Option.getD_some]; omega
/-- What Best tells of an arc's ends. -/
theorem best_of_arc {n : Nat} {l : List Ar} (hok : EndsOk n l) {i : Nat} (hi : i < l.length) :
    ((l[i]'hi).1 = (l[i]'hi).2.1 ∧ bestW (l[i]'hi).2.1 (outI n l (l[i]'hi).1) = none) ∨ ((l[i]'hi).1 ≠ (l[i]'hi).2.1 ∧ ∃ e : Ed, bestW (l[i]'hi).2.1 (outI n l (l[i]'hi).1) = some e ∧ (e.2.1 < (l[i]'hi).2.2 ∨ (e.2.1 = (l[i]'hi).2.2 ∧ e.2.2 ≤ i))) := by
  have ho := hok.at_ hi
  have hb := best_eq hok _ _ ho.2.2.1 ho.2.2.2
  rw [ho.1, ho.2.1, hb]
  by_cases he : fromN l i = toN l i
  · left
    refine ⟨by omega, ?_⟩
    rw [he, best_self]
    rfl
  · right
    refine ⟨by omega, ?_⟩
    obtain ⟨k, hk⟩ := bestArc_ex (l := l) he hi rfl rfl
    have h1 := bestArc_some.1 hk
    refine ⟨edge_out l k, by rw [hk]; rfl, ?_⟩
    have h2 := h1.2.2.2.2 i hi rfl rfl
    have hwk : wN l k = (edge_out l k).2.1 := rfl
    have hwi : wN l i = (l[i]'hi).2.2 := by unfold wN; rw [List.getElem?_eq_getElem hi]; rfl
    have h3 : (edge_out l k).2.2 = k := rfl
    rw [hwk, hwi] at h2
    rw [h3]
    exact h2
set_option maxRecDepth 100000 in
set_option maxHeartbeats 4000000 in
theorem gleast_walk (n : Int) (a : Option Addr) (l : List Ar) (c : Nat) (at_ more : Int) (w : World) (hA : Arcs w a l) (h0 : 0 ≤ at_) (h1 : at_ < 256) (h2 : 0 ≤ more) (h3 : more < 4294967296) : Calls Try.prog 4 #[mV n a l.length c, .int .u8 at_, .int .u32 more] w fun e w' => e = .returned (.bool true) ∧ Below w.heap.size w w' := by
  obtain ⟨w1, hw1⟩ : ∃ w1, w1 = w.alloc (.cells #[.int .i64 n, .slice a l.length c] 24) := ⟨_, rfl⟩
  have hb1 : Below w.heap.size w w1 := by rw [hw1]; exact (Below.refl _ _).alloc (Nat.le_refl _) _
  have hr1 : Row w1 w.heap.size 24 #[.int .i64 n, .slice a l.length c] := by rw [hw1]; exact Row.fresh w _ _
  have H1 := Lib.hid (And.intro hb1 (And.intro hr1 (hA.under hb1)))
  have HW := Lib.hid hw1
  show Calls Try.prog 4 #[.agg #[.int .i64 n, .slice a l.length c], .int .u8 at_, .int .u32 more] w _
  clear hb1 hr1 hw1 hA
  obtain ⟨R, hR⟩ : ∃ R, R = smallB n l.length 40 80 := ⟨_, rfl⟩
  have HR := Lib.hid hR
  clear hR
  have easy : Hid (R = false ∨ l = [] → Calls Try.prog 4 #[.agg #[.int .i64 n, .slice a l.length c], .int .u8 at_, .int .u32 more] w fun e w' => e = .returned (.bool true) ∧ Below w.heap.size w w') := Lib.hid (fun hor => by
    cases R with
    | false =>
      go_enter Try.func4, Try.ntmps4
      go_wp2_with (first
        | (go_at_call 16; rw [← HW.out]; refine (small_any n a l.length c 40 80 _).mono ?_; rintro e w2 ⟨rfl, hb2⟩; rw [← HR.out]; have H2 := Lib.hid hb2; clear hb2)
        | (go_at_call 17; refine (known_any _).mono ?_; rintro e w3 ⟨rfl, hb3⟩; have H3 := Lib.hid hb3; clear hb3))
      go_ret
      exact ⟨rfl, H1.out.1.trans ((H2.out.trans (H3.out.mono H2.out.size)).mono H1.out.1.size)⟩
    | true =>
      have hl0 : l = [] := by
        rcases hor with h | h
        · cases h
        · exact h
      have e0 : l.length = 0 := by rw [hl0]; rfl
      rw [e0] at HR HW H1 ⊢
      have HR0 := HR
      clear hl0 e0 hor
      go_enter Try.func4, Try.ntmps4
      go_wp2_with (first
        | (go_at_call 16; rw [← HW.out]; refine (small_any n a 0 c 40 80 _).mono ?_; rintro e w2 ⟨rfl, hb2⟩; rw [← HR0.out]; have H2 := Lib.hid hb2; have hr2 := H1.out.2.1.under hb2 H1.out.2.1.lt; have r0 := hr2.cell 0; have r1 := hr2.cell 1; simp only [List.getElem?_toArray, List.getElem?_cons_zero, List.getElem?_cons_succ, List.length_nil] at r0 r1; clear hb2 hr2)
        | (go_at_call 17; refine (known_any _).mono ?_; rintro e w3 ⟨rfl, hb3⟩; have H3 := Lib.hid hb3; clear hb3))
      go_ret
      exact ⟨rfl, H1.out.1.trans ((H2.out.trans (H3.out.mono H2.out.size)).mono H1.out.1.size)⟩)
  by_cases hor : R = false ∨ l = []
  · exact easy.out hor
  have hRt : R = true := by
    cases R with
    | false => exact absurd (.inl rfl) hor
    | true => rfl
  have hl1 : 0 < l.length := List.length_pos_iff.2 (fun e => hor (.inr e))
  subst hRt
  clear easy hor
  have hl : l.length ≤ 80 := by
    have h := HR.out.symm
    unfold smallB at h
    simp only [Bool.and_eq_true, Bool.or_eq_true, decide_eq_true_eq] at h
    omega
  have HL := Lib.hid (And.intro hl1 hl)
  have hli : (l.length : Int) ≤ 80 := by omega
  have hli1 : (0 : Int) < (l.length : Int) := by omega
  have hlz : ((l.length : Int) == 0) = false := beq_eq_false_iff_ne.2 (by omega)
  have hne : (l.length : Int) ≠ 0 := by omega
  clear hl hl1
  obtain ⟨i0, hi, hz0, hz1, hz2⟩ := info_partsC infoA
  go_enter Try.func4, Try.ntmps4
  go_upto_region 3 with (first
    | (go_at_call 16; rw [← HW.out]; refine (small_any n a l.length c 40 80 _).mono ?_; rintro e w2 ⟨rfl, hb2⟩; rw [← HR.out]; have hr2 := H1.out.2.1.under hb2 H1.out.2.1.lt; have r0 := hr2.cell 0; have r1 := hr2.cell 1; simp only [List.getElem?_toArray, List.getElem?_cons_zero, List.getElem?_cons_succ] at r0 r1; have H2 := Lib.hid (And.intro (H1.out.1.trans (hb2.mono H1.out.1.size)) (And.intro hr2 (H1.out.2.2.under hb2))); clear hb2 hr2))
  by_cases hck : checkL n l = 0
  · obtain ⟨N, hNe, hN, hl67, hok, hws⟩ := checkL_zero hck
    subst hNe
    have HCk := Lib.hid (And.intro hck (And.intro hok hws))
    clear hck hok hws hl67
    go_wp2_with fail
    refine (new_any H2.out.2.2 HCk.out.1).mono ?_
    rintro e w3 ⟨g, rfl, hb3, hg3⟩
    have hr3 := H2.out.2.1.under hb3 H2.out.2.1.lt
    have H3 := Lib.hid (And.intro hr3 (And.intro (H2.out.2.2.under hb3) (And.intro (H2.out.1.trans (hb3.mono H2.out.1.size)) hg3)))
    obtain ⟨K1, hK1⟩ : ∃ K1, K1 = w2.heap.size := ⟨_, rfl⟩
    obtain ⟨M1, hM1⟩ : ∃ M1, M1 = w3.heap.size := ⟨_, rfl⟩
    rw [← hK1, ← hM1] at H3
    clear hb3 hg3 hr3 hK1 hM1 r0 r1
    go_wp2
    go_loopw [8] (fun i wr => ∃ k : Nat, i = .int .i64 k ∧ k ≤ l.length ∧ Row wr w.heap.size 24 #[.int .i64 (N : Nat), .slice a l.length c] ∧ Arcs wr a l ∧ Below w.heap.size w wr ∧ Gra wr K1 M1 g N l) (fun i _ => l.length - (intOf i).toNat)
    case atStart => exact ⟨0, rfl, by omega, H3.out⟩
    case round =>
      obtain ⟨j, rfl, hj, hr, hA, hb, hg⟩ := hrel
      have r0 := hr.cell 0
      have r1 := hr.cell 1
      simp only [List.getElem?_toArray, List.getElem?_cons_zero, List.getElem?_cons_succ] at r0 r1
      have HG := Lib.hid (And.intro hr (And.intro hA (And.intro hb hg)))
      clear hr hb hg
      by_cases hlt : j < l.length
      · have hlt' : (j : Int) < (l.length : Int) := by omega
        have hd' : decide ((j : Int) < (l.length : Int)) = true := by simpa using hlt'
        have hw1' : IntKind.i64.wrap ((j : Int) + 1) = (j : Int) + 1 := by rw [IntKind.wrap_i64]; omega
        obtain ⟨ba, oa, rfl, y0, y1, y2⟩ := hA.at_ hlt
        have hbest := best_of_arc HCk.out.2.1 hlt
        have HB := Lib.hid hbest
        clear hA hbest
        generalize l[j]'hlt = x at *
        obtain ⟨x0, x1, x2⟩ := x
        simp only at y0 y1 y2
        obtain ⟨w4, hw4⟩ : ∃ w4, w4 = wr.alloc (.cells #[.int .i64 x0, .int .i64 x1, .int .i64 x2] 33) := ⟨_, rfl⟩
        have hb4 : Below wr.heap.size wr w4 := by rw [hw4]; exact (Below.refl _ _).alloc (Nat.le_refl _) _
        have hx4 : Row w4 wr.heap.size 33 #[.int .i64 x0, .int .i64 x1, .int .i64 x2] := by rw [hw4]; exact Row.fresh wr _ _
        have H4 := Lib.hid (And.intro hb4 hx4)
        have HW4 := Lib.hid hw4
        clear hb4 hx4 hw4
        go_wp2_with fail
        rw [← HW4.out]
        have hbe := best_any (HG.out.2.2.2.under H4.out.1) x0 x1
        rcases HB.out with ⟨he, hn⟩ | ⟨he, ed, hn, hle⟩
        · have he' : x0 = x1 := he
          subst he'
          have hn' : bestW x0 (outI N l x0) = none := hn
          rw [hn'] at hbe
          refine hbe.mono ?_
          rintro e w5 ⟨rfl, hb5⟩
          have hx5 := H4.out.2.under hb5 H4.out.2.lt
          have e0 := hx5.cell 0
          have e1 := hx5.cell 1
          have e2 := hx5.cell 2
          simp only [List.getElem?_toArray, List.getElem?_cons_zero, List.getElem?_cons_succ] at e0 e1 e2
          have hxl := hx5.lt
          have H5 := Lib.hid (H4.out.1.trans (hb5.mono H4.out.1.size))
          clear hbe hb5 hx5 hn hn' he
          rw [show bestV none = .tuple #[.agg eZ, .bool false] from rfl]
          go_wp2
          have H6 := Lib.hid (show Below wr.heap.size wr (w5.alloc (.cells #[.int .i64 0, .int .i64 0, .int .i64 0] 37)) from H5.out.alloc H5.out.size _)
          exact ⟨⟨j + 1, by go_num, by omega, HG.out.1.under H6.out HG.out.1.lt, HG.out.2.1.under H6.out, HG.out.2.2.1.trans (H6.out.mono HG.out.2.2.1.size), HG.out.2.2.2.under H6.out⟩, by simp [intOf]; omega⟩
        · have he' : x0 ≠ x1 := he
          have heb : (x0 == x1) = false := by simpa using he'
          have hbn : (x0 != x1) = true := by simpa using he'
          have hn' : bestW x1 (outI N l x0) = some ed := hn
          rw [hn', bestV_some] at hbe
          obtain ⟨d0, d1, d2⟩ := ed
          have hle' : d1 < x2 ∨ (d1 = x2 ∧ d2 ≤ j) := hle
          refine hbe.mono ?_
          rintro e w5 ⟨rfl, hb5⟩
          have hx5 := H4.out.2.under hb5 H4.out.2.lt
          have e0 := hx5.cell 0
          have e1 := hx5.cell 1
          have e2 := hx5.cell 2
          simp only [List.getElem?_toArray, List.getElem?_cons_zero, List.getElem?_cons_succ] at e0 e1 e2
          have hxl := hx5.lt
          have H5 := Lib.hid (H4.out.1.trans (hb5.mono H4.out.1.size))
          clear hbe hb5 hx5 hn hn' he hle he'
          rcases hle' with hlt3 | ⟨rfl, hle3⟩
          · have c1 : decide (d1 > x2) = false := by simp; omega
            have c1' : decide (x2 < d1) = false := by simp; omega
            have c2 : (d1 == x2) = false := beq_eq_false_iff_ne.2 (by omega)
            clear hlt3
            go_wp2
            have H6 := Lib.hid (show Below wr.heap.size wr (w5.alloc (.cells #[.int .i64 d0, .int .i64 d1, .int .i64 (d2 : Nat)] 37)) from H5.out.alloc H5.out.size _)
            exact ⟨⟨j + 1, by go_num, by omega, HG.out.1.under H6.out HG.out.1.lt, HG.out.2.1.under H6.out, HG.out.2.2.1.trans (H6.out.mono HG.out.2.2.1.size), HG.out.2.2.2.under H6.out⟩, by simp [intOf]; omega⟩
          · have c1 : decide ((d2 : Int) > (j : Int)) = false := by simp; omega
            have c1' : decide ((j : Int) < (d2 : Int)) = false := by simp; omega
            have c1'' : decide (j < d2) = false := by simp; omega
            clear hle3
            go_wp2
            have H6 := Lib.hid (show Below wr.heap.size wr (w5.alloc (.cells #[.int .i64 d0, .int .i64 d1, .int .i64 (d2 : Nat)] 37)) from H5.out.alloc H5.out.size _)
            exact ⟨⟨j + 1, by go_num, by omega, HG.out.1.under H6.out HG.out.1.lt, HG.out.2.1.under H6.out, HG.out.2.2.1.trans (H6.out.mono HG.out.2.2.1.size), HG.out.2.2.2.under H6.out⟩, by simp [intOf]; omega⟩
      · obtain rfl : j = l.length := by omega
        have hlt' : ¬ (l.length : Int) < (l.length : Int) := by omega
        have hd' : decide ((l.length : Int) < (l.length : Int)) = false := by simp
        clear hA
        obtain ⟨k, hk⟩ : ∃ k : Nat, (k : Int) = at_ % (l.length : Int) := ⟨(at_ % (l.length : Int)).toNat, by have := Int.emod_nonneg at_ hne; omega⟩
        have hkl : k < l.length := by have := Int.emod_lt_of_pos at_ hli1; omega
        have hkl' : (k : Int) < (l.length : Int) := by omega
        have hrem : at_.tmod (l.length : Int) = (k : Int) := by rw [Int.tmod_eq_emod_of_nonneg h0]; exact hk.symm
        have hrem2 : at_ % (l.length : Int) = (k : Int) := hk.symm
        obtain ⟨ba, oa, rfl, y0, y1, y2⟩ := HG.out.2.1.at_ hkl
        have HId := Lib.hid (more_idle (M := l) hkl (d := more % 1000) (Int.emod_nonneg _ (by omega)))
        have hlne : ¬ l = [] := fun e => by rw [e] at hkl; simp at hkl
        have hwat : IntKind.i64.wrap at_ = at_ := by rw [IntKind.wrap_i64]; omega
        have hmem := Lib.hid (List.getElem_mem hkl)
        generalize l[k]'hkl = x at *
        obtain ⟨x0, x1, x2⟩ := x
        simp only at y0 y1 y2
        have hrr := HG.out.1
        have hbx := block_lt_of_cell y0
        have HSt := Lib.hid (show ∀ W, Below wr.heap.size wr W → (W.cell? ⟨w.heap.size, 1, none⟩ = some (.slice (some ⟨ba, oa, none⟩) l.length c) ∧ W.cell? ⟨ba, oa + k * 3, none⟩ = some (.int .i64 x0) ∧ W.cell? ⟨ba, oa + k * 3 + 1, none⟩ = some (.int .i64 x1) ∧ W.cell? ⟨ba, oa + k * 3 + 2, none⟩ = some (.int .i64 x2)) from fun W hW => ⟨(hrr.under hW hrr.lt).cell 1, (hW.cell hbx).trans y0, (hW.cell (block_lt_of_cell y1)).trans y1, (hW.cell (block_lt_of_cell y2)).trans y2⟩)
        clear hrr hk y0 y1 y2
        go_wp2
        refine wp_region_held_drew (S := fun W => W.cell? ⟨w.heap.size, 1, none⟩ = some (.slice (some ⟨ba, oa, none⟩) l.length c) ∧ W.cell? ⟨ba, oa + k * 3, none⟩ = some (.int .i64 x0) ∧ W.cell? ⟨ba, oa + k * 3 + 1, none⟩ = some (.int .i64 x1) ∧ W.cell? ⟨ba, oa + k * 3 + 2, none⟩ = some (.int .i64 x2)) (by kernel_rfl) (HSt.out _ (Below.refl _ _).drew) (fun hHeld => ?_)
        refine wpAnyH_take (i := 0) (oi := ⟨some 82, _, _, _, _, _⟩) (v := ?_) rfl (by kernel_rfl) (by kernel_rfl) (by kernel_rfl) (fun _ _ _ h => h) (Or.inl ⟨by rfl, ?_⟩) hHeld ?_
        rotate_left
        · intro W hSw
          obtain ⟨s0, s1, s2, s3⟩ := hSw
          go_simp
          with_reducible rfl
        simp only [Act.put, List.setIfInBounds_toArray, List.set_cons_zero, List.set_cons_succ]
        refine wpAnyH_take (i := 1) (oi := ⟨some 83, _, _, _, _, _⟩) (v := ?_) rfl (by kernel_rfl) (by kernel_rfl) (by kernel_rfl) (fun _ _ _ h => h) (Or.inl ⟨by rfl, ?_⟩) hHeld ?_
        rotate_left
        · intro W hSw
          obtain ⟨s0, s1, s2, s3⟩ := hSw
          go_simp
          with_reducible rfl
        simp only [Act.put, List.setIfInBounds_toArray, List.set_cons_zero, List.set_cons_succ]
        refine wpAnyH_take (i := 2) (oi := ⟨some 84, _, _, _, _, _⟩) (v := ?_) rfl (by kernel_rfl) (by kernel_rfl) (by kernel_rfl) (fun _ _ _ h => h) (Or.inl ⟨by rfl, ?_⟩) hHeld ?_
        rotate_left
        · intro W hSw
          obtain ⟨s0, s1, s2, s3⟩ := hSw
          go_simp
          with_reducible rfl
        simp only [Act.put, List.setIfInBounds_toArray, List.set_cons_zero, List.set_cons_succ]
        refine wpAnyH_take (i := 3) (oi := ⟨some 85, _, _, _, _, _⟩) (v := ?_) rfl (by kernel_rfl) (by kernel_rfl) (by kernel_rfl) (fun _ _ _ h => h) (Or.inl ⟨by rfl, ?_⟩) hHeld ?_
        rotate_left
        · intro W hSw
          obtain ⟨s0, s1, s2, s3⟩ := hSw
          go_simp
          with_reducible rfl
        simp only [Act.put, List.setIfInBounds_toArray, List.set_cons_zero, List.set_cons_succ]
        refine wpAnyH_take (i := 4) (oi := ⟨some 86, _, _, _, _, _⟩) (v := ?_) rfl (by kernel_rfl) (by kernel_rfl) (by kernel_rfl) (fun _ _ _ h => h) (Or.inl ⟨by rfl, ?_⟩) hHeld ?_
        rotate_left
        · intro W hSw
          obtain ⟨s0, s1, s2, s3⟩ := hSw
          go_simp
          with_reducible rfl
        simp only [Act.put, List.setIfInBounds_toArray, List.set_cons_zero, List.set_cons_succ]
        refine wpAnyH_take (i := 5) (oi := ⟨some 87, _, _, _, _, _⟩) (v := ?_) rfl (by kernel_rfl) (by kernel_rfl) (by kernel_rfl) (fun _ _ _ h => h) (Or.inl ⟨by rfl, ?_⟩) hHeld ?_
        rotate_left
        · intro W hSw
          obtain ⟨s0, s1, s2, s3⟩ := hSw
          go_simp
          with_reducible rfl
        simp only [Act.put, List.setIfInBounds_toArray, List.set_cons_zero, List.set_cons_succ]
        refine wpAnyH_take (i := 6) (oi := ⟨some 88, _, _, _, _, _⟩) (v := ?_) rfl (by kernel_rfl) (by kernel_rfl) (by kernel_rfl) (fun _ _ _ h => h) (Or.inl ⟨by rfl, ?_⟩) hHeld ?_
        rotate_left
        · intro W hSw
          obtain ⟨s0, s1, s2, s3⟩ := hSw
          go_simp
          with_reducible rfl
        simp only [Act.put, List.setIfInBounds_toArray, List.set_cons_zero, List.set_cons_succ]
        refine wpAnyH_take (i := 7) (oi := ⟨some 89, _, _, _, _, _⟩) (v := ?_) rfl (by kernel_rfl) (by kernel_rfl) (by kernel_rfl) (fun _ _ _ h => h) (Or.inl ⟨by rfl, ?_⟩) hHeld ?_
        rotate_left
        · intro W hSw
          obtain ⟨s0, s1, s2, s3⟩ := hSw
          go_simp
          with_reducible rfl
        simp only [Act.put, List.setIfInBounds_toArray, List.set_cons_zero, List.set_cons_succ]
        refine wpAnyH_take (i := 8) (oi := ⟨some 90, _, _, _, _, _⟩) (v := ?_) rfl (by kernel_rfl) (by kernel_rfl) (by kernel_rfl) (fun _ _ _ h => h) (Or.inl ⟨by rfl, ?_⟩) hHeld ?_
        rotate_left
        · intro W hSw
          obtain ⟨s0, s1, s2, s3⟩ := hSw
          go_simp
          with_reducible rfl
        simp only [Act.put, List.setIfInBounds_toArray, List.set_cons_zero, List.set_cons_succ]
        refine wpAnyH_take (i := 9) (oi := ⟨some 91, _, _, _, _, _⟩) (v := ?_) rfl (by kernel_rfl) (by kernel_rfl) (by kernel_rfl) (fun _ _ _ h => h) (Or.inl ⟨by rfl, ?_⟩) hHeld ?_
        rotate_left
        · intro W hSw
          obtain ⟨s0, s1, s2, s3⟩ := hSw
          go_simp
          with_reducible rfl
        simp only [Act.put, List.setIfInBounds_toArray, List.set_cons_zero, List.set_cons_succ]
        refine wpAnyH_ready (rs := [10]) (by kernel_rfl) (by simp) ?_
        refine (AllReadyH.cons (o := ⟨some 12, _, _, _, _, _⟩) rfl (fun K hK => ?_) AllReadyH.nil)
        go_simp
        refine hK.out _ _ (HSt.out _ ((Below.refl wr.heap.size wr).drew.alloc (Nat.le_refl _) _)) (fun hHeld2 => ?_)
        clear hK
        refine wpAnyH_ready (rs := [11]) (by kernel_rfl) (by simp) ?_
        refine (AllReadyH.cons (o := ⟨none, _, _, _, _, _⟩) rfl (fun K hK => ?_) AllReadyH.nil)
        go_simp
        refine hK.out _ _ (HSt.out _ (((Below.refl wr.heap.size wr).alloc (Nat.le_refl _) _).drew)) (fun _ => ?_)
        clear hK
        refine wpAnyH_done (by kernel_rfl) ?_ _

        obtain ⟨wq, hwq⟩ : ∃ wq, wq = (wr.alloc (.cells #[.int .i64 x0, .int .i64 x1, .int .i64 x2] 33)).drew := ⟨_, rfl⟩
        have hbq : Below wr.heap.size wr wq := by rw [hwq]; exact ((Below.refl _ _).alloc (Nat.le_refl _) _).drew
        have hxq : Row wq wr.heap.size 33 #[.int .i64 x0, .int .i64 x1, .int .i64 x2] := by rw [hwq]; exact Row.fresh wr _ _
        obtain ⟨xb, hxb⟩ : ∃ xb, xb = wr.heap.size := ⟨_, rfl⟩
        rw [← hwq]
        rw [← hxb] at hxq ⊢
        have hrq := HG.out.1.under hbq HG.out.1.lt
        have HQ := Lib.hid (And.intro hbq (And.intro hxq (And.intro hrq (HG.out.2.1.under hbq))))
        have HXb := Lib.hid hxb
        have e0 := hxq.cell 0
        have e1 := hxq.cell 1
        have e2 := hxq.cell 2
        have f2 := hxq.thaw 2
        simp only [List.getElem?_toArray, List.getElem?_cons_zero, List.getElem?_cons_succ] at e0 e1 e2
        have hm1 : IntKind.i64.wrap more = more := by rw [IntKind.wrap_i64]; omega
        have hm2 : more.tmod 1000 = more % 1000 := Int.tmod_eq_emod_of_nonneg h2
        clear hwq hbq hxq hrq hxb r0 r1
        go_upto_region 14 with (fail)
        obtain ⟨z, hzz⟩ : ∃ z, z = wrap64 (x2 + more % 1000) := ⟨_, rfl⟩
        rw [← hzz]
        have HZz := Lib.hid hzz
        obtain ⟨w4, hw4⟩ : ∃ w4, w4 = wq.setCell ⟨xb, 2, none⟩ (.int .i64 z) := ⟨_, rfl⟩
        rw [← hw4]
        have ho4 : Only (fun q => q = xb) wq w4 := by rw [hw4]; exact (Only.refl (fun q => q = xb) wq).setCell (p := ⟨xb, 2, none⟩) (.inl rfl) _
        have hx4 : Row w4 xb 33 #[.int .i64 x0, .int .i64 x1, .int .i64 z] := by
          rw [hw4]
          have := HQ.out.2.1.put 2 (.int .i64 z)
          simpa using this
        have hbxb : ba < xb := by rw [HXb.out]; exact hbx
        have hwxb : w.heap.size < xb := by rw [HXb.out]; exact HG.out.1.lt
        have hA4 : Arcs w4 (some ⟨ba, oa, none⟩) l := HQ.out.2.2.2.only ho4 (fun b o e _ q => by cases e; omega)
        have hr4 := HQ.out.2.2.1.only ho4 (by omega)
        have hb4 : Below wr.heap.size wr w4 := HQ.out.1.trans (ho4.below (K := wr.heap.size) (fun q e => by rw [e, HXb.out]; exact Nat.le_refl _) HQ.out.1.size)
        obtain ⟨K0, hK0⟩ : ∃ K0, K0 = w4.heap.size := ⟨_, rfl⟩
        have HK0 := Lib.hid (show K0 ≤ w4.heap.size from Nat.le_of_eq hK0)
        have hxK : xb < K0 := by rw [hK0]; exact hx4.lt
        have HC := Lib.hid (show ∀ (j : Nat) (u : Value), (acells l)[j]? = some u → w4.cell? ((⟨ba, oa, none⟩ : Addr).add j) = some u from fun j u h => by rw [add_addr]; exact hA4.cells j u h)
        have hlen := Lib.hid (acells_length l)
        have H4 := Lib.hid (And.intro hb4 (And.intro hx4 hr4))
        have r0 := hr4.cell 0
        have r1 := hr4.cell 1
        simp only [List.getElem?_toArray, List.getElem?_cons_zero, List.getElem?_cons_succ] at r0 r1
        clear hzz hw4 ho4 hx4 hA4 hr4 hb4 hK0 e0 e1 e2 f2
        go_upto_region 15 with (at_builtin; refine wpList_append_own_at _ rfl _ _ 22 rfl K0 33 i0 (.agg #[.int .i64 0, .int .i64 0, .int .i64 0]) 3 24 Try.underlying22 hi hz0 hz1 hz2 rfl (by decide) (.slice none 0 0) 0 [] rfl (World.ownsRow_nil _ _ _ _) ⟨ba, oa, none⟩ l.length c (acells l) rfl hlen.out HC.out (acells_one l) (by unfold maxLen; have := HL.out; omega) (by have := HL.out; omega) HK0.out ?_; intro v' w5 hown' hg5 _ _; rw [Nat.zero_add] at hown'; have ho5 := only_grown (S := fun q => False) hg5 (fun q e => by cases e); have HT := Lib.hid (And.intro hown' ho5); obtain ⟨av, cv, rfl, _, _⟩ := owns_shape hown'; clear hown' hg5 ho5)
        have hb5 : Below w4.heap.size w4 w5 := HT.out.2.below (K := w4.heap.size) (fun _ h => h.elim) (Nat.le_refl _)
        have hx5 := H4.out.2.1.under hb5 H4.out.2.1.lt
        have hr5 := H4.out.2.2.under hb5 H4.out.2.2.lt
        have e0 := hx5.cell 0
        have e1 := hx5.cell 1
        have e2 := hx5.cell 2
        have r0 := hr5.cell 0
        have r1 := hr5.cell 1
        simp only [List.getElem?_toArray, List.getElem?_cons_zero, List.getElem?_cons_succ] at e0 e1 e2 r0 r1
        have H5 := Lib.hid (And.intro hx5 hr5)
        have HB5 := Lib.hid (H4.out.1.trans (hb5.mono H4.out.1.size))
        have HK5 := Lib.hid (show K0 ≤ w5.heap.size from Nat.le_trans HK0.out hb5.size)
        have HOw := Lib.hid (show w5.ownsRow K0 33 3 (.slice av l.length cv) l.length (acells l) by simpa using HT.out.1)
        clear hb5 hx5 hr5
        go_upto_region 16 with (at_builtin; refine wpList_append_own_at _ rfl _ _ 22 rfl K0 33 i0 (.agg #[.int .i64 0, .int .i64 0, .int .i64 0]) 3 24 Try.underlying22 hi hz0 hz1 hz2 rfl (by decide) _ l.length (acells l) rfl (HOw.out.alloc _) ⟨w5.heap.size, 0, none⟩ 1 1 [.int .i64 x0, .int .i64 x1, .int .i64 z] rfl rfl (news3 w5 _ _ _ _) (by intro u hu; simp at hu; rcases hu with rfl | rfl | rfl <;> rfl) (by unfold maxLen; have := HL.out; omega) (by have := HL.out; omega) (by have := HK5.out; simp; omega) ?_; intro v' w6 hown' hg6 _ _; obtain ⟨g', cap', rfl⟩ := ownsRow_succ hown'; have HT6 := Lib.hid (And.intro hown' hg6); clear hown' hg6)
        have hb6 : Below wr.heap.size wr w6 := (HB5.out.alloc HB5.out.size _).grown HT6.out.2 (by have := HB5.out.size; simp; omega) (fun q e => by have := (owns_lt HOw.out q e).1; have := HXb.out; omega)
        obtain ⟨L, hLe⟩ : ∃ L, L = l ++ [(x0, x1, z)] := ⟨_, rfl⟩
        have hLl : L.length = l.length + 1 := by rw [hLe]; simp
        have hAL : Arcs w6 (some ⟨g', 0, none⟩) L := by
          have h := HT6.out.1
          have e : acells l ++ [.int .i64 x0, .int .i64 x1, .int .i64 z] = acells L := by rw [hLe, acells_append]; rfl
          rw [e, ← hLl] at h
          exact AV.arcs h
        have hr6 := HG.out.1.under hb6 HG.out.1.lt
        have r0 := hr6.cell 0
        have r1 := hr6.cell 1
        simp only [List.getElem?_toArray, List.getElem?_cons_zero, List.getElem?_cons_succ] at r0 r1
        have H6 := Lib.hid (And.intro hb6 hAL)
        have HLe := Lib.hid (And.intro hLe hLl)
        clear hb6 hAL hr6 hLe hLl e0 e1 e2
        by_cases hck2 : checkL (N : Nat) L = 0
        · have hn := new_any (n := N) (c := cap') H6.out.2 hck2
          rw [HLe.out.2] at hn
          have HN := Lib.hid hn
          have hzv : z = x2 + more % 1000 := by
            obtain ⟨_, _, _, _, _, hw2⟩ := checkL_zero hck2
            have hx2 := HCk.out.2.2 _ hmem.out
            simp only at hx2
            have hm := Int.emod_lt_of_pos more (show (0 : Int) < 1000 by omega)
            have hm' := Int.emod_nonneg more (show (1000 : Int) ≠ 0 by omega)
            rw [HZz.out]
            unfold wrap64
            omega
          have hid : Idle l [(x0, x1, z)] := by rw [hzv]; exact HId.out
          have HKe := Lib.hid (show keptL L = keptL l by rw [HLe.out.1]; exact app_kept hid)
          have HKl := Lib.hid (show ((keptL l).map fun k => ((k : Nat) : Int)).length ≤ 1000000000 by rw [List.length_map]; have := keptL_len l; have := HL.out; omega)
          have HGg := Lib.hid (HG.out.2.2.2.under H6.out.1)
          clear hn hck2 hzv hid
          go_wp2_with fail
          refine HN.out.mono ?_
          rintro e w7 ⟨h, rfl, hb7, hg7⟩
          have H7 := Lib.hid (And.intro (H6.out.1.trans (hb7.mono H6.out.1.size)) (And.intro (HGg.out.under hb7) hg7))
          clear hb7 hg7 r0 r1
          go_wp2_with fail
          refine (kept_any H7.out.2.1).mono ?_
          rintro e w8 ⟨hb8, x8, rfl, hx8⟩
          obtain ⟨a8, c8, rfl, _, _⟩ := owns_shape hx8
          have H8 := Lib.hid (And.intro (H7.out.1.trans (hb8.mono H7.out.1.size)) (And.intro (Zs.of hx8) (H7.out.2.2.under hb8)))
          clear hb8 hx8
          go_wp2_with fail
          refine (kept_any H8.out.2.2).mono ?_
          rintro e w9 ⟨hb9, x9, rfl, hx9⟩
          rw [HKe.out] at hx9
          obtain ⟨a9, c9, rfl, _, _⟩ := owns_shape hx9
          have hsi := sameints_any a8 a9 _ _ c8 c9 w9 (H8.out.2.1.under hb9) (Zs.of hx9) HKl.out
          rw [decide_eq_true rfl] at hsi
          simp only [List.length_map] at hsi
          have H9 := Lib.hid (And.intro (H8.out.1.trans (hb9.mono H8.out.1.size)) hsi)
          clear hb9 hx9 hsi
          go_wp2_with fail
          refine H9.out.2.mono ?_
          rintro e wa ⟨rfl, hba⟩
          have Ha := Lib.hid (H9.out.1.trans (hba.mono H9.out.1.size))
          clear hba
          go_wp2_with fail
          refine (known_any _).mono ?_
          rintro e wb ⟨rfl, hbb⟩
          have Hb := Lib.hid (Ha.out.trans (hbb.mono Ha.out.size))
          clear hbb
          go_wp2
          go_ret
          exact ⟨rfl, HG.out.2.2.1.trans (Hb.out.mono HG.out.2.2.1.size)⟩
        · have hn := new_nil (n := (N : Int)) (c := cap') H6.out.2 hck2
          rw [HLe.out.2] at hn
          have HN := Lib.hid hn
          clear hn hck2
          go_wp2_with fail
          refine HN.out.mono ?_
          rintro e w7 ⟨rfl, hb7⟩
          have H7 := Lib.hid (H6.out.1.trans (hb7.mono H6.out.1.size))
          clear hb7 r0 r1
          go_wp2_with fail
          refine (known_any _).mono ?_
          rintro e wb ⟨rfl, hbb⟩
          have Hb := Lib.hid (H7.out.trans (hbb.mono H7.out.size))
          clear hbb
          go_wp2
          go_ret
          exact ⟨rfl, HG.out.2.2.1.trans (Hb.out.mono HG.out.2.2.1.size)⟩
  · have HCk := Lib.hid hck
    clear hck
    go_wp2_with fail
    refine (new_nil H2.out.2.2 HCk.out).mono ?_
    rintro e w3 ⟨rfl, hb3⟩
    have hr3 := H2.out.2.1.under hb3 H2.out.2.1.lt
    have H3 := Lib.hid (And.intro hr3 (And.intro (H2.out.2.2.under hb3) (And.intro (H2.out.1.trans (hb3.mono H2.out.1.size)) trivial)))
    clear hb3 hr3 r0 r1
    go_wp2
    go_loopw [8] (fun i wr => i = .int .i64 0 ∧ wr = w3) (fun _ _ => 0)
    case atStart => exact ⟨rfl, rfl⟩
    case round =>
      obtain ⟨rfl, rfl⟩ := hrel
      have HG := H3
      have r0 := HG.out.1.cell 0
      have r1 := HG.out.1.cell 1
      simp only [List.getElem?_toArray, List.getElem?_cons_zero, List.getElem?_cons_succ] at r0 r1
      have hd' : decide ((0 : Int) < (l.length : Int)) = true := by simpa using hli1
      obtain ⟨k, hk⟩ : ∃ k : Nat, (k : Int) = at_ % (l.length : Int) := ⟨(at_ % (l.length : Int)).toNat, by have := Int.emod_nonneg at_ hne; omega⟩
      have hkl : k < l.length := by have := Int.emod_lt_of_pos at_ hli1; omega
      have hkl' : (k : Int) < (l.length : Int) := by omega
      have hrem : at_.tmod (l.length : Int) = (k : Int) := by rw [Int.tmod_eq_emod_of_nonneg h0]; exact hk.symm
      have hrem2 : at_ % (l.length : Int) = (k : Int) := hk.symm
      obtain ⟨ba, oa, rfl, y0, y1, y2⟩ := HG.out.2.1.at_ hkl
      have HId := Lib.hid (more_idle (M := l) hkl (d := more % 1000) (Int.emod_nonneg _ (by omega)))
      have hlne : ¬ l = [] := fun e => by rw [e] at hkl; simp at hkl
      have hwat : IntKind.i64.wrap at_ = at_ := by rw [IntKind.wrap_i64]; omega
      have hmem := Lib.hid (List.getElem_mem hkl)
      generalize l[k]'hkl = x at *
      obtain ⟨x0, x1, x2⟩ := x
      simp only at y0 y1 y2
      have hrr := HG.out.1
      have hbx := block_lt_of_cell y0
      have HSt := Lib.hid (show ∀ W, Below wr.heap.size wr W → (W.cell? ⟨w.heap.size, 1, none⟩ = some (.slice (some ⟨ba, oa, none⟩) l.length c) ∧ W.cell? ⟨ba, oa + k * 3, none⟩ = some (.int .i64 x0) ∧ W.cell? ⟨ba, oa + k * 3 + 1, none⟩ = some (.int .i64 x1) ∧ W.cell? ⟨ba, oa + k * 3 + 2, none⟩ = some (.int .i64 x2)) from fun W hW => ⟨(hrr.under hW hrr.lt).cell 1, (hW.cell hbx).trans y0, (hW.cell (block_lt_of_cell y1)).trans y1, (hW.cell (block_lt_of_cell y2)).trans y2⟩)
      clear hrr hk y0 y1 y2
      go_wp2
      refine wp_region_held_drew (S := fun W => W.cell? ⟨w.heap.size, 1, none⟩ = some (.slice (some ⟨ba, oa, none⟩) l.length c) ∧ W.cell? ⟨ba, oa + k * 3, none⟩ = some (.int .i64 x0) ∧ W.cell? ⟨ba, oa + k * 3 + 1, none⟩ = some (.int .i64 x1) ∧ W.cell? ⟨ba, oa + k * 3 + 2, none⟩ = some (.int .i64 x2)) (by kernel_rfl) (HSt.out _ (Below.refl _ _).drew) (fun hHeld => ?_)
      refine wpAnyH_take (i := 0) (oi := ⟨some 82, _, _, _, _, _⟩) (v := ?_) rfl (by kernel_rfl) (by kernel_rfl) (by kernel_rfl) (fun _ _ _ h => h) (Or.inl ⟨by rfl, ?_⟩) hHeld ?_
      rotate_left
      · intro W hSw
        obtain ⟨s0, s1, s2, s3⟩ := hSw
        go_simp
        with_reducible rfl
      simp only [Act.put, List.setIfInBounds_toArray, List.set_cons_zero, List.set_cons_succ]
      refine wpAnyH_take (i := 1) (oi := ⟨some 83, _, _, _, _, _⟩) (v := ?_) rfl (by kernel_rfl) (by kernel_rfl) (by kernel_rfl) (fun _ _ _ h => h) (Or.inl ⟨by rfl, ?_⟩) hHeld ?_
      rotate_left
      · intro W hSw
        obtain ⟨s0, s1, s2, s3⟩ := hSw
        go_simp
        with_reducible rfl
      simp only [Act.put, List.setIfInBounds_toArray, List.set_cons_zero, List.set_cons_succ]
      refine wpAnyH_take (i := 2) (oi := ⟨some 84, _, _, _, _, _⟩) (v := ?_) rfl (by kernel_rfl) (by kernel_rfl) (by kernel_rfl) (fun _ _ _ h => h) (Or.inl ⟨by rfl, ?_⟩) hHeld ?_
      rotate_left
      · intro W hSw
        obtain ⟨s0, s1, s2, s3⟩ := hSw
        go_simp
        with_reducible rfl
      simp only [Act.put, List.setIfInBounds_toArray, List.set_cons_zero, List.set_cons_succ]
      refine wpAnyH_take (i := 3) (oi := ⟨some 85, _, _, _, _, _⟩) (v := ?_) rfl (by kernel_rfl) (by kernel_rfl) (by kernel_rfl) (fun _ _ _ h => h) (Or.inl ⟨by rfl, ?_⟩) hHeld ?_
      rotate_left
      · intro W hSw
        obtain ⟨s0, s1, s2, s3⟩ := hSw
        go_simp
        with_reducible rfl
      simp only [Act.put, List.setIfInBounds_toArray, List.set_cons_zero, List.set_cons_succ]
      refine wpAnyH_take (i := 4) (oi := ⟨some 86, _, _, _, _, _⟩) (v := ?_) rfl (by kernel_rfl) (by kernel_rfl) (by kernel_rfl) (fun _ _ _ h => h) (Or.inl ⟨by rfl, ?_⟩) hHeld ?_
      rotate_left
      · intro W hSw
        obtain ⟨s0, s1, s2, s3⟩ := hSw
        go_simp
        with_reducible rfl
      simp only [Act.put, List.setIfInBounds_toArray, List.set_cons_zero, List.set_cons_succ]
      refine wpAnyH_take (i := 5) (oi := ⟨some 87, _, _, _, _, _⟩) (v := ?_) rfl (by kernel_rfl) (by kernel_rfl) (by kernel_rfl) (fun _ _ _ h => h) (Or.inl ⟨by rfl, ?_⟩) hHeld ?_
      rotate_left
      · intro W hSw
        obtain ⟨s0, s1, s2, s3⟩ := hSw
        go_simp
        with_reducible rfl
      simp only [Act.put, List.setIfInBounds_toArray, List.set_cons_zero, List.set_cons_succ]
      refine wpAnyH_take (i := 6) (oi := ⟨some 88, _, _, _, _, _⟩) (v := ?_) rfl (by kernel_rfl) (by kernel_rfl) (by kernel_rfl) (fun _ _ _ h => h) (Or.inl ⟨by rfl, ?_⟩) hHeld ?_
      rotate_left
      · intro W hSw
        obtain ⟨s0, s1, s2, s3⟩ := hSw
        go_simp
        with_reducible rfl
      simp only [Act.put, List.setIfInBounds_toArray, List.set_cons_zero, List.set_cons_succ]
      refine wpAnyH_take (i := 7) (oi := ⟨some 89, _, _, _, _, _⟩) (v := ?_) rfl (by kernel_rfl) (by kernel_rfl) (by kernel_rfl) (fun _ _ _ h => h) (Or.inl ⟨by rfl, ?_⟩) hHeld ?_
      rotate_left
      · intro W hSw
        obtain ⟨s0, s1, s2, s3⟩ := hSw
        go_simp
        with_reducible rfl
      simp only [Act.put, List.setIfInBounds_toArray, List.set_cons_zero, List.set_cons_succ]
      refine wpAnyH_take (i := 8) (oi := ⟨some 90, _, _, _, _, _⟩) (v := ?_) rfl (by kernel_rfl) (by kernel_rfl) (by kernel_rfl) (fun _ _ _ h => h) (Or.inl ⟨by rfl, ?_⟩) hHeld ?_
      rotate_left
      · intro W hSw
        obtain ⟨s0, s1, s2, s3⟩ := hSw
        go_simp
        with_reducible rfl
      simp only [Act.put, List.setIfInBounds_toArray, List.set_cons_zero, List.set_cons_succ]
      refine wpAnyH_take (i := 9) (oi := ⟨some 91, _, _, _, _, _⟩) (v := ?_) rfl (by kernel_rfl) (by kernel_rfl) (by kernel_rfl) (fun _ _ _ h => h) (Or.inl ⟨by rfl, ?_⟩) hHeld ?_
      rotate_left
      · intro W hSw
        obtain ⟨s0, s1, s2, s3⟩ := hSw
        go_simp
        with_reducible rfl
      simp only [Act.put, List.setIfInBounds_toArray, List.set_cons_zero, List.set_cons_succ]
      refine wpAnyH_ready (rs := [10]) (by kernel_rfl) (by simp) ?_
      refine (AllReadyH.cons (o := ⟨some 12, _, _, _, _, _⟩) rfl (fun K hK => ?_) AllReadyH.nil)
      go_simp
      refine hK.out _ _ (HSt.out _ ((Below.refl wr.heap.size wr).drew.alloc (Nat.le_refl _) _)) (fun hHeld2 => ?_)
      clear hK
      refine wpAnyH_ready (rs := [11]) (by kernel_rfl) (by simp) ?_
      refine (AllReadyH.cons (o := ⟨none, _, _, _, _, _⟩) rfl (fun K hK => ?_) AllReadyH.nil)
      go_simp
      refine hK.out _ _ (HSt.out _ (((Below.refl wr.heap.size wr).alloc (Nat.le_refl _) _).drew)) (fun _ => ?_)
      clear hK
      refine wpAnyH_done (by kernel_rfl) ?_ _

      obtain ⟨wq, hwq⟩ : ∃ wq, wq = (wr.alloc (.cells #[.int .i64 x0, .int .i64 x1, .int .i64 x2] 33)).drew := ⟨_, rfl⟩
      have hbq : Below wr.heap.size wr wq := by rw [hwq]; exact ((Below.refl _ _).alloc (Nat.le_refl _) _).drew
      have hxq : Row wq wr.heap.size 33 #[.int .i64 x0, .int .i64 x1, .int .i64 x2] := by rw [hwq]; exact Row.fresh wr _ _
      obtain ⟨xb, hxb⟩ : ∃ xb, xb = wr.heap.size := ⟨_, rfl⟩
      rw [← hwq]
      rw [← hxb] at hxq ⊢
      have hrq := HG.out.1.under hbq HG.out.1.lt
      have HQ := Lib.hid (And.intro hbq (And.intro hxq (And.intro hrq (HG.out.2.1.under hbq))))
      have HXb := Lib.hid hxb
      have e0 := hxq.cell 0
      have e1 := hxq.cell 1
      have e2 := hxq.cell 2
      have f2 := hxq.thaw 2
      simp only [List.getElem?_toArray, List.getElem?_cons_zero, List.getElem?_cons_succ] at e0 e1 e2
      have hm1 : IntKind.i64.wrap more = more := by rw [IntKind.wrap_i64]; omega
      have hm2 : more.tmod 1000 = more % 1000 := Int.tmod_eq_emod_of_nonneg h2
      clear hwq hbq hxq hrq hxb r0 r1
      go_upto_region 14 with (fail)
      obtain ⟨z, hzz⟩ : ∃ z, z = wrap64 (x2 + more % 1000) := ⟨_, rfl⟩
      rw [← hzz]
      have HZz := Lib.hid hzz
      obtain ⟨w4, hw4⟩ : ∃ w4, w4 = wq.setCell ⟨xb, 2, none⟩ (.int .i64 z) := ⟨_, rfl⟩
      rw [← hw4]
      have ho4 : Only (fun q => q = xb) wq w4 := by rw [hw4]; exact (Only.refl (fun q => q = xb) wq).setCell (p := ⟨xb, 2, none⟩) (.inl rfl) _
      have hx4 : Row w4 xb 33 #[.int .i64 x0, .int .i64 x1, .int .i64 z] := by
        rw [hw4]
        have := HQ.out.2.1.put 2 (.int .i64 z)
        simpa using this
      have hbxb : ba < xb := by rw [HXb.out]; exact hbx
      have hwxb : w.heap.size < xb := by rw [HXb.out]; exact HG.out.1.lt
      have hA4 : Arcs w4 (some ⟨ba, oa, none⟩) l := HQ.out.2.2.2.only ho4 (fun b o e _ q => by cases e; omega)
      have hr4 := HQ.out.2.2.1.only ho4 (by omega)
      have hb4 : Below wr.heap.size wr w4 := HQ.out.1.trans (ho4.below (K := wr.heap.size) (fun q e => by rw [e, HXb.out]; exact Nat.le_refl _) HQ.out.1.size)
      obtain ⟨K0, hK0⟩ : ∃ K0, K0 = w4.heap.size := ⟨_, rfl⟩
      have HK0 := Lib.hid (show K0 ≤ w4.heap.size from Nat.le_of_eq hK0)
      have hxK : xb < K0 := by rw [hK0]; exact hx4.lt
      have HC := Lib.hid (show ∀ (j : Nat) (u : Value), (acells l)[j]? = some u → w4.cell? ((⟨ba, oa, none⟩ : Addr).add j) = some u from fun j u h => by rw [add_addr]; exact hA4.cells j u h)
      have hlen := Lib.hid (acells_length l)
      have H4 := Lib.hid (And.intro hb4 (And.intro hx4 hr4))
      have r0 := hr4.cell 0
      have r1 := hr4.cell 1
      simp only [List.getElem?_toArray, List.getElem?_cons_zero, List.getElem?_cons_succ] at r0 r1
      clear hzz hw4 ho4 hx4 hA4 hr4 hb4 hK0 e0 e1 e2 f2
      go_upto_region 15 with (at_builtin; refine wpList_append_own_at _ rfl _ _ 22 rfl K0 33 i0 (.agg #[.int .i64 0, .int .i64 0, .int .i64 0]) 3 24 Try.underlying22 hi hz0 hz1 hz2 rfl (by decide) (.slice none 0 0) 0 [] rfl (World.ownsRow_nil _ _ _ _) ⟨ba, oa, none⟩ l.length c (acells l) rfl hlen.out HC.out (acells_one l) (by unfold maxLen; have := HL.out; omega) (by have := HL.out; omega) HK0.out ?_; intro v' w5 hown' hg5 _ _; rw [Nat.zero_add] at hown'; have ho5 := only_grown (S := fun q => False) hg5 (fun q e => by cases e); have HT := Lib.hid (And.intro hown' ho5); obtain ⟨av, cv, rfl, _, _⟩ := owns_shape hown'; clear hown' hg5 ho5)
      have hb5 : Below w4.heap.size w4 w5 := HT.out.2.below (K := w4.heap.size) (fun _ h => h.elim) (Nat.le_refl _)
      have hx5 := H4.out.2.1.under hb5 H4.out.2.1.lt
      have hr5 := H4.out.2.2.under hb5 H4.out.2.2.lt
      have e0 := hx5.cell 0
      have e1 := hx5.cell 1
      have e2 := hx5.cell 2
      have r0 := hr5.cell 0
      have r1 := hr5.cell 1
      simp only [List.getElem?_toArray, List.getElem?_cons_zero, List.getElem?_cons_succ] at e0 e1 e2 r0 r1
      have H5 := Lib.hid (And.intro hx5 hr5)
      have HB5 := Lib.hid (H4.out.1.trans (hb5.mono H4.out.1.size))
      have HK5 := Lib.hid (show K0 ≤ w5.heap.size from Nat.le_trans HK0.out hb5.size)
      have HOw := Lib.hid (show w5.ownsRow K0 33 3 (.slice av l.length cv) l.length (acells l) by simpa using HT.out.1)
      clear hb5 hx5 hr5
      go_upto_region 16 with (at_builtin; refine wpList_append_own_at _ rfl _ _ 22 rfl K0 33 i0 (.agg #[.int .i64 0, .int .i64 0, .int .i64 0]) 3 24 Try.underlying22 hi hz0 hz1 hz2 rfl (by decide) _ l.length (acells l) rfl (HOw.out.alloc _) ⟨w5.heap.size, 0, none⟩ 1 1 [.int .i64 x0, .int .i64 x1, .int .i64 z] rfl rfl (news3 w5 _ _ _ _) (by intro u hu; simp at hu; rcases hu with rfl | rfl | rfl <;> rfl) (by unfold maxLen; have := HL.out; omega) (by have := HL.out; omega) (by have := HK5.out; simp; omega) ?_; intro v' w6 hown' hg6 _ _; obtain ⟨g', cap', rfl⟩ := ownsRow_succ hown'; have HT6 := Lib.hid (And.intro hown' hg6); clear hown' hg6)
      have hb6 : Below wr.heap.size wr w6 := (HB5.out.alloc HB5.out.size _).grown HT6.out.2 (by have := HB5.out.size; simp; omega) (fun q e => by have := (owns_lt HOw.out q e).1; have := HXb.out; omega)
      obtain ⟨L, hLe⟩ : ∃ L, L = l ++ [(x0, x1, z)] := ⟨_, rfl⟩
      have hLl : L.length = l.length + 1 := by rw [hLe]; simp
      have hAL : Arcs w6 (some ⟨g', 0, none⟩) L := by
        have h := HT6.out.1
        have e : acells l ++ [.int .i64 x0, .int .i64 x1, .int .i64 z] = acells L := by rw [hLe, acells_append]; rfl
        rw [e, ← hLl] at h
        exact AV.arcs h
      have hr6 := HG.out.1.under hb6 HG.out.1.lt
      have r0 := hr6.cell 0
      have r1 := hr6.cell 1
      simp only [List.getElem?_toArray, List.getElem?_cons_zero, List.getElem?_cons_succ] at r0 r1
      have H6 := Lib.hid (And.intro hb6 hAL)
      have HLe := Lib.hid (And.intro hLe hLl)
      clear hb6 hAL hr6 hLe hLl e0 e1 e2
      have hany : Calls Try.prog 18 #[mV n (some ⟨g', 0, none⟩) (l.length + 1) cap'] w6 fun e w' => (∃ p, e = .returned (.pointer p)) ∧ Below w6.heap.size w6 w' := by
        rw [← HLe.out.2]
        by_cases hck2 : checkL n L = 0
        · obtain ⟨N, hNe, _⟩ := checkL_zero hck2
          subst hNe
          exact (new_any H6.out.2 hck2).mono (fun e w' h => by obtain ⟨g, h1, h2, _⟩ := h; exact ⟨⟨_, h1⟩, h2⟩)
        · exact (new_nil H6.out.2 hck2).mono (fun e w' h => ⟨⟨_, h.1⟩, h.2⟩)
      have HN := Lib.hid hany
      clear hany
      go_wp2_with fail
      refine HN.out.mono ?_
      rintro e w7 ⟨⟨p, rfl⟩, hb7⟩
      have H7 := Lib.hid (H6.out.1.trans (hb7.mono H6.out.1.size))
      clear hb7 r0 r1
      go_wp2_with fail
      refine (known_any _).mono ?_
      rintro e wb ⟨rfl, hbb⟩
      have Hb := Lib.hid (H7.out.trans (hbb.mono H7.out.size))
      clear hbb
      go_wp2
      go_ret
      exact ⟨rfl, HG.out.2.2.1.trans (Hb.out.mono HG.out.2.2.1.size)⟩
theorem gleast_row (n : Int) (a : Option Addr) (l : List Ar) (c : Nat) (at_ : Int) (more : BitVec 32) (w : World) (hA : Arcs w a l) (h : (Lit.int .u8 at_).wf = true) : Calls Try.prog 4 #[mV n a l.length c, .int .u8 at_, .int .u32 (U more)] w fun e w' => e = .returned (.bool true) ∧ Below w.heap.size w w' := by
  obtain ⟨x, rfl⟩ := B_of at_ h
  exact gleast_walk n a l c (B x) (U more) w hA (B_ge x) (B_lt x) (U_ge more) (U_lt more)
end Go.Proofs.Ythljgkaigjokjaa
