/- LeftNearer (written by mklgy.py). -/
import Derived.Test.YtdkpdmpghibmmaaLgX
namespace Go.Proofs.Ytdkpdmpghibmmaa
open Go.RowKit Go.Maps Go.Shelf Grm Lay
attribute [local go_sem ↓] Go.wp_at_zero Go.wp_at_succ
theorem near_more {s : LSt} {u v wo most most' : Int} (h : NearP s u v wo most) (hle : most ≤ most') : NearP s u v wo most' := by
  obtain ⟨h1, h2, h3, c, h4, h5⟩ := h
  exact ⟨h1, h2, by omega, c, by omega, h5⟩
theorem WkL.less {s t : LSt} {wo u p c : Int} (hl : t.lost = s.lost) (hF : ∀ i j x, s.F i j = some x → ∃ y, t.F i j = some y ∧ y.1 ≤ x.1) (h : WkL s wo u p c) : ∃ c', c' ≤ c ∧ WkL t wo u p c' := by
  induction h with
  | base => exact ⟨0, Int.le_refl _, .base⟩
  | step p q c x _ hx hm ih =>
    obtain ⟨c', h1, h2⟩ := ih
    obtain ⟨y, h3, h4⟩ := hF p q x hx
    have hm2 : mayB t wo q = true := by
      unfold mayB at hm ⊢
      rw [holds_lost hl]
      exact hm
    exact ⟨c' + y.1, by omega, .step p q c' y h2 h3 hm2⟩
theorem near_less {s t : LSt} {u v wo most : Int} (hl : t.lost = s.lost) (hF : ∀ i j x, s.F i j = some x → ∃ y, t.F i j = some y ∧ y.1 ≤ x.1) (h : NearP s u v wo most) : NearP t u v wo most := by
  obtain ⟨h1, h2, h3, c, h4, h5⟩ := h
  obtain ⟨c', h6, h7⟩ := h5.less hl hF
  unfold mayB at h1 h2
  refine ⟨?_, ?_, h3, c', by omega, h7⟩
  · unfold mayB; rw [holds_lost hl]; exact h1
  · unfold mayB; rw [holds_lost hl]; exact h2
/-- A put makes no way longer. -/
theorem put_less (s : LSt) (u v x m : Int) : ∀ i j z, s.F i j = some z → ∃ y, (s.put u v x m).F i j = some y ∧ y.1 ≤ z.1 := by
  intro i j z hz
  unfold LSt.put
  cases hp : s.puts u v x m with
  | false => exact ⟨z, by simpa using hz, Int.le_refl _⟩
  | true =>
    simp only [if_true]
    unfold LSt.lay
    dsimp only
    by_cases e : i = u ∧ j = v
    · rw [if_pos e]
      refine ⟨_, rfl, ?_⟩
      unfold LSt.puts LSt.as_short at hp
      rw [← e.1, ← e.2, hz] at hp
      simp only [Bool.and_eq_true, Bool.not_eq_true', decide_eq_false_iff_not] at hp
      dsimp only
      omega
    · rw [if_neg e]
      exact ⟨z, hz, Int.le_refl _⟩
theorem put_pos {s : LSt} (h : s.Pos) {u v x m : Int} (hx : x ≤ 4611686018427387904) : (s.put u v x m).Pos := by
  unfold LSt.put
  cases hp : s.puts u v x m with
  | false => simpa using h
  | true =>
    simp only [if_true]
    refine lay_pos h ?_
    unfold LSt.puts at hp
    simp only [Bool.and_eq_true] at hp
    exact ⟨(LSt.may_in hp.1).2.2.2.1, hx⟩
set_option maxRecDepth 100000 in
set_option maxHeartbeats 8000000 in
theorem leftnearer_walk (n : Int) (a : Option Addr) (l : List Ar) (c : Nat) (dk du dv dw dm : Int) (x y d : Int) (w : World) (hA : Arcs w a l) (hF : ∀ y ∈ l, FitA y) (hdu : (Lit.int .i64 du).wf = true) (hdv : (Lit.int .i64 dv).wf = true) (hx : 0 ≤ x ∧ x < 256) (hy : 0 ≤ y ∧ y < 256) (hd : 0 ≤ d ∧ d < 65536) :
    Calls Try.prog 4 #[.int .i64 n, .slice a l.length c, .agg #[.int .i64 dk, .int .i64 du, .int .i64 dv, .int .i64 dw, .int .i64 dm], .int .u8 x, .int .u8 y, .int .u16 d] w fun e w' => e = .returned (.bool true) ∧ Below w.heap.size w w' := by
  obtain ⟨w1, hw1⟩ : ∃ w1, w1 = w.alloc (.cells #[.int .i64 dk, .int .i64 du, .int .i64 dv, .int .i64 dw, .int .i64 dm] 39) := ⟨_, rfl⟩
  have hb1 : Below w.heap.size w w1 := by rw [hw1]; exact (Below.refl _ _).alloc (Nat.le_refl _) _
  have hr1 : Row w1 w.heap.size 39 #[.int .i64 dk, .int .i64 du, .int .i64 dv, .int .i64 dw, .int .i64 dm] := by rw [hw1]; exact Row.fresh w _ _
  have HO := Lib.hid (dof_any n a l c w1 (hA.under hb1) hF)
  have hN1 := ofN_le n
  have hck := ofL_check n l
  have HW1 := Lib.hid hw1
  have H1 := Lib.hid (And.intro hb1 (And.intro hr1 (And.intro hdu hdv)))
  clear hA hF hw1 hb1 hr1 hdu hdv
  generalize ofL n l = M at *
  generalize ofN n = N at *
  have hok : EndsOk N M := by
    obtain ⟨k, h, _, _, h2, _⟩ := checkL_zero hck
    have : N = k := by omega
    subst this
    exact h2
  obtain ⟨u, hu, hu1⟩ := at_pl (N := N) hx.1 hN1.1
  obtain ⟨v, hv, hv1⟩ := at_pl (N := N) hy.1 hN1.1
  have hxw : IntKind.i64.wrap x = x := by rw [IntKind.wrap_i64]; omega
  have hyw : IntKind.i64.wrap y = y := by rw [IntKind.wrap_i64]; omega
  have hdw : IntKind.i64.wrap d = d := by rw [IntKind.wrap_i64]; omega
  have hn0 : ¬ ((N : Nat) : Int) = 0 := by omega
  have HCk := Lib.hid (And.intro hck (And.intro hok (check_w hck)))
  clear hck hok
  go_enter Try.func4, Try.ntmps4
  go_wp2_with fail
  rw [← HW1.out]
  refine HO.out.mono ?_
  rintro e w2 ⟨hb2, am, cm, rfl, hav⟩
  obtain ⟨w3, hw3⟩ : ∃ w3, w3 = w2.alloc (.cells #[.int .i64 (N : Nat), .slice am M.length cm] 25) := ⟨_, rfl⟩
  have hb3 : Below w2.heap.size w2 w3 := by rw [hw3]; exact (Below.refl _ _).alloc (Nat.le_refl _) _
  have hr3 : Row w3 w2.heap.size 25 #[.int .i64 (N : Nat), .slice am M.length cm] := by rw [hw3]; exact Row.fresh w2 _ _
  have hq3 : Row w2 w.heap.size 39 #[.int .i64 dk, .int .i64 du, .int .i64 dv, .int .i64 dw, .int .i64 dm] := H1.out.2.1.under hb2 H1.out.2.1.lt
  have q3 := hq3.cell 3
  simp only [List.getElem?_toArray, List.getElem?_cons_zero, List.getElem?_cons_succ] at q3
  have hlq := hq3.lt
  have HG := Lib.hid (new_any (n := N) (c := cm) (hav.arcs.under hb3) HCk.out.1)
  have HW3 := Lib.hid hw3
  have hz3 : w3.heap.size = w2.heap.size + 1 := by rw [hw3]; simp
  have H3 := Lib.hid (And.intro hr3 (And.intro ((H1.out.1.trans (hb2.mono H1.out.1.size)).trans (hb3.mono (H1.out.1.trans (hb2.mono H1.out.1.size)).size)) (hq3.under hb3 hq3.lt)))
  clear hb2 hav hw3 hb3 hr3 hq3
  by_cases hbig : 1099511627776 < dw
  · go_wp2_with fail
    rw [← HW3.out]
    refine (lknown_any w3).mono ?_
    rintro e w20 ⟨rfl, hb20⟩
    have H20 := Lib.hid (H3.out.2.1.trans (hb20.mono H3.out.2.1.size))
    clear hb20
    go_wp2
    go_ret
    exact ⟨rfl, H20.out⟩
  · skip
    go_wp2_with fail
    rw [← HW3.out]
    refine HG.out.mono ?_
    rintro e w4 ⟨g, rfl, hb4, hg4⟩
    have H4 := Lib.hid (And.intro hg4 (And.intro hb4 (And.intro (H3.out.1.under hb4 H3.out.1.lt) (H3.out.2.2.under hb4 H3.out.2.2.lt))))
    clear hb4 hg4 q3
    go_wp2_with fail
    refine (left_new H4.out.1 (Nat.le_refl _)).mono ?_
    rintro e w5 ⟨lp, bl, bo, bi, go, gi, rfl, hl5, hk5, hb5⟩
    obtain ⟨s0, hs0⟩ : ∃ s0, s0 = newSt N M (keptL M) := ⟨_, rfl⟩
    have hpos : s0.Pos := by rw [hs0]; exact newSt_pos HCk.out.2.2 _
    have hhold : ∀ i : Nat, i < N → s0.holds i = true := fun i hi => by rw [hs0]; exact newSt_holds ⟨by omega, by omega⟩
    rw [← hs0] at hl5
    have hz4 := H4.out.2.1.size
    have hz5 := hb5.size
    have hbw4 := H3.out.2.1.trans (H4.out.2.1.mono H3.out.2.1.size)
    have hlz : Lz w w4.heap.size lp bl bo bi (fun k => k < w4.heap.size) s0 w5 := lz_start hl5 hk5 ⟨hbw4.size, hz5⟩ (hbw4.trans (hb5.mono hbw4.size))
    have hr5 : Row w5 w2.heap.size 25 #[.int .i64 (N : Nat), .slice am M.length cm] := H4.out.2.2.1.under hb5 H4.out.2.2.1.lt
    have hq5 : Row w5 w.heap.size 39 #[.int .i64 dk, .int .i64 du, .int .i64 dv, .int .i64 dw, .int .i64 dm] := H4.out.2.2.2.under hb5 H4.out.2.2.2.lt
    have c5 := hr5.cell 0
    simp only [List.getElem?_toArray, List.getElem?_cons_zero, List.getElem?_cons_succ] at c5
    have hl25 : w2.heap.size < w5.heap.size := hr5.lt
    have hwu : (Lit.int .i64 (u : Nat)).wf = true := wf_nat ⟨by omega, by omega⟩ (show 16777216 ≤ 16777216 by omega)
    have hwv : (Lit.int .i64 (v : Nat)).wf = true := wf_nat ⟨by omega, by omega⟩ (show 16777216 ≤ 16777216 by omega)
    have H5 := Lib.hid (And.intro hlz (And.intro hwu (And.intro hwv hq5)))
    have HS := Lib.hid (And.intro hpos hhold)
    have hself : NearP s0 (u : Nat) (u : Nat) (-1) 0 := by
      have a1 : mayB s0 (-1) (u : Nat) = true := by
        unfold mayB
        rw [hhold u hu1]
        simp <;> omega
      exact ⟨a1, a1, Int.le_refl _, 0, Int.le_refl _, .base⟩
    have HSelf := Lib.hid hself
    have hno1 : ¬ NearP s0 (u : Nat) (v : Nat) (u : Nat) d := fun h => by have := h.1; unfold mayB at this; simp at this
    have hno2 : ¬ NearP s0 (u : Nat) (u : Nat) (-1) (-1) := fun h => by have := h.2.2.1; omega
    have HNo := Lib.hid (And.intro hno1 hno2)
    clear hl5 hk5 hb5 hs0 hpos hhold hlz hr5 hwu hwv hbw4 go gi hq5 hself hno1 hno2
    by_cases hnr : NearP s0 (u : Nat) (v : Nat) (-1) d
    · have HNr := Lib.hid hnr
      clear hnr
      go_wp2_with fail
      refine (lz_near H5.out.1 HS.out.1 (u := (u : Nat)) (v := (v : Nat)) (wo := -1) (most := d) H5.out.2.1 H5.out.2.2.1 (by omega) (b := true) ⟨fun _ => HNr.out, fun _ => rfl⟩).mono ?_
      rintro e x6 ⟨rfl, hb⟩
      have X6 := Lib.hid (H5.out.1.below hb)
      have Y6 := Lib.hid (H5.out.2.2.2.under hb H5.out.2.2.2.lt)
      clear hb
      go_wp2_with fail
      refine (lz_near X6.out HS.out.1 (u := (u : Nat)) (v := (v : Nat)) (wo := -1) (most := d + 1) H5.out.2.1 H5.out.2.2.1 (by omega) (b := true) ⟨fun _ => (near_more HNr.out (by omega)), fun _ => rfl⟩).mono ?_
      rintro e x7 ⟨rfl, hb⟩
      have X7 := Lib.hid (X6.out.below hb)
      have Y7 := Lib.hid (Y6.out.under hb Y6.out.lt)
      clear hb
      go_wp2_with fail
      refine (lz_near X7.out HS.out.1 (u := (u : Nat)) (v := (u : Nat)) (wo := -1) (most := 0) H5.out.2.1 H5.out.2.1 (by omega) (b := true) ⟨fun _ => HSelf.out, fun _ => rfl⟩).mono ?_
      rintro e x8 ⟨rfl, hb⟩
      have X8 := Lib.hid (X7.out.below hb)
      have Y8 := Lib.hid (Y7.out.under hb Y7.out.lt)
      clear hb
      go_wp2_with fail
      refine (lz_near X8.out HS.out.1 (u := (u : Nat)) (v := (v : Nat)) (wo := (u : Nat)) (most := d) H5.out.2.1 H5.out.2.2.1 (by omega) (b := false) ⟨fun e => (by cases e), fun h => absurd h HNo.out.1⟩).mono ?_
      rintro e x9 ⟨rfl, hb⟩
      have X9 := Lib.hid (X8.out.below hb)
      have Y9 := Lib.hid (Y8.out.under hb Y8.out.lt)
      clear hb
      go_wp2_with fail
      refine (lz_near X9.out HS.out.1 (u := (u : Nat)) (v := (u : Nat)) (wo := -1) (most := -1) H5.out.2.1 H5.out.2.1 (by omega) (b := false) ⟨fun e => (by cases e), fun h => absurd h HNo.out.2⟩).mono ?_
      rintro e x10 ⟨rfl, hb⟩
      have X10 := Lib.hid (X9.out.below hb)
      have Y10 := Lib.hid (Y9.out.under hb Y9.out.lt)
      clear hb
      have hlt0 := Y10.out.lt
      have q1 := Y10.out.cell 1
      have q2 := Y10.out.cell 2
      have q3 := Y10.out.cell 3
      have q4 := Y10.out.cell 4
      simp only [List.getElem?_toArray, List.getElem?_cons_zero, List.getElem?_cons_succ] at q1 q2 q3 q4
      go_wp2_with fail
      refine (lz_put X10.out (u := du) (v := dv) (x := dw) (m := dm) H1.out.2.2.1 H1.out.2.2.2).mono ?_
      rintro e w14 ⟨rfl, hst⟩
      have H14 := Lib.hid hst.1
      clear hst q1 q2 q3 q4
      go_wp2_with fail
      refine (lz_near H14.out (put_pos HS.out.1 (by omega)) (u := (u : Nat)) (v := (v : Nat)) (wo := -1) (most := d) H5.out.2.1 H5.out.2.2.1 (by omega) (b := true) ⟨fun _ => near_less (LSt.put_lost _ _ _ _ _) (put_less _ _ _ _ _) HNr.out, fun _ => rfl⟩).mono ?_
      rintro e w15 ⟨rfl, hb⟩
      have H15 := Lib.hid (H14.out.below hb)
      clear hb
      go_wp2_with fail
      refine (lknown_any w15).mono ?_
      rintro e w20 ⟨rfl, hb20⟩
      have H20 := Lib.hid (H15.out.bw.trans (hb20.mono H15.out.bw.size))
      clear hb20
      go_wp2
      go_ret
      exact ⟨rfl, H20.out⟩
    · have HNr := Lib.hid hnr
      clear hnr
      go_wp2_with fail
      refine (lz_near H5.out.1 HS.out.1 (u := (u : Nat)) (v := (v : Nat)) (wo := -1) (most := d) H5.out.2.1 H5.out.2.2.1 (by omega) (b := false) ⟨fun e => (by cases e), fun h => absurd h HNr.out⟩).mono ?_
      rintro e x6 ⟨rfl, hb⟩
      have X6 := Lib.hid (H5.out.1.below hb)
      have Y6 := Lib.hid (H5.out.2.2.2.under hb H5.out.2.2.2.lt)
      clear hb
      go_wp2_with fail
      refine (lz_near X6.out HS.out.1 (u := (u : Nat)) (v := (u : Nat)) (wo := -1) (most := 0) H5.out.2.1 H5.out.2.1 (by omega) (b := true) ⟨fun _ => HSelf.out, fun _ => rfl⟩).mono ?_
      rintro e x7 ⟨rfl, hb⟩
      have X7 := Lib.hid (X6.out.below hb)
      have Y7 := Lib.hid (Y6.out.under hb Y6.out.lt)
      clear hb
      go_wp2_with fail
      refine (lz_near X7.out HS.out.1 (u := (u : Nat)) (v := (v : Nat)) (wo := (u : Nat)) (most := d) H5.out.2.1 H5.out.2.2.1 (by omega) (b := false) ⟨fun e => (by cases e), fun h => absurd h HNo.out.1⟩).mono ?_
      rintro e x8 ⟨rfl, hb⟩
      have X8 := Lib.hid (X7.out.below hb)
      have Y8 := Lib.hid (Y7.out.under hb Y7.out.lt)
      clear hb
      go_wp2_with fail
      refine (lz_near X8.out HS.out.1 (u := (u : Nat)) (v := (u : Nat)) (wo := -1) (most := -1) H5.out.2.1 H5.out.2.1 (by omega) (b := false) ⟨fun e => (by cases e), fun h => absurd h HNo.out.2⟩).mono ?_
      rintro e x9 ⟨rfl, hb⟩
      have X9 := Lib.hid (X8.out.below hb)
      have Y9 := Lib.hid (Y8.out.under hb Y8.out.lt)
      clear hb
      have hlt0 := Y9.out.lt
      have q1 := Y9.out.cell 1
      have q2 := Y9.out.cell 2
      have q3 := Y9.out.cell 3
      have q4 := Y9.out.cell 4
      simp only [List.getElem?_toArray, List.getElem?_cons_zero, List.getElem?_cons_succ] at q1 q2 q3 q4
      go_wp2_with fail
      refine (lz_put X9.out (u := du) (v := dv) (x := dw) (m := dm) H1.out.2.2.1 H1.out.2.2.2).mono ?_
      rintro e w14 ⟨rfl, hst⟩
      have H14 := Lib.hid hst.1
      clear hst q1 q2 q3 q4
      go_wp2_with fail
      refine (lknown_any w14).mono ?_
      rintro e w20 ⟨rfl, hb20⟩
      have H20 := Lib.hid (H14.out.bw.trans (hb20.mono H14.out.bw.size))
      clear hb20
      go_wp2
      go_ret
      exact ⟨rfl, H20.out⟩
theorem leftnearer_row (n : Int) (a : Option Addr) (l : List Ar) (c : Nat) (k u v x m y1 y2 d : Int) (w : World) (hA : Arcs w a l) (hF : ∀ y ∈ l, FitA y) (hdu : (Lit.int .i64 u).wf = true) (hdv : (Lit.int .i64 v).wf = true) (hx : (Lit.int .u8 y1).wf = true) (hy : (Lit.int .u8 y2).wf = true) (hd : (Lit.int .u16 d).wf = true) :
    Calls Try.prog 4 #[.int .i64 n, .slice a l.length c, .agg #[.int .i64 k, .int .i64 u, .int .i64 v, .int .i64 x, .int .i64 m], .int .u8 y1, .int .u8 y2, .int .u16 d] w fun e w' => e = .returned (.bool true) ∧ Below w.heap.size w w' :=
  leftnearer_walk n a l c k u v x m y1 y2 d w hA hF hdu hdv (u8_wf hx) (u8_wf hy) (u16_wf hd)
end Go.Proofs.Ytdkpdmpghibmmaa
