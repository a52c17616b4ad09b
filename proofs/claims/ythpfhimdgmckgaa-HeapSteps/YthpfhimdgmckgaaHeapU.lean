/- Walks: the document's Key and First. -/
import Derived.Test.YthpfhimdgmckgaaHeapT
namespace Go.Proofs.Ythpfhimdgmckgaa
open Go.RowKit Hp

/-- The first of this number. -/
theorem rkey_no (n id : Int) (v : Value) (t : List (Int × Int)) (w : World) (h : IV w v t) (hl : t.length ≤ 1000000) (hno : ∀ j (hj : j < t.length), (t[j]'hj).1 ≠ id) : Calls Try.prog 17 #[tV n v, .int .i64 id] w fun e w' => e = .returned (keyed 0 false) ∧ Below w.heap.size w w' := by
  obtain ⟨ad, c, rfl⟩ := h.shape
  have HV := Lib.hid h
  have HNO := Lib.hid hno
  have HB := Lib.hid (show Below w.heap.size w (w.alloc (.cells #[.int .i64 n, .slice ad t.length c] 26)) from (Below.refl _ _).alloc (Nat.le_refl _) _)
  clear h hno
  go_enter Try.func17, Try.ntmps17
  go_wp2
  go_loop [6] (fun i => ∃ j : Nat, j ≤ t.length ∧ i = .int .i64 j) (fun i => t.length - (intOf i).toNat)
  case atStart => exact ⟨0, by omega, rfl⟩
  case round =>
    obtain ⟨j, hj, rfl⟩ := hrel
    by_cases hlt : j < t.length
    · have hlt' : (j : Int) < (t.length : Int) := by omega
      obtain ⟨b, c', e1, hbl, c0, c1⟩ := HV.out.at_ (Below.refl _ _) hlt
      injection e1 with e1 _ e2
      subst e1 e2
      have hne : ((t[j]'hlt).1 == id) = false := by simpa using HNO.out j hlt
      generalize t[j]'hlt = y at *
      go_wp2
      go_round
      case rel => exact ⟨j + 1, by omega, by go_num⟩
      case measure => simp [intOf]; omega
    · have hge : ¬ (j : Int) < (t.length : Int) := by omega
      go_wp2
      go_ret2
      exact ⟨rfl, HB.out⟩
theorem rkey_yes (n id : Int) (v : Value) (t : List (Int × Int)) (w : World) (h : IV w v t) (hl : t.length ≤ 1000000) (r : Nat) (hr : r < t.length) (hid : (t[r]'hr).1 = id) (hno : ∀ j (hj : j < t.length), j < r → (t[j]'hj).1 ≠ id) : Calls Try.prog 17 #[tV n v, .int .i64 id] w fun e w' => e = .returned (keyed (t[r]'hr).2 true) ∧ Below w.heap.size w w' := by
  obtain ⟨ad, c, rfl⟩ := h.shape
  have HV := Lib.hid h
  have HNO := Lib.hid hno
  have HID := Lib.hid hid
  have HB := Lib.hid (show Below w.heap.size w (w.alloc (.cells #[.int .i64 n, .slice ad t.length c] 26)) from (Below.refl _ _).alloc (Nat.le_refl _) _)
  clear h hno hid
  generalize hky : (t[r]'hr).2 = ky
  have HKY := Lib.hid hky
  clear hky
  go_enter Try.func17, Try.ntmps17
  go_wp2
  go_loop [6] (fun i => ∃ j : Nat, j ≤ r ∧ i = .int .i64 j) (fun i => t.length - (intOf i).toNat)
  case atStart => exact ⟨0, by omega, rfl⟩
  case round =>
    obtain ⟨j, hj, rfl⟩ := hrel
    have hlt : j < t.length := by omega
    have hlt' : (j : Int) < (t.length : Int) := by omega
    obtain ⟨b, c', e1, hbl, c0, c1⟩ := HV.out.at_ (Below.refl _ _) hlt
    injection e1 with e1 _ e2
    subst e1 e2
    by_cases hjr : j < r
    · have hne : ((t[j]'hlt).1 == id) = false := by simpa using HNO.out j hlt hjr
      generalize t[j]'hlt = y at *
      go_wp2
      go_round
      case rel => exact ⟨j + 1, by omega, by go_num⟩
      case measure => simp [intOf]; omega
    · obtain rfl : j = r := by omega
      rw [HID.out] at c0
      rw [HKY.out] at c1
      go_wp2
      go_ret2
      exact ⟨rfl, HB.out⟩

/-- The best of the first j. -/
def BestL (t : List (Int × Int)) (j : Nat) (x : Int × Int) : Prop :=
  (j = 0 ∧ x = (0, 0)) ∨ (0 < j ∧ (∃ r, r < j ∧ t[r]? = some x) ∧ ∀ r y, r < j → t[r]? = some y → x.2 < y.2 ∨ (x.2 = y.2 ∧ x.1 ≤ y.1))
theorem BestL.first {t : List (Int × Int)} (h : 0 < t.length) : BestL t 1 (t[0]'h) := by
  refine .inr ⟨by omega, ⟨0, by omega, List.getElem?_eq_getElem h⟩, fun r y hr hy => ?_⟩
  obtain rfl : r = 0 := by omega
  rw [List.getElem?_eq_getElem h] at hy
  injection hy with hy
  subst hy
  omega
theorem BestL.take {t : List (Int × Int)} {j : Nat} {x : Int × Int} (h : BestL t j x) (hj : j < t.length) (h0 : 0 < j) (hl : (t[j]'hj).2 < x.2 ∨ ((t[j]'hj).2 = x.2 ∧ (t[j]'hj).1 < x.1)) : BestL t (j + 1) (t[j]'hj) := by
  rcases h with ⟨h, _⟩ | ⟨_, _, h2⟩
  · omega
  · refine .inr ⟨by omega, ⟨j, by omega, List.getElem?_eq_getElem hj⟩, fun r y hr hy => ?_⟩
    by_cases e : r = j
    · subst e
      rw [List.getElem?_eq_getElem hj] at hy
      injection hy with hy
      subst hy
      omega
    · have := h2 r y (by omega) hy
      omega
theorem BestL.keep {t : List (Int × Int)} {j : Nat} {x : Int × Int} (h : BestL t j x) (hj : j < t.length) (h0 : 0 < j) (hl : ¬ ((t[j]'hj).2 < x.2 ∨ ((t[j]'hj).2 = x.2 ∧ (t[j]'hj).1 < x.1))) : BestL t (j + 1) x := by
  rcases h with ⟨h, _⟩ | ⟨_, ⟨r0, hr0, e0⟩, h2⟩
  · omega
  · refine .inr ⟨by omega, ⟨r0, by omega, e0⟩, fun r y hr hy => ?_⟩
    by_cases e : r = j
    · subst e
      rw [List.getElem?_eq_getElem hj] at hy
      injection hy with hy
      subst hy
      omega
    · exact h2 r y (by omega) hy
/-- What First's loop keeps. -/
def FirstRel (w : World) (n : Int) (v : Value) (t : List (Int × Int)) (j : Nat) (wr : World) : Prop :=
  ∃ x, BestL t j x ∧ Row wr (w.heap.size + 1 + 1) 33 #[.int .i64 x.1, .int .i64 x.2] ∧ Row wr w.heap.size 26 #[.int .i64 n, v] ∧ Row wr (w.heap.size + 1) 33 #[.int .i64 0, .int .i64 0] ∧ Below w.heap.size w wr
set_option maxHeartbeats 1000000 in
theorem rfirst_any (n : Int) (v : Value) (t : List (Int × Int)) (w : World) (h : IV w v t) (hl : t.length ≤ 1000000) : Calls Try.prog 15 #[tV n v] w fun e w' => (∃ x : Int × Int, e = .returned (.tuple #[.agg #[.int .i64 x.1, .int .i64 x.2], .bool (decide (0 < t.length))]) ∧ BestL t t.length x) ∧ Below w.heap.size w w' := by
  obtain ⟨ad, c, rfl⟩ := h.shape
  have HV := Lib.hid h
  clear h
  go_enter Try.func15, Try.ntmps15
  go_wp2
  have H0 := Lib.hid (show FirstRel w n (.slice ad t.length c) t 0 (((w.alloc (.cells #[.int .i64 n, .slice ad t.length c] 26)).alloc (.cells #[.int .i64 0, .int .i64 0] 33)).alloc (.cells #[.int .i64 0, .int .i64 0] 33)) from by
    refine ⟨(0, 0), .inl ⟨rfl, rfl⟩, ?_, ((Row.fresh w _ _).past _).past _, ?_, ((Below.refl _ _).alloc (Nat.le_refl _) _ |>.alloc (by simp) _).alloc (by simp; omega) _⟩
    · have := Row.fresh ((w.alloc (.cells #[.int .i64 n, .slice ad t.length c] 26)).alloc (.cells #[.int .i64 0, .int .i64 0] 33)) 33 #[.int .i64 0, .int .i64 0]
      simpa using this
    · have := (Row.fresh (w.alloc (.cells #[.int .i64 n, .slice ad t.length c] 26)) 33 #[.int .i64 0, .int .i64 0]).past (.cells #[.int .i64 0, .int .i64 0] 33)
      simpa using this)
  go_loopw [5] (fun i wr => ∃ j : Nat, j ≤ t.length ∧ i = .int .i64 j ∧ FirstRel w n (.slice ad t.length c) t j wr) (fun i _ => t.length - (intOf i).toNat)
  case atStart => exact ⟨0, by omega, rfl, H0.out⟩
  case round =>
    obtain ⟨j, hj, rfl, x, hx, rx, rb, rr, hb⟩ := hrel
    clear H0
    obtain ⟨xi, xk⟩ := x
    have r1 : wr.cell? ⟨w.heap.size, 1, none⟩ = some (.slice ad t.length c) := rb.cell 1
    have u0 : wr.cell? ⟨w.heap.size + 1 + 1, 0, none⟩ = some (.int .i64 xi) := rx.cell 0
    have u1 : wr.cell? ⟨w.heap.size + 1 + 1, 1, none⟩ = some (.int .i64 xk) := rx.cell 1
    have uf0 := rx.thaw 0
    have uf1 := rx.thaw 1
    have ul := rx.lt
    by_cases hlt : j < t.length
    · have hlt' : (j : Int) < (t.length : Int) := by omega
      obtain ⟨b, c', e1, hbl, c0, c1⟩ := HV.out.at_ hb hlt
      injection e1 with e1 _ e2
      subst e1 e2
      have hbl2 : b < wr.heap.size := Nat.lt_of_lt_of_le hbl hb.size
      have hbu : b ≠ w.heap.size + 1 + 1 := by omega
      obtain ⟨y, hy⟩ : ∃ y, y = t[j]'hlt := ⟨_, rfl⟩
      rw [← hy] at c0 c1
      obtain ⟨yi, yk⟩ := y
      dsimp only at c0 c1
      have hskip : BestL t (j + 1) (xi, xk) → FirstRel w n (.slice (some ⟨b, 0, none⟩) t.length c) t (j + 1) (wr.alloc (.cells #[.int .i64 yi, .int .i64 yk] 33)) := fun hB => ⟨(xi, xk), hB, rx.past _, rb.past _, rr.past _, hb.alloc hb.size _⟩
      have htake : BestL t (j + 1) (yi, yk) → FirstRel w n (.slice (some ⟨b, 0, none⟩) t.length c) t (j + 1) (((wr.setCell ⟨w.heap.size + 1 + 1, 0, none⟩ (.int .i64 yi)).setCell ⟨w.heap.size + 1 + 1, 1, none⟩ (.int .i64 yk)).alloc (.cells #[.int .i64 yi, .int .i64 yk] 33)) := fun hB => by
        refine ⟨(yi, yk), hB, ((rx.put 0 _).put 1 _).past _, ((rb.away (by show w.heap.size ≠ w.heap.size + 1 + 1; omega) _).away (by show w.heap.size ≠ w.heap.size + 1 + 1; omega) _).past _, ((rr.away (by show w.heap.size + 1 ≠ w.heap.size + 1 + 1; omega) _).away (by show w.heap.size + 1 ≠ w.heap.size + 1 + 1; omega) _).past _, ?_⟩
        exact ((hb.setCell (p := ⟨w.heap.size + 1 + 1, 0, none⟩) (by show w.heap.size ≤ w.heap.size + 1 + 1; omega) _).setCell (p := ⟨w.heap.size + 1 + 1, 1, none⟩) (by show w.heap.size ≤ w.heap.size + 1 + 1; omega) _).alloc (by have := hb.size; simp; omega) _
      have HSk := Lib.hid hskip
      have HTk := Lib.hid htake
      have HX := Lib.hid hx
      have HY := Lib.hid hy
      clear hskip htake hx hy rx rb rr hb
      by_cases hj0 : j = 0
      · subst hj0
        have HN := Lib.hid (HTk.out (by rw [HY.out]; exact BestL.first hlt))
        clear HSk HTk HX
        go_wp2
        go_roundw
        case rel => exact ⟨1, by omega, rfl, HN.out⟩
        case measure => simp [intOf]; omega
      · have hjb : ((j : Int) == 0) = false := by simp; omega
        by_cases h1 : yk < xk
        · have hd : decide (yk < xk) = true := decide_eq_true h1
          have HN := Lib.hid (HTk.out (by
            have := HX.out.take hlt (by omega) (.inl (by rw [← HY.out]; exact h1))
            rw [← HY.out] at this
            exact this))
          clear HSk HTk HX h1
          go_wp2
          go_roundw
          case rel => exact ⟨j + 1, by omega, by go_num, HN.out⟩
          case measure => simp [intOf]; omega
        · have hd : decide (yk < xk) = false := decide_eq_false h1
          by_cases h2 : yk = xk
          · by_cases h3 : yi < xi
            · have hd3 : decide (yi < xi) = true := decide_eq_true h3
              have HN := Lib.hid (HTk.out (by
                have := HX.out.take hlt (by omega) (.inr (by rw [← HY.out]; exact ⟨h2, h3⟩))
                rw [← HY.out] at this
                exact this))
              subst h2
              clear HSk HTk HX h1 h3
              go_wp2
              go_roundw
              case rel => exact ⟨j + 1, by omega, by go_num, HN.out⟩
              case measure => simp [intOf]; omega
            · have hd3 : decide (yi < xi) = false := decide_eq_false h3
              have HN := Lib.hid (HSk.out (HX.out.keep hlt (by omega) (by rw [← HY.out]; rintro (h | ⟨_, h⟩); exact h1 h; exact h3 h)))
              subst h2
              clear HSk HTk HX h1 h3
              go_wp2
              go_roundw
              case rel => exact ⟨j + 1, by omega, by go_num, HN.out⟩
              case measure => simp [intOf]; omega
          · have hd2 : (yk == xk) = false := by simpa using h2
            have HN := Lib.hid (HSk.out (HX.out.keep hlt (by omega) (by rw [← HY.out]; rintro (h | ⟨h, _⟩); exact h1 h; exact h2 h)))
            clear HSk HTk HX h1 h2
            go_wp2
            go_roundw
            case rel => exact ⟨j + 1, by omega, by go_num, HN.out⟩
            case measure => simp [intOf]; omega
    · obtain rfl : j = t.length := by omega
      have hge : ¬ ((t.length : Nat) : Int) < (t.length : Int) := by omega
      have HX := Lib.hid hx
      have HB := Lib.hid hb
      have q0 : wr.cell? ⟨w.heap.size + 1, 0, none⟩ = some (.int .i64 0) := rr.cell 0
      have q1 : wr.cell? ⟨w.heap.size + 1, 1, none⟩ = some (.int .i64 0) := rr.cell 1
      have qf0 := rr.thaw 0
      have qf1 := rr.thaw 1
      have ql := rr.lt
      clear hx rx rb rr hb
      go_wp2
      go_region
      go_wp2
      refine bodyPost_ret (v := .tuple #[.agg #[.int .i64 xi, .int .i64 xk], .bool (decide (0 < t.length))]) (by simp [results, Try.results15, go_sem, q0, q1]) rfl ?_
      exact ⟨⟨(xi, xk), rfl, HX.out⟩, ((HB.out.setCell (by show w.heap.size ≤ w.heap.size + 1; omega) _).setCell (by show w.heap.size ≤ w.heap.size + 1; omega) _).drew⟩
end Go.Proofs.Ythpfhimdgmckgaa
