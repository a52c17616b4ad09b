/- Walk of the law HeapSteps. -/
import Derived.Test.YthpfhimdgmckgaaHeapX
import Derived.Deep.CutRange
import Derived.BigQuiet
import Derived.WalkSmall
namespace Go.Proofs.Ythpfhimdgmckgaa
open Go.RowKit Hp

set_option maxRecDepth 100000 in
theorem steps_big (z id : Int) (a : Option Addr) (m c : Nat) (w : World) (h : (100 < z ∧ z ≤ 16777216) ∨ 60 < m) : Calls Try.prog 3 #[.int .i64 z, .slice a m c, .int .i64 id] w fun e w' => e = .returned (.bool true) ∧ Below w.heap.size w w' := by
  by_cases h1 : 100 < z ∧ z ≤ 16777216
  · obtain ⟨h2, h3⟩ := h1
    clear h
    go_enter Try.func3, Try.ntmps3
    go_wp2_with fail
    refine (known_any _).mono ?_
    rintro e w8 ⟨rfl, hb8⟩
    have HB := Lib.hid hb8
    clear hb8
    go_wp2
    go_ret
    exact ⟨rfl, HB.out⟩
  · have h5 : (60 : Int) < (m : Int) := by omega
    by_cases h2 : 100 < z
    · have h3 : ¬ z ≤ 16777216 := by omega
      clear h h1
      go_enter Try.func3, Try.ntmps3
      go_wp2_with fail
      refine (known_any _).mono ?_
      rintro e w8 ⟨rfl, hb8⟩
      have HB := Lib.hid hb8
      clear hb8
      go_wp2
      go_ret
      exact ⟨rfl, HB.out⟩
    · have hd : decide (100 < z) = false := decide_eq_false h2
      clear h h1
      go_enter Try.func3, Try.ntmps3
      go_wp2_with fail
      refine (known_any _).mono ?_
      rintro e w8 ⟨rfl, hb8⟩
      have HB := Lib.hid hb8
      clear hb8
      go_wp2
      go_ret
      exact ⟨rfl, HB.out⟩
set_option maxRecDepth 100000 in
theorem steps_none (z id : Int) (a : Option Addr) (m c : Nat) (w : World) (h : z < 0 ∨ 16777216 < z) (hm : m ≤ 60) : Calls Try.prog 3 #[.int .i64 z, .slice a m c, .int .i64 id] w fun e w' => e = .returned (.bool true) ∧ Below w.heap.size w w' := by
  have HZ := Lib.hid h
  have hm' : ¬ (60 : Int) < (m : Int) := by omega
  have hdm : decide ((60 : Int) < (m : Int)) = false := decide_eq_false hm'
  have key : ∀ w1 : World, Calls Try.prog 11 #[.int .i64 z] w1 fun e w' => e = .returned (.pointer none) ∧ w' = w1 := fun w1 => new_out z w1 h
  have HK := Lib.hid key
  clear key
  by_cases h2 : 100 < z
  · have h3 : ¬ z ≤ 16777216 := by omega
    have hd2 : decide (z ≤ 16777216) = false := decide_eq_false h3
    clear h
    go_enter Try.func3, Try.ntmps3
    go_wp2_with fail
    refine (rnew_out z _ HZ.out).mono ?_
    rintro e w1 ⟨rfl, hb1⟩
    have HB1 := Lib.hid hb1
    clear hb1
    go_wp2_with fail
    refine (HK.out _).mono ?_
    rintro e w2 ⟨rfl, rfl⟩
    go_wp2_with fail
    refine (set_nil 0 0 _).mono ?_
    rintro e w3 ⟨rfl, rfl⟩
    go_wp2_with fail
    refine (known_any _).mono ?_
    rintro e w8 ⟨rfl, hb8⟩
    have HB := Lib.hid (then_below (HB1.out.alloc HB1.out.size _) hb8)
    clear hb8
    go_wp2
    go_ret
    exact ⟨rfl, HB.out⟩
  · have hd : decide (100 < z) = false := decide_eq_false h2
    clear h
    go_enter Try.func3, Try.ntmps3
    go_wp2_with fail
    refine (rnew_out z _ HZ.out).mono ?_
    rintro e w1 ⟨rfl, hb1⟩
    have HB1 := Lib.hid hb1
    clear hb1
    go_wp2_with fail
    refine (HK.out _).mono ?_
    rintro e w2 ⟨rfl, rfl⟩
    go_wp2_with fail
    refine (set_nil 0 0 _).mono ?_
    rintro e w3 ⟨rfl, rfl⟩
    go_wp2_with fail
    refine (known_any _).mono ?_
    rintro e w8 ⟨rfl, hb8⟩
    have HB := Lib.hid (then_below (HB1.out.alloc HB1.out.size _) hb8)
    clear hb8
    go_wp2
    go_ret
    exact ⟨rfl, HB.out⟩
/-- The heap x and the document's list in block U hold the same. -/
def SSt (w : World) (x U n : Nat) (f : Nat → Option Int) (t : List (Int × Int)) (wr : World) : Prop :=
  ∃ S ad c, Hq wr x S n f ∧ (∀ k, S k → w.heap.size ≤ k) ∧ ¬ S U ∧ (∀ k, (Value.slice ad t.length c).ownBlock = some k → ¬ S k ∧ k ≠ U) ∧ Row wr U 26 #[.int .i64 n, .slice ad t.length c] ∧ IV wr (.slice ad t.length c) t ∧ Rel f t ∧ w.heap.size ≤ U ∧ Below w.heap.size w wr
/-- What is there behind Step: the new list in block bu, the item in block bx. -/
def CutR (wr : World) (n : Nat) (tv : Value) (f : Nat → Option Int) (d : Int × Int × Int) (pu px was : Value) (wx : World) : Prop :=
  ∃ (bu bx : Nat) (a2 : Option Addr) (c2 : Nat) (t2 : List (Int × Int)) (f2 : Nat → Option Int) (xi xk : Int) (bb : Bool), pu = ptr bu ∧ px = ptr bx ∧ was = .bool bb ∧ Row wx bu 26 #[.int .i64 n, .slice a2 t2.length c2] ∧ Row wx bx 33 #[.int .i64 xi, .int .i64 xk] ∧ IV wx (.slice a2 t2.length c2) t2 ∧
    (∀ k, (Value.slice a2 t2.length c2).ownBlock = some k → tv.ownBlock = some k ∨ wr.heap.size ≤ k) ∧ (Value.slice a2 t2.length c2).ownBlock ≠ some bu ∧ (Value.slice a2 t2.length c2).ownBlock ≠ some bx ∧ Rel f2 t2 ∧ DidV n f d (told xi xk bb) f2 ∧ wr.heap.size ≤ bu ∧ wr.heap.size ≤ bx ∧ bu ≠ bx ∧ Below wr.heap.size wr wx
theorem cut_of {wr wA w2 w4 : World} {n : Nat} {tv : Value} {f f2 : Nat → Option Int} {d : Int × Int × Int} {a2 : Option Addr} {c2 m2 : Nat} {t2 : List (Int × Int)} {xi xk : Int} {bb : Bool} {bu bx : Nat} (hB2 : Below wr.heap.size wr w2) (hiv : IV w2 (.slice a2 m2 c2) t2) (hm : t2.length = m2)
    (hown : ∀ k, (Value.slice a2 m2 c2).ownBlock = some k → tv.ownBlock = some k ∨ wA.heap.size ≤ k) (hrel : Rel f2 t2) (hdid : DidV n f d (told xi xk bb) f2) (hsz : wr.heap.size ≤ wA.heap.size) (ho : Only (fun k => k = bu ∨ k = bx) w2 w4) (ru : Row w4 bu 26 #[.int .i64 n, .slice a2 m2 c2]) (rx : Row w4 bx 33 #[.int .i64 xi, .int .i64 xk])
    (hbu : wr.heap.size ≤ bu) (hbx : wr.heap.size ≤ bx) (hne : bu ≠ bx) (nu : (Value.slice a2 m2 c2).ownBlock ≠ some bu) (nx : (Value.slice a2 m2 c2).ownBlock ≠ some bx) : CutR wr n tv f d (ptr bu) (ptr bx) (.bool bb) w4 := by
  subst hm
  refine ⟨bu, bx, a2, c2, t2, f2, xi, xk, bb, rfl, rfl, rfl, ru, rx, hiv.only ho (fun k hk h => by rcases h with rfl | rfl; exact nu hk; exact nx hk), fun k hk => (hown k hk).imp id (fun h => by omega), nu, nx, hrel, hdid, hbu, hbx, hne, ?_⟩
  exact hB2.trans (ho.below (fun k hk => by rcases hk with rfl | rfl; exact hbu; exact hbx) hB2.size)
theorem Mid1.of_cut {w wr wc : World} {x U n bx : Nat} {S : Nat → Prop} {f f2 : Nat → Option Int} {t t2 : List (Int × Int)} {ad a2 : Option Addr} {ct c2 : Nat} {xi xk : Int} (q1 : Hq wr x S n f) (q2 : ∀ k, S k → w.heap.size ≤ k) (q3 : ¬ S U) (q4 : ∀ k, (Value.slice ad t.length ct).ownBlock = some k → ¬ S k ∧ k ≠ U)
    (q5 : Row wr U 26 #[.int .i64 n, .slice ad t.length ct]) (q8 : w.heap.size ≤ U) (q9 : Below w.heap.size w wr) (rx : Row wc bx 33 #[.int .i64 xi, .int .i64 xk]) (hiv : IV wc (.slice a2 t2.length c2) t2)
    (hown : ∀ k, (Value.slice a2 t2.length c2).ownBlock = some k → (Value.slice ad t.length ct).ownBlock = some k ∨ wr.heap.size ≤ k) (hrel : Rel f2 t2) (hbx : wr.heap.size ≤ bx) (hb : Below wr.heap.size wr wc) :
    Mid1 w x U n bx f f2 t2 a2 c2 xi xk ((wc.setCell ⟨U, 0, none⟩ (.int .i64 n)).setCell ⟨U, 1, none⟩ (.slice a2 t2.length c2)) := by
  have hU := q5.lt
  have ho : Only (fun k => k = U) wc ((wc.setCell ⟨U, 0, none⟩ (.int .i64 n)).setCell ⟨U, 1, none⟩ (.slice a2 t2.length c2)) := ((Only.refl (fun k => k = U) wc).setCell (p := ⟨U, 0, none⟩) (.inl rfl) _).setCell (p := ⟨U, 1, none⟩) (.inl rfl) _
  have hu : ∀ k, (Value.slice a2 t2.length c2).ownBlock = some k → ¬ S k ∧ k ≠ U := fun k hk => by
    rcases hown k hk with h | h
    · exact q4 k h
    · exact ⟨fun hs => by have := q1.lt k hs; omega, by omega⟩
  refine ⟨S, (q1.below hb).only ho (fun k hk e => q3 (e ▸ hk)), q2, q3, fun hs => by have := q1.lt _ hs; omega, hu, ((q5.under hb hU).put 0 _).put 1 _, rx.only ho (by omega), hiv.only ho (fun k hk => (hu k hk).2), hrel, q8, ?_⟩
  exact (then_below q9 hb).trans (ho.below (fun k hk => by omega) (then_below q9 hb).size)
theorem Mid1.back {w : World} {x U n bx : Nat} {f : Nat → Option Int} {t2 : List (Int × Int)} {a2 : Option Addr} {c2 : Nat} {xi xk : Int} {wr : World} (h : Mid1 w x U n bx f f t2 a2 c2 xi xk wr) : SSt w x U n f t2 wr := by
  obtain ⟨S, q1, q2, q3, q4, q5, q6, q7, q8, q9, q10, q11⟩ := h
  exact ⟨S, a2, c2, q1, q2, q3, q5, q6, q8, q9, q10, q11⟩
set_option maxHeartbeats 8000000 in
set_option maxRecDepth 100000 in
theorem steps_small (n : Nat) (id : Int) (a : Option Addr) (l : List (Int × Int × Int)) (c : Nat) (w : World) (hD : Dos w a l) (hm : l.length ≤ 60) (hn : n ≤ 100) : Calls Try.prog 3 #[.int .i64 n, .slice a l.length c, .int .i64 id] w fun e w' => e = .returned (.bool true) ∧ Below w.heap.size w w' := by
  have HD := Lib.hid hD
  have hm' : ¬ (60 : Int) < (l.length : Int) := by omega
  have hdm : decide ((60 : Int) < (l.length : Int)) = false := decide_eq_false hm'
  have hdn : decide ((100 : Int) < (n : Int)) = false := decide_eq_false (by omega)
  clear hD
  go_enter Try.func3, Try.ntmps3
  go_wp2_with fail
  refine (rnew_in n w (by omega) (by omega)).mono ?_
  rintro e w1 ⟨rfl, hb1⟩
  have HB1 := Lib.hid hb1
  clear hb1
  go_wp2_with fail
  refine (new_in n _ (by omega)).mono ?_
  rintro e w2 ⟨x, rfl, S, q1, q2, q3⟩
  have H0 := Lib.hid (show SSt w x w1.heap.size n (fun _ => none) [] w2 from by
    have hs := HB1.out.size
    have hr := (Row.fresh w1 26 #[.int .i64 n, .slice none 0 0]).under q3 (by simp)
    refine ⟨S, none, 0, q1, fun k hk => ?_, fun hk => ?_, fun k hk => by simp [Value.ownBlock] at hk, hr, IV.nil _, Rel.nil, hs, then_below (HB1.out.alloc hs _) q3⟩
    · have := q2 k hk; simp at this; omega
    · have := q2 _ hk; simp at this; omega)
  clear q1 q2 q3 HB1
  generalize w1.heap.size = U at *
  go_wp2
  clear hdm hdn
  go_loopw [10] (fun i wr => ∃ (j : Nat) (f : Nat → Option Int) (t : List (Int × Int)), j ≤ l.length ∧ i = .int .i64 j ∧ SSt w x U n f t wr) (fun i _ => l.length - (intOf i).toNat)
  case atStart => exact ⟨0, _, _, by omega, rfl, H0.out⟩
  case round =>
    obtain ⟨j, f, t, hj, rfl, S, ad, ct, q1, q2, q3, q4, q5, q6, q7, q8, q9⟩ := hrel
    clear H0
    by_cases hlt : j < l.length
    · have hlt' : (j : Int) < (l.length : Int) := by omega
      obtain ⟨b, o, rfl, hbl, c0, c1, c2⟩ := HD.out.at_ q9 hlt
      obtain ⟨d, hd⟩ : ∃ d, d = l[j]'hlt := ⟨_, rfl⟩
      rw [← hd] at c0 c1 c2
      have HS := Lib.hid (show ∀ W, Below wr.heap.size wr W → W.cell? ⟨U, 0, none⟩ = some (.int .i64 n) ∧ W.cell? ⟨U, 1, none⟩ = some (.slice ad t.length ct) ∧ W.cell? ⟨b, o + j * 3, none⟩ = some (.int .i64 d.1) ∧ W.cell? ⟨b, o + j * 3 + 1, none⟩ = some (.int .i64 d.2.1) ∧ W.cell? ⟨b, o + j * 3 + 2, none⟩ = some (.int .i64 d.2.2) from fun W hW => by
        have hr := q5.under hW q5.lt
        have hbl2 : b < wr.heap.size := Nat.lt_of_lt_of_le hbl q9.size
        exact ⟨hr.cell 0, hr.cell 1, (hW.cell (p := ⟨b, _, none⟩) hbl2).trans c0, (hW.cell (p := ⟨b, _, none⟩) hbl2).trans c1, (hW.cell (p := ⟨b, _, none⟩) hbl2).trans c2⟩)
      have hlen : t.length ≤ 1000000 := by
        rw [q7.len n (fun i k hi => q1.some_lt hi)]
        have := cnt_le n f
        omega
      have HIV := Lib.hid q6
      have HRel := Lib.hid q7
      have HTv := Lib.hid (fun k hk => q6.lt k hk)
      have HST := Lib.hid (And.intro q1 (And.intro q2 (And.intro q3 (And.intro q4 (And.intro q5 (And.intro q8 q9))))))
      have HC := Lib.hid (show ∀ W, Below w.heap.size w W → W.cell? ⟨b, o + j * 3, none⟩ = some (.int .i64 d.1) ∧ W.cell? ⟨b, o + j * 3 + 1, none⟩ = some (.int .i64 d.2.1) ∧ W.cell? ⟨b, o + j * 3 + 2, none⟩ = some (.int .i64 d.2.2) from fun W hW => by
        exact ⟨(hW.cell (p := ⟨b, _, none⟩) hbl).trans ((q9.cell (p := ⟨b, _, none⟩) hbl).symm.trans c0), (hW.cell (p := ⟨b, _, none⟩) hbl).trans ((q9.cell (p := ⟨b, _, none⟩) hbl).symm.trans c1), (hW.cell (p := ⟨b, _, none⟩) hbl).trans ((q9.cell (p := ⟨b, _, none⟩) hbl).symm.trans c2)⟩)
      have HDj := Lib.hid hd
      clear q1 q2 q3 q4 q5 q6 q7 q8 q9 hd c0 c1 c2
      go_upto_region 12 with (fail)
      go_cut [11, 12, 13] from 57 to 156 (fun pu px was wx => CutR wr n (.slice ad t.length ct) f d pu px was wx)
      case first =>
        refine wp_region_held_drew (S := fun W => W.cell? ⟨U, 0, none⟩ = some (.int .i64 n) ∧ W.cell? ⟨U, 1, none⟩ = some (.slice ad t.length ct) ∧ W.cell? ⟨b, o + j * 3, none⟩ = some (.int .i64 d.1) ∧ W.cell? ⟨b, o + j * 3 + 1, none⟩ = some (.int .i64 d.2.1) ∧ W.cell? ⟨b, o + j * 3 + 2, none⟩ = some (.int .i64 d.2.2)) (by kernel_rfl) (HS.out _ (Below.refl _ _).drew) (fun hHeld => ?_)
        refine wpAnyH_take (i := 0) (oi := ⟨some 64, _, _, _, _, _⟩) (v := ?_) rfl (by kernel_rfl) (by kernel_rfl) (by kernel_rfl) (fun _ _ _ h => h) (Or.inl ⟨by rfl, ?_⟩) (by assumption) ?_
        rotate_left
        · intro W hSw
          obtain ⟨f0, f1, f2, f3, f4⟩ := hSw
          go_simp
          with_reducible rfl
        simp only [Act.put, List.setIfInBounds_toArray, List.set_cons_zero, List.set_cons_succ]
        refine wpAnyH_take (i := 1) (oi := ⟨some 65, _, _, _, _, _⟩) (v := ?_) rfl (by kernel_rfl) (by kernel_rfl) (by kernel_rfl) (fun _ _ _ h => h) (Or.inl ⟨by rfl, ?_⟩) (by assumption) ?_
        rotate_left
        · intro W hSw
          obtain ⟨f0, f1, f2, f3, f4⟩ := hSw
          go_simp
          with_reducible rfl
        simp only [Act.put, List.setIfInBounds_toArray, List.set_cons_zero, List.set_cons_succ]
        refine wpAnyH_take (i := 2) (oi := ⟨some 66, _, _, _, _, _⟩) (v := ?_) rfl (by kernel_rfl) (by kernel_rfl) (by kernel_rfl) (fun _ _ _ h => h) (Or.inl ⟨by rfl, ?_⟩) (by assumption) ?_
        rotate_left
        · intro W hSw
          obtain ⟨f0, f1, f2, f3, f4⟩ := hSw
          go_simp
          with_reducible rfl
        simp only [Act.put, List.setIfInBounds_toArray, List.set_cons_zero, List.set_cons_succ]
        refine wpAnyH_take (i := 3) (oi := ⟨some 67, _, _, _, _, _⟩) (v := ?_) rfl (by kernel_rfl) (by kernel_rfl) (by kernel_rfl) (fun _ _ _ h => h) (Or.inl ⟨by rfl, ?_⟩) (by assumption) ?_
        rotate_left
        · intro W hSw
          obtain ⟨f0, f1, f2, f3, f4⟩ := hSw
          go_simp
          with_reducible rfl
        simp only [Act.put, List.setIfInBounds_toArray, List.set_cons_zero, List.set_cons_succ]
        refine wpAnyH_take (i := 4) (oi := ⟨some 68, _, _, _, _, _⟩) (v := ?_) rfl (by kernel_rfl) (by kernel_rfl) (by kernel_rfl) (fun _ _ _ h => h) (Or.inl ⟨by rfl, ?_⟩) (by assumption) ?_
        rotate_left
        · intro W hSw
          obtain ⟨f0, f1, f2, f3, f4⟩ := hSw
          go_simp
          with_reducible rfl
        simp only [Act.put, List.setIfInBounds_toArray, List.set_cons_zero, List.set_cons_succ]
        refine wpAnyH_ready (rs := [5, 10, 11]) (by kernel_rfl) (by simp) ?_
        refine (AllReadyH.cons (o := ⟨some 69, _, _, _, _, _⟩) rfl (fun K hK => ?_) (AllReadyH.cons (o := ⟨some 11, _, _, _, _, _⟩) rfl (fun K hK => ?_) (AllReadyH.cons (o := ⟨some 12, _, _, _, _, _⟩) rfl (fun K hK => ?_) AllReadyH.nil)))
        · skip
          go_simp
          have hBA : Below wr.heap.size wr (wr.drew) := (by repeat (first | exact Below.refl _ _ | apply Below.drew | (refine Below.alloc ?_ (by first | (simp; done) | (simp; omega) | omega) _) | (refine Below.setCell ?_ (by first | (simp; done) | (simp; omega) | omega) _)))
          refine (rstep_any n d f _ t _ (HIV.out.under hBA) HRel.out hlen).mono ?_
          rintro e w2 ⟨v2, t2, f2, xx, bb, rfl, hiv2, hown2, hrel2, hdid2, hb2⟩
          have HBA := Lib.hid hBA
          obtain ⟨a2, c2, hv2⟩ := hiv2.shape
          subst hv2
          have HB2 := Lib.hid (then_below hBA hb2)
          have hz2 : wr.heap.size ≤ w2.heap.size := HB2.out.size
          have HW := Lib.hid (And.intro hiv2 (And.intro hown2 (And.intro hrel2 (And.intro hdid2 hb2))))
          clear hBA hiv2 hown2 hrel2 hdid2 hb2
          obtain ⟨xi, xk⟩ := xx
          dsimp only at HW ⊢
          generalize ht2 : t2.length = m2 at HW ⊢
          have HT2 := Lib.hid ht2
          clear ht2
          refine hK.out _ _ (HS.out _ HB2.out) (fun hH5 => ?_)
          clear hK K
          refine wpAnyH_take (i := 6) (oi := ⟨some 63, _, _, _, _, _⟩) (v := ?_) rfl (by kernel_rfl) (by kernel_rfl) (by kernel_rfl) (fun _ _ _ h => h) (Or.inl ⟨by rfl, ?_⟩) (by assumption) ?_
          rotate_left
          · intro W hSw
            obtain ⟨f0, f1, f2, f3, f4⟩ := hSw
            go_simp
            with_reducible rfl
          simp only [Act.put, List.setIfInBounds_toArray, List.set_cons_zero, List.set_cons_succ]
          refine wpAnyH_take (i := 7) (oi := ⟨some 70, _, _, _, _, _⟩) (v := ?_) rfl (by kernel_rfl) (by kernel_rfl) (by kernel_rfl) (fun _ _ _ h => h) (Or.inl ⟨by rfl, ?_⟩) (by assumption) ?_
          rotate_left
          · intro W hSw
            obtain ⟨f0, f1, f2, f3, f4⟩ := hSw
            go_simp
            with_reducible rfl
          simp only [Act.put, List.setIfInBounds_toArray, List.set_cons_zero, List.set_cons_succ]
          refine wpAnyH_take (i := 8) (oi := ⟨some 71, _, _, _, _, _⟩) (v := ?_) rfl (by kernel_rfl) (by kernel_rfl) (by kernel_rfl) (fun _ _ _ h => h) (Or.inl ⟨by rfl, ?_⟩) (by assumption) ?_
          rotate_left
          · intro W hSw
            obtain ⟨f0, f1, f2, f3, f4⟩ := hSw
            go_simp
            with_reducible rfl
          simp only [Act.put, List.setIfInBounds_toArray, List.set_cons_zero, List.set_cons_succ]
          refine wpAnyH_take (i := 9) (oi := ⟨some 72, _, _, _, _, _⟩) (v := ?_) rfl (by kernel_rfl) (by kernel_rfl) (by kernel_rfl) (fun _ _ _ h => h) (Or.inl ⟨by rfl, ?_⟩) (by assumption) ?_
          rotate_left
          · intro W hSw
            obtain ⟨f0, f1, f2, f3, f4⟩ := hSw
            go_simp
            with_reducible rfl
          simp only [Act.put, List.setIfInBounds_toArray, List.set_cons_zero, List.set_cons_succ]
          refine wpAnyH_ready (rs := [10, 11]) (by kernel_rfl) (by simp) ?_
          refine (AllReadyH.cons (o := ⟨some 11, _, _, _, _, _⟩) rfl (fun K hK => ?_) (AllReadyH.cons (o := ⟨some 12, _, _, _, _, _⟩) rfl (fun K hK => ?_) AllReadyH.nil))
          · skip
            go_simp
            refine hK.out _ _ (HS.out _ (by repeat (first | exact Below.refl _ _ | exact HB2.out | apply Below.drew | (refine Below.alloc ?_ (by first | (simp; done) | (simp; omega) | omega) _) | (refine Below.setCell ?_ (by first | (simp; done) | (simp; omega) | omega) _)))) (fun hH10 => ?_)
            clear hK K
            refine wpAnyH_ready (rs := [11]) (by kernel_rfl) (by simp) ?_
            refine (AllReadyH.cons (o := ⟨some 12, _, _, _, _, _⟩) rfl (fun K hK => ?_) AllReadyH.nil)
            · skip
              go_simp
              refine hK.out _ _ (HS.out _ (by repeat (first | exact Below.refl _ _ | exact HB2.out | apply Below.drew | (refine Below.alloc ?_ (by first | (simp; done) | (simp; omega) | omega) _) | (refine Below.setCell ?_ (by first | (simp; done) | (simp; omega) | omega) _)))) (fun hH11 => ?_)
              clear hK K
              refine wpAnyH_ready (rs := [12]) (by kernel_rfl) (by simp) ?_
              refine AllReadyH.cons (o := ⟨none, _, _, _, _, _⟩) rfl (fun K hK => ?_) AllReadyH.nil
              go_simp
              refine hK.out _ _ (HS.out _ (by repeat (first | exact Below.refl _ _ | exact HB2.out | apply Below.drew | (refine Below.alloc ?_ (by first | (simp; done) | (simp; omega) | omega) _) | (refine Below.setCell ?_ (by first | (simp; done) | (simp; omega) | omega) _)))) (fun hH12 => ?_)
              clear hK K
              refine wpAnyH_ready (rs := [13]) (by kernel_rfl) (by simp) ?_
              refine AllReadyH.cons (o := ⟨none, _, _, _, _, _⟩) rfl (fun K hK => ?_) AllReadyH.nil
              go_simp
              refine hK.out _ _ (HS.out _ (by repeat (first | exact Below.refl _ _ | exact HB2.out | apply Below.drew | (refine Below.alloc ?_ (by first | (simp; done) | (simp; omega) | omega) _) | (refine Below.setCell ?_ (by first | (simp; done) | (simp; omega) | omega) _)))) (fun hH13 => ?_)
              clear hK K
              refine wpAnyH_take (i := 14) (oi := ⟨some 13, _, _, _, _, _⟩) (v := ?_) rfl (by kernel_rfl) (by kernel_rfl) (by kernel_rfl) (fun _ _ _ h => h) (Or.inl ⟨by rfl, ?_⟩) (by assumption) ?_
              rotate_left
              · intro W hSw
                obtain ⟨f0, f1, f2, f3, f4⟩ := hSw
                go_simp
                with_reducible rfl
              simp only [Act.put, List.setIfInBounds_toArray, List.set_cons_zero, List.set_cons_succ]
              refine wpAnyH_done (by kernel_rfl) ?_ _
              go_wp2_with fail
              go_meet
              obtain ⟨hiv2, hown2, hrel2, hdid2, hb2⟩ := HW.out
              have hlt2 := hiv2.lt
              have hsz := hb2.size
              have hTv := HTv.out
              simp at hsz
              exact cut_of (bu := w2.heap.size) (bx := w2.heap.size + 1) HB2.out hiv2 HT2.out hown2 hrel2 hdid2 HBA.out.size (by repeat (first | exact Only.refl _ _ | apply Only.drew | refine Only.alloc ?_ _ | refine Only.setCell ?_ (.inl (.inl rfl)) _ | refine Only.setCell ?_ (.inl (.inr rfl)) _)) ((show Row (w2.alloc (.cells #[.int .i64 n, .slice a2 m2 c2] 26)) (w2.heap.size) 26 #[.int .i64 n, .slice a2 m2 c2] from by have h := Row.fresh w2 26 #[.int .i64 n, .slice a2 m2 c2]; simpa using h).past (.cells #[.int .i64 xi, .int .i64 xk] 33)) (show Row ((w2.alloc (.cells #[.int .i64 n, .slice a2 m2 c2] 26)).alloc (.cells #[.int .i64 xi, .int .i64 xk] 33)) (w2.heap.size + 1) 33 #[.int .i64 xi, .int .i64 xk] from by have h := Row.fresh (w2.alloc (.cells #[.int .i64 n, .slice a2 m2 c2] 26)) 33 #[.int .i64 xi, .int .i64 xk]; simpa using h) (by omega) (by omega) (by omega) (fun e => by have h1 := hlt2 _ e; rcases hown2 _ e with h | h; have := hTv _ h; omega; simp at h; omega) (fun e => by have h1 := hlt2 _ e; rcases hown2 _ e with h | h; have := hTv _ h; omega; simp at h; omega)
          · skip
            go_simp
            refine hK.out _ _ (HS.out _ (by repeat (first | exact Below.refl _ _ | exact HB2.out | apply Below.drew | (refine Below.alloc ?_ (by first | (simp; done) | (simp; omega) | omega) _) | (refine Below.setCell ?_ (by first | (simp; done) | (simp; omega) | omega) _)))) (fun hH11 => ?_)
            clear hK K
            refine wpAnyH_ready (rs := [10]) (by kernel_rfl) (by simp) ?_
            refine (AllReadyH.cons (o := ⟨some 11, _, _, _, _, _⟩) rfl (fun K hK => ?_) AllReadyH.nil)
            · skip
              go_simp
              refine hK.out _ _ (HS.out _ (by repeat (first | exact Below.refl _ _ | exact HB2.out | apply Below.drew | (refine Below.alloc ?_ (by first | (simp; done) | (simp; omega) | omega) _) | (refine Below.setCell ?_ (by first | (simp; done) | (simp; omega) | omega) _)))) (fun hH10 => ?_)
              clear hK K
              refine wpAnyH_ready (rs := [12]) (by kernel_rfl) (by simp) ?_
              refine AllReadyH.cons (o := ⟨none, _, _, _, _, _⟩) rfl (fun K hK => ?_) AllReadyH.nil
              go_simp
              refine hK.out _ _ (HS.out _ (by repeat (first | exact Below.refl _ _ | exact HB2.out | apply Below.drew | (refine Below.alloc ?_ (by first | (simp; done) | (simp; omega) | omega) _) | (refine Below.setCell ?_ (by first | (simp; done) | (simp; omega) | omega) _)))) (fun hH12 => ?_)
              clear hK K
              refine wpAnyH_ready (rs := [13]) (by kernel_rfl) (by simp) ?_
              refine AllReadyH.cons (o := ⟨none, _, _, _, _, _⟩) rfl (fun K hK => ?_) AllReadyH.nil
              go_simp
              refine hK.out _ _ (HS.out _ (by repeat (first | exact Below.refl _ _ | exact HB2.out | apply Below.drew | (refine Below.alloc ?_ (by first | (simp; done) | (simp; omega) | omega) _) | (refine Below.setCell ?_ (by first | (simp; done) | (simp; omega) | omega) _)))) (fun hH13 => ?_)
              clear hK K
              refine wpAnyH_take (i := 14) (oi := ⟨some 13, _, _, _, _, _⟩) (v := ?_) rfl (by kernel_rfl) (by kernel_rfl) (by kernel_rfl) (fun _ _ _ h => h) (Or.inl ⟨by rfl, ?_⟩) (by assumption) ?_
              rotate_left
              · intro W hSw
                obtain ⟨f0, f1, f2, f3, f4⟩ := hSw
                go_simp
                with_reducible rfl
              simp only [Act.put, List.setIfInBounds_toArray, List.set_cons_zero, List.set_cons_succ]
              refine wpAnyH_done (by kernel_rfl) ?_ _
              go_wp2_with fail
              go_meet
              obtain ⟨hiv2, hown2, hrel2, hdid2, hb2⟩ := HW.out
              have hlt2 := hiv2.lt
              have hsz := hb2.size
              have hTv := HTv.out
              simp at hsz
              exact cut_of (bu := w2.heap.size + 1) (bx := w2.heap.size) HB2.out hiv2 HT2.out hown2 hrel2 hdid2 HBA.out.size (by repeat (first | exact Only.refl _ _ | apply Only.drew | refine Only.alloc ?_ _ | refine Only.setCell ?_ (.inl (.inl rfl)) _ | refine Only.setCell ?_ (.inl (.inr rfl)) _)) (show Row ((w2.alloc (.cells #[.int .i64 xi, .int .i64 xk] 33)).alloc (.cells #[.int .i64 n, .slice a2 m2 c2] 26)) (w2.heap.size + 1) 26 #[.int .i64 n, .slice a2 m2 c2] from by have h := Row.fresh (w2.alloc (.cells #[.int .i64 xi, .int .i64 xk] 33)) 26 #[.int .i64 n, .slice a2 m2 c2]; simpa using h) ((show Row (w2.alloc (.cells #[.int .i64 xi, .int .i64 xk] 33)) (w2.heap.size) 33 #[.int .i64 xi, .int .i64 xk] from by have h := Row.fresh w2 33 #[.int .i64 xi, .int .i64 xk]; simpa using h).past (.cells #[.int .i64 n, .slice a2 m2 c2] 26)) (by omega) (by omega) (by omega) (fun e => by have h1 := hlt2 _ e; rcases hown2 _ e with h | h; have := hTv _ h; omega; simp at h; omega) (fun e => by have h1 := hlt2 _ e; rcases hown2 _ e with h | h; have := hTv _ h; omega; simp at h; omega)
        · skip
          go_simp
          refine hK.out _ _ (HS.out _ (by repeat (first | exact Below.refl _ _ | apply Below.drew | (refine Below.alloc ?_ (by first | (simp; done) | (simp; omega) | omega) _) | (refine Below.setCell ?_ (by first | (simp; done) | (simp; omega) | omega) _)))) (fun hH10 => ?_)
          clear hK K
          refine wpAnyH_ready (rs := [5, 11]) (by kernel_rfl) (by simp) ?_
          refine (AllReadyH.cons (o := ⟨some 69, _, _, _, _, _⟩) rfl (fun K hK => ?_) (AllReadyH.cons (o := ⟨some 12, _, _, _, _, _⟩) rfl (fun K hK => ?_) AllReadyH.nil))
          · skip
            go_simp
            have hBA : Below wr.heap.size wr ((wr.alloc (.cells #[.int .i64 0, .slice none 0 0] 26)).drew) := (by repeat (first | exact Below.refl _ _ | apply Below.drew | (refine Below.alloc ?_ (by first | (simp; done) | (simp; omega) | omega) _) | (refine Below.setCell ?_ (by first | (simp; done) | (simp; omega) | omega) _)))
            refine (rstep_any n d f _ t _ (HIV.out.under hBA) HRel.out hlen).mono ?_
            rintro e w2 ⟨v2, t2, f2, xx, bb, rfl, hiv2, hown2, hrel2, hdid2, hb2⟩
            have HBA := Lib.hid hBA
            obtain ⟨a2, c2, hv2⟩ := hiv2.shape
            subst hv2
            have HB2 := Lib.hid (then_below hBA hb2)
            have hz2 : wr.heap.size ≤ w2.heap.size := HB2.out.size
            have HW := Lib.hid (And.intro hiv2 (And.intro hown2 (And.intro hrel2 (And.intro hdid2 hb2))))
            have rB10 : Row w2 (wr.heap.size) 26 #[.int .i64 0, .slice none 0 0] := Row.under (w := (wr.alloc (.cells #[.int .i64 0, .slice none 0 0] 26)).drew) (Row.fresh wr 26 #[.int .i64 0, .slice none 0 0]) hb2 (by first | (simp; done) | (simp; omega))
            have z10a : w2.cell? ⟨wr.heap.size, 0, none⟩ = _ := rB10.cell 0
            have z10b : w2.cell? ⟨wr.heap.size, 1, none⟩ = _ := rB10.cell 1
            have z10c := rB10.thaw 0
            have z10d := rB10.thaw 1
            have z10e := rB10.lt
            have RB10 := Lib.hid rB10
            clear rB10
            clear hBA hiv2 hown2 hrel2 hdid2 hb2
            obtain ⟨xi, xk⟩ := xx
            dsimp only at HW ⊢
            generalize ht2 : t2.length = m2 at HW ⊢
            have HT2 := Lib.hid ht2
            clear ht2
            refine hK.out _ _ (HS.out _ HB2.out) (fun hH5 => ?_)
            clear hK K
            refine wpAnyH_take (i := 6) (oi := ⟨some 63, _, _, _, _, _⟩) (v := ?_) rfl (by kernel_rfl) (by kernel_rfl) (by kernel_rfl) (fun _ _ _ h => h) (Or.inl ⟨by rfl, ?_⟩) (by assumption) ?_
            rotate_left
            · intro W hSw
              obtain ⟨f0, f1, f2, f3, f4⟩ := hSw
              go_simp
              with_reducible rfl
            simp only [Act.put, List.setIfInBounds_toArray, List.set_cons_zero, List.set_cons_succ]
            refine wpAnyH_take (i := 7) (oi := ⟨some 70, _, _, _, _, _⟩) (v := ?_) rfl (by kernel_rfl) (by kernel_rfl) (by kernel_rfl) (fun _ _ _ h => h) (Or.inl ⟨by rfl, ?_⟩) (by assumption) ?_
            rotate_left
            · intro W hSw
              obtain ⟨f0, f1, f2, f3, f4⟩ := hSw
              go_simp
              with_reducible rfl
            simp only [Act.put, List.setIfInBounds_toArray, List.set_cons_zero, List.set_cons_succ]
            refine wpAnyH_take (i := 8) (oi := ⟨some 71, _, _, _, _, _⟩) (v := ?_) rfl (by kernel_rfl) (by kernel_rfl) (by kernel_rfl) (fun _ _ _ h => h) (Or.inl ⟨by rfl, ?_⟩) (by assumption) ?_
            rotate_left
            · intro W hSw
              obtain ⟨f0, f1, f2, f3, f4⟩ := hSw
              go_simp
              with_reducible rfl
            simp only [Act.put, List.setIfInBounds_toArray, List.set_cons_zero, List.set_cons_succ]
            refine wpAnyH_take (i := 9) (oi := ⟨some 72, _, _, _, _, _⟩) (v := ?_) rfl (by kernel_rfl) (by kernel_rfl) (by kernel_rfl) (fun _ _ _ h => h) (Or.inl ⟨by rfl, ?_⟩) (by assumption) ?_
            rotate_left
            · intro W hSw
              obtain ⟨f0, f1, f2, f3, f4⟩ := hSw
              go_simp
              with_reducible rfl
            simp only [Act.put, List.setIfInBounds_toArray, List.set_cons_zero, List.set_cons_succ]
            refine wpAnyH_ready (rs := [11]) (by kernel_rfl) (by simp) ?_
            refine (AllReadyH.cons (o := ⟨some 12, _, _, _, _, _⟩) rfl (fun K hK => ?_) AllReadyH.nil)
            · skip
              go_simp
              refine hK.out _ _ (HS.out _ (by repeat (first | exact Below.refl _ _ | exact HB2.out | apply Below.drew | (refine Below.alloc ?_ (by first | (simp; done) | (simp; omega) | omega) _) | (refine Below.setCell ?_ (by first | (simp; done) | (simp; omega) | omega) _)))) (fun hH11 => ?_)
              clear hK K
              refine wpAnyH_ready (rs := [12]) (by kernel_rfl) (by simp) ?_
              refine AllReadyH.cons (o := ⟨none, _, _, _, _, _⟩) rfl (fun K hK => ?_) AllReadyH.nil
              go_simp
              refine hK.out _ _ (HS.out _ (by repeat (first | exact Below.refl _ _ | exact HB2.out | apply Below.drew | (refine Below.alloc ?_ (by first | (simp; done) | (simp; omega) | omega) _) | (refine Below.setCell ?_ (by first | (simp; done) | (simp; omega) | omega) _)))) (fun hH12 => ?_)
              clear hK K
              refine wpAnyH_ready (rs := [13]) (by kernel_rfl) (by simp) ?_
              refine AllReadyH.cons (o := ⟨none, _, _, _, _, _⟩) rfl (fun K hK => ?_) AllReadyH.nil
              go_simp
              refine hK.out _ _ (HS.out _ (by repeat (first | exact Below.refl _ _ | exact HB2.out | apply Below.drew | (refine Below.alloc ?_ (by first | (simp; done) | (simp; omega) | omega) _) | (refine Below.setCell ?_ (by first | (simp; done) | (simp; omega) | omega) _)))) (fun hH13 => ?_)
              clear hK K
              refine wpAnyH_take (i := 14) (oi := ⟨some 13, _, _, _, _, _⟩) (v := ?_) rfl (by kernel_rfl) (by kernel_rfl) (by kernel_rfl) (fun _ _ _ h => h) (Or.inl ⟨by rfl, ?_⟩) (by assumption) ?_
              rotate_left
              · intro W hSw
                obtain ⟨f0, f1, f2, f3, f4⟩ := hSw
                go_simp
                with_reducible rfl
              simp only [Act.put, List.setIfInBounds_toArray, List.set_cons_zero, List.set_cons_succ]
              refine wpAnyH_done (by kernel_rfl) ?_ _
              go_wp2_with fail
              go_meet
              obtain ⟨hiv2, hown2, hrel2, hdid2, hb2⟩ := HW.out
              have hlt2 := hiv2.lt
              have hsz := hb2.size
              have hTv := HTv.out
              simp at hsz
              exact cut_of (bu := wr.heap.size) (bx := w2.heap.size) HB2.out hiv2 HT2.out hown2 hrel2 hdid2 HBA.out.size (by repeat (first | exact Only.refl _ _ | apply Only.drew | refine Only.alloc ?_ _ | refine Only.setCell ?_ (.inl (.inl rfl)) _ | refine Only.setCell ?_ (.inl (.inr rfl)) _)) (((RB10.out.put 0 (.int .i64 n)).put 1 (.slice a2 m2 c2)).past (.cells #[.int .i64 xi, .int .i64 xk] 33)) (show Row (((w2.setCell ⟨wr.heap.size, 0, none⟩ (.int .i64 n)).setCell ⟨wr.heap.size, 1, none⟩ (.slice a2 m2 c2)).alloc (.cells #[.int .i64 xi, .int .i64 xk] 33)) (w2.heap.size) 33 #[.int .i64 xi, .int .i64 xk] from by have h := Row.fresh ((w2.setCell ⟨wr.heap.size, 0, none⟩ (.int .i64 n)).setCell ⟨wr.heap.size, 1, none⟩ (.slice a2 m2 c2)) 33 #[.int .i64 xi, .int .i64 xk]; simpa using h) (by omega) (by omega) (by omega) (fun e => by have h1 := hlt2 _ e; rcases hown2 _ e with h | h; have := hTv _ h; omega; simp at h; omega) (fun e => by have h1 := hlt2 _ e; rcases hown2 _ e with h | h; have := hTv _ h; omega; simp at h; omega)
          · skip
            go_simp
            refine hK.out _ _ (HS.out _ (by repeat (first | exact Below.refl _ _ | apply Below.drew | (refine Below.alloc ?_ (by first | (simp; done) | (simp; omega) | omega) _) | (refine Below.setCell ?_ (by first | (simp; done) | (simp; omega) | omega) _)))) (fun hH11 => ?_)
            clear hK K
            refine wpAnyH_ready (rs := [5]) (by kernel_rfl) (by simp) ?_
            refine (AllReadyH.cons (o := ⟨some 69, _, _, _, _, _⟩) rfl (fun K hK => ?_) AllReadyH.nil)
            · skip
              go_simp
              have hBA : Below wr.heap.size wr (((wr.alloc (.cells #[.int .i64 0, .slice none 0 0] 26)).alloc (.cells #[.int .i64 0, .int .i64 0] 33)).drew) := (by repeat (first | exact Below.refl _ _ | apply Below.drew | (refine Below.alloc ?_ (by first | (simp; done) | (simp; omega) | omega) _) | (refine Below.setCell ?_ (by first | (simp; done) | (simp; omega) | omega) _)))
              refine (rstep_any n d f _ t _ (HIV.out.under hBA) HRel.out hlen).mono ?_
              rintro e w2 ⟨v2, t2, f2, xx, bb, rfl, hiv2, hown2, hrel2, hdid2, hb2⟩
              have HBA := Lib.hid hBA
              obtain ⟨a2, c2, hv2⟩ := hiv2.shape
              subst hv2
              have HB2 := Lib.hid (then_below hBA hb2)
              have hz2 : wr.heap.size ≤ w2.heap.size := HB2.out.size
              have HW := Lib.hid (And.intro hiv2 (And.intro hown2 (And.intro hrel2 (And.intro hdid2 hb2))))
              have rB10 : Row w2 (wr.heap.size) 26 #[.int .i64 0, .slice none 0 0] := Row.under (w := ((wr.alloc (.cells #[.int .i64 0, .slice none 0 0] 26)).alloc (.cells #[.int .i64 0, .int .i64 0] 33)).drew) ((Row.fresh wr 26 #[.int .i64 0, .slice none 0 0]).past (.cells #[.int .i64 0, .int .i64 0] 33)) hb2 (by first | (simp; done) | (simp; omega))
              have z10a : w2.cell? ⟨wr.heap.size, 0, none⟩ = _ := rB10.cell 0
              have z10b : w2.cell? ⟨wr.heap.size, 1, none⟩ = _ := rB10.cell 1
              have z10c := rB10.thaw 0
              have z10d := rB10.thaw 1
              have z10e := rB10.lt
              have RB10 := Lib.hid rB10
              clear rB10
              have rB11 : Row w2 (wr.heap.size + 1) 33 #[.int .i64 0, .int .i64 0] := Row.under (w := ((wr.alloc (.cells #[.int .i64 0, .slice none 0 0] 26)).alloc (.cells #[.int .i64 0, .int .i64 0] 33)).drew) (show Row ((wr.alloc (.cells #[.int .i64 0, .slice none 0 0] 26)).alloc (.cells #[.int .i64 0, .int .i64 0] 33)) (wr.heap.size + 1) 33 #[.int .i64 0, .int .i64 0] from by have h := Row.fresh (wr.alloc (.cells #[.int .i64 0, .slice none 0 0] 26)) 33 #[.int .i64 0, .int .i64 0]; simpa using h) hb2 (by first | (simp; done) | (simp; omega))
              have z11a : w2.cell? ⟨wr.heap.size + 1, 0, none⟩ = _ := rB11.cell 0
              have z11b : w2.cell? ⟨wr.heap.size + 1, 1, none⟩ = _ := rB11.cell 1
              have z11c := rB11.thaw 0
              have z11d := rB11.thaw 1
              have z11e := rB11.lt
              have RB11 := Lib.hid rB11
              clear rB11
              clear hBA hiv2 hown2 hrel2 hdid2 hb2
              obtain ⟨xi, xk⟩ := xx
              dsimp only at HW ⊢
              generalize ht2 : t2.length = m2 at HW ⊢
              have HT2 := Lib.hid ht2
              clear ht2
              refine hK.out _ _ (HS.out _ HB2.out) (fun hH5 => ?_)
              clear hK K
              refine wpAnyH_take (i := 6) (oi := ⟨some 63, _, _, _, _, _⟩) (v := ?_) rfl (by kernel_rfl) (by kernel_rfl) (by kernel_rfl) (fun _ _ _ h => h) (Or.inl ⟨by rfl, ?_⟩) (by assumption) ?_
              rotate_left
              · intro W hSw
                obtain ⟨f0, f1, f2, f3, f4⟩ := hSw
                go_simp
                with_reducible rfl
              simp only [Act.put, List.setIfInBounds_toArray, List.set_cons_zero, List.set_cons_succ]
              refine wpAnyH_take (i := 7) (oi := ⟨some 70, _, _, _, _, _⟩) (v := ?_) rfl (by kernel_rfl) (by kernel_rfl) (by kernel_rfl) (fun _ _ _ h => h) (Or.inl ⟨by rfl, ?_⟩) (by assumption) ?_
              rotate_left
              · intro W hSw
                obtain ⟨f0, f1, f2, f3, f4⟩ := hSw
                go_simp
                with_reducible rfl
              simp only [Act.put, List.setIfInBounds_toArray, List.set_cons_zero, List.set_cons_succ]
              refine wpAnyH_take (i := 8) (oi := ⟨some 71, _, _, _, _, _⟩) (v := ?_) rfl (by kernel_rfl) (by kernel_rfl) (by kernel_rfl) (fun _ _ _ h => h) (Or.inl ⟨by rfl, ?_⟩) (by assumption) ?_
              rotate_left
              · intro W hSw
                obtain ⟨f0, f1, f2, f3, f4⟩ := hSw
                go_simp
                with_reducible rfl
              simp only [Act.put, List.setIfInBounds_toArray, List.set_cons_zero, List.set_cons_succ]
              refine wpAnyH_take (i := 9) (oi := ⟨some 72, _, _, _, _, _⟩) (v := ?_) rfl (by kernel_rfl) (by kernel_rfl) (by kernel_rfl) (fun _ _ _ h => h) (Or.inl ⟨by rfl, ?_⟩) (by assumption) ?_
              rotate_left
              · intro W hSw
                obtain ⟨f0, f1, f2, f3, f4⟩ := hSw
                go_simp
                with_reducible rfl
              simp only [Act.put, List.setIfInBounds_toArray, List.set_cons_zero, List.set_cons_succ]
              refine wpAnyH_ready (rs := [12]) (by kernel_rfl) (by simp) ?_
              refine AllReadyH.cons (o := ⟨none, _, _, _, _, _⟩) rfl (fun K hK => ?_) AllReadyH.nil
              go_simp
              refine hK.out _ _ (HS.out _ (by repeat (first | exact Below.refl _ _ | exact HB2.out | apply Below.drew | (refine Below.alloc ?_ (by first | (simp; done) | (simp; omega) | omega) _) | (refine Below.setCell ?_ (by first | (simp; done) | (simp; omega) | omega) _)))) (fun hH12 => ?_)
              clear hK K
              refine wpAnyH_ready (rs := [13]) (by kernel_rfl) (by simp) ?_
              refine AllReadyH.cons (o := ⟨none, _, _, _, _, _⟩) rfl (fun K hK => ?_) AllReadyH.nil
              go_simp
              refine hK.out _ _ (HS.out _ (by repeat (first | exact Below.refl _ _ | exact HB2.out | apply Below.drew | (refine Below.alloc ?_ (by first | (simp; done) | (simp; omega) | omega) _) | (refine Below.setCell ?_ (by first | (simp; done) | (simp; omega) | omega) _)))) (fun hH13 => ?_)
              clear hK K
              refine wpAnyH_take (i := 14) (oi := ⟨some 13, _, _, _, _, _⟩) (v := ?_) rfl (by kernel_rfl) (by kernel_rfl) (by kernel_rfl) (fun _ _ _ h => h) (Or.inl ⟨by rfl, ?_⟩) (by assumption) ?_
              rotate_left
              · intro W hSw
                obtain ⟨f0, f1, f2, f3, f4⟩ := hSw
                go_simp
                with_reducible rfl
              simp only [Act.put, List.setIfInBounds_toArray, List.set_cons_zero, List.set_cons_succ]
              refine wpAnyH_done (by kernel_rfl) ?_ _
              go_wp2_with fail
              go_meet
              obtain ⟨hiv2, hown2, hrel2, hdid2, hb2⟩ := HW.out
              have hlt2 := hiv2.lt
              have hsz := hb2.size
              have hTv := HTv.out
              simp at hsz
              exact cut_of (bu := wr.heap.size) (bx := wr.heap.size + 1) HB2.out hiv2 HT2.out hown2 hrel2 hdid2 HBA.out.size (by repeat (first | exact Only.refl _ _ | apply Only.drew | refine Only.alloc ?_ _ | refine Only.setCell ?_ (.inl (.inl rfl)) _ | refine Only.setCell ?_ (.inl (.inr rfl)) _)) ((((RB10.out.put 0 (.int .i64 n)).put 1 (.slice a2 m2 c2)).away (a := ⟨wr.heap.size + 1, 0, none⟩) (by show wr.heap.size ≠ wr.heap.size + 1; omega) (.int .i64 xi)).away (a := ⟨wr.heap.size + 1, 1, none⟩) (by show wr.heap.size ≠ wr.heap.size + 1; omega) (.int .i64 xk)) ((((RB11.out.away (a := ⟨wr.heap.size, 0, none⟩) (by show wr.heap.size + 1 ≠ wr.heap.size; omega) (.int .i64 n)).away (a := ⟨wr.heap.size, 1, none⟩) (by show wr.heap.size + 1 ≠ wr.heap.size; omega) (.slice a2 m2 c2)).put 0 (.int .i64 xi)).put 1 (.int .i64 xk)) (by omega) (by omega) (by omega) (fun e => by have h1 := hlt2 _ e; rcases hown2 _ e with h | h; have := hTv _ h; omega; simp at h; omega) (fun e => by have h1 := hlt2 _ e; rcases hown2 _ e with h | h; have := hTv _ h; omega; simp at h; omega)
        · skip
          go_simp
          refine hK.out _ _ (HS.out _ (by repeat (first | exact Below.refl _ _ | apply Below.drew | (refine Below.alloc ?_ (by first | (simp; done) | (simp; omega) | omega) _) | (refine Below.setCell ?_ (by first | (simp; done) | (simp; omega) | omega) _)))) (fun hH11 => ?_)
          clear hK K
          refine wpAnyH_ready (rs := [5, 10]) (by kernel_rfl) (by simp) ?_
          refine (AllReadyH.cons (o := ⟨some 69, _, _, _, _, _⟩) rfl (fun K hK => ?_) (AllReadyH.cons (o := ⟨some 11, _, _, _, _, _⟩) rfl (fun K hK => ?_) AllReadyH.nil))
          · skip
            go_simp
            have hBA : Below wr.heap.size wr ((wr.alloc (.cells #[.int .i64 0, .int .i64 0] 33)).drew) := (by repeat (first | exact Below.refl _ _ | apply Below.drew | (refine Below.alloc ?_ (by first | (simp; done) | (simp; omega) | omega) _) | (refine Below.setCell ?_ (by first | (simp; done) | (simp; omega) | omega) _)))
            refine (rstep_any n d f _ t _ (HIV.out.under hBA) HRel.out hlen).mono ?_
            rintro e w2 ⟨v2, t2, f2, xx, bb, rfl, hiv2, hown2, hrel2, hdid2, hb2⟩
            have HBA := Lib.hid hBA
            obtain ⟨a2, c2, hv2⟩ := hiv2.shape
            subst hv2
            have HB2 := Lib.hid (then_below hBA hb2)
            have hz2 : wr.heap.size ≤ w2.heap.size := HB2.out.size
            have HW := Lib.hid (And.intro hiv2 (And.intro hown2 (And.intro hrel2 (And.intro hdid2 hb2))))
            have rB11 : Row w2 (wr.heap.size) 33 #[.int .i64 0, .int .i64 0] := Row.under (w := (wr.alloc (.cells #[.int .i64 0, .int .i64 0] 33)).drew) (Row.fresh wr 33 #[.int .i64 0, .int .i64 0]) hb2 (by first | (simp; done) | (simp; omega))
            have z11a : w2.cell? ⟨wr.heap.size, 0, none⟩ = _ := rB11.cell 0
            have z11b : w2.cell? ⟨wr.heap.size, 1, none⟩ = _ := rB11.cell 1
            have z11c := rB11.thaw 0
            have z11d := rB11.thaw 1
            have z11e := rB11.lt
            have RB11 := Lib.hid rB11
            clear rB11
            clear hBA hiv2 hown2 hrel2 hdid2 hb2
            obtain ⟨xi, xk⟩ := xx
            dsimp only at HW ⊢
            generalize ht2 : t2.length = m2 at HW ⊢
            have HT2 := Lib.hid ht2
            clear ht2
            refine hK.out _ _ (HS.out _ HB2.out) (fun hH5 => ?_)
            clear hK K
            refine wpAnyH_take (i := 6) (oi := ⟨some 63, _, _, _, _, _⟩) (v := ?_) rfl (by kernel_rfl) (by kernel_rfl) (by kernel_rfl) (fun _ _ _ h => h) (Or.inl ⟨by rfl, ?_⟩) (by assumption) ?_
            rotate_left
            · intro W hSw
              obtain ⟨f0, f1, f2, f3, f4⟩ := hSw
              go_simp
              with_reducible rfl
            simp only [Act.put, List.setIfInBounds_toArray, List.set_cons_zero, List.set_cons_succ]
            refine wpAnyH_take (i := 7) (oi := ⟨some 70, _, _, _, _, _⟩) (v := ?_) rfl (by kernel_rfl) (by kernel_rfl) (by kernel_rfl) (fun _ _ _ h => h) (Or.inl ⟨by rfl, ?_⟩) (by assumption) ?_
            rotate_left
            · intro W hSw
              obtain ⟨f0, f1, f2, f3, f4⟩ := hSw
              go_simp
              with_reducible rfl
            simp only [Act.put, List.setIfInBounds_toArray, List.set_cons_zero, List.set_cons_succ]
            refine wpAnyH_take (i := 8) (oi := ⟨some 71, _, _, _, _, _⟩) (v := ?_) rfl (by kernel_rfl) (by kernel_rfl) (by kernel_rfl) (fun _ _ _ h => h) (Or.inl ⟨by rfl, ?_⟩) (by assumption) ?_
            rotate_left
            · intro W hSw
              obtain ⟨f0, f1, f2, f3, f4⟩ := hSw
              go_simp
              with_reducible rfl
            simp only [Act.put, List.setIfInBounds_toArray, List.set_cons_zero, List.set_cons_succ]
            refine wpAnyH_take (i := 9) (oi := ⟨some 72, _, _, _, _, _⟩) (v := ?_) rfl (by kernel_rfl) (by kernel_rfl) (by kernel_rfl) (fun _ _ _ h => h) (Or.inl ⟨by rfl, ?_⟩) (by assumption) ?_
            rotate_left
            · intro W hSw
              obtain ⟨f0, f1, f2, f3, f4⟩ := hSw
              go_simp
              with_reducible rfl
            simp only [Act.put, List.setIfInBounds_toArray, List.set_cons_zero, List.set_cons_succ]
            refine wpAnyH_ready (rs := [10]) (by kernel_rfl) (by simp) ?_
            refine (AllReadyH.cons (o := ⟨some 11, _, _, _, _, _⟩) rfl (fun K hK => ?_) AllReadyH.nil)
            · skip
              go_simp
              refine hK.out _ _ (HS.out _ (by repeat (first | exact Below.refl _ _ | exact HB2.out | apply Below.drew | (refine Below.alloc ?_ (by first | (simp; done) | (simp; omega) | omega) _) | (refine Below.setCell ?_ (by first | (simp; done) | (simp; omega) | omega) _)))) (fun hH10 => ?_)
              clear hK K
              refine wpAnyH_ready (rs := [12]) (by kernel_rfl) (by simp) ?_
              refine AllReadyH.cons (o := ⟨none, _, _, _, _, _⟩) rfl (fun K hK => ?_) AllReadyH.nil
              go_simp
              refine hK.out _ _ (HS.out _ (by repeat (first | exact Below.refl _ _ | exact HB2.out | apply Below.drew | (refine Below.alloc ?_ (by first | (simp; done) | (simp; omega) | omega) _) | (refine Below.setCell ?_ (by first | (simp; done) | (simp; omega) | omega) _)))) (fun hH12 => ?_)
              clear hK K
              refine wpAnyH_ready (rs := [13]) (by kernel_rfl) (by simp) ?_
              refine AllReadyH.cons (o := ⟨none, _, _, _, _, _⟩) rfl (fun K hK => ?_) AllReadyH.nil
              go_simp
              refine hK.out _ _ (HS.out _ (by repeat (first | exact Below.refl _ _ | exact HB2.out | apply Below.drew | (refine Below.alloc ?_ (by first | (simp; done) | (simp; omega) | omega) _) | (refine Below.setCell ?_ (by first | (simp; done) | (simp; omega) | omega) _)))) (fun hH13 => ?_)
              clear hK K
              refine wpAnyH_take (i := 14) (oi := ⟨some 13, _, _, _, _, _⟩) (v := ?_) rfl (by kernel_rfl) (by kernel_rfl) (by kernel_rfl) (fun _ _ _ h => h) (Or.inl ⟨by rfl, ?_⟩) (by assumption) ?_
              rotate_left
              · intro W hSw
                obtain ⟨f0, f1, f2, f3, f4⟩ := hSw
                go_simp
                with_reducible rfl
              simp only [Act.put, List.setIfInBounds_toArray, List.set_cons_zero, List.set_cons_succ]
              refine wpAnyH_done (by kernel_rfl) ?_ _
              go_wp2_with fail
              go_meet
              obtain ⟨hiv2, hown2, hrel2, hdid2, hb2⟩ := HW.out
              have hlt2 := hiv2.lt
              have hsz := hb2.size
              have hTv := HTv.out
              simp at hsz
              exact cut_of (bu := w2.heap.size) (bx := wr.heap.size) HB2.out hiv2 HT2.out hown2 hrel2 hdid2 HBA.out.size (by repeat (first | exact Only.refl _ _ | apply Only.drew | refine Only.alloc ?_ _ | refine Only.setCell ?_ (.inl (.inl rfl)) _ | refine Only.setCell ?_ (.inl (.inr rfl)) _)) (show Row (((w2.setCell ⟨wr.heap.size, 0, none⟩ (.int .i64 xi)).setCell ⟨wr.heap.size, 1, none⟩ (.int .i64 xk)).alloc (.cells #[.int .i64 n, .slice a2 m2 c2] 26)) (w2.heap.size) 26 #[.int .i64 n, .slice a2 m2 c2] from by have h := Row.fresh ((w2.setCell ⟨wr.heap.size, 0, none⟩ (.int .i64 xi)).setCell ⟨wr.heap.size, 1, none⟩ (.int .i64 xk)) 26 #[.int .i64 n, .slice a2 m2 c2]; simpa using h) (((RB11.out.put 0 (.int .i64 xi)).put 1 (.int .i64 xk)).past (.cells #[.int .i64 n, .slice a2 m2 c2] 26)) (by omega) (by omega) (by omega) (fun e => by have h1 := hlt2 _ e; rcases hown2 _ e with h | h; have := hTv _ h; omega; simp at h; omega) (fun e => by have h1 := hlt2 _ e; rcases hown2 _ e with h | h; have := hTv _ h; omega; simp at h; omega)
          · skip
            go_simp
            refine hK.out _ _ (HS.out _ (by repeat (first | exact Below.refl _ _ | apply Below.drew | (refine Below.alloc ?_ (by first | (simp; done) | (simp; omega) | omega) _) | (refine Below.setCell ?_ (by first | (simp; done) | (simp; omega) | omega) _)))) (fun hH10 => ?_)
            clear hK K
            refine wpAnyH_ready (rs := [5]) (by kernel_rfl) (by simp) ?_
            refine (AllReadyH.cons (o := ⟨some 69, _, _, _, _, _⟩) rfl (fun K hK => ?_) AllReadyH.nil)
            · skip
              go_simp
              have hBA : Below wr.heap.size wr (((wr.alloc (.cells #[.int .i64 0, .int .i64 0] 33)).alloc (.cells #[.int .i64 0, .slice none 0 0] 26)).drew) := (by repeat (first | exact Below.refl _ _ | apply Below.drew | (refine Below.alloc ?_ (by first | (simp; done) | (simp; omega) | omega) _) | (refine Below.setCell ?_ (by first | (simp; done) | (simp; omega) | omega) _)))
              refine (rstep_any n d f _ t _ (HIV.out.under hBA) HRel.out hlen).mono ?_
              rintro e w2 ⟨v2, t2, f2, xx, bb, rfl, hiv2, hown2, hrel2, hdid2, hb2⟩
              have HBA := Lib.hid hBA
              obtain ⟨a2, c2, hv2⟩ := hiv2.shape
              subst hv2
              have HB2 := Lib.hid (then_below hBA hb2)
              have hz2 : wr.heap.size ≤ w2.heap.size := HB2.out.size
              have HW := Lib.hid (And.intro hiv2 (And.intro hown2 (And.intro hrel2 (And.intro hdid2 hb2))))
              have rB11 : Row w2 (wr.heap.size) 33 #[.int .i64 0, .int .i64 0] := Row.under (w := ((wr.alloc (.cells #[.int .i64 0, .int .i64 0] 33)).alloc (.cells #[.int .i64 0, .slice none 0 0] 26)).drew) ((Row.fresh wr 33 #[.int .i64 0, .int .i64 0]).past (.cells #[.int .i64 0, .slice none 0 0] 26)) hb2 (by first | (simp; done) | (simp; omega))
              have z11a : w2.cell? ⟨wr.heap.size, 0, none⟩ = _ := rB11.cell 0
              have z11b : w2.cell? ⟨wr.heap.size, 1, none⟩ = _ := rB11.cell 1
              have z11c := rB11.thaw 0
              have z11d := rB11.thaw 1
              have z11e := rB11.lt
              have RB11 := Lib.hid rB11
              clear rB11
              have rB10 : Row w2 (wr.heap.size + 1) 26 #[.int .i64 0, .slice none 0 0] := Row.under (w := ((wr.alloc (.cells #[.int .i64 0, .int .i64 0] 33)).alloc (.cells #[.int .i64 0, .slice none 0 0] 26)).drew) (show Row ((wr.alloc (.cells #[.int .i64 0, .int .i64 0] 33)).alloc (.cells #[.int .i64 0, .slice none 0 0] 26)) (wr.heap.size + 1) 26 #[.int .i64 0, .slice none 0 0] from by have h := Row.fresh (wr.alloc (.cells #[.int .i64 0, .int .i64 0] 33)) 26 #[.int .i64 0, .slice none 0 0]; simpa using h) hb2 (by first | (simp; done) | (simp; omega))
              have z10a : w2.cell? ⟨wr.heap.size + 1, 0, none⟩ = _ := rB10.cell 0
              have z10b : w2.cell? ⟨wr.heap.size + 1, 1, none⟩ = _ := rB10.cell 1
              have z10c := rB10.thaw 0
              have z10d := rB10.thaw 1
              have z10e := rB10.lt
              have RB10 := Lib.hid rB10
              clear rB10
              clear hBA hiv2 hown2 hrel2 hdid2 hb2
              obtain ⟨xi, xk⟩ := xx
              dsimp only at HW ⊢
              generalize ht2 : t2.length = m2 at HW ⊢
              have HT2 := Lib.hid ht2
              clear ht2
              refine hK.out _ _ (HS.out _ HB2.out) (fun hH5 => ?_)
              clear hK K
              refine wpAnyH_take (i := 6) (oi := ⟨some 63, _, _, _, _, _⟩) (v := ?_) rfl (by kernel_rfl) (by kernel_rfl) (by kernel_rfl) (fun _ _ _ h => h) (Or.inl ⟨by rfl, ?_⟩) (by assumption) ?_
              rotate_left
              · intro W hSw
                obtain ⟨f0, f1, f2, f3, f4⟩ := hSw
                go_simp
                with_reducible rfl
              simp only [Act.put, List.setIfInBounds_toArray, List.set_cons_zero, List.set_cons_succ]
              refine wpAnyH_take (i := 7) (oi := ⟨some 70, _, _, _, _, _⟩) (v := ?_) rfl (by kernel_rfl) (by kernel_rfl) (by kernel_rfl) (fun _ _ _ h => h) (Or.inl ⟨by rfl, ?_⟩) (by assumption) ?_
              rotate_left
              · intro W hSw
                obtain ⟨f0, f1, f2, f3, f4⟩ := hSw
                go_simp
                with_reducible rfl
              simp only [Act.put, List.setIfInBounds_toArray, List.set_cons_zero, List.set_cons_succ]
              refine wpAnyH_take (i := 8) (oi := ⟨some 71, _, _, _, _, _⟩) (v := ?_) rfl (by kernel_rfl) (by kernel_rfl) (by kernel_rfl) (fun _ _ _ h => h) (Or.inl ⟨by rfl, ?_⟩) (by assumption) ?_
              rotate_left
              · intro W hSw
                obtain ⟨f0, f1, f2, f3, f4⟩ := hSw
                go_simp
                with_reducible rfl
              simp only [Act.put, List.setIfInBounds_toArray, List.set_cons_zero, List.set_cons_succ]
              refine wpAnyH_take (i := 9) (oi := ⟨some 72, _, _, _, _, _⟩) (v := ?_) rfl (by kernel_rfl) (by kernel_rfl) (by kernel_rfl) (fun _ _ _ h => h) (Or.inl ⟨by rfl, ?_⟩) (by assumption) ?_
              rotate_left
              · intro W hSw
                obtain ⟨f0, f1, f2, f3, f4⟩ := hSw
                go_simp
                with_reducible rfl
              simp only [Act.put, List.setIfInBounds_toArray, List.set_cons_zero, List.set_cons_succ]
              refine wpAnyH_ready (rs := [12]) (by kernel_rfl) (by simp) ?_
              refine AllReadyH.cons (o := ⟨none, _, _, _, _, _⟩) rfl (fun K hK => ?_) AllReadyH.nil
              go_simp
              refine hK.out _ _ (HS.out _ (by repeat (first | exact Below.refl _ _ | exact HB2.out | apply Below.drew | (refine Below.alloc ?_ (by first | (simp; done) | (simp; omega) | omega) _) | (refine Below.setCell ?_ (by first | (simp; done) | (simp; omega) | omega) _)))) (fun hH12 => ?_)
              clear hK K
              refine wpAnyH_ready (rs := [13]) (by kernel_rfl) (by simp) ?_
              refine AllReadyH.cons (o := ⟨none, _, _, _, _, _⟩) rfl (fun K hK => ?_) AllReadyH.nil
              go_simp
              refine hK.out _ _ (HS.out _ (by repeat (first | exact Below.refl _ _ | exact HB2.out | apply Below.drew | (refine Below.alloc ?_ (by first | (simp; done) | (simp; omega) | omega) _) | (refine Below.setCell ?_ (by first | (simp; done) | (simp; omega) | omega) _)))) (fun hH13 => ?_)
              clear hK K
              refine wpAnyH_take (i := 14) (oi := ⟨some 13, _, _, _, _, _⟩) (v := ?_) rfl (by kernel_rfl) (by kernel_rfl) (by kernel_rfl) (fun _ _ _ h => h) (Or.inl ⟨by rfl, ?_⟩) (by assumption) ?_
              rotate_left
              · intro W hSw
                obtain ⟨f0, f1, f2, f3, f4⟩ := hSw
                go_simp
                with_reducible rfl
              simp only [Act.put, List.setIfInBounds_toArray, List.set_cons_zero, List.set_cons_succ]
              refine wpAnyH_done (by kernel_rfl) ?_ _
              go_wp2_with fail
              go_meet
              obtain ⟨hiv2, hown2, hrel2, hdid2, hb2⟩ := HW.out
              have hlt2 := hiv2.lt
              have hsz := hb2.size
              have hTv := HTv.out
              simp at hsz
              exact cut_of (bu := wr.heap.size + 1) (bx := wr.heap.size) HB2.out hiv2 HT2.out hown2 hrel2 hdid2 HBA.out.size (by repeat (first | exact Only.refl _ _ | apply Only.drew | refine Only.alloc ?_ _ | refine Only.setCell ?_ (.inl (.inl rfl)) _ | refine Only.setCell ?_ (.inl (.inr rfl)) _)) ((((RB10.out.put 0 (.int .i64 n)).put 1 (.slice a2 m2 c2)).away (a := ⟨wr.heap.size, 0, none⟩) (by show wr.heap.size + 1 ≠ wr.heap.size; omega) (.int .i64 xi)).away (a := ⟨wr.heap.size, 1, none⟩) (by show wr.heap.size + 1 ≠ wr.heap.size; omega) (.int .i64 xk)) ((((RB11.out.away (a := ⟨wr.heap.size + 1, 0, none⟩) (by show wr.heap.size ≠ wr.heap.size + 1; omega) (.int .i64 n)).away (a := ⟨wr.heap.size + 1, 1, none⟩) (by show wr.heap.size ≠ wr.heap.size + 1; omega) (.slice a2 m2 c2)).put 0 (.int .i64 xi)).put 1 (.int .i64 xk)) (by omega) (by omega) (by omega) (fun e => by have h1 := hlt2 _ e; rcases hown2 _ e with h | h; have := hTv _ h; omega; simp at h; omega) (fun e => by have h1 := hlt2 _ e; rcases hown2 _ e with h | h; have := hTv _ h; omega; simp at h; omega)
      case rest =>
        obtain ⟨bu, bx, a2, cc, t2, f2, xi, xk, bb, rfl, rfl, rfl, ru, rx, hiv, hown, nu, nx, hrel2, hdid, hbu, hbx, hne, hb⟩ := hcut
        obtain ⟨q1, q2, q3, q4, q5, q8, q9⟩ := HST.out
        have r0 : wc.cell? ⟨bu, 0, none⟩ = some (.int .i64 n) := ru.cell 0
        have r1 : wc.cell? ⟨bu, 1, none⟩ = some (.slice a2 t2.length cc) := ru.cell 1
        have rU := q5.under hb q5.lt
        have e0 : wc.cell? ⟨U, 0, none⟩ = some (.int .i64 n) := rU.cell 0
        have e1 : wc.cell? ⟨U, 1, none⟩ = some (.slice ad t.length ct) := rU.cell 1
        have e2 : wc.frozen? ⟨U, 0, none⟩ = false := rU.thaw 0
        have e3 : wc.frozen? ⟨U, 1, none⟩ = false := rU.thaw 1
        have HM := Lib.hid (Mid1.of_cut q1 q2 q3 q4 q5 q8 q9 rx hiv hown hrel2 hbx hb)
        have HDid := Lib.hid hdid
        clear ru rx hiv hown nu nx hrel2 hdid hbu hbx hne hb q1 q2 q3 q4 q5 q8 q9 rU HST HS HIV HRel HTv
        have hC := HC.out _ HM.out.b
        obtain ⟨c0, c1, c2⟩ := hC
        go_wp2_with fail
        refine (HM.out.did HDid.out).mono ?_
        rintro e w4 ⟨rfl, hm4⟩
        clear c0 c1 c2 e0 e1 e2 e3 r0 r1
        have HM4 := Lib.hid hm4
        have hl2 : t2.length ≤ 1000000 := by
          rw [hm4.short]
          have := cnt_le n f2
          omega
        obtain ⟨s0, s1, -, -⟩ := hm4.cells
        clear hm4 HM HDid
        unfold told
        go_wp2_with fail
        refine (HM4.out.rfirst hl2).mono ?_
        rintro e w5 ⟨fi, fk, fb, rfl, hfv, hm5⟩
        have HF := Lib.hid hfv
        have HB5 := Lib.hid (show Below w5.heap.size w5 (w5.alloc (.cells #[.int .i64 fi, .int .i64 fk] 33)) from (Below.refl _ _).alloc (Nat.le_refl _) _)
        have HM6 := Lib.hid (hm5.under HB5.out)
        have HR6 := Lib.hid (Row.fresh w5 33 #[.int .i64 fi, .int .i64 fk])
        clear hfv hm5 HM4 s0 s1
        go_wp2_with fail
        refine (HM6.out.first HF.out).mono ?_
        rintro e w7 ⟨rfl, hb7⟩
        have HM7 := Lib.hid (HM6.out.under hb7)
        have HR7 := Lib.hid (HR6.out.under hb7 HR6.out.lt)
        obtain ⟨s0, s1, -, -⟩ := HM7.out.cells
        clear hb7 HR6 HM6 HB5
        generalize w5.heap.size = fx at *
        unfold told
        go_wp2_with fail
        refine (HM7.out.rkey hl2 id).mono ?_
        rintro e w8 ⟨k, kb, rfl, hkv, hb8⟩
        have HK := Lib.hid hkv
        have HM8 := Lib.hid (HM7.out.under hb8)
        have HR8 := Lib.hid (HR7.out.under hb8 HR7.out.lt)
        clear hkv hb8 HM7 HR7 s0 s1
        unfold keyed
        go_wp2_with fail
        refine (HM8.out.key HK.out).mono ?_
        rintro e w9 ⟨rfl, hb9⟩
        have HM9 := Lib.hid (HM8.out.under hb9)
        have HR9 := Lib.hid (HR8.out.under hb9 HR8.out.lt)
        clear hb9 HM8 HR8 HF HK
        unfold keyed
        obtain ⟨s0, s1, s2, s3⟩ := HM9.out.cells
        have s4 : w9.cell? ⟨fx, 0, none⟩ = some (.int .i64 fi) := HR9.out.cell 0
        have s5 : w9.cell? ⟨fx, 1, none⟩ = some (.int .i64 fk) := HR9.out.cell 1
        have HL := Lib.hid (fun q => HM9.out.len (w1 := w9.drewN q) (below_drewN (Below.refl _ _) q))
        go_wp2
        go_quiet (first | (go_at_call 19; exact Calls.quiet_of_same (HL.out _)))
        go_wp2
        exact ⟨⟨j + 1, f2, t2, by omega, by go_num, (HM9.out.under (below_drewN (Below.refl _ _) _)).back⟩, by simp [intOf]; omega⟩
    · have hge : ¬ (j : Int) < (l.length : Int) := by omega
      have HB := Lib.hid q9
      clear q1 q2 q3 q4 q5 q6 q7 q8 q9
      go_wp2_with fail
      refine (known_any _).mono ?_
      rintro e w8 ⟨rfl, hb8⟩
      have HB8 := Lib.hid (then_below HB.out hb8)
      clear hb8
      go_wp2
      go_ret
      exact ⟨rfl, HB8.out⟩
theorem steps_walk (z id : Int) (a : Option Addr) (l : List (Int × Int × Int)) (c : Nat) (w : World) (hD : Dos w a l) : Calls Try.prog 3 #[.int .i64 z, .slice a l.length c, .int .i64 id] w fun e w' => e = .returned (.bool true) ∧ Below w.heap.size w w' := by
  by_cases h : (100 < z ∧ z ≤ 16777216) ∨ 60 < l.length
  · exact steps_big z id a l.length c w h
  · by_cases h2 : z < 0 ∨ 16777216 < z
    · exact steps_none z id a l.length c w h2 (by omega)
    · obtain ⟨n, rfl⟩ : ∃ n : Nat, z = n := ⟨z.toNat, by omega⟩
      exact steps_small n id a l c w hD (by omega) (by omega)
end Go.Proofs.Ythpfhimdgmckgaa
