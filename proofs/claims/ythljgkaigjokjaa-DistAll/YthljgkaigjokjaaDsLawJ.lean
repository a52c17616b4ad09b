/- DistAll (written by mkdlj.py). -/
import Derived.Test.YthljgkaigjokjaaDsLawA
import Derived.Test.YthljgkaigjokjaaDsM
import Derived.Test.YthljgkaigjokjaaDsR
namespace Go.Proofs.Ythljgkaigjokjaa
open Go.RowKit Go.Shelf Grm Lay
attribute [local go_sem] Oper.semAt_some
theorem below_of {w w' : World} (h : w = w') : Below w.heap.size w w' := by subst h; exact Below.refl _ _
theorem same_any7 {W : World} {a b : Option Addr} {L : List Int} {c d : Nat} (hA : Zs W a L) (hB : Zs W b L) (hl : L.length ≤ 16777216) :
    Calls Try.prog 24 #[.slice a L.length c, .slice b L.length d] W fun e w' => e = .returned (.bool true) ∧ Below W.heap.size W w' := by
  have h := sameints_any a b L L c d W hA hB (by omega)
  simpa using h
theorem around_le (L : List Int) (most : Int) : (aroundL L most).length ≤ L.length := by
  unfold aroundL
  rw [List.length_map]
  exact Nat.le_trans (List.length_filter_le _ _) (by simp)
structure Fz (w : World) (N : Nat) (a : Option Addr) (l : List Ar) (c : Nat) (g B : Nat) (av : Option Addr) (cv K : Nat) (Lf : Nat → List Int) (W : World) : Prop where
  row : Row W w.heap.size 24 #[.int .i64 (N : Nat), .slice a l.length c]
  arcs : Arcs W a l
  gv : GV W B (ptr g) N l
  hB : B ≤ W.heap.size
  tab : Tz7 W av cv N K Lf
  bw : Below w.heap.size w W
theorem Fz.next {w W W' : World} {N : Nat} {a : Option Addr} {l : List Ar} {c g B cv K : Nat} {av : Option Addr} {Lf : Nat → List Int} (h : Fz w N a l c g B av cv K Lf W) (hb : Below W.heap.size W W') : Fz w N a l c g B av cv K Lf W' :=
  ⟨h.row.under hb h.row.lt, h.arcs.under hb, h.gv.under hb, Nat.le_trans h.hB hb.size, h.tab.under hb, h.bw.trans (hb.mono h.bw.size)⟩
theorem Fz.cells {w W : World} {N : Nat} {a : Option Addr} {l : List Ar} {c g B cv K : Nat} {av : Option Addr} {Lf : Nat → List Int} (h : Fz w N a l c g B av cv K Lf W) : W.cell? ⟨w.heap.size, 0, none⟩ = some (.int .i64 (N : Nat)) ∧ W.cell? ⟨w.heap.size, 1, none⟩ = some (.slice a l.length c) := by
  have r0 := h.row.cell 0
  have r1 := h.row.cell 1
  simp only [List.getElem?_toArray, List.getElem?_cons_zero, List.getElem?_cons_succ] at r0 r1
  exact ⟨r0, r1⟩
theorem tab_shape {w : World} {K N : Nat} {v : Value} {Ls : List (List Int)} (h : Tab w K v N Ls) : ∃ a c, v = .slice a Ls.length c := by
  obtain ⟨bs, _, h2, _⟩ := h
  obtain ⟨a, c, e, _⟩ := owns_shape h2
  exact ⟨a, c, e⟩
theorem dright_at (n : Int) (a : Option Addr) (l : List Ar) (c : Nat) (N A : Int) (w : World) (hA : Arcs w a l) : Calls Try.prog 31 #[.agg #[.int .i64 n, .slice a l.length c], .int .i64 N, .int .i64 A] w fun e w' => e = .returned (.bool (rightB n l N A)) ∧ Below w.heap.size w w' := by
  obtain ⟨w1, hw1⟩ : ∃ w1, w1 = w.alloc (.cells #[.int .i64 n, .slice a l.length c] 24) := ⟨_, rfl⟩
  have hb1 : Below w.heap.size w w1 := by rw [hw1]; exact (Below.refl _ _).alloc (Nat.le_refl _) _
  have HA := Lib.hid (And.intro (right_any n a l c N A w1 (hA.under hb1)) hb1)
  have HW := Lib.hid hw1
  clear hw1 hb1 hA
  go_enter Try.func31, Try.ntmps31
  go_wp2_with (first | (go_at_call 29; rw [← HW.out]; refine HA.out.1.mono ?_; rintro e w2 ⟨rfl, hb2⟩; have HB := Lib.hid (HA.out.2.trans (hb2.mono HA.out.2.size)); clear hb2))
  go_ret
  exact ⟨rfl, HB.out⟩
set_option maxRecDepth 100000 in
set_option maxHeartbeats 8000000 in
theorem dall_walk (n : Int) (a : Option Addr) (l : List Ar) (c : Nat) (s t most : Int) (w : World) (hA : Arcs w a l) :
    Calls Try.prog 9 #[mV n a l.length c, .int .i64 s, .int .i64 t, .int .i64 most] w fun e w' => e = .returned (.bool true) ∧ Below w.heap.size w w' := by
  show Calls Try.prog 9 #[.agg #[.int .i64 n, .slice a l.length c], .int .i64 s, .int .i64 t, .int .i64 most] w _
  obtain ⟨w1, hw1⟩ : ∃ w1, w1 = w.alloc (.cells #[.int .i64 n, .slice a l.length c] 24) := ⟨_, rfl⟩
  have H1 := Lib.hid (show Mz w n a l c none [] w1 by rw [hw1]; exact Mz.start hA (.inl rfl))
  have HW := Lib.hid hw1
  clear hw1 hA
  obtain ⟨R, hR⟩ : ∃ R, R = smallB n l.length 30 80 := ⟨_, rfl⟩
  have HR := Lib.hid hR
  cases R with
  | false =>
    clear hR
    go_enter Try.func9, Try.ntmps9
    go_wp2_with (first
      | (go_at_call 16; rw [← HW.out]; refine (small_any n a l.length c 30 80 _).mono ?_; rintro e w2 ⟨rfl, hb2⟩; rw [← HR.out]; have H2 := Lib.hid (H1.out.next hb2); clear hb2)
      | (go_at_call 30; refine (dknown_any _).mono ?_; rintro e w3 ⟨rfl, hb3⟩; have H3 := Lib.hid (H2.out.next hb3); clear hb3))
    go_ret
    exact ⟨rfl, H3.out.bw⟩
  | true =>
    by_cases hck : checkL n l = 0
    · have HRi := Lib.hid (show rightB n l 30 80 = true by unfold rightB; rw [← hR]; simpa using hck)
      obtain ⟨N, rfl, hN, hll, hok, hln⟩ := checkL_zero hck
      obtain ⟨Lf, hLf⟩ := Classical.axiomOfChoice (fun s => FarL.ex (N := N) (eds_arc hok hln) s)
      have HLf := Lib.hid hLf
      have HFa := Lib.hid (rowI_far hLf)
      have HFb := Lib.hid (col_far hLf)
      have HLe := Lib.hid (fun s => show (rowI Lf N s).length ≤ 16777216 from Nat.le_trans (rowI_far hLf s).len hN)
      have HLe2 := Lib.hid (fun s => show (colI Lf N s).length ≤ 16777216 from Nat.le_trans (col_far hLf s).len hN)
      have HLe3 := Lib.hid (fun s m => show (aroundL (rowI Lf N s) m).length ≤ 16777216 from Nat.le_trans (around_le _ m) (Nat.le_trans (rowI_far hLf s).len hN))
      have HCk := Lib.hid (And.intro hck hN)
      clear hck hN hll hok hln hLf hR
      go_enter Try.func9, Try.ntmps9
      go_upto_region 7 with (first
        | (go_at_call 16; rw [← HW.out]; refine (small_any N a l.length c 30 80 _).mono ?_; rintro e w2 ⟨rfl, hb2⟩; rw [← HR.out]; have H2 := Lib.hid (H1.out.next hb2); have r0 := H2.out.cells.1; have r1 := H2.out.cells.2; clear hb2)
        | (go_at_call 18; refine (new_any H2.out.arcs HCk.out.1).mono ?_; rintro e w3 ⟨g, rfl, hb3, hg⟩; have H3 := Lib.hid (And.intro (H2.out.next hb3) (gv_of HCk.out.1 hg)); clear r0 r1; have r0 := H3.out.1.cells.1; have r1 := H3.out.1.cells.2; clear hb3 hg)
        | (go_at_call 31; refine (dright_at N a l c 30 80 _ H3.out.1.arcs).mono ?_; rintro e w4 ⟨rfl, hb4⟩; rw [HRi.out]; have H4 := Lib.hid (And.intro (H3.out.1.next hb4) (H3.out.2.next (Nat.le_refl _) hb4)); clear r0 r1; have r0 := H4.out.1.cells.1; have r1 := H4.out.1.cells.2; clear hb4)
        | (go_at_call 35; refine (all_any N a l c _ H4.out.1.arcs HCk.out.1 Lf HLf.out).mono ?_; rintro e w5 ⟨hb5, v, rfl, htab⟩; obtain ⟨av, cv, hvv⟩ := tab_shape htab; rw [List.length_map, List.length_range] at hvv; subst hvv; have H5 := Lib.hid (show Fz w N a l c g w3.heap.size av cv w4.heap.size Lf w5 from ⟨(H4.out.1.next hb5).row, (H4.out.1.next hb5).arcs, (H4.out.2.1.next H4.out.2.2 hb5).1, (H4.out.2.1.next H4.out.2.2 hb5).2, ⟨htab, fun s => (HLf.out s).1, HCk.out.2⟩, (H4.out.1.next hb5).bw⟩); clear hb5 htab r0 r1))
      have HZ := H5
      clear H5
      refine wp_region_held_drew (S := fun W => W.cell? ⟨w.heap.size, 0, none⟩ = some (.int .i64 (N : Nat)) ∧ W.cell? ⟨w.heap.size, 1, none⟩ = some (.slice a l.length c)) (by kernel_rfl) (HZ.out.next (Below.refl _ _).drew).cells (fun hHeld => ?_)
      have HZ2 := Lib.hid (HZ.out.next (Below.refl _ _).drew)
      clear HZ
      have HZ := HZ2
      clear HZ2
      refine wpAnyH_take (i := 0) (oi := ⟨some 46, _, _, _, _, _⟩) (v := ?_) rfl (by kernel_rfl) (by kernel_rfl) (by kernel_rfl) (fun _ _ _ h => h) (Or.inl ⟨by rfl, ?_⟩) hHeld ?_
      rotate_left
      · intro W hSw
        obtain ⟨s0, s1⟩ := hSw
        go_simp
        with_reducible rfl
      simp only [Act.put, List.setIfInBounds_toArray, List.set_cons_zero, List.set_cons_succ]
      refine wpAnyH_take (i := 1) (oi := ⟨some 47, _, _, _, _, _⟩) (v := ?_) rfl (by kernel_rfl) (by kernel_rfl) (by kernel_rfl) (fun _ _ _ h => h) (Or.inl ⟨by rfl, ?_⟩) hHeld ?_
      rotate_left
      · intro W hSw
        obtain ⟨s0, s1⟩ := hSw
        go_simp
        with_reducible rfl
      simp only [Act.put, List.setIfInBounds_toArray, List.set_cons_zero, List.set_cons_succ]
      refine wpAnyH_take (i := 3) (oi := ⟨some 49, _, _, _, _, _⟩) (v := ?_) rfl (by kernel_rfl) (by kernel_rfl) (by kernel_rfl) (fun _ _ _ h => h) (Or.inl ⟨by rfl, ?_⟩) hHeld ?_
      rotate_left
      · intro W hSw
        obtain ⟨s0, s1⟩ := hSw
        go_simp
        with_reducible rfl
      simp only [Act.put, List.setIfInBounds_toArray, List.set_cons_zero, List.set_cons_succ]
      refine wpAnyH_take (i := 4) (oi := ⟨some 50, _, _, _, _, _⟩) (v := ?_) rfl (by kernel_rfl) (by kernel_rfl) (by kernel_rfl) (fun _ _ _ h => h) (Or.inl ⟨by rfl, ?_⟩) hHeld ?_
      rotate_left
      · intro W hSw
        obtain ⟨s0, s1⟩ := hSw
        go_simp
        with_reducible rfl
      simp only [Act.put, List.setIfInBounds_toArray, List.set_cons_zero, List.set_cons_succ]
      refine wpAnyH_ready (rs := [2]) (by kernel_rfl) (by simp) ?_
      refine (AllReadyH.cons (o := ⟨some 48, _, _, _, _, _⟩) rfl (fun K hK => ?_) AllReadyH.nil)
      go_simp
      refine (dfrom_any HZ.out.gv HZ.out.hB (HFa.out s)).mono ?_
      rintro e W' ⟨hb, xv, rfl, hx⟩
      obtain ⟨aA, cA, rfl, hzA, _, _⟩ := IsV.shape hx
      have HZA := Lib.hid hzA
      clear hx hzA
      have HZ2 := Lib.hid (HZ.out.next hb)
      refine hK.out _ _ HZ2.out.cells (fun hHeld2 => ?_)
      clear hK hHeld
      have hHeld := hHeld2
      clear hHeld2
      clear HZ
      have HZ := HZ2
      clear HZ2
      clear hb
      refine wpAnyH_ready (rs := [5]) (by kernel_rfl) (by simp) ?_
      refine (AllReadyH.cons (o := ⟨some 51, _, _, _, _, _⟩) rfl (fun K hK => ?_) AllReadyH.nil)
      go_simp
      refine (rfrom_any HZ.out.tab s).mono ?_
      rintro e W' ⟨hw, aB, cB, rfl, hzB⟩
      have hb := below_of hw
      have HZB := Lib.hid (hw ▸ hzB)
      clear hzB hw
      have HZ2 := Lib.hid (HZ.out.next hb)
      refine hK.out _ _ HZ2.out.cells (fun hHeld2 => ?_)
      clear hK hHeld
      have hHeld := hHeld2
      clear hHeld2
      clear HZ
      have HZ := HZ2
      clear HZ2
      have HZA2 := Lib.hid (HZA.out.under hb)
      clear HZA
      have HZA := HZA2
      clear HZA2
      clear hb
      refine wpAnyH_ready (rs := [6]) (by kernel_rfl) (by simp) ?_
      refine (AllReadyH.cons (o := ⟨some 52, _, _, _, _, _⟩) rfl (fun K hK => ?_) AllReadyH.nil)
      go_simp
      refine (same_any7 HZA.out HZB.out (HLe.out s)).mono ?_
      rintro e W' ⟨rfl, hb⟩
      have HZ2 := Lib.hid (HZ.out.next hb)
      refine hK.out _ _ HZ2.out.cells (fun hHeld2 => ?_)
      clear hK hHeld
      have hHeld := hHeld2
      clear hHeld2
      clear HZ
      have HZ := HZ2
      clear HZ2
      clear hb
      clear HZA HZB
      refine wpAnyH_take (i := 7) (oi := ⟨some 53, _, _, _, _, _⟩) (v := ?_) rfl (by kernel_rfl) (by kernel_rfl) (by kernel_rfl) (fun _ _ _ h => h) (Or.inl ⟨by rfl, ?_⟩) hHeld ?_
      rotate_left
      · intro W hSw
        obtain ⟨s0, s1⟩ := hSw
        go_simp
        with_reducible rfl
      simp only [Act.put, List.setIfInBounds_toArray, List.set_cons_zero, List.set_cons_succ]
      refine wpAnyH_take (i := 8) (oi := ⟨some 54, _, _, _, _, _⟩) (v := ?_) rfl (by kernel_rfl) (by kernel_rfl) (by kernel_rfl) (fun _ _ _ h => h) (Or.inl ⟨by rfl, ?_⟩) hHeld ?_
      rotate_left
      · intro W hSw
        obtain ⟨s0, s1⟩ := hSw
        go_simp
        with_reducible rfl
      simp only [Act.put, List.setIfInBounds_toArray, List.set_cons_zero, List.set_cons_succ]
      refine wpAnyH_take (i := 9) (oi := ⟨some 55, _, _, _, _, _⟩) (v := ?_) rfl (by kernel_rfl) (by kernel_rfl) (by kernel_rfl) (fun _ _ _ h => h) (Or.inl ⟨by rfl, ?_⟩) hHeld ?_
      rotate_left
      · intro W hSw
        obtain ⟨s0, s1⟩ := hSw
        go_simp
        with_reducible rfl
      simp only [Act.put, List.setIfInBounds_toArray, List.set_cons_zero, List.set_cons_succ]
      refine wpAnyH_take (i := 11) (oi := ⟨some 57, _, _, _, _, _⟩) (v := ?_) rfl (by kernel_rfl) (by kernel_rfl) (by kernel_rfl) (fun _ _ _ h => h) (Or.inl ⟨by rfl, ?_⟩) hHeld ?_
      rotate_left
      · intro W hSw
        obtain ⟨s0, s1⟩ := hSw
        go_simp
        with_reducible rfl
      simp only [Act.put, List.setIfInBounds_toArray, List.set_cons_zero, List.set_cons_succ]
      refine wpAnyH_take (i := 12) (oi := ⟨some 58, _, _, _, _, _⟩) (v := ?_) rfl (by kernel_rfl) (by kernel_rfl) (by kernel_rfl) (fun _ _ _ h => h) (Or.inl ⟨by rfl, ?_⟩) hHeld ?_
      rotate_left
      · intro W hSw
        obtain ⟨s0, s1⟩ := hSw
        go_simp
        with_reducible rfl
      simp only [Act.put, List.setIfInBounds_toArray, List.set_cons_zero, List.set_cons_succ]
      refine wpAnyH_ready (rs := [10]) (by kernel_rfl) (by simp) ?_
      refine (AllReadyH.cons (o := ⟨some 56, _, _, _, _, _⟩) rfl (fun K hK => ?_) AllReadyH.nil)
      go_simp
      refine (dto_any HZ.out.gv HZ.out.hB (HFb.out t)).mono ?_
      rintro e W' ⟨hb, xv, rfl, hx⟩
      obtain ⟨aA, cA, rfl, hzA, _, _⟩ := IsV.shape hx
      have HZA := Lib.hid hzA
      clear hx hzA
      have HZ2 := Lib.hid (HZ.out.next hb)
      refine hK.out _ _ HZ2.out.cells (fun hHeld2 => ?_)
      clear hK hHeld
      have hHeld := hHeld2
      clear hHeld2
      clear HZ
      have HZ := HZ2
      clear HZ2
      clear hb
      refine wpAnyH_ready (rs := [13]) (by kernel_rfl) (by simp) ?_
      refine (AllReadyH.cons (o := ⟨some 59, _, _, _, _, _⟩) rfl (fun K hK => ?_) AllReadyH.nil)
      go_simp
      refine (rto_any HZ.out.tab t).mono ?_
      rintro e W' ⟨hb, xv, rfl, hx⟩
      obtain ⟨aB, cB, rfl, hzB, _, _⟩ := IsV.shape hx
      have HZB := Lib.hid hzB
      clear hx hzB
      have HZ2 := Lib.hid (HZ.out.next hb)
      refine hK.out _ _ HZ2.out.cells (fun hHeld2 => ?_)
      clear hK hHeld
      have hHeld := hHeld2
      clear hHeld2
      clear HZ
      have HZ := HZ2
      clear HZ2
      have HZA2 := Lib.hid (HZA.out.under hb)
      clear HZA
      have HZA := HZA2
      clear HZA2
      clear hb
      refine wpAnyH_ready (rs := [14]) (by kernel_rfl) (by simp) ?_
      refine (AllReadyH.cons (o := ⟨some 60, _, _, _, _, _⟩) rfl (fun K hK => ?_) AllReadyH.nil)
      go_simp
      refine (same_any7 HZA.out HZB.out (HLe2.out t)).mono ?_
      rintro e W' ⟨rfl, hb⟩
      have HZ2 := Lib.hid (HZ.out.next hb)
      refine hK.out _ _ HZ2.out.cells (fun hHeld2 => ?_)
      clear hK hHeld
      have hHeld := hHeld2
      clear hHeld2
      clear HZ
      have HZ := HZ2
      clear HZ2
      clear hb
      clear HZA HZB
      refine wpAnyH_take (i := 15) (oi := ⟨some 61, _, _, _, _, _⟩) (v := ?_) rfl (by kernel_rfl) (by kernel_rfl) (by kernel_rfl) (fun _ _ _ h => h) (Or.inl ⟨by rfl, ?_⟩) hHeld ?_
      rotate_left
      · intro W hSw
        obtain ⟨s0, s1⟩ := hSw
        go_simp
        with_reducible rfl
      simp only [Act.put, List.setIfInBounds_toArray, List.set_cons_zero, List.set_cons_succ]
      refine wpAnyH_take (i := 16) (oi := ⟨some 62, _, _, _, _, _⟩) (v := ?_) rfl (by kernel_rfl) (by kernel_rfl) (by kernel_rfl) (fun _ _ _ h => h) (Or.inl ⟨by rfl, ?_⟩) hHeld ?_
      rotate_left
      · intro W hSw
        obtain ⟨s0, s1⟩ := hSw
        go_simp
        with_reducible rfl
      simp only [Act.put, List.setIfInBounds_toArray, List.set_cons_zero, List.set_cons_succ]
      refine wpAnyH_take (i := 17) (oi := ⟨some 63, _, _, _, _, _⟩) (v := ?_) rfl (by kernel_rfl) (by kernel_rfl) (by kernel_rfl) (fun _ _ _ h => h) (Or.inl ⟨by rfl, ?_⟩) hHeld ?_
      rotate_left
      · intro W hSw
        obtain ⟨s0, s1⟩ := hSw
        go_simp
        with_reducible rfl
      simp only [Act.put, List.setIfInBounds_toArray, List.set_cons_zero, List.set_cons_succ]
      refine wpAnyH_take (i := 18) (oi := ⟨some 64, _, _, _, _, _⟩) (v := ?_) rfl (by kernel_rfl) (by kernel_rfl) (by kernel_rfl) (fun _ _ _ h => h) (Or.inl ⟨by rfl, ?_⟩) hHeld ?_
      rotate_left
      · intro W hSw
        obtain ⟨s0, s1⟩ := hSw
        go_simp
        with_reducible rfl
      simp only [Act.put, List.setIfInBounds_toArray, List.set_cons_zero, List.set_cons_succ]
      refine wpAnyH_take (i := 19) (oi := ⟨some 65, _, _, _, _, _⟩) (v := ?_) rfl (by kernel_rfl) (by kernel_rfl) (by kernel_rfl) (fun _ _ _ h => h) (Or.inl ⟨by rfl, ?_⟩) hHeld ?_
      rotate_left
      · intro W hSw
        obtain ⟨s0, s1⟩ := hSw
        go_simp
        with_reducible rfl
      simp only [Act.put, List.setIfInBounds_toArray, List.set_cons_zero, List.set_cons_succ]
      refine wpAnyH_take (i := 21) (oi := ⟨some 67, _, _, _, _, _⟩) (v := ?_) rfl (by kernel_rfl) (by kernel_rfl) (by kernel_rfl) (fun _ _ _ h => h) (Or.inl ⟨by rfl, ?_⟩) hHeld ?_
      rotate_left
      · intro W hSw
        obtain ⟨s0, s1⟩ := hSw
        go_simp
        with_reducible rfl
      simp only [Act.put, List.setIfInBounds_toArray, List.set_cons_zero, List.set_cons_succ]
      refine wpAnyH_take (i := 22) (oi := ⟨some 68, _, _, _, _, _⟩) (v := ?_) rfl (by kernel_rfl) (by kernel_rfl) (by kernel_rfl) (fun _ _ _ h => h) (Or.inl ⟨by rfl, ?_⟩) hHeld ?_
      rotate_left
      · intro W hSw
        obtain ⟨s0, s1⟩ := hSw
        go_simp
        with_reducible rfl
      simp only [Act.put, List.setIfInBounds_toArray, List.set_cons_zero, List.set_cons_succ]
      refine wpAnyH_take (i := 23) (oi := ⟨some 69, _, _, _, _, _⟩) (v := ?_) rfl (by kernel_rfl) (by kernel_rfl) (by kernel_rfl) (fun _ _ _ h => h) (Or.inl ⟨by rfl, ?_⟩) hHeld ?_
      rotate_left
      · intro W hSw
        obtain ⟨s0, s1⟩ := hSw
        go_simp
        with_reducible rfl
      simp only [Act.put, List.setIfInBounds_toArray, List.set_cons_zero, List.set_cons_succ]
      refine wpAnyH_ready (rs := [20]) (by kernel_rfl) (by simp) ?_
      refine (AllReadyH.cons (o := ⟨some 66, _, _, _, _, _⟩) rfl (fun K hK => ?_) AllReadyH.nil)
      go_simp
      refine (between_any HZ.out.gv HZ.out.hB (HFa.out s)).mono ?_
      rintro e W' ⟨rfl, hb⟩
      have HZ2 := Lib.hid (HZ.out.next hb)
      refine hK.out _ _ HZ2.out.cells (fun hHeld2 => ?_)
      clear hK hHeld
      have hHeld := hHeld2
      clear hHeld2
      clear HZ
      have HZ := HZ2
      clear HZ2
      clear hb
      refine wpAnyH_ready (rs := [24]) (by kernel_rfl) (by simp) ?_
      refine (AllReadyH.cons (o := ⟨some 70, _, _, _, _, _⟩) rfl (fun K hK => ?_) AllReadyH.nil)
      go_simp
      refine (rbetween_any HZ.out.tab s t).mono ?_
      rintro e W' ⟨rfl, hw⟩
      have hb := below_of hw
      clear hw
      have HZ2 := Lib.hid (HZ.out.next hb)
      refine hK.out _ _ HZ2.out.cells (fun hHeld2 => ?_)
      clear hK hHeld
      have hHeld := hHeld2
      clear hHeld2
      clear HZ
      have HZ := HZ2
      clear HZ2
      clear hb
      refine wpAnyH_take (i := 25) (oi := ⟨some 71, _, _, _, _, _⟩) (v := ?_) rfl (by kernel_rfl) (by kernel_rfl) (by kernel_rfl) (fun _ _ _ h => h) (Or.inl ⟨by rfl, ?_⟩) hHeld ?_
      rotate_left
      · intro W hSw
        obtain ⟨s0, s1⟩ := hSw
        go_simp
        with_reducible rfl
      simp only [Act.put, List.setIfInBounds_toArray, List.set_cons_zero, List.set_cons_succ]
      refine wpAnyH_take (i := 26) (oi := ⟨some 72, _, _, _, _, _⟩) (v := ?_) rfl (by kernel_rfl) (by kernel_rfl) (by kernel_rfl) (fun _ _ _ h => h) (Or.inl ⟨by rfl, ?_⟩) hHeld ?_
      rotate_left
      · intro W hSw
        obtain ⟨s0, s1⟩ := hSw
        go_simp
        with_reducible rfl
      simp only [Act.put, List.setIfInBounds_toArray, List.set_cons_zero, List.set_cons_succ]
      refine wpAnyH_take (i := 27) (oi := ⟨some 73, _, _, _, _, _⟩) (v := ?_) rfl (by kernel_rfl) (by kernel_rfl) (by kernel_rfl) (fun _ _ _ h => h) (Or.inl ⟨by rfl, ?_⟩) hHeld ?_
      rotate_left
      · intro W hSw
        obtain ⟨s0, s1⟩ := hSw
        go_simp
        with_reducible rfl
      simp only [Act.put, List.setIfInBounds_toArray, List.set_cons_zero, List.set_cons_succ]
      refine wpAnyH_take (i := 28) (oi := ⟨some 74, _, _, _, _, _⟩) (v := ?_) rfl (by kernel_rfl) (by kernel_rfl) (by kernel_rfl) (fun _ _ _ h => h) (Or.inl ⟨by rfl, ?_⟩) hHeld ?_
      rotate_left
      · intro W hSw
        obtain ⟨s0, s1⟩ := hSw
        go_simp
        with_reducible rfl
      simp only [Act.put, List.setIfInBounds_toArray, List.set_cons_zero, List.set_cons_succ]
      refine wpAnyH_take (i := 29) (oi := ⟨some 75, _, _, _, _, _⟩) (v := ?_) rfl (by kernel_rfl) (by kernel_rfl) (by kernel_rfl) (fun _ _ _ h => h) (Or.inl ⟨by rfl, ?_⟩) hHeld ?_
      rotate_left
      · intro W hSw
        obtain ⟨s0, s1⟩ := hSw
        go_simp
        with_reducible rfl
      simp only [Act.put, List.setIfInBounds_toArray, List.set_cons_zero, List.set_cons_succ]
      refine wpAnyH_take (i := 30) (oi := ⟨some 76, _, _, _, _, _⟩) (v := ?_) rfl (by kernel_rfl) (by kernel_rfl) (by kernel_rfl) (fun _ _ _ h => h) (Or.inl ⟨by rfl, ?_⟩) hHeld ?_
      rotate_left
      · intro W hSw
        obtain ⟨s0, s1⟩ := hSw
        go_simp
        with_reducible rfl
      simp only [Act.put, List.setIfInBounds_toArray, List.set_cons_zero, List.set_cons_succ]
      refine wpAnyH_take (i := 32) (oi := ⟨some 78, _, _, _, _, _⟩) (v := ?_) rfl (by kernel_rfl) (by kernel_rfl) (by kernel_rfl) (fun _ _ _ h => h) (Or.inl ⟨by rfl, ?_⟩) hHeld ?_
      rotate_left
      · intro W hSw
        obtain ⟨s0, s1⟩ := hSw
        go_simp
        with_reducible rfl
      simp only [Act.put, List.setIfInBounds_toArray, List.set_cons_zero, List.set_cons_succ]
      refine wpAnyH_take (i := 33) (oi := ⟨some 79, _, _, _, _, _⟩) (v := ?_) rfl (by kernel_rfl) (by kernel_rfl) (by kernel_rfl) (fun _ _ _ h => h) (Or.inl ⟨by rfl, ?_⟩) hHeld ?_
      rotate_left
      · intro W hSw
        obtain ⟨s0, s1⟩ := hSw
        go_simp
        with_reducible rfl
      simp only [Act.put, List.setIfInBounds_toArray, List.set_cons_zero, List.set_cons_succ]
      refine wpAnyH_take (i := 34) (oi := ⟨some 80, _, _, _, _, _⟩) (v := ?_) rfl (by kernel_rfl) (by kernel_rfl) (by kernel_rfl) (fun _ _ _ h => h) (Or.inl ⟨by rfl, ?_⟩) hHeld ?_
      rotate_left
      · intro W hSw
        obtain ⟨s0, s1⟩ := hSw
        go_simp
        with_reducible rfl
      simp only [Act.put, List.setIfInBounds_toArray, List.set_cons_zero, List.set_cons_succ]
      refine wpAnyH_ready (rs := [31]) (by kernel_rfl) (by simp) ?_
      refine (AllReadyH.cons (o := ⟨some 77, _, _, _, _, _⟩) rfl (fun K hK => ?_) AllReadyH.nil)
      go_simp
      refine (around_any HZ.out.gv HZ.out.hB (HFa.out s)).mono ?_
      rintro e W' ⟨hb, xv, rfl, hx⟩
      obtain ⟨aA, cA, rfl, hzA, _, _⟩ := IsV.shape hx
      have HZA := Lib.hid hzA
      clear hx hzA
      have HZ2 := Lib.hid (HZ.out.next hb)
      refine hK.out _ _ HZ2.out.cells (fun hHeld2 => ?_)
      clear hK hHeld
      have hHeld := hHeld2
      clear hHeld2
      clear HZ
      have HZ := HZ2
      clear HZ2
      clear hb
      refine wpAnyH_ready (rs := [35]) (by kernel_rfl) (by simp) ?_
      refine (AllReadyH.cons (o := ⟨some 81, _, _, _, _, _⟩) rfl (fun K hK => ?_) AllReadyH.nil)
      go_simp
      refine (raround_any HZ.out.tab s most).mono ?_
      rintro e W' ⟨hb, xv, rfl, hx⟩
      obtain ⟨aB, cB, rfl, hzB, _, _⟩ := IsV.shape hx
      have HZB := Lib.hid hzB
      clear hx hzB
      have HZ2 := Lib.hid (HZ.out.next hb)
      refine hK.out _ _ HZ2.out.cells (fun hHeld2 => ?_)
      clear hK hHeld
      have hHeld := hHeld2
      clear hHeld2
      clear HZ
      have HZ := HZ2
      clear HZ2
      have HZA2 := Lib.hid (HZA.out.under hb)
      clear HZA
      have HZA := HZA2
      clear HZA2
      clear hb
      refine wpAnyH_ready (rs := [36]) (by kernel_rfl) (by simp) ?_
      refine (AllReadyH.cons (o := ⟨some 82, _, _, _, _, _⟩) rfl (fun K hK => ?_) AllReadyH.nil)
      go_simp
      refine (same_any7 HZA.out HZB.out (HLe3.out s most)).mono ?_
      rintro e W' ⟨rfl, hb⟩
      have HZ2 := Lib.hid (HZ.out.next hb)
      refine hK.out _ _ HZ2.out.cells (fun hHeld2 => ?_)
      clear hK hHeld
      have hHeld := hHeld2
      clear hHeld2
      clear HZ
      have HZ := HZ2
      clear HZ2
      clear hb
      clear HZA HZB
      refine wpAnyH_take (i := 37) (oi := ⟨some 83, _, _, _, _, _⟩) (v := ?_) rfl (by kernel_rfl) (by kernel_rfl) (by kernel_rfl) (fun _ _ _ h => h) (Or.inl ⟨by rfl, ?_⟩) hHeld ?_
      rotate_left
      · intro W hSw
        obtain ⟨s0, s1⟩ := hSw
        go_simp
        with_reducible rfl
      simp only [Act.put, List.setIfInBounds_toArray, List.set_cons_zero, List.set_cons_succ]
      refine wpAnyH_take (i := 38) (oi := ⟨some 84, _, _, _, _, _⟩) (v := ?_) rfl (by kernel_rfl) (by kernel_rfl) (by kernel_rfl) (fun _ _ _ h => h) (Or.inl ⟨by rfl, ?_⟩) hHeld ?_
      rotate_left
      · intro W hSw
        obtain ⟨s0, s1⟩ := hSw
        go_simp
        with_reducible rfl
      simp only [Act.put, List.setIfInBounds_toArray, List.set_cons_zero, List.set_cons_succ]
      refine wpAnyH_take (i := 39) (oi := ⟨some 85, _, _, _, _, _⟩) (v := ?_) rfl (by kernel_rfl) (by kernel_rfl) (by kernel_rfl) (fun _ _ _ h => h) (Or.inl ⟨by rfl, ?_⟩) hHeld ?_
      rotate_left
      · intro W hSw
        obtain ⟨s0, s1⟩ := hSw
        go_simp
        with_reducible rfl
      simp only [Act.put, List.setIfInBounds_toArray, List.set_cons_zero, List.set_cons_succ]
      refine wpAnyH_take (i := 41) (oi := ⟨some 87, _, _, _, _, _⟩) (v := ?_) rfl (by kernel_rfl) (by kernel_rfl) (by kernel_rfl) (fun _ _ _ h => h) (Or.inl ⟨by rfl, ?_⟩) hHeld ?_
      rotate_left
      · intro W hSw
        obtain ⟨s0, s1⟩ := hSw
        go_simp
        with_reducible rfl
      simp only [Act.put, List.setIfInBounds_toArray, List.set_cons_zero, List.set_cons_succ]
      refine wpAnyH_ready (rs := [40]) (by kernel_rfl) (by simp) ?_
      refine (AllReadyH.cons (o := ⟨some 86, _, _, _, _, _⟩) rfl (fun K hK => ?_) AllReadyH.nil)
      go_simp
      refine (total_any _ _ _ _ _ HZ.out.arcs).mono ?_
      rintro e W' ⟨rfl, hb⟩
      have HZ2 := Lib.hid (HZ.out.next hb)
      refine hK.out _ _ HZ2.out.cells (fun hHeld2 => ?_)
      clear hK hHeld
      have hHeld := hHeld2
      clear hHeld2
      clear HZ
      have HZ := HZ2
      clear HZ2
      clear hb
      refine wpAnyH_ready (rs := [42]) (by kernel_rfl) (by simp) ?_
      refine (AllReadyH.cons (o := ⟨some 88, _, _, _, _, _⟩) rfl (fun K hK => ?_) AllReadyH.nil)
      go_simp
      refine (rtotal_any _ _ _ _ _ HZ.out.arcs).mono ?_
      rintro e W' ⟨rfl, hb⟩
      have HZ2 := Lib.hid (HZ.out.next hb)
      refine hK.out _ _ HZ2.out.cells (fun hHeld2 => ?_)
      clear hK hHeld
      have hHeld := hHeld2
      clear hHeld2
      clear HZ
      have HZ := HZ2
      clear HZ2
      clear hb
      refine wpAnyH_take (i := 43) (oi := ⟨some 89, _, _, _, _, _⟩) (v := ?_) rfl (by kernel_rfl) (by kernel_rfl) (by kernel_rfl) (fun _ _ _ h => h) (Or.inl ⟨by rfl, ?_⟩) hHeld ?_
      rotate_left
      · intro W hSw
        obtain ⟨s0, s1⟩ := hSw
        go_simp
        with_reducible rfl
      simp only [Act.put, List.setIfInBounds_toArray, List.set_cons_zero, List.set_cons_succ]
      refine wpAnyH_take (i := 44) (oi := ⟨some 90, _, _, _, _, _⟩) (v := ?_) rfl (by kernel_rfl) (by kernel_rfl) (by kernel_rfl) (fun _ _ _ h => h) (Or.inl ⟨by rfl, ?_⟩) hHeld ?_
      rotate_left
      · intro W hSw
        obtain ⟨s0, s1⟩ := hSw
        go_simp
        with_reducible rfl
      simp only [Act.put, List.setIfInBounds_toArray, List.set_cons_zero, List.set_cons_succ]
      refine wpAnyH_take (i := 45) (oi := ⟨some 91, _, _, _, _, _⟩) (v := ?_) rfl (by kernel_rfl) (by kernel_rfl) (by kernel_rfl) (fun _ _ _ h => h) (Or.inl ⟨by rfl, ?_⟩) hHeld ?_
      rotate_left
      · intro W hSw
        obtain ⟨s0, s1⟩ := hSw
        go_simp
        with_reducible rfl
      simp only [Act.put, List.setIfInBounds_toArray, List.set_cons_zero, List.set_cons_succ]
      refine wpAnyH_ready (rs := [46]) (by kernel_rfl) (by simp) ?_
      refine (AllReadyH.cons (o := ⟨some 92, _, _, _, _, _⟩) rfl (fun K hK => ?_) AllReadyH.nil)
      go_simp
      refine (dknown_any _).mono ?_
      rintro e W' ⟨rfl, hb⟩
      have HZ2 := Lib.hid (HZ.out.next hb)
      refine hK.out _ _ HZ2.out.cells (fun hHeld2 => ?_)
      clear hK hHeld
      have hHeld := hHeld2
      clear hHeld2
      clear HZ
      have HZ := HZ2
      clear HZ2
      clear hb
      refine wpAnyH_take (i := 47) (oi := ⟨some 93, _, _, _, _, _⟩) (v := ?_) rfl (by kernel_rfl) (by kernel_rfl) (by kernel_rfl) (fun _ _ _ h => h) (Or.inl ⟨by rfl, ?_⟩) hHeld ?_
      rotate_left
      · intro W hSw
        obtain ⟨s0, s1⟩ := hSw
        go_simp
        with_reducible rfl
      simp only [Act.put, List.setIfInBounds_toArray, List.set_cons_zero, List.set_cons_succ]
      refine wpAnyH_take (i := 48) (oi := ⟨some 8, _, _, _, _, _⟩) (v := ?_) rfl (by kernel_rfl) (by kernel_rfl) (by kernel_rfl) (fun _ _ _ h => h) (Or.inl ⟨by rfl, ?_⟩) hHeld ?_
      rotate_left
      · intro W hSw
        obtain ⟨s0, s1⟩ := hSw
        go_simp
        with_reducible rfl
      simp only [Act.put, List.setIfInBounds_toArray, List.set_cons_zero, List.set_cons_succ]
      refine wpAnyH_done (by kernel_rfl) ?_ _
      go_wp2
      go_ret
      exact ⟨rfl, HZ.out.bw⟩
    · have HRi := Lib.hid (show rightB n l 30 80 = false by unfold rightB; simp [hck])
      have htr : totalR n l = -1 := by unfold totalR; rw [if_neg hck]
      have HT := Lib.hid htr
      have HCk := Lib.hid hck
      have HGn := Lib.hid (fun (W : World) => show GV W 0 (.pointer none) 0 [] from .inl ⟨rfl, rfl, rfl⟩)
      have HFn := Lib.hid (fun (s : Int) => show FarI (arcE []) 0 s [] from .inr ⟨by omega, rfl⟩)
      have hat : atL [] t = -1 := by unfold atL; simp
      have HAt := Lib.hid hat
      clear hck htr hat hR
      go_enter Try.func9, Try.ntmps9
      go_wp2_with (first
        | (go_at_call 16; rw [← HW.out]; refine (small_any n a l.length c 30 80 _).mono ?_; rintro e w2 ⟨rfl, hb2⟩; rw [← HR.out]; have H2 := Lib.hid (H1.out.next hb2); have r0 := H2.out.cells.1; have r1 := H2.out.cells.2; clear hb2)
        | (go_at_call 18; refine (new_nil H2.out.arcs HCk.out).mono ?_; rintro e w3 ⟨rfl, hb3⟩; have H3 := Lib.hid (H2.out.next hb3); clear r0 r1; have r0 := H3.out.cells.1; have r1 := H3.out.cells.2; clear hb3)
        | (go_at_call 31; refine (dright_at n a l c 30 80 _ H3.out.arcs).mono ?_; rintro e w4 ⟨rfl, hb4⟩; rw [HRi.out]; have H4 := Lib.hid (H3.out.next hb4); clear r0 r1; have r0 := H4.out.cells.1; have r1 := H4.out.cells.2; clear hb4)
        | (go_at_call 32; refine (between_any (HGn.out _) (Nat.zero_le _) (HFn.out s)).mono ?_; rintro e w5 ⟨rfl, hb5⟩; rw [HAt.out]; have H5 := Lib.hid (H4.out.next hb5); clear r0 r1; have r0 := H5.out.cells.1; have r1 := H5.out.cells.2; clear hb5)
        | (go_at_call 33; refine (dfrom_any (HGn.out _) (Nat.zero_le _) (HFn.out s)).mono ?_; rintro e w6 ⟨hb6, xv, rfl, hx⟩; obtain ⟨ax, cx, rfl, _, _, _⟩ := IsV.shape hx; have H6 := Lib.hid (H5.out.next hb6); clear r0 r1 hx; have r0 := H6.out.cells.1; have r1 := H6.out.cells.2; clear hb6)
        | (go_at_call 34; refine (total_any _ _ _ _ _ H6.out.arcs).mono ?_; rintro e w7 ⟨rfl, hb7⟩; rw [HT.out]; have H7 := Lib.hid (H6.out.next hb7); clear hb7)
        | (go_at_call 30; refine (dknown_any _).mono ?_; rintro e w8 ⟨rfl, hb8⟩; have H8 := Lib.hid (H7.out.next hb8); clear hb8))
      go_ret
      exact ⟨rfl, H8.out.bw⟩
end Go.Proofs.Ythljgkaigjokjaa
