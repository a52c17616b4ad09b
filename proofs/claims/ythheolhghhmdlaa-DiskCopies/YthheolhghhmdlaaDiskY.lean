/- The document's disk: with a file. -/
import Derived.Test.YthheolhghhmdlaaDiskX
import Derived.BigQuiet
namespace Go.Proofs.Ythheolhghhmdlaa
open Go.RowKit Dsk

theorem less_before : ∀ (x y : List UInt8), Op.bytesLess x y = bytesBefore x y
  | [], [] => rfl
  | _ :: _, [] => rfl
  | [], _ :: _ => rfl
  | a :: x, b :: y => by
    simp only [Op.bytesLess, bytesBefore]
    rw [less_before x y]
/-- What the loop of with keeps: the disk in the making lies in block n + 1. -/
def WiR (w6 : World) (n : Nat) (room : Int) (r : Rf) (rse : List Rf) (j : Nat) (wr : World) : Prop :=
  ∃ a c, Row wr (n + 1) 27 #[.int .i64 room, .slice a (outL r (rse.take j)).length c] ∧ FV wr (n + 2) (.slice a (outL r (rse.take j)).length c) (outL r (rse.take j)) ∧ Only (fun k => k = n + 1 ∨ n + 2 ≤ k) w6 wr
/-- What lies beside it. -/
structure WiB (w w4 : World) (room : Int) (fvv wvv : Value) (nm : Nm) (ae : Option Addr) (ce : Nat) (rse : List Rf) (T : Nat → Prop) (wr : World) : Prop where
  lt : w.heap.size + 3 ≤ w4.heap.size
  r5 : Row wr w4.heap.size 27 #[.int .i64 room, .slice ae rse.length ce]
  rf : Row wr (w.heap.size + 1) 73 #[.string ⟨nm.toArray⟩, fvv, wvv]
  rr : Row wr (w.heap.size + 1 + 1) 27 #[.int .i64 0, .slice none 0 0]
  fs : Fs3 wr T ae rse
  tl : ∀ k, T k → k < w4.heap.size
  back : Below w.heap.size w wr
theorem WiB.only {w w4 wr wy : World} {room : Int} {fvv wvv : Value} {nm : Nm} {ae : Option Addr} {ce : Nat} {rse : List Rf} {T : Nat → Prop} (h : WiB w w4 room fvv wvv nm ae ce rse T wr) (ho : Only (fun k => k = w4.heap.size + 1 ∨ w4.heap.size + 2 ≤ k) wr wy) : WiB w w4 room fvv wvv nm ae ce rse T wy := by
  have hl := h.lt
  have h5 := h.r5.lt
  refine ⟨hl, h.r5.only ho (by omega), h.rf.only ho (by omega), h.rr.only ho (by omega), h.fs.kept ⟨fun k hk => ho.block k (by have := h.tl k hk; omega) (by have := h.tl k hk; omega), ho.size⟩, h.tl, h.back.trans (ho.below (K := w.heap.size) (fun k hk => by omega) h.back.size)⟩
theorem with_end {w w4 wf : World} {room : Int} {fvv wvv : Value} {nm : Nm} {ae a : Option Addr} {ce c m : Nat} {rse L : List Rf} {T T' : Nat → Prop} (h : WiB w w4 room fvv wvv nm ae ce rse T' wf) (hfv : FV wf (w4.heap.size + 2) (.slice a m c) L) (hm : m = L.length) (hT : ∀ k, T k → k < w.heap.size) (hok : ∀ x ∈ L, x.ok w T) :
    RDisk w T room L (dV room a m c) ((wf.setCell ⟨w.heap.size + 1 + 1, 0, none⟩ (.int .i64 room)).setCell ⟨w.heap.size + 1 + 1, 1, none⟩ (.slice a m c)) := by
  have hl := h.lt
  have hb5 : Below w.heap.size w ((wf.setCell ⟨w.heap.size + 1 + 1, 0, none⟩ (.int .i64 room)).setCell ⟨w.heap.size + 1 + 1, 1, none⟩ (.slice a m c)) := (h.back.setCell (by show w.heap.size ≤ w.heap.size + 1 + 1; omega) _).setCell (by show w.heap.size ≤ w.heap.size + 1 + 1; omega) _
  have hi5 : FV ((wf.setCell ⟨w.heap.size + 1 + 1, 0, none⟩ (.int .i64 room)).setCell ⟨w.heap.size + 1 + 1, 1, none⟩ (.slice a m c)) (w4.heap.size + 2) (.slice a m c) L := ownsRow_same hfv fun k hk => by
    have := (World.ownsRow.lt hfv k hk).1
    exact (Below.heap_setCell _ _ _ _ (fun e => by have e' : k = w.heap.size + 1 + 1 := e; omega)).trans (Below.heap_setCell _ _ _ _ (fun e => by have e' : k = w.heap.size + 1 + 1 := e; omega))
  exact ⟨a, c, by rw [hm], hi5.fs3 (fun r hr => ((hok r hr).kept (kept_below hT hb5)).mono fun k hk => .inl hk) (fun k h1 h2 => .inr ⟨by omega, h2⟩), hb5⟩
set_option maxRecDepth 100000 in
set_option maxHeartbeats 2000000 in
theorem rwith_any {w : World} {T : Nat → Prop} {ad : Option Addr} {rs : List Rf} (room : Int) (c : Nat) (r : Rf) (h : Fs3 w T ad rs) (hok : r.ok w T) (hT : ∀ k, T k → k < w.heap.size) (hL : rs.length ≤ 100000) :
    Calls Try.prog 38 #[dV room ad rs.length c, fV r] w fun e w' => ∃ v, e = .returned v ∧ RDisk w T room (put Rf.name r rs) v w' := by
  have HOk := Lib.hid hok
  have HOne := Lib.hid hok.one
  obtain ⟨⟨af, cf, ef, _⟩, aw, cw, ew, _⟩ := hok
  obtain ⟨m1f, hm1⟩ : ∃ m, m = r.fil.firm.length := ⟨_, rfl⟩
  obtain ⟨m2w, hm2⟩ : ∃ m, m = r.fil.ws.length := ⟨_, rfl⟩
  rw [← hm1] at ef
  rw [← hm2] at ew
  obtain ⟨w3, hw3⟩ : ∃ w3, w3 = ((w.alloc (.cells #[.int .i64 room, .slice ad rs.length c] 27)).alloc (.cells #[.string ⟨r.name.toArray⟩, .slice af m1f cf, .slice aw m2w cw] 73)).alloc (.cells #[.int .i64 0, .slice none 0 0] 27) := ⟨_, rfl⟩
  have hb3 : Below w.heap.size w w3 := by rw [hw3]; exact (((Below.refl _ _).alloc (Nat.le_refl _) _).alloc (by simp) _).alloc (by simp; omega) _
  have hs3 : w3.heap.size = w.heap.size + 3 := by rw [hw3]; simp
  have g1 : Row w3 w.heap.size 27 #[.int .i64 room, .slice ad rs.length c] := by rw [hw3]; exact ((Row.fresh w _ _).past _).past _
  have g2 : Row w3 (w.heap.size + 1) 73 #[.string ⟨r.name.toArray⟩, .slice af m1f cf, .slice aw m2w cw] := by
    rw [hw3]
    have := (Row.fresh (w.alloc (.cells #[.int .i64 room, .slice ad rs.length c] 27)) 73 #[.string ⟨r.name.toArray⟩, .slice af m1f cf, .slice aw m2w cw]).past (.cells #[.int .i64 0, .slice none 0 0] 27)
    rw [World.size_alloc] at this
    exact this
  have g3 : Row w3 (w.heap.size + 1 + 1) 27 #[.int .i64 0, .slice none 0 0] := by
    rw [hw3]
    have := Row.fresh ((w.alloc (.cells #[.int .i64 room, .slice ad rs.length c] 27)).alloc (.cells #[.string ⟨r.name.toArray⟩, .slice af m1f cf, .slice aw m2w cw] 73)) 27 #[.int .i64 0, .slice none 0 0]
    rw [World.size_alloc, World.size_alloc] at this
    exact this
  have HWo := Lib.hid (rwithout_any room c r.name (h.kept (kept_below hT hb3)) (fun k hk => by have := hT k hk; omega) (by omega))
  have HG := Lib.hid (And.intro g1 (And.intro g2 (And.intro g3 (And.intro hb3 hs3))))
  have HEf := Lib.hid ef
  have HEw := Lib.hid ew
  have HH := Lib.hid h
  have HT := Lib.hid hT
  have HW3 := Lib.hid hw3
  show Calls Try.prog 38 #[.agg #[.int .i64 room, .slice ad rs.length c], .agg #[.string ⟨r.name.toArray⟩, r.fv, r.wv]] w _
  rw [ef, ew]
  clear h hT hm1 hm2 ef ew hb3 hs3 g1 g2 g3
  go_enter Try.func38, Try.ntmps38
  clear hw3
  go_wp2_with fail
  rw [← HW3.out]
  refine HWo.out.mono ?_
  rintro e w4 ⟨v, rfl, ae, ce, rfl, hfs, hb4⟩
  obtain ⟨g1, g2, g3, hb3, hs3⟩ := HG.out
  have hl4 : w.heap.size + 3 ≤ w4.heap.size := by have := hb4.size; omega
  obtain ⟨rse, hrse⟩ : ∃ rse, rse = del Rf.name r.name rs := ⟨_, rfl⟩
  rw [← hrse] at hfs ⊢
  obtain ⟨w6, hw6⟩ : ∃ w6, w6 = (w4.alloc (.cells #[.int .i64 room, .slice ae rse.length ce] 27)).alloc (.cells #[.int .i64 room, .slice none 0 0] 27) := ⟨_, rfl⟩
  have hb6 : Below w4.heap.size w4 w6 := by rw [hw6]; exact ((Below.refl _ _).alloc (Nat.le_refl _) _).alloc (by simp) _
  have hs6 : w6.heap.size = w4.heap.size + 2 := by rw [hw6]; simp
  have p6 : Row w6 (w4.heap.size + 1) 27 #[.int .i64 room, .slice none 0 0] := by
    rw [hw6]
    have := Row.fresh (w4.alloc (.cells #[.int .i64 room, .slice ae rse.length ce] 27)) 27 #[.int .i64 room, .slice none 0 0]
    rw [World.size_alloc] at this
    exact this
  have hT4 : ∀ k, moreT T w3.heap.size w4.heap.size k → k < w4.heap.size := fun k hk => hk.elim (fun q => by have := HT.out k q; omega) (fun q => q.2)
  have hB0 : WiB w w4 room r.fv r.wv r.name ae ce rse (moreT T w3.heap.size w4.heap.size) w6 := by
    refine ⟨hl4, by rw [hw6]; exact (Row.fresh w4 _ _).past _, ?_, (g3.under hb4 (by omega)).under hb6 (by omega), hfs.kept (kept_below hT4 hb6), hT4, hb3.trans ((hb4.mono (by omega)).trans (hb6.mono (by omega)))⟩
    rw [HEf.out, HEw.out]
    exact (g2.under hb4 (by omega)).under hb6 (by omega)
  have k0 : w4.cell? ⟨w.heap.size, 0, none⟩ = some (.int .i64 room) := (g1.under hb4 (by omega)).cell 0
  have kl : w.heap.size < w4.heap.size := by omega
  have HRse := Lib.hid (show rse.length ≤ 100000 ∧ (∀ x ∈ rse, x.ok w T) ∧ put Rf.name r rs = ins Rf.name r rse from ⟨by rw [hrse]; exact Nat.le_trans (del_length _ _) hL, fun x hx => by rw [hrse] at hx; exact HH.out.2 x (mem_del.1 hx).1, by rw [hrse]; rfl⟩)
  have hrI : (rse.length : Int) ≤ 100000 := by have := HRse.out; omega
  have H0 := Lib.hid (show WiR w6 w4.heap.size room r rse 0 w6 from ⟨none, 0, p6, FV.nil _ _, Only.refl _ _⟩)
  have HB0 := Lib.hid hB0
  have HS6 := Lib.hid hs6
  have HW6 := Lib.hid hw6
  clear hfs hb4 g1 g2 g3 hb3 hs3 hrse hb6 hs6 p6 hT4 hB0 hw6 HG HWo
  go_wp2
  rw [← HW6.out]
  go_loopw [7, 8] (fun l i wr => ∃ j : Nat, j ≤ rse.length ∧ i = .int .i64 j ∧ l = .bool (laidB r (rse.take j)) ∧ WiR w6 w4.heap.size room r rse j wr) (fun _ i _ => rse.length - (intOf i).toNat)
  case atStart => exact ⟨0, by omega, rfl, rfl, H0.out⟩
  case round =>
    obtain ⟨j, hj, rfl, rfl, hR⟩ := hrel
    clear H0
    obtain ⟨ua, uc, ru, hiv, hon⟩ := hR
    have hWB := HB0.out.only hon
    by_cases hlt : j < rse.length
    · have hlt' : (j : Int) < (rse.length : Int) := by omega
      obtain ⟨b, o, ea, hbl2, hTb, y0, y1, y2, hoky⟩ := hWB.fs.at_ hlt
      subst ea
      have hlen : (outL r (rse.take j)).length ≤ 1000000 := by
        have h1 := outL_length r (rse.take j)
        rw [List.length_take] at h1
        have := HRse.out
        omega
      have htk : rse.take (j + 1) = rse.take j ++ [rse[j]'hlt] := List.take_succ_eq_append_getElem hlt
      obtain ⟨⟨yfa, yfc, eyf, _⟩, ywa, ywc, eyw, _⟩ := hoky
      have hbr := hWB.tl b hTb
      have r1' : wr.cell? ⟨w4.heap.size, 1, none⟩ = some (.slice (some ⟨b, o, none⟩) rse.length ce) := hWB.r5.cell 1
      have rl' := hWB.r5.lt
      have f0' : wr.cell? ⟨w.heap.size + 1, 0, none⟩ = some (.string ⟨r.name.toArray⟩) := hWB.rf.cell 0
      have fl' := hWB.rf.lt
      have HY := Lib.hid (show laidB r (rse.take (j + 1)) = (laidB r (rse.take j) || bytesBefore r.name (rse[j]'hlt).name) by rw [htk, laidB_snoc])
      have HK1 := Lib.hid (show laidB r (rse.take j) = true → outL r (rse.take (j + 1)) = outL r (rse.take j) ++ [rse[j]'hlt] from fun q => by rw [htk, outL_laid q])
      have HK2 := Lib.hid (show laidB r (rse.take j) = false → bytesBefore r.name (rse[j]'hlt).name = true → outL r (rse.take (j + 1)) = (outL r (rse.take j) ++ [r]) ++ [rse[j]'hlt] from fun q q' => by rw [htk, outL_here q q'])
      have HK3 := Lib.hid (show laidB r (rse.take j) = false → bytesBefore r.name (rse[j]'hlt).name = false → outL r (rse.take (j + 1)) = outL r (rse.take j) ++ [rse[j]'hlt] from fun q q' => by rw [htk, outL_past q q'])
      clear htk
      generalize rse[j]'hlt = y at *
      obtain ⟨yf, yw, yn, yfi, yws⟩ := y
      simp only at eyf eyw
      subst eyf
      subst eyw
      have HY2 := Lib.hid (show laidB r (rse.take (j + 1)) = (laidB r (rse.take j) || bytesBefore r.name yn) from HY.out)
      have x0 : wr.cell? ⟨b, o + j * 3, none⟩ = some (.string ⟨yn.toArray⟩) := y0
      have x1 : wr.cell? ⟨b, o + j * 3 + 1, none⟩ = some (.slice yfa yfi.length yfc) := y1
      have x2 : wr.cell? ⟨b, o + j * 3 + 2, none⟩ = some (.slice ywa yws.length ywc) := y2
      have HRU := Lib.hid (And.intro ru (And.intro hiv (And.intro hon hWB)))
      have y0' := x0
      have y1' := x1
      have y2' := x2
      clear ru hiv hon hWB y0 y1 y2 x0 x1 x2
      by_cases hlb : laidB r (rse.take j) = true
      · have HLB := Lib.hid (show Value.bool true = .bool (laidB r (rse.take (j + 1))) by rw [HY2.out, hlb]; rfl)
        rw [hlb]
        have hkeep := HK1.out hlb
        go_wp2
        go_quiet (fail)
        obtain ⟨wq, hwq⟩ : ∃ wq, wq = wr.drewN nq := ⟨_, rfl⟩
        rw [← hwq]
        have hbq : Below wr.heap.size wr wq := by rw [hwq]; exact below_dN (Below.refl _ _) _
        have ru := HRU.out.1.under hbq HRU.out.1.lt
        have hiv : FV wq (w4.heap.size + 2) (.slice ua (outL r (rse.take j)).length uc) (outL r (rse.take j)) := ownsRow_same HRU.out.2.1 fun k hk => hbq.block k (World.ownsRow.lt HRU.out.2.1 k hk).2
        have hon := HRU.out.2.2.1.trans (Only.of_below (fun k => k = w4.heap.size + 1 ∨ w4.heap.size + 2 ≤ k) hbq) (fun k hk => .inl hk)
        have hWB := HRU.out.2.2.2.only (Only.of_below _ hbq)
        have y0 := (hbq.cell (p := ⟨b, o + j * 3, none⟩) hbl2).trans y0'
        have y1 := (hbq.cell (p := ⟨b, o + j * 3 + 1, none⟩) hbl2).trans y1'
        have y2 := (hbq.cell (p := ⟨b, o + j * 3 + 2, none⟩) hbl2).trans y2'
        clear hwq hbq y0' y1' y2' f0' fl' r1' rl'
        obtain ⟨a4, c4, m4, w7, hL4⟩ := laid1 (wr := wq) (K := w4.heap.size + 2) ⟨.slice yfa yfi.length yfc, .slice ywa yws.length ywc, ⟨yn, yfi, yws⟩⟩ (wq.alloc (.cells #[.string ⟨yn.toArray⟩, .slice yfa yfi.length yfc, .slice ywa yws.length ywc] 73)).drew ⟨rfl, rfl, rfl, Nat.le_refl _, fun _ _ => rfl⟩ (by show (wq.alloc _).heap.size = _; simp) ru hiv (by omega) (by have := hon.size; have := HS6.out; omega) hlen ⟨rfl, rfl⟩
        have HN := Lib.hid (show WiR w6 w4.heap.size room r rse (j + 1) (w7.setCell ⟨w4.heap.size + 1, 1, none⟩ (.slice a4 m4 c4)) from ⟨a4, c4, by rw [hkeep, ← hL4.len]; exact hL4.row, by rw [hkeep, ← hL4.len]; exact hL4.fv, hon.trans hL4.only (fun k hk => .inl hk)⟩)
        have m1 : w7.cell? ⟨w4.heap.size + 1, 1, none⟩ = some (.slice ua (outL r (rse.take j)).length uc) := hL4.old.cell 1
        have mf := hL4.old.thaw 1
        have ml := hL4.old.lt
        have HRUN := Lib.hid (hL4.run 25)
        have r1 : wq.cell? ⟨w4.heap.size, 1, none⟩ = some (.slice (some ⟨b, o, none⟩) rse.length ce) := hWB.r5.cell 1
        have u1 : wq.cell? ⟨w4.heap.size + 1, 1, none⟩ = some (.slice ua (outL r (rse.take j)).length uc) := ru.cell 1
        have ul := ru.lt
        have bl : b < wq.heap.size := block_lt_of_cell y0
        have rl := hWB.r5.lt
        clear hL4 ru hiv hon hWB hlen
        generalize (outL r (rse.take j)).length = m3 at *
        clear hkeep hlb HK1 HK2 HK3 HY HY2 HRU
        go_wp2
        refine wp_region_held_drew (S := fun _ => True) (by kernel_rfl) trivial (fun _ => ?_)
        refine wpAnyH_take (i := 0) (oi := ⟨some 42, _, _, _, _, _⟩) (v := ?_) rfl (by kernel_rfl) (by kernel_rfl) (by kernel_rfl) (fun _ _ _ h => h) (Or.inl ⟨by rfl, ?_⟩) trivial ?_
        rotate_left
        · intro W _
          go_simp
          with_reducible rfl
        simp only [Act.put, List.setIfInBounds_toArray, List.set_cons_zero, List.set_cons_succ]
        refine wpAnyH_take (i := 2) (oi := ⟨some 44, _, _, _, _, _⟩) (v := ?_) rfl (by kernel_rfl) (by kernel_rfl) (by kernel_rfl) (fun _ _ _ h => h) (Or.inl ⟨by rfl, ?_⟩) trivial ?_
        rotate_left
        · intro W _
          go_simp
          with_reducible rfl
        simp only [Act.put, List.setIfInBounds_toArray, List.set_cons_zero, List.set_cons_succ]
        refine wpAnyH_take (i := 4) (oi := ⟨some 46, _, _, _, _, _⟩) (v := ?_) rfl (by kernel_rfl) (by kernel_rfl) (by kernel_rfl) (fun _ _ _ h => h) (Or.inl ⟨by rfl, ?_⟩) trivial ?_
        rotate_left
        · intro W _
          go_simp
          with_reducible rfl
        simp only [Act.put, List.setIfInBounds_toArray, List.set_cons_zero, List.set_cons_succ]
        refine wpAnyH_ready (rs := [1, 3]) (by kernel_rfl) (by simp) ?_
        refine AllReadyH.cons (o := ⟨some 43, _, _, _, _, _⟩) rfl (fun K hK => ?_) (AllReadyH.cons (o := ⟨some 45, _, _, _, _, _⟩) rfl (fun K hK => ?_) AllReadyH.nil)
        · skip
          go_simp
          refine hK.out _ _ trivial (fun _ => ?_)
          clear hK K
          refine wpAnyH_ready (rs := [3]) (by kernel_rfl) (by simp) ?_
          refine AllReadyH.cons (o := ⟨some 45, _, _, _, _, _⟩) rfl (fun K hK => ?_) AllReadyH.nil
          go_simp
          refine hK.out _ _ trivial (fun _ => ?_)
          clear hK K
          refine wpAnyH_take (i := 5) (oi := ⟨some 47, _, _, _, _, _⟩) (v := ?_) rfl (by kernel_rfl) (by kernel_rfl) (by kernel_rfl) (fun _ _ _ h => h) (Or.inl ⟨by rfl, ?_⟩) trivial ?_
          rotate_left
          · intro W _
            go_simp
            with_reducible rfl
          simp only [Act.put, List.setIfInBounds_toArray, List.set_cons_zero, List.set_cons_succ]
          refine wpAnyH_ready (rs := [6]) (by kernel_rfl) (by simp) ?_
          refine AllReadyH.cons (o := ⟨some 48, _, _, _, _, _⟩) rfl (fun K hK => ?_) AllReadyH.nil
          go_simp
          refine hK.out _ _ trivial (fun _ => ?_)
          clear hK K
          refine wpAnyH_ready (rs := [7]) (by kernel_rfl) (by simp) ?_
          refine AllReadyH.cons (o := ⟨some 49, _, _, _, _, _⟩) rfl (fun K hK => ?_) AllReadyH.nil
          go_simp
          refine hK.out _ _ trivial (fun _ => ?_)
          clear hK K
          refine wpAnyH_ready (rs := [8]) (by kernel_rfl) (by simp) ?_
          refine AllReadyH.cons (o := ⟨some 50, _, _, _, _, _⟩) rfl (fun K hK => ?_) AllReadyH.nil
          rw [if_pos (by rfl)]
          refine wp_append2 _ _ _ _ rfl _ _ rfl rfl HRUN.out ?_
          simp only [Act.put, List.setIfInBounds_toArray, List.set_cons_zero, List.set_cons_succ]
          refine hK.out _ _ trivial (fun _ => ?_)
          clear hK K
          refine wpAnyH_take (i := 9) (oi := ⟨some 51, _, _, _, _, _⟩) (v := ?_) rfl (by kernel_rfl) (by kernel_rfl) (by kernel_rfl) (fun _ _ _ h => h) (Or.inl ⟨by rfl, ?_⟩) trivial ?_
          rotate_left
          · intro W _
            go_simp
            with_reducible rfl
          simp only [Act.put, List.setIfInBounds_toArray, List.set_cons_zero, List.set_cons_succ]
          refine wpAnyH_ready (rs := [10]) (by kernel_rfl) (by simp) ?_
          refine AllReadyH.cons (o := ⟨none, _, _, _, _, _⟩) rfl (fun K hK => ?_) AllReadyH.nil
          go_simp
          refine hK.out _ _ trivial (fun _ => ?_)
          clear hK K
          refine wpAnyH_done (by kernel_rfl) ?_ _
          clear m1 mf ml
          go_wp2
          go_roundw
          case rel =>
            first
              | exact ⟨j + 1, by omega, by go_num, HLB.out, HN.out⟩
              | exact ⟨_, _, ⟨j + 1, by omega, by go_num, HLB.out, HN.out⟩, rfl, rfl⟩
          case measure => simp [intOf]; omega
        · skip
          go_simp
          refine hK.out _ _ trivial (fun _ => ?_)
          clear hK K
          refine wpAnyH_take (i := 5) (oi := ⟨some 47, _, _, _, _, _⟩) (v := ?_) rfl (by kernel_rfl) (by kernel_rfl) (by kernel_rfl) (fun _ _ _ h => h) (Or.inl ⟨by rfl, ?_⟩) trivial ?_
          rotate_left
          · intro W _
            go_simp
            with_reducible rfl
          simp only [Act.put, List.setIfInBounds_toArray, List.set_cons_zero, List.set_cons_succ]
          refine wpAnyH_ready (rs := [1, 6]) (by kernel_rfl) (by simp) ?_
          refine AllReadyH.cons (o := ⟨some 43, _, _, _, _, _⟩) rfl (fun K hK => ?_) (AllReadyH.cons (o := ⟨some 48, _, _, _, _, _⟩) rfl (fun K hK => ?_) AllReadyH.nil)
          · skip
            go_simp
            refine hK.out _ _ trivial (fun _ => ?_)
            clear hK K
            refine wpAnyH_ready (rs := [6]) (by kernel_rfl) (by simp) ?_
            refine AllReadyH.cons (o := ⟨some 48, _, _, _, _, _⟩) rfl (fun K hK => ?_) AllReadyH.nil
            go_simp
            refine hK.out _ _ trivial (fun _ => ?_)
            clear hK K
            refine wpAnyH_ready (rs := [7]) (by kernel_rfl) (by simp) ?_
            refine AllReadyH.cons (o := ⟨some 49, _, _, _, _, _⟩) rfl (fun K hK => ?_) AllReadyH.nil
            go_simp
            refine hK.out _ _ trivial (fun _ => ?_)
            clear hK K
            refine wpAnyH_ready (rs := [8]) (by kernel_rfl) (by simp) ?_
            refine AllReadyH.cons (o := ⟨some 50, _, _, _, _, _⟩) rfl (fun K hK => ?_) AllReadyH.nil
            rw [if_pos (by rfl)]
            refine wp_append2 _ _ _ _ rfl _ _ rfl rfl HRUN.out ?_
            simp only [Act.put, List.setIfInBounds_toArray, List.set_cons_zero, List.set_cons_succ]
            refine hK.out _ _ trivial (fun _ => ?_)
            clear hK K
            refine wpAnyH_take (i := 9) (oi := ⟨some 51, _, _, _, _, _⟩) (v := ?_) rfl (by kernel_rfl) (by kernel_rfl) (by kernel_rfl) (fun _ _ _ h => h) (Or.inl ⟨by rfl, ?_⟩) trivial ?_
            rotate_left
            · intro W _
              go_simp
              with_reducible rfl
            simp only [Act.put, List.setIfInBounds_toArray, List.set_cons_zero, List.set_cons_succ]
            refine wpAnyH_ready (rs := [10]) (by kernel_rfl) (by simp) ?_
            refine AllReadyH.cons (o := ⟨none, _, _, _, _, _⟩) rfl (fun K hK => ?_) AllReadyH.nil
            go_simp
            refine hK.out _ _ trivial (fun _ => ?_)
            clear hK K
            refine wpAnyH_done (by kernel_rfl) ?_ _
            clear m1 mf ml
            go_wp2
            go_roundw
            case rel =>
              first
                | exact ⟨j + 1, by omega, by go_num, HLB.out, HN.out⟩
                | exact ⟨_, _, ⟨j + 1, by omega, by go_num, HLB.out, HN.out⟩, rfl, rfl⟩
            case measure => simp [intOf]; omega
          · skip
            go_simp
            refine hK.out _ _ trivial (fun _ => ?_)
            clear hK K
            refine wpAnyH_ready (rs := [1, 7]) (by kernel_rfl) (by simp) ?_
            refine AllReadyH.cons (o := ⟨some 43, _, _, _, _, _⟩) rfl (fun K hK => ?_) (AllReadyH.cons (o := ⟨some 49, _, _, _, _, _⟩) rfl (fun K hK => ?_) AllReadyH.nil)
            · skip
              go_simp
              refine hK.out _ _ trivial (fun _ => ?_)
              clear hK K
              refine wpAnyH_ready (rs := [7]) (by kernel_rfl) (by simp) ?_
              refine AllReadyH.cons (o := ⟨some 49, _, _, _, _, _⟩) rfl (fun K hK => ?_) AllReadyH.nil
              go_simp
              refine hK.out _ _ trivial (fun _ => ?_)
              clear hK K
              refine wpAnyH_ready (rs := [8]) (by kernel_rfl) (by simp) ?_
              refine AllReadyH.cons (o := ⟨some 50, _, _, _, _, _⟩) rfl (fun K hK => ?_) AllReadyH.nil
              rw [if_pos (by rfl)]
              refine wp_append2 _ _ _ _ rfl _ _ rfl rfl HRUN.out ?_
              simp only [Act.put, List.setIfInBounds_toArray, List.set_cons_zero, List.set_cons_succ]
              refine hK.out _ _ trivial (fun _ => ?_)
              clear hK K
              refine wpAnyH_take (i := 9) (oi := ⟨some 51, _, _, _, _, _⟩) (v := ?_) rfl (by kernel_rfl) (by kernel_rfl) (by kernel_rfl) (fun _ _ _ h => h) (Or.inl ⟨by rfl, ?_⟩) trivial ?_
              rotate_left
              · intro W _
                go_simp
                with_reducible rfl
              simp only [Act.put, List.setIfInBounds_toArray, List.set_cons_zero, List.set_cons_succ]
              refine wpAnyH_ready (rs := [10]) (by kernel_rfl) (by simp) ?_
              refine AllReadyH.cons (o := ⟨none, _, _, _, _, _⟩) rfl (fun K hK => ?_) AllReadyH.nil
              go_simp
              refine hK.out _ _ trivial (fun _ => ?_)
              clear hK K
              refine wpAnyH_done (by kernel_rfl) ?_ _
              clear m1 mf ml
              go_wp2
              go_roundw
              case rel =>
                first
                  | exact ⟨j + 1, by omega, by go_num, HLB.out, HN.out⟩
                  | exact ⟨_, _, ⟨j + 1, by omega, by go_num, HLB.out, HN.out⟩, rfl, rfl⟩
              case measure => simp [intOf]; omega
            · skip
              go_simp
              refine hK.out _ _ trivial (fun _ => ?_)
              clear hK K
              refine wpAnyH_ready (rs := [1]) (by kernel_rfl) (by simp) ?_
              refine AllReadyH.cons (o := ⟨some 43, _, _, _, _, _⟩) rfl (fun K hK => ?_) AllReadyH.nil
              go_simp
              refine hK.out _ _ trivial (fun _ => ?_)
              clear hK K
              refine wpAnyH_ready (rs := [8]) (by kernel_rfl) (by simp) ?_
              refine AllReadyH.cons (o := ⟨some 50, _, _, _, _, _⟩) rfl (fun K hK => ?_) AllReadyH.nil
              rw [if_pos (by rfl)]
              refine wp_append2 _ _ _ _ rfl _ _ rfl rfl HRUN.out ?_
              simp only [Act.put, List.setIfInBounds_toArray, List.set_cons_zero, List.set_cons_succ]
              refine hK.out _ _ trivial (fun _ => ?_)
              clear hK K
              refine wpAnyH_take (i := 9) (oi := ⟨some 51, _, _, _, _, _⟩) (v := ?_) rfl (by kernel_rfl) (by kernel_rfl) (by kernel_rfl) (fun _ _ _ h => h) (Or.inl ⟨by rfl, ?_⟩) trivial ?_
              rotate_left
              · intro W _
                go_simp
                with_reducible rfl
              simp only [Act.put, List.setIfInBounds_toArray, List.set_cons_zero, List.set_cons_succ]
              refine wpAnyH_ready (rs := [10]) (by kernel_rfl) (by simp) ?_
              refine AllReadyH.cons (o := ⟨none, _, _, _, _, _⟩) rfl (fun K hK => ?_) AllReadyH.nil
              go_simp
              refine hK.out _ _ trivial (fun _ => ?_)
              clear hK K
              refine wpAnyH_done (by kernel_rfl) ?_ _
              clear m1 mf ml
              go_wp2
              go_roundw
              case rel =>
                first
                  | exact ⟨j + 1, by omega, by go_num, HLB.out, HN.out⟩
                  | exact ⟨_, _, ⟨j + 1, by omega, by go_num, HLB.out, HN.out⟩, rfl, rfl⟩
              case measure => simp [intOf]; omega
      · have hlf : laidB r (rse.take j) = false := by simpa using hlb
        rw [hlf]
        clear hlb
        by_cases hbe : bytesBefore r.name yn = true
        · have hless : Op.bytesLess r.name yn = true := by rw [less_before]; exact hbe
          have HLB := Lib.hid (show Value.bool true = .bool (laidB r (rse.take (j + 1))) by rw [HY2.out, hlf, hbe]; rfl)
          have hkeep := HK2.out hlf hbe
          go_wp2
          go_quiet (fail)
          obtain ⟨wq, hwq⟩ : ∃ wq, wq = wr.drewN nq := ⟨_, rfl⟩
          rw [← hwq]
          have hbq : Below wr.heap.size wr wq := by rw [hwq]; exact below_dN (Below.refl _ _) _
          have ru := HRU.out.1.under hbq HRU.out.1.lt
          have hiv : FV wq (w4.heap.size + 2) (.slice ua (outL r (rse.take j)).length uc) (outL r (rse.take j)) := ownsRow_same HRU.out.2.1 fun k hk => hbq.block k (World.ownsRow.lt HRU.out.2.1 k hk).2
          have hon := HRU.out.2.2.1.trans (Only.of_below (fun k => k = w4.heap.size + 1 ∨ w4.heap.size + 2 ≤ k) hbq) (fun k hk => .inl hk)
          have hWB := HRU.out.2.2.2.only (Only.of_below _ hbq)
          have y0 := (hbq.cell (p := ⟨b, o + j * 3, none⟩) hbl2).trans y0'
          have y1 := (hbq.cell (p := ⟨b, o + j * 3 + 1, none⟩) hbl2).trans y1'
          have y2 := (hbq.cell (p := ⟨b, o + j * 3 + 2, none⟩) hbl2).trans y2'
          clear hwq hbq y0' y1' y2' f0' fl' r1' rl'
          obtain ⟨a5, c5, m5, w5, hL5⟩ := laid1 (wr := wq) (K := w4.heap.size + 2) r (wq.alloc (.cells #[.string ⟨r.name.toArray⟩, r.fv, r.wv] 73)) (Below.refl _ _) (by simp) ru hiv (by omega) (by have := hon.size; have := HS6.out; omega) hlen HOne.out
          have f0 : wq.cell? ⟨w.heap.size + 1, 0, none⟩ = some (.string ⟨r.name.toArray⟩) := hWB.rf.cell 0
          have f1 : wq.cell? ⟨w.heap.size + 1, 1, none⟩ = some (.slice af m1f cf) := by rw [← HEf.out]; exact hWB.rf.cell 1
          have f2 : wq.cell? ⟨w.heap.size + 1, 2, none⟩ = some (.slice aw m2w cw) := by rw [← HEw.out]; exact hWB.rf.cell 2
          have fl := hWB.rf.lt
          have u1 : wq.cell? ⟨w4.heap.size + 1, 1, none⟩ = some (.slice ua (outL r (rse.take j)).length uc) := ru.cell 1
          have ul := ru.lt
          have n1 : w5.cell? ⟨w4.heap.size + 1, 1, none⟩ = some (.slice ua (outL r (rse.take j)).length uc) := hL5.old.cell 1
          have nf := hL5.old.thaw 1
          have nl := hL5.old.lt
          have HRUN5 := Lib.hid (hL5.run 25)
          rw [HEf.out, HEw.out] at HRUN5
          obtain ⟨w8, hw8⟩ : ∃ w8, w8 = w5.setCell ⟨w4.heap.size + 1, 1, none⟩ (.slice a5 m5 c5) := ⟨_, rfl⟩
          have ru8 := hL5.row
          have hiv8 := hL5.fv
          have ho8 := hL5.only
          have hln5 := hL5.len
          rw [← hw8] at ru8 hiv8 ho8
          rw [hln5] at ru8 hiv8
          have hon8 := hon.trans ho8 (fun k hk => .inl hk)
          have hWB8 := hWB.only ho8
          have bq : b < wq.heap.size := block_lt_of_cell y0
          have yb : w8.heap[b]? = wq.heap[b]? := ho8.block b bq (by omega)
          have z0 := (World.cell?_of_block (a := ⟨b, o + j * 3, none⟩) yb).trans y0
          have z1 := (World.cell?_of_block (a := ⟨b, o + j * 3 + 1, none⟩) yb).trans y1
          have z2 := (World.cell?_of_block (a := ⟨b, o + j * 3 + 2, none⟩) yb).trans y2
          have hlen8 : (outL r (rse.take j) ++ [r]).length ≤ 1000000 := by
            have h1 := outL_length r (rse.take j)
            rw [List.length_take] at h1
            have := HRse.out
            simp
            omega
          have H8 := Lib.hid (And.intro ru8 (And.intro hiv8 (And.intro hon8 (And.intro hWB8 (And.intro z0 (And.intro z1 (And.intro z2 (And.intro hw8 hlen8))))))))
          have HKe := Lib.hid hkeep
          clear ru hiv hon hWB y0 y1 y2 ru8 hiv8 ho8 hln5 hon8 hWB8 yb z0 z1 z2 hw8 hlen8 hL5 hlen hkeep hbe hlf HK1 HK2 HK3 HY HY2 HRU hless bq
          generalize (outL r (rse.take j)).length = m30 at *
          go_wp2_with (at_builtin; refine wpList_append2 rfl _ _ _ _ rfl _ _ rfl rfl HRUN5.out ?_)
          obtain ⟨ru, hiv, hon, hWB, y0, y1, y2, hw8, hlen⟩ := H8.out
          rw [← hw8]
          have hkeep := HKe.out
          clear f0 f1 f2 fl u1 ul n1 nf nl HRUN5 H8 HKe
          obtain ⟨a4, c4, m4, w7, hL4⟩ := laid1 (wr := w8) (K := w4.heap.size + 2) ⟨.slice yfa yfi.length yfc, .slice ywa yws.length ywc, ⟨yn, yfi, yws⟩⟩ (w8.alloc (.cells #[.string ⟨yn.toArray⟩, .slice yfa yfi.length yfc, .slice ywa yws.length ywc] 73)).drew ⟨rfl, rfl, rfl, Nat.le_refl _, fun _ _ => rfl⟩ (by show (w8.alloc _).heap.size = _; simp) ru hiv (by omega) (by have := hon.size; have := HS6.out; omega) hlen ⟨rfl, rfl⟩
          have HN := Lib.hid (show WiR w6 w4.heap.size room r rse (j + 1) (w7.setCell ⟨w4.heap.size + 1, 1, none⟩ (.slice a4 m4 c4)) from ⟨a4, c4, by rw [hkeep, ← hL4.len]; exact hL4.row, by rw [hkeep, ← hL4.len]; exact hL4.fv, hon.trans hL4.only (fun k hk => .inl hk)⟩)
          have m1 : w7.cell? ⟨w4.heap.size + 1, 1, none⟩ = some (.slice a5 (outL r (rse.take j) ++ [r]).length c5) := hL4.old.cell 1
          have mf := hL4.old.thaw 1
          have ml := hL4.old.lt
          have HRUN := Lib.hid (hL4.run 25)
          have r1 : w8.cell? ⟨w4.heap.size, 1, none⟩ = some (.slice (some ⟨b, o, none⟩) rse.length ce) := hWB.r5.cell 1
          have u1 : w8.cell? ⟨w4.heap.size + 1, 1, none⟩ = some (.slice a5 (outL r (rse.take j) ++ [r]).length c5) := ru.cell 1
          have ul := ru.lt
          have bl : b < w8.heap.size := block_lt_of_cell y0
          have rl := hWB.r5.lt
          clear hL4 ru hiv hon hWB hlen
          generalize (outL r (rse.take j) ++ [r]).length = m3 at *
          clear hkeep hw8
          go_wp2
          refine wp_region_held_drew (S := fun _ => True) (by kernel_rfl) trivial (fun _ => ?_)
          refine wpAnyH_take (i := 0) (oi := ⟨some 42, _, _, _, _, _⟩) (v := ?_) rfl (by kernel_rfl) (by kernel_rfl) (by kernel_rfl) (fun _ _ _ h => h) (Or.inl ⟨by rfl, ?_⟩) trivial ?_
          rotate_left
          · intro W _
            go_simp
            with_reducible rfl
          simp only [Act.put, List.setIfInBounds_toArray, List.set_cons_zero, List.set_cons_succ]
          refine wpAnyH_take (i := 2) (oi := ⟨some 44, _, _, _, _, _⟩) (v := ?_) rfl (by kernel_rfl) (by kernel_rfl) (by kernel_rfl) (fun _ _ _ h => h) (Or.inl ⟨by rfl, ?_⟩) trivial ?_
          rotate_left
          · intro W _
            go_simp
            with_reducible rfl
          simp only [Act.put, List.setIfInBounds_toArray, List.set_cons_zero, List.set_cons_succ]
          refine wpAnyH_take (i := 4) (oi := ⟨some 46, _, _, _, _, _⟩) (v := ?_) rfl (by kernel_rfl) (by kernel_rfl) (by kernel_rfl) (fun _ _ _ h => h) (Or.inl ⟨by rfl, ?_⟩) trivial ?_
          rotate_left
          · intro W _
            go_simp
            with_reducible rfl
          simp only [Act.put, List.setIfInBounds_toArray, List.set_cons_zero, List.set_cons_succ]
          refine wpAnyH_ready (rs := [1, 3]) (by kernel_rfl) (by simp) ?_
          refine AllReadyH.cons (o := ⟨some 43, _, _, _, _, _⟩) rfl (fun K hK => ?_) (AllReadyH.cons (o := ⟨some 45, _, _, _, _, _⟩) rfl (fun K hK => ?_) AllReadyH.nil)
          · skip
            go_simp
            refine hK.out _ _ trivial (fun _ => ?_)
            clear hK K
            refine wpAnyH_ready (rs := [3]) (by kernel_rfl) (by simp) ?_
            refine AllReadyH.cons (o := ⟨some 45, _, _, _, _, _⟩) rfl (fun K hK => ?_) AllReadyH.nil
            go_simp
            refine hK.out _ _ trivial (fun _ => ?_)
            clear hK K
            refine wpAnyH_take (i := 5) (oi := ⟨some 47, _, _, _, _, _⟩) (v := ?_) rfl (by kernel_rfl) (by kernel_rfl) (by kernel_rfl) (fun _ _ _ h => h) (Or.inl ⟨by rfl, ?_⟩) trivial ?_
            rotate_left
            · intro W _
              go_simp
              with_reducible rfl
            simp only [Act.put, List.setIfInBounds_toArray, List.set_cons_zero, List.set_cons_succ]
            refine wpAnyH_ready (rs := [6]) (by kernel_rfl) (by simp) ?_
            refine AllReadyH.cons (o := ⟨some 48, _, _, _, _, _⟩) rfl (fun K hK => ?_) AllReadyH.nil
            go_simp
            refine hK.out _ _ trivial (fun _ => ?_)
            clear hK K
            refine wpAnyH_ready (rs := [7]) (by kernel_rfl) (by simp) ?_
            refine AllReadyH.cons (o := ⟨some 49, _, _, _, _, _⟩) rfl (fun K hK => ?_) AllReadyH.nil
            go_simp
            refine hK.out _ _ trivial (fun _ => ?_)
            clear hK K
            refine wpAnyH_ready (rs := [8]) (by kernel_rfl) (by simp) ?_
            refine AllReadyH.cons (o := ⟨some 50, _, _, _, _, _⟩) rfl (fun K hK => ?_) AllReadyH.nil
            rw [if_pos (by rfl)]
            refine wp_append2 _ _ _ _ rfl _ _ rfl rfl HRUN.out ?_
            simp only [Act.put, List.setIfInBounds_toArray, List.set_cons_zero, List.set_cons_succ]
            refine hK.out _ _ trivial (fun _ => ?_)
            clear hK K
            refine wpAnyH_take (i := 9) (oi := ⟨some 51, _, _, _, _, _⟩) (v := ?_) rfl (by kernel_rfl) (by kernel_rfl) (by kernel_rfl) (fun _ _ _ h => h) (Or.inl ⟨by rfl, ?_⟩) trivial ?_
            rotate_left
            · intro W _
              go_simp
              with_reducible rfl
            simp only [Act.put, List.setIfInBounds_toArray, List.set_cons_zero, List.set_cons_succ]
            refine wpAnyH_ready (rs := [10]) (by kernel_rfl) (by simp) ?_
            refine AllReadyH.cons (o := ⟨none, _, _, _, _, _⟩) rfl (fun K hK => ?_) AllReadyH.nil
            go_simp
            refine hK.out _ _ trivial (fun _ => ?_)
            clear hK K
            refine wpAnyH_done (by kernel_rfl) ?_ _
            clear m1 mf ml
            go_wp2
            go_roundw
            case rel =>
              first
                | exact ⟨j + 1, by omega, by go_num, HLB.out, HN.out⟩
                | exact ⟨_, _, ⟨j + 1, by omega, by go_num, HLB.out, HN.out⟩, rfl, rfl⟩
            case measure => simp [intOf]; omega
          · skip
            go_simp
            refine hK.out _ _ trivial (fun _ => ?_)
            clear hK K
            refine wpAnyH_take (i := 5) (oi := ⟨some 47, _, _, _, _, _⟩) (v := ?_) rfl (by kernel_rfl) (by kernel_rfl) (by kernel_rfl) (fun _ _ _ h => h) (Or.inl ⟨by rfl, ?_⟩) trivial ?_
            rotate_left
            · intro W _
              go_simp
              with_reducible rfl
            simp only [Act.put, List.setIfInBounds_toArray, List.set_cons_zero, List.set_cons_succ]
            refine wpAnyH_ready (rs := [1, 6]) (by kernel_rfl) (by simp) ?_
            refine AllReadyH.cons (o := ⟨some 43, _, _, _, _, _⟩) rfl (fun K hK => ?_) (AllReadyH.cons (o := ⟨some 48, _, _, _, _, _⟩) rfl (fun K hK => ?_) AllReadyH.nil)
            · skip
              go_simp
              refine hK.out _ _ trivial (fun _ => ?_)
              clear hK K
              refine wpAnyH_ready (rs := [6]) (by kernel_rfl) (by simp) ?_
              refine AllReadyH.cons (o := ⟨some 48, _, _, _, _, _⟩) rfl (fun K hK => ?_) AllReadyH.nil
              go_simp
              refine hK.out _ _ trivial (fun _ => ?_)
              clear hK K
              refine wpAnyH_ready (rs := [7]) (by kernel_rfl) (by simp) ?_
              refine AllReadyH.cons (o := ⟨some 49, _, _, _, _, _⟩) rfl (fun K hK => ?_) AllReadyH.nil
              go_simp
              refine hK.out _ _ trivial (fun _ => ?_)
              clear hK K
              refine wpAnyH_ready (rs := [8]) (by kernel_rfl) (by simp) ?_
              refine AllReadyH.cons (o := ⟨some 50, _, _, _, _, _⟩) rfl (fun K hK => ?_) AllReadyH.nil
              rw [if_pos (by rfl)]
              refine wp_append2 _ _ _ _ rfl _ _ rfl rfl HRUN.out ?_
              simp only [Act.put, List.setIfInBounds_toArray, List.set_cons_zero, List.set_cons_succ]
              refine hK.out _ _ trivial (fun _ => ?_)
              clear hK K
              refine wpAnyH_take (i := 9) (oi := ⟨some 51, _, _, _, _, _⟩) (v := ?_) rfl (by kernel_rfl) (by kernel_rfl) (by kernel_rfl) (fun _ _ _ h => h) (Or.inl ⟨by rfl, ?_⟩) trivial ?_
              rotate_left
              · intro W _
                go_simp
                with_reducible rfl
              simp only [Act.put, List.setIfInBounds_toArray, List.set_cons_zero, List.set_cons_succ]
              refine wpAnyH_ready (rs := [10]) (by kernel_rfl) (by simp) ?_
              refine AllReadyH.cons (o := ⟨none, _, _, _, _, _⟩) rfl (fun K hK => ?_) AllReadyH.nil
              go_simp
              refine hK.out _ _ trivial (fun _ => ?_)
              clear hK K
              refine wpAnyH_done (by kernel_rfl) ?_ _
              clear m1 mf ml
              go_wp2
              go_roundw
              case rel =>
                first
                  | exact ⟨j + 1, by omega, by go_num, HLB.out, HN.out⟩
                  | exact ⟨_, _, ⟨j + 1, by omega, by go_num, HLB.out, HN.out⟩, rfl, rfl⟩
              case measure => simp [intOf]; omega
            · skip
              go_simp
              refine hK.out _ _ trivial (fun _ => ?_)
              clear hK K
              refine wpAnyH_ready (rs := [1, 7]) (by kernel_rfl) (by simp) ?_
              refine AllReadyH.cons (o := ⟨some 43, _, _, _, _, _⟩) rfl (fun K hK => ?_) (AllReadyH.cons (o := ⟨some 49, _, _, _, _, _⟩) rfl (fun K hK => ?_) AllReadyH.nil)
              · skip
                go_simp
                refine hK.out _ _ trivial (fun _ => ?_)
                clear hK K
                refine wpAnyH_ready (rs := [7]) (by kernel_rfl) (by simp) ?_
                refine AllReadyH.cons (o := ⟨some 49, _, _, _, _, _⟩) rfl (fun K hK => ?_) AllReadyH.nil
                go_simp
                refine hK.out _ _ trivial (fun _ => ?_)
                clear hK K
                refine wpAnyH_ready (rs := [8]) (by kernel_rfl) (by simp) ?_
                refine AllReadyH.cons (o := ⟨some 50, _, _, _, _, _⟩) rfl (fun K hK => ?_) AllReadyH.nil
                rw [if_pos (by rfl)]
                refine wp_append2 _ _ _ _ rfl _ _ rfl rfl HRUN.out ?_
                simp only [Act.put, List.setIfInBounds_toArray, List.set_cons_zero, List.set_cons_succ]
                refine hK.out _ _ trivial (fun _ => ?_)
                clear hK K
                refine wpAnyH_take (i := 9) (oi := ⟨some 51, _, _, _, _, _⟩) (v := ?_) rfl (by kernel_rfl) (by kernel_rfl) (by kernel_rfl) (fun _ _ _ h => h) (Or.inl ⟨by rfl, ?_⟩) trivial ?_
                rotate_left
                · intro W _
                  go_simp
                  with_reducible rfl
                simp only [Act.put, List.setIfInBounds_toArray, List.set_cons_zero, List.set_cons_succ]
                refine wpAnyH_ready (rs := [10]) (by kernel_rfl) (by simp) ?_
                refine AllReadyH.cons (o := ⟨none, _, _, _, _, _⟩) rfl (fun K hK => ?_) AllReadyH.nil
                go_simp
                refine hK.out _ _ trivial (fun _ => ?_)
                clear hK K
                refine wpAnyH_done (by kernel_rfl) ?_ _
                clear m1 mf ml
                go_wp2
                go_roundw
                case rel =>
                  first
                    | exact ⟨j + 1, by omega, by go_num, HLB.out, HN.out⟩
                    | exact ⟨_, _, ⟨j + 1, by omega, by go_num, HLB.out, HN.out⟩, rfl, rfl⟩
                case measure => simp [intOf]; omega
              · skip
                go_simp
                refine hK.out _ _ trivial (fun _ => ?_)
                clear hK K
                refine wpAnyH_ready (rs := [1]) (by kernel_rfl) (by simp) ?_
                refine AllReadyH.cons (o := ⟨some 43, _, _, _, _, _⟩) rfl (fun K hK => ?_) AllReadyH.nil
                go_simp
                refine hK.out _ _ trivial (fun _ => ?_)
                clear hK K
                refine wpAnyH_ready (rs := [8]) (by kernel_rfl) (by simp) ?_
                refine AllReadyH.cons (o := ⟨some 50, _, _, _, _, _⟩) rfl (fun K hK => ?_) AllReadyH.nil
                rw [if_pos (by rfl)]
                refine wp_append2 _ _ _ _ rfl _ _ rfl rfl HRUN.out ?_
                simp only [Act.put, List.setIfInBounds_toArray, List.set_cons_zero, List.set_cons_succ]
                refine hK.out _ _ trivial (fun _ => ?_)
                clear hK K
                refine wpAnyH_take (i := 9) (oi := ⟨some 51, _, _, _, _, _⟩) (v := ?_) rfl (by kernel_rfl) (by kernel_rfl) (by kernel_rfl) (fun _ _ _ h => h) (Or.inl ⟨by rfl, ?_⟩) trivial ?_
                rotate_left
                · intro W _
                  go_simp
                  with_reducible rfl
                simp only [Act.put, List.setIfInBounds_toArray, List.set_cons_zero, List.set_cons_succ]
                refine wpAnyH_ready (rs := [10]) (by kernel_rfl) (by simp) ?_
                refine AllReadyH.cons (o := ⟨none, _, _, _, _, _⟩) rfl (fun K hK => ?_) AllReadyH.nil
                go_simp
                refine hK.out _ _ trivial (fun _ => ?_)
                clear hK K
                refine wpAnyH_done (by kernel_rfl) ?_ _
                clear m1 mf ml
                go_wp2
                go_roundw
                case rel =>
                  first
                    | exact ⟨j + 1, by omega, by go_num, HLB.out, HN.out⟩
                    | exact ⟨_, _, ⟨j + 1, by omega, by go_num, HLB.out, HN.out⟩, rfl, rfl⟩
                case measure => simp [intOf]; omega
        · have hbf : bytesBefore r.name yn = false := by simpa using hbe
          have hless : Op.bytesLess r.name yn = false := by rw [less_before]; exact hbf
          have HLB := Lib.hid (show Value.bool false = .bool (laidB r (rse.take (j + 1))) by rw [HY2.out, hlf, hbf]; rfl)
          have hkeep := HK3.out hlf hbf
          clear hbe
          go_wp2
          go_quiet (fail)
          obtain ⟨wq, hwq⟩ : ∃ wq, wq = wr.drewN nq := ⟨_, rfl⟩
          rw [← hwq]
          have hbq : Below wr.heap.size wr wq := by rw [hwq]; exact below_dN (Below.refl _ _) _
          have ru := HRU.out.1.under hbq HRU.out.1.lt
          have hiv : FV wq (w4.heap.size + 2) (.slice ua (outL r (rse.take j)).length uc) (outL r (rse.take j)) := ownsRow_same HRU.out.2.1 fun k hk => hbq.block k (World.ownsRow.lt HRU.out.2.1 k hk).2
          have hon := HRU.out.2.2.1.trans (Only.of_below (fun k => k = w4.heap.size + 1 ∨ w4.heap.size + 2 ≤ k) hbq) (fun k hk => .inl hk)
          have hWB := HRU.out.2.2.2.only (Only.of_below _ hbq)
          have y0 := (hbq.cell (p := ⟨b, o + j * 3, none⟩) hbl2).trans y0'
          have y1 := (hbq.cell (p := ⟨b, o + j * 3 + 1, none⟩) hbl2).trans y1'
          have y2 := (hbq.cell (p := ⟨b, o + j * 3 + 2, none⟩) hbl2).trans y2'
          clear hwq hbq y0' y1' y2' f0' fl' r1' rl'
          obtain ⟨a4, c4, m4, w7, hL4⟩ := laid1 (wr := wq) (K := w4.heap.size + 2) ⟨.slice yfa yfi.length yfc, .slice ywa yws.length ywc, ⟨yn, yfi, yws⟩⟩ (wq.alloc (.cells #[.string ⟨yn.toArray⟩, .slice yfa yfi.length yfc, .slice ywa yws.length ywc] 73)).drew ⟨rfl, rfl, rfl, Nat.le_refl _, fun _ _ => rfl⟩ (by show (wq.alloc _).heap.size = _; simp) ru hiv (by omega) (by have := hon.size; have := HS6.out; omega) hlen ⟨rfl, rfl⟩
          have HN := Lib.hid (show WiR w6 w4.heap.size room r rse (j + 1) (w7.setCell ⟨w4.heap.size + 1, 1, none⟩ (.slice a4 m4 c4)) from ⟨a4, c4, by rw [hkeep, ← hL4.len]; exact hL4.row, by rw [hkeep, ← hL4.len]; exact hL4.fv, hon.trans hL4.only (fun k hk => .inl hk)⟩)
          have m1 : w7.cell? ⟨w4.heap.size + 1, 1, none⟩ = some (.slice ua (outL r (rse.take j)).length uc) := hL4.old.cell 1
          have mf := hL4.old.thaw 1
          have ml := hL4.old.lt
          have HRUN := Lib.hid (hL4.run 25)
          have r1 : wq.cell? ⟨w4.heap.size, 1, none⟩ = some (.slice (some ⟨b, o, none⟩) rse.length ce) := hWB.r5.cell 1
          have u1 : wq.cell? ⟨w4.heap.size + 1, 1, none⟩ = some (.slice ua (outL r (rse.take j)).length uc) := ru.cell 1
          have ul := ru.lt
          have bl : b < wq.heap.size := block_lt_of_cell y0
          have rl := hWB.r5.lt
          clear hL4 ru hiv hon hWB hlen
          generalize (outL r (rse.take j)).length = m3 at *
          clear hkeep hlf hbf HK1 HK2 HK3 HY HY2 HRU hless
          go_wp2
          refine wp_region_held_drew (S := fun _ => True) (by kernel_rfl) trivial (fun _ => ?_)
          refine wpAnyH_take (i := 0) (oi := ⟨some 42, _, _, _, _, _⟩) (v := ?_) rfl (by kernel_rfl) (by kernel_rfl) (by kernel_rfl) (fun _ _ _ h => h) (Or.inl ⟨by rfl, ?_⟩) trivial ?_
          rotate_left
          · intro W _
            go_simp
            with_reducible rfl
          simp only [Act.put, List.setIfInBounds_toArray, List.set_cons_zero, List.set_cons_succ]
          refine wpAnyH_take (i := 2) (oi := ⟨some 44, _, _, _, _, _⟩) (v := ?_) rfl (by kernel_rfl) (by kernel_rfl) (by kernel_rfl) (fun _ _ _ h => h) (Or.inl ⟨by rfl, ?_⟩) trivial ?_
          rotate_left
          · intro W _
            go_simp
            with_reducible rfl
          simp only [Act.put, List.setIfInBounds_toArray, List.set_cons_zero, List.set_cons_succ]
          refine wpAnyH_take (i := 4) (oi := ⟨some 46, _, _, _, _, _⟩) (v := ?_) rfl (by kernel_rfl) (by kernel_rfl) (by kernel_rfl) (fun _ _ _ h => h) (Or.inl ⟨by rfl, ?_⟩) trivial ?_
          rotate_left
          · intro W _
            go_simp
            with_reducible rfl
          simp only [Act.put, List.setIfInBounds_toArray, List.set_cons_zero, List.set_cons_succ]
          refine wpAnyH_ready (rs := [1, 3]) (by kernel_rfl) (by simp) ?_
          refine AllReadyH.cons (o := ⟨some 43, _, _, _, _, _⟩) rfl (fun K hK => ?_) (AllReadyH.cons (o := ⟨some 45, _, _, _, _, _⟩) rfl (fun K hK => ?_) AllReadyH.nil)
          · skip
            go_simp
            refine hK.out _ _ trivial (fun _ => ?_)
            clear hK K
            refine wpAnyH_ready (rs := [3]) (by kernel_rfl) (by simp) ?_
            refine AllReadyH.cons (o := ⟨some 45, _, _, _, _, _⟩) rfl (fun K hK => ?_) AllReadyH.nil
            go_simp
            refine hK.out _ _ trivial (fun _ => ?_)
            clear hK K
            refine wpAnyH_take (i := 5) (oi := ⟨some 47, _, _, _, _, _⟩) (v := ?_) rfl (by kernel_rfl) (by kernel_rfl) (by kernel_rfl) (fun _ _ _ h => h) (Or.inl ⟨by rfl, ?_⟩) trivial ?_
            rotate_left
            · intro W _
              go_simp
              with_reducible rfl
            simp only [Act.put, List.setIfInBounds_toArray, List.set_cons_zero, List.set_cons_succ]
            refine wpAnyH_ready (rs := [6]) (by kernel_rfl) (by simp) ?_
            refine AllReadyH.cons (o := ⟨some 48, _, _, _, _, _⟩) rfl (fun K hK => ?_) AllReadyH.nil
            go_simp
            refine hK.out _ _ trivial (fun _ => ?_)
            clear hK K
            refine wpAnyH_ready (rs := [7]) (by kernel_rfl) (by simp) ?_
            refine AllReadyH.cons (o := ⟨some 49, _, _, _, _, _⟩) rfl (fun K hK => ?_) AllReadyH.nil
            go_simp
            refine hK.out _ _ trivial (fun _ => ?_)
            clear hK K
            refine wpAnyH_ready (rs := [8]) (by kernel_rfl) (by simp) ?_
            refine AllReadyH.cons (o := ⟨some 50, _, _, _, _, _⟩) rfl (fun K hK => ?_) AllReadyH.nil
            rw [if_pos (by rfl)]
            refine wp_append2 _ _ _ _ rfl _ _ rfl rfl HRUN.out ?_
            simp only [Act.put, List.setIfInBounds_toArray, List.set_cons_zero, List.set_cons_succ]
            refine hK.out _ _ trivial (fun _ => ?_)
            clear hK K
            refine wpAnyH_take (i := 9) (oi := ⟨some 51, _, _, _, _, _⟩) (v := ?_) rfl (by kernel_rfl) (by kernel_rfl) (by kernel_rfl) (fun _ _ _ h => h) (Or.inl ⟨by rfl, ?_⟩) trivial ?_
            rotate_left
            · intro W _
              go_simp
              with_reducible rfl
            simp only [Act.put, List.setIfInBounds_toArray, List.set_cons_zero, List.set_cons_succ]
            refine wpAnyH_ready (rs := [10]) (by kernel_rfl) (by simp) ?_
            refine AllReadyH.cons (o := ⟨none, _, _, _, _, _⟩) rfl (fun K hK => ?_) AllReadyH.nil
            go_simp
            refine hK.out _ _ trivial (fun _ => ?_)
            clear hK K
            refine wpAnyH_done (by kernel_rfl) ?_ _
            clear m1 mf ml
            go_wp2
            go_roundw
            case rel =>
              first
                | exact ⟨j + 1, by omega, by go_num, HLB.out, HN.out⟩
                | exact ⟨_, _, ⟨j + 1, by omega, by go_num, HLB.out, HN.out⟩, rfl, rfl⟩
            case measure => simp [intOf]; omega
          · skip
            go_simp
            refine hK.out _ _ trivial (fun _ => ?_)
            clear hK K
            refine wpAnyH_take (i := 5) (oi := ⟨some 47, _, _, _, _, _⟩) (v := ?_) rfl (by kernel_rfl) (by kernel_rfl) (by kernel_rfl) (fun _ _ _ h => h) (Or.inl ⟨by rfl, ?_⟩) trivial ?_
            rotate_left
            · intro W _
              go_simp
              with_reducible rfl
            simp only [Act.put, List.setIfInBounds_toArray, List.set_cons_zero, List.set_cons_succ]
            refine wpAnyH_ready (rs := [1, 6]) (by kernel_rfl) (by simp) ?_
            refine AllReadyH.cons (o := ⟨some 43, _, _, _, _, _⟩) rfl (fun K hK => ?_) (AllReadyH.cons (o := ⟨some 48, _, _, _, _, _⟩) rfl (fun K hK => ?_) AllReadyH.nil)
            · skip
              go_simp
              refine hK.out _ _ trivial (fun _ => ?_)
              clear hK K
              refine wpAnyH_ready (rs := [6]) (by kernel_rfl) (by simp) ?_
              refine AllReadyH.cons (o := ⟨some 48, _, _, _, _, _⟩) rfl (fun K hK => ?_) AllReadyH.nil
              go_simp
              refine hK.out _ _ trivial (fun _ => ?_)
              clear hK K
              refine wpAnyH_ready (rs := [7]) (by kernel_rfl) (by simp) ?_
              refine AllReadyH.cons (o := ⟨some 49, _, _, _, _, _⟩) rfl (fun K hK => ?_) AllReadyH.nil
              go_simp
              refine hK.out _ _ trivial (fun _ => ?_)
              clear hK K
              refine wpAnyH_ready (rs := [8]) (by kernel_rfl) (by simp) ?_
              refine AllReadyH.cons (o := ⟨some 50, _, _, _, _, _⟩) rfl (fun K hK => ?_) AllReadyH.nil
              rw [if_pos (by rfl)]
              refine wp_append2 _ _ _ _ rfl _ _ rfl rfl HRUN.out ?_
              simp only [Act.put, List.setIfInBounds_toArray, List.set_cons_zero, List.set_cons_succ]
              refine hK.out _ _ trivial (fun _ => ?_)
              clear hK K
              refine wpAnyH_take (i := 9) (oi := ⟨some 51, _, _, _, _, _⟩) (v := ?_) rfl (by kernel_rfl) (by kernel_rfl) (by kernel_rfl) (fun _ _ _ h => h) (Or.inl ⟨by rfl, ?_⟩) trivial ?_
              rotate_left
              · intro W _
                go_simp
                with_reducible rfl
              simp only [Act.put, List.setIfInBounds_toArray, List.set_cons_zero, List.set_cons_succ]
              refine wpAnyH_ready (rs := [10]) (by kernel_rfl) (by simp) ?_
              refine AllReadyH.cons (o := ⟨none, _, _, _, _, _⟩) rfl (fun K hK => ?_) AllReadyH.nil
              go_simp
              refine hK.out _ _ trivial (fun _ => ?_)
              clear hK K
              refine wpAnyH_done (by kernel_rfl) ?_ _
              clear m1 mf ml
              go_wp2
              go_roundw
              case rel =>
                first
                  | exact ⟨j + 1, by omega, by go_num, HLB.out, HN.out⟩
                  | exact ⟨_, _, ⟨j + 1, by omega, by go_num, HLB.out, HN.out⟩, rfl, rfl⟩
              case measure => simp [intOf]; omega
            · skip
              go_simp
              refine hK.out _ _ trivial (fun _ => ?_)
              clear hK K
              refine wpAnyH_ready (rs := [1, 7]) (by kernel_rfl) (by simp) ?_
              refine AllReadyH.cons (o := ⟨some 43, _, _, _, _, _⟩) rfl (fun K hK => ?_) (AllReadyH.cons (o := ⟨some 49, _, _, _, _, _⟩) rfl (fun K hK => ?_) AllReadyH.nil)
              · skip
                go_simp
                refine hK.out _ _ trivial (fun _ => ?_)
                clear hK K
                refine wpAnyH_ready (rs := [7]) (by kernel_rfl) (by simp) ?_
                refine AllReadyH.cons (o := ⟨some 49, _, _, _, _, _⟩) rfl (fun K hK => ?_) AllReadyH.nil
                go_simp
                refine hK.out _ _ trivial (fun _ => ?_)
                clear hK K
                refine wpAnyH_ready (rs := [8]) (by kernel_rfl) (by simp) ?_
                refine AllReadyH.cons (o := ⟨some 50, _, _, _, _, _⟩) rfl (fun K hK => ?_) AllReadyH.nil
                rw [if_pos (by rfl)]
                refine wp_append2 _ _ _ _ rfl _ _ rfl rfl HRUN.out ?_
                simp only [Act.put, List.setIfInBounds_toArray, List.set_cons_zero, List.set_cons_succ]
                refine hK.out _ _ trivial (fun _ => ?_)
                clear hK K
                refine wpAnyH_take (i := 9) (oi := ⟨some 51, _, _, _, _, _⟩) (v := ?_) rfl (by kernel_rfl) (by kernel_rfl) (by kernel_rfl) (fun _ _ _ h => h) (Or.inl ⟨by rfl, ?_⟩) trivial ?_
                rotate_left
                · intro W _
                  go_simp
                  with_reducible rfl
                simp only [Act.put, List.setIfInBounds_toArray, List.set_cons_zero, List.set_cons_succ]
                refine wpAnyH_ready (rs := [10]) (by kernel_rfl) (by simp) ?_
                refine AllReadyH.cons (o := ⟨none, _, _, _, _, _⟩) rfl (fun K hK => ?_) AllReadyH.nil
                go_simp
                refine hK.out _ _ trivial (fun _ => ?_)
                clear hK K
                refine wpAnyH_done (by kernel_rfl) ?_ _
                clear m1 mf ml
                go_wp2
                go_roundw
                case rel =>
                  first
                    | exact ⟨j + 1, by omega, by go_num, HLB.out, HN.out⟩
                    | exact ⟨_, _, ⟨j + 1, by omega, by go_num, HLB.out, HN.out⟩, rfl, rfl⟩
                case measure => simp [intOf]; omega
              · skip
                go_simp
                refine hK.out _ _ trivial (fun _ => ?_)
                clear hK K
                refine wpAnyH_ready (rs := [1]) (by kernel_rfl) (by simp) ?_
                refine AllReadyH.cons (o := ⟨some 43, _, _, _, _, _⟩) rfl (fun K hK => ?_) AllReadyH.nil
                go_simp
                refine hK.out _ _ trivial (fun _ => ?_)
                clear hK K
                refine wpAnyH_ready (rs := [8]) (by kernel_rfl) (by simp) ?_
                refine AllReadyH.cons (o := ⟨some 50, _, _, _, _, _⟩) rfl (fun K hK => ?_) AllReadyH.nil
                rw [if_pos (by rfl)]
                refine wp_append2 _ _ _ _ rfl _ _ rfl rfl HRUN.out ?_
                simp only [Act.put, List.setIfInBounds_toArray, List.set_cons_zero, List.set_cons_succ]
                refine hK.out _ _ trivial (fun _ => ?_)
                clear hK K
                refine wpAnyH_take (i := 9) (oi := ⟨some 51, _, _, _, _, _⟩) (v := ?_) rfl (by kernel_rfl) (by kernel_rfl) (by kernel_rfl) (fun _ _ _ h => h) (Or.inl ⟨by rfl, ?_⟩) trivial ?_
                rotate_left
                · intro W _
                  go_simp
                  with_reducible rfl
                simp only [Act.put, List.setIfInBounds_toArray, List.set_cons_zero, List.set_cons_succ]
                refine wpAnyH_ready (rs := [10]) (by kernel_rfl) (by simp) ?_
                refine AllReadyH.cons (o := ⟨none, _, _, _, _, _⟩) rfl (fun K hK => ?_) AllReadyH.nil
                go_simp
                refine hK.out _ _ trivial (fun _ => ?_)
                clear hK K
                refine wpAnyH_done (by kernel_rfl) ?_ _
                clear m1 mf ml
                go_wp2
                go_roundw
                case rel =>
                  first
                    | exact ⟨j + 1, by omega, by go_num, HLB.out, HN.out⟩
                    | exact ⟨_, _, ⟨j + 1, by omega, by go_num, HLB.out, HN.out⟩, rfl, rfl⟩
                case measure => simp [intOf]; omega
    · have hlt' : ¬ (j : Int) < (rse.length : Int) := by omega
      have hjl : j = rse.length := by omega
      rw [hjl, List.take_length] at ru hiv
      have r1' : wr.cell? ⟨w4.heap.size, 1, none⟩ = some (.slice ae rse.length ce) := hWB.r5.cell 1
      have rl' := hWB.r5.lt
      have hlen : (outL r rse).length ≤ 1000000 := by
        have h1 := outL_length r rse
        have := HRse.out
        omega
      by_cases hlb : laidB r rse = true
      · rw [hjl, List.take_length, hlb]
        have hout : outL r rse = ins Rf.name r rse := by unfold outL; rw [if_pos hlb]
        rw [hout] at ru hiv
        have hoks : ∀ x ∈ ins Rf.name r rse, x.ok w T := fun x hx => (mem_ins.1 hx).elim (fun q => by rw [q]; exact HOk.out) (fun q => HRse.out.2.1 x q)
        clear hout hlb hjl
        generalize hml : (ins Rf.name r rse).length = ml at *
        have z0 : wr.cell? ⟨w4.heap.size + 1, 0, none⟩ = some (.int .i64 room) := ru.cell 0
        have z1 : wr.cell? ⟨w4.heap.size + 1, 1, none⟩ = some (.slice ua ml uc) := ru.cell 1
        have zl := ru.lt
        have q0 : wr.cell? ⟨w.heap.size + 1 + 1, 0, none⟩ = some (.int .i64 0) := hWB.rr.cell 0
        have q1 : wr.cell? ⟨w.heap.size + 1 + 1, 1, none⟩ = some (.slice none 0 0) := hWB.rr.cell 1
        have qf0 := hWB.rr.thaw 0
        have qf1 := hWB.rr.thaw 1
        have ql := hWB.rr.lt
        have HEnd := Lib.hid (with_end (T := T) hWB hiv hml.symm HT.out hoks)
        clear ru hiv hWB hoks hml hlen hon
        go_wp2
        refine bodyPost_ret (v := dV room ua ml uc) (by simp [results, Try.results38, go_sem, q0, q1]) rfl ?_
        rw [HRse.out.2.2]
        exact ⟨_, rfl, HEnd.out⟩
      · have hlf : laidB r rse = false := by simpa using hlb
        rw [hjl, List.take_length, hlf]
        have hout : outL r rse = rse := by unfold outL; rw [if_neg hlb]
        have hend := ins_end hlf
        rw [hout] at ru hiv hlen
        clear hlb hjl hout hlf
        obtain ⟨a5, c5, m5, w5, hL5⟩ := laid1 (wr := wr) (K := w4.heap.size + 2) r (wr.alloc (.cells #[.string ⟨r.name.toArray⟩, r.fv, r.wv] 73)) (Below.refl _ _) (by simp) ru hiv (by omega) (by have := hon.size; have := HS6.out; omega) hlen HOne.out
        have f0 : wr.cell? ⟨w.heap.size + 1, 0, none⟩ = some (.string ⟨r.name.toArray⟩) := hWB.rf.cell 0
        have f1 : wr.cell? ⟨w.heap.size + 1, 1, none⟩ = some (.slice af m1f cf) := by rw [← HEf.out]; exact hWB.rf.cell 1
        have f2 : wr.cell? ⟨w.heap.size + 1, 2, none⟩ = some (.slice aw m2w cw) := by rw [← HEw.out]; exact hWB.rf.cell 2
        have fl := hWB.rf.lt
        have u1 : wr.cell? ⟨w4.heap.size + 1, 1, none⟩ = some (.slice ua (rse).length uc) := ru.cell 1
        have ul := ru.lt
        have n1 : w5.cell? ⟨w4.heap.size + 1, 1, none⟩ = some (.slice ua (rse).length uc) := hL5.old.cell 1
        have nf := hL5.old.thaw 1
        have nl := hL5.old.lt
        have HRUN5 := Lib.hid (hL5.run 25)
        rw [HEf.out, HEw.out] at HRUN5
        have FRU := hL5.row
        have FWB := hWB.only hL5.only
        have FFV := hL5.fv
        have hln := hL5.len
        obtain ⟨w8, hw8⟩ : ∃ w8, w8 = w5.setCell ⟨w4.heap.size + 1, 1, none⟩ (.slice a5 m5 c5) := ⟨_, rfl⟩
        rw [← hw8] at FRU FWB FFV
        rw [← hend] at FFV hln
        have hoks : ∀ x ∈ ins Rf.name r rse, x.ok w T := fun x hx => (mem_ins.1 hx).elim (fun q => by rw [q]; exact HOk.out) (fun q => HRse.out.2.1 x q)
        have H8 := Lib.hid (And.intro FRU (And.intro FWB (And.intro FFV (And.intro hln (And.intro hw8 hoks)))))
        clear FRU FWB FFV hln hw8 hoks hend hL5 ru hiv hon hWB hlen
        go_wp2_with (at_builtin; refine wpList_append2 rfl _ _ _ _ rfl _ _ rfl rfl HRUN5.out ?_; have z0 : w8.cell? ⟨w4.heap.size + 1, 0, none⟩ = some (.int .i64 room) := H8.out.1.cell 0; have z1 : w8.cell? ⟨w4.heap.size + 1, 1, none⟩ = some (.slice a5 m5 c5) := H8.out.1.cell 1; have zl := H8.out.1.lt; have q0 : w8.cell? ⟨w.heap.size + 1 + 1, 0, none⟩ = some (.int .i64 0) := H8.out.2.1.rr.cell 0; have q1 : w8.cell? ⟨w.heap.size + 1 + 1, 1, none⟩ = some (.slice none 0 0) := H8.out.2.1.rr.cell 1; have qf0 := H8.out.2.1.rr.thaw 0; have qf1 := H8.out.2.1.rr.thaw 1; have ql := H8.out.2.1.rr.lt; rw [H8.out.2.2.2.2.1] at z0 z1 zl q0 q1 qf0 qf1 ql)
        have HEnd := Lib.hid (with_end (T := T) H8.out.2.1 H8.out.2.2.1 H8.out.2.2.2.1 HT.out H8.out.2.2.2.2.2)
        rw [H8.out.2.2.2.2.1] at HEnd
        refine bodyPost_ret (v := dV room a5 m5 c5) (by simp [results, Try.results38, go_sem, q0, q1]) rfl ?_
        rw [HRse.out.2.2]
        exact ⟨_, rfl, HEnd.out⟩
end Go.Proofs.Ythheolhghhmdlaa
