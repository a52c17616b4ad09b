/- The document's disk: Run. -/
import Derived.Test.YthheolhghhmdlaaDiskD7
import Derived.Deep.CutRange
namespace Go.Proofs.Ythheolhghhmdlaa
open Go.RowKit Dsk

/-- What lies behind 'u, e := Do(..)': u in block nb. -/
structure CutF (wr : World) (Tk : Nat → Prop) (room : Int) (nb : Nat) (r6 : List Rf) (a6 : Option Addr) (c6 : Nat) (wx : World) : Prop where
  row : Row wx nb 27 #[.int .i64 room, .slice a6 r6.length c6]
  fs : Fs3 wx (moreT Tk wr.heap.size wx.heap.size) a6 r6
  back : Below wr.heap.size wr wx
  nb : wr.heap.size ≤ nb
def CutDo (wr : World) (Tk : Nat → Prop) (room : Int) (fs : List Fil) (er : Nat) (p e : Value) (wx : World) : Prop := ∃ nb r6 a6 c6, p = ptr nb ∧ e = .int .i64 (er : Nat) ∧ r6.map Rf.fil = fs ∧ CutF wr Tk room nb r6 a6 c6 wx
theorem cut_after {wr w6 : World} {Tk : Nat → Prop} {room : Int} {r6 : List Rf} {a6 : Option Addr} {c6 : Nat} (hT : ∀ k, Tk k → k < wr.heap.size) (hf : Fs3 w6 (moreT Tk wr.drew.heap.size w6.heap.size) a6 r6) (hb : Below wr.heap.size wr w6) : CutF wr Tk room w6.heap.size r6 a6 c6 (w6.alloc (.cells #[.int .i64 room, .slice a6 r6.length c6] 27)) := by
  have al : Below w6.heap.size w6 (w6.alloc (.cells #[.int .i64 room, .slice a6 r6.length c6] 27)) := (Below.refl _ _).alloc (Nat.le_refl _) _
  have hs := hb.size
  refine ⟨Row.fresh w6 _ _, (hf.kept (kept_below (fun k hk => hk.elim (fun q => by have := hT k q; omega) (fun q => q.2)) al)).mono fun k hk => ?_, hb.trans (al.mono hs), hs⟩
  rcases hk with q | q
  · exact .inl q
  · have h1 : wr.drew.heap.size = wr.heap.size := rfl
    exact .inr ⟨by omega, by simp; omega⟩
theorem cut_before {wr w6 : World} {Tk : Nat → Prop} {room : Int} {r6 : List Rf} {a6 : Option Addr} {c6 : Nat} (hT : ∀ k, Tk k → k < wr.heap.size) (hrow : Row w6 wr.heap.size 27 #[.int .i64 0, .slice none 0 0]) (hf : Fs3 w6 (moreT Tk (wr.heap.size + 1) w6.heap.size) a6 r6) (hb : Below wr.heap.size wr w6) : CutF wr Tk room wr.heap.size r6 a6 c6 ((w6.setCell ⟨wr.heap.size, 0, none⟩ (.int .i64 room)).setCell ⟨wr.heap.size, 1, none⟩ (.slice a6 r6.length c6)) := by
  have hsz : ((w6.setCell ⟨wr.heap.size, 0, none⟩ (.int .i64 room)).setCell ⟨wr.heap.size, 1, none⟩ (.slice a6 r6.length c6)).heap.size = w6.heap.size := by simp [World.setCell]
  have hs := hb.size
  refine ⟨(hrow.put 0 _).put 1 _, (hf.kept ⟨fun k hk => ?_, by rw [hsz]; exact Nat.le_refl _⟩).mono fun k hk => ?_, (hb.setCell (by show wr.heap.size ≤ wr.heap.size; omega) _).setCell (by show wr.heap.size ≤ wr.heap.size; omega) _, Nat.le_refl _⟩
  · have hne : k ≠ wr.heap.size := by
      rcases hk with q | q
      · have := hT k q; omega
      · omega
    exact (Below.heap_setCell _ _ _ _ hne).trans (Below.heap_setCell _ _ _ _ hne)
  · rcases hk with q | q
    · exact .inl q
    · exact .inr ⟨by omega, by rw [hsz]; exact q.2⟩
/-- So many were done, by the document. -/
structure RuR (w : World) (T : Nat → Prop) (room : Int) (fs : List Fil) (l : List Ope) (k : Nat) (rk : List Rf) (ak : Option Addr) (ck : Nat) (wr : World) : Prop where
  rd : Row wr w.heap.size 27 #[.int .i64 room, .slice ak rk.length ck]
  rr : Row wr (w.heap.size + 1) 27 #[.int .i64 0, .slice none 0 0]
  gs : Fs3 wr (moreT T (w.heap.size + 2) wr.heap.size) ak rk
  mp : rk.map Rf.fil = (runL room fs (l.take k)).1
  ok : (runL room fs (l.take k)).2 = k
  back : Below w.heap.size w wr
  sz : w.heap.size + 2 ≤ wr.heap.size
def RuE (w : World) (T : Nat → Prop) (room : Int) (fs : List Fil) (l : List Ope) (k : Nat) (wr : World) : Prop := ∃ rk ak ck, RuR w T room fs l k rk ak ck wr
theorem rdt_of_op {w : World} {T : Nat → Prop} {a : Option Addr} {l : By} {c : Nat} (hB : Bytes w a l) (hT : 0 < l.length → ∀ k, (Value.slice a l.length c).ownBlock = some k → T k) : RdT byV w T a l := by
  rcases hB with rfl | ⟨b, o, rfl, h⟩
  · exact .inl rfl
  · by_cases q : l = []
    · exact .inl q
    · exact .inr ⟨b, o, rfl, hT (List.length_pos_iff.2 q) b rfl, h⟩
set_option maxRecDepth 100000 in
set_option maxHeartbeats 2000000 in
theorem rrun_any {w : World} {T : Nat → Prop} {ad : Option Addr} {rs : List Rf} (room : Int) (c : Nat) (l : List Ope) (al : Option Addr) (cl : Nat) (h : Fs3 w T ad rs) (hT : ∀ k, T k → k < w.heap.size) (hr : Rising Rf.name rs) (hs : sizeL (rs.map Rf.fil) + looseL (rs.map Rf.fil) + rs.length + cost l ≤ 100000) (hO : Ops w T al l) (hF : Few l) (hro : 0 ≤ room ∧ room ≤ 1099511627776) (hl : l.length ≤ 1000) :
    Calls Try.prog 20 #[dV room ad rs.length c, .slice al l.length cl] w (RDo w T room (runL room (rs.map Rf.fil) l).1 (runL room (rs.map Rf.fil) l).2) := by
  have HH := Lib.hid h
  have HT := Lib.hid hT
  have HRi := Lib.hid ((Rising.map rf_key).2 hr)
  have HS := Lib.hid (show sizeL (rs.map Rf.fil) + looseL (rs.map Rf.fil) + (rs.map Rf.fil).length + cost l ≤ 100000 by rw [List.length_map]; exact hs)
  have HO := Lib.hid hO
  have HFw := Lib.hid (And.intro hF hro)
  have hlI : (l.length : Int) ≤ 1000 := by omega
  obtain ⟨fs, hfs⟩ : ∃ fs, fs = rs.map Rf.fil := ⟨_, rfl⟩
  rw [← hfs] at HRi HS ⊢
  obtain ⟨w2, hw2⟩ : ∃ w2, w2 = (w.alloc (.cells #[.int .i64 room, .slice ad rs.length c] 27)).alloc (.cells #[.int .i64 0, .slice none 0 0] 27) := ⟨_, rfl⟩
  have hb2 : Below w.heap.size w w2 := by rw [hw2]; exact ((Below.refl _ _).alloc (Nat.le_refl _) _).alloc (by simp) _
  have hs2 : w2.heap.size = w.heap.size + 2 := by rw [hw2]; simp
  have H0 := Lib.hid (show RuE w T room fs l 0 w2 from ⟨rs, ad, c, by rw [hw2]; exact (Row.fresh w _ _).past _, by
    rw [hw2]
    have := Row.fresh (w.alloc (.cells #[.int .i64 room, .slice ad rs.length c] 27)) 27 #[.int .i64 0, .slice none 0 0]
    rw [World.size_alloc] at this
    exact this, (h.kept (kept_below hT hb2)).mono (fun k hk => .inl hk), by rw [← hfs]; rfl, rfl, hb2, by omega⟩)
  have HW2 := Lib.hid hw2
  clear h hT hr hs hO hF hro hfs hb2 hs2 hw2
  go_enter Try.func20, Try.ntmps20
  go_wp2
  rw [← HW2.out]
  go_loopw [6, 7, 8] (fun i _ _ wr => ∃ k : Nat, k ≤ l.length ∧ i = .int .i64 k ∧ RuE w T room fs l k wr) (fun i _ _ _ => l.length - (intOf i).toNat)
  case atStart => exact ⟨0, by omega, rfl, H0.out⟩
  case round =>
    obtain ⟨k, hk, rfl, rk, ak, ck, hR⟩ := hrel
    clear H0
    have HR := Lib.hid hR
    by_cases hlt : k < l.length
    · have hlt' : (k : Int) < (l.length : Int) := by omega
      obtain ⟨b, o, ax, cx, ea, hTb, hbl, hop, hTx⟩ := HO.out.nth hlt
      subst ea
      have hopr := hop.under hR.back
      have hx9 := HFw.out.1 _ (List.getElem_mem hlt)
      have hct := cost_take l k hlt
      have hcl := cost_le l (k + 1)
      have hsz := runL_size (room := room) (l.take k) HRi.out
      have htk := runL_take (room := room) (fs := fs) l hlt hR.ok
      have hxd : RdT byV wr T ax (l[k]'hlt).data := rdt_of_op (c := cx) hopr.2.2.2.2 hTx
      have hTk : ∀ j, moreT T (w.heap.size + 2) wr.heap.size j → j < wr.heap.size := fun j hj => hj.elim (fun q => by have := HT.out j q; have := hR.sz; omega) (fun q => q.2)
      have hrk : Rising Rf.name rk := (Rising.map rf_key).1 (by rw [hR.mp]; exact hsz.1)
      have HDo := Lib.hid (show ∀ W, Below wr.heap.size wr W → Calls Try.prog 15 #[dV room ak rk.length ck, opV (l[k]'hlt) ax cx] W (RDo W (moreT T (w.heap.size + 2) wr.heap.size) room (doL room (rk.map Rf.fil) (l[k]'hlt)).1 (doL room (rk.map Rf.fil) (l[k]'hlt)).2) from fun W hW =>
        rdo_any room ck (l[k]'hlt) ax cx (hR.gs.kept (kept_below hTk hW)) (fun j hj => Nat.lt_of_lt_of_le (hTk j hj) hW.size) hrk (by rw [hR.mp, show rk.length = (runL room fs (l.take k)).1.length by rw [← hR.mp]; simp]; have := HS.out; omega) ((hxd.mono fun j hj => .inl hj).kept (kept_below hTk hW)) (by have := HS.out; omega) ⟨hx9.1, hx9.2.1⟩ HFw.out.2)
      rw [hR.mp] at HDo
      have HTk := Lib.hid hTk
      have HTake := Lib.hid htk
      have HSt0 := Lib.hid (show ∀ W, Below wr.heap.size wr W → Row W w.heap.size 27 #[.int .i64 room, .slice ak rk.length ck] ∧ OpC W b (o + k * 4) ax cx (l[k]'hlt) from fun W hW => ⟨hR.rd.under hW hR.rd.lt, hopr.under hW⟩)
      clear hop hopr hx9 hct hcl hsz htk hxd hTk hrk hTx hR
      generalize (l[k]'hlt) = x at *
      obtain ⟨xk, xn, xt, xd⟩ := x
      have HSt := Lib.hid (show ∀ W, Below wr.heap.size wr W → W.cell? ⟨w.heap.size, 0, none⟩ = some (.int .i64 room) ∧ W.cell? ⟨w.heap.size, 1, none⟩ = some (.slice ak rk.length ck) ∧ W.cell? ⟨b, o + k * 4, none⟩ = some (.int .i64 xk) ∧ W.cell? ⟨b, o + k * 4 + 1, none⟩ = some (.string ⟨xn.toArray⟩) ∧ W.cell? ⟨b, o + k * 4 + 2, none⟩ = some (.string ⟨xt.toArray⟩) ∧ W.cell? ⟨b, o + k * 4 + 3, none⟩ = some (.slice ax xd.length cx) ∧ w.heap.size < W.heap.size ∧ b < W.heap.size from fun W hW => by
        obtain ⟨h1, h2⟩ := HSt0.out W hW
        exact ⟨h1.cell 0, h1.cell 1, h2.1, h2.2.1, h2.2.2.1, h2.2.2.2.1, h1.lt, block_lt_of_cell h2.1⟩)
      clear HSt0
      go_upto_region 4 with (fail)
      go_cut [7, 8] from 9 to 28 (fun p e wx => CutDo wr (moreT T (w.heap.size + 2) wr.heap.size) room (doL room (runL room fs (l.take k)).1 ⟨xk, xn, xt, xd⟩).1 (doL room (runL room fs (l.take k)).1 ⟨xk, xn, xt, xd⟩).2 p e wx)
      case first =>
        refine wp_region_held_drew (S := fun W => W.cell? ⟨w.heap.size, 0, none⟩ = some (.int .i64 room) ∧ W.cell? ⟨w.heap.size, 1, none⟩ = some (.slice ak rk.length ck) ∧ W.cell? ⟨b, o + k * 4, none⟩ = some (.int .i64 xk) ∧ W.cell? ⟨b, o + k * 4 + 1, none⟩ = some (.string ⟨xn.toArray⟩) ∧ W.cell? ⟨b, o + k * 4 + 2, none⟩ = some (.string ⟨xt.toArray⟩) ∧ W.cell? ⟨b, o + k * 4 + 3, none⟩ = some (.slice ax xd.length cx) ∧ w.heap.size < W.heap.size ∧ b < W.heap.size) (by kernel_rfl) (HSt.out _ (Below.refl _ _).drew) (fun hHeld => ?_)
        refine wpAnyH_take (i := 0) (oi := ⟨some 16, _, _, _, _, _⟩) (v := ?_) rfl (by kernel_rfl) (by kernel_rfl) (by kernel_rfl) (fun _ _ _ h => h) (Or.inl ⟨by rfl, ?_⟩) hHeld ?_
        rotate_left
        · intro W hSw
          obtain ⟨sd0, sd1, so0, so1, so2, so3, sdl, sol⟩ := hSw
          go_simp
          with_reducible rfl
        simp only [Act.put, List.setIfInBounds_toArray, List.set_cons_zero, List.set_cons_succ]
        refine wpAnyH_take (i := 1) (oi := ⟨some 17, _, _, _, _, _⟩) (v := ?_) rfl (by kernel_rfl) (by kernel_rfl) (by kernel_rfl) (fun _ _ _ h => h) (Or.inl ⟨by rfl, ?_⟩) hHeld ?_
        rotate_left
        · intro W hSw
          obtain ⟨sd0, sd1, so0, so1, so2, so3, sdl, sol⟩ := hSw
          go_simp
          with_reducible rfl
        simp only [Act.put, List.setIfInBounds_toArray, List.set_cons_zero, List.set_cons_succ]
        refine wpAnyH_take (i := 2) (oi := ⟨some 18, _, _, _, _, _⟩) (v := ?_) rfl (by kernel_rfl) (by kernel_rfl) (by kernel_rfl) (fun _ _ _ h => h) (Or.inl ⟨by rfl, ?_⟩) hHeld ?_
        rotate_left
        · intro W hSw
          obtain ⟨sd0, sd1, so0, so1, so2, so3, sdl, sol⟩ := hSw
          go_simp
          with_reducible rfl
        simp only [Act.put, List.setIfInBounds_toArray, List.set_cons_zero, List.set_cons_succ]
        refine wpAnyH_take (i := 3) (oi := ⟨some 19, _, _, _, _, _⟩) (v := ?_) rfl (by kernel_rfl) (by kernel_rfl) (by kernel_rfl) (fun _ _ _ h => h) (Or.inl ⟨by rfl, ?_⟩) hHeld ?_
        rotate_left
        · intro W hSw
          obtain ⟨sd0, sd1, so0, so1, so2, so3, sdl, sol⟩ := hSw
          go_simp
          with_reducible rfl
        simp only [Act.put, List.setIfInBounds_toArray, List.set_cons_zero, List.set_cons_succ]
        refine wpAnyH_take (i := 4) (oi := ⟨some 20, _, _, _, _, _⟩) (v := ?_) rfl (by kernel_rfl) (by kernel_rfl) (by kernel_rfl) (fun _ _ _ h => h) (Or.inl ⟨by rfl, ?_⟩) hHeld ?_
        rotate_left
        · intro W hSw
          obtain ⟨sd0, sd1, so0, so1, so2, so3, sdl, sol⟩ := hSw
          go_simp
          with_reducible rfl
        simp only [Act.put, List.setIfInBounds_toArray, List.set_cons_zero, List.set_cons_succ]
        refine wpAnyH_ready (rs := [5, 9]) (by kernel_rfl) (by simp) ?_
        refine AllReadyH.cons (o := ⟨some 21, _, _, _, _, _⟩) rfl (fun K hK => ?_) (AllReadyH.cons (o := ⟨some 7, _, _, _, _, _⟩) rfl (fun K hK => ?_) AllReadyH.nil)
        · skip
          go_simp
          refine (HDo.out wr.drew (Below.refl _ _).drew).mono ?_
          rintro e w6 ⟨v6, r6, rfl, hr6, a6, c6, rfl, hf6, hb6⟩
          have hb6' : Below wr.heap.size wr w6 := ⟨hb6.os, hb6.tape, hb6.output, hb6.size, hb6.block⟩
          have HC := Lib.hid (cut_after (room := room) (c6 := c6) HTk.out hf6 hb6')
          refine hK.out _ _ (HSt.out _ hb6') (fun hHeld => ?_)
          clear hK K hf6 hb6
          refine wpAnyH_take (i := 6) (oi := ⟨some 15, _, _, _, _, _⟩) (v := ?_) rfl (by kernel_rfl) (by kernel_rfl) (by kernel_rfl) (fun _ _ _ h => h) (Or.inl ⟨by rfl, ?_⟩) hHeld ?_
          rotate_left
          · intro W hSw
            obtain ⟨sd0, sd1, so0, so1, so2, so3, sdl, sol⟩ := hSw
            go_simp
            with_reducible rfl
          simp only [Act.put, List.setIfInBounds_toArray, List.set_cons_zero, List.set_cons_succ]
          refine wpAnyH_take (i := 7) (oi := ⟨some 22, _, _, _, _, _⟩) (v := ?_) rfl (by kernel_rfl) (by kernel_rfl) (by kernel_rfl) (fun _ _ _ h => h) (Or.inl ⟨by rfl, ?_⟩) hHeld ?_
          rotate_left
          · intro W hSw
            obtain ⟨sd0, sd1, so0, so1, so2, so3, sdl, sol⟩ := hSw
            go_simp
            with_reducible rfl
          simp only [Act.put, List.setIfInBounds_toArray, List.set_cons_zero, List.set_cons_succ]
          refine wpAnyH_take (i := 8) (oi := ⟨some 23, _, _, _, _, _⟩) (v := ?_) rfl (by kernel_rfl) (by kernel_rfl) (by kernel_rfl) (fun _ _ _ h => h) (Or.inl ⟨by rfl, ?_⟩) hHeld ?_
          rotate_left
          · intro W hSw
            obtain ⟨sd0, sd1, so0, so1, so2, so3, sdl, sol⟩ := hSw
            go_simp
            with_reducible rfl
          simp only [Act.put, List.setIfInBounds_toArray, List.set_cons_zero, List.set_cons_succ]
          refine wpAnyH_ready (rs := [9]) (by kernel_rfl) (by simp) ?_
          refine AllReadyH.cons (o := ⟨some 7, _, _, _, _, _⟩) rfl (fun K hK => ?_) AllReadyH.nil
          go_simp
          refine hK.out _ _ (HSt.out _ (hb6'.alloc hb6'.size _)) (fun hHeld => ?_)
          clear hK K
          refine wpAnyH_ready (rs := [10]) (by kernel_rfl) (by simp) ?_
          refine AllReadyH.cons (o := ⟨none, _, _, _, _, _⟩) rfl (fun K hK => ?_) AllReadyH.nil
          go_simp
          refine hK.out _ _ (HSt.out _ (hb6'.alloc hb6'.size _)) (fun hHeld => ?_)
          clear hK K
          refine wpAnyH_take (i := 11) (oi := ⟨some 8, _, _, _, _, _⟩) (v := ?_) rfl (by kernel_rfl) (by kernel_rfl) (by kernel_rfl) (fun _ _ _ h => h) (Or.inl ⟨by rfl, ?_⟩) hHeld ?_
          rotate_left
          · intro W hSw
            obtain ⟨sd0, sd1, so0, so1, so2, so3, sdl, sol⟩ := hSw
            go_simp
            with_reducible rfl
          simp only [Act.put, List.setIfInBounds_toArray, List.set_cons_zero, List.set_cons_succ]
          refine wpAnyH_done (by kernel_rfl) ?_ _
          go_wp2_with fail
          go_meet
          exact ⟨_, r6, a6, c6, rfl, rfl, hr6, HC.out⟩
        · skip
          go_simp
          have alB : Below wr.heap.size wr (wr.drew.alloc (.cells #[.int .i64 0, .slice none 0 0] 27)) := (Below.refl wr.heap.size wr).drew.alloc (Nat.le_refl _) _
          refine hK.out _ _ (HSt.out _ alB) (fun hHeld => ?_)
          clear hK K
          refine wpAnyH_ready (rs := [5]) (by kernel_rfl) (by simp) ?_
          refine AllReadyH.cons (o := ⟨some 21, _, _, _, _, _⟩) rfl (fun K hK => ?_) AllReadyH.nil
          go_simp
          refine (HDo.out _ alB).mono ?_
          rintro e w6 ⟨v6, r6, rfl, hr6, a6, c6, rfl, hf6, hb6⟩
          have hb6' : Below wr.heap.size wr w6 := alB.trans (hb6.mono (by simp))
          have hrow := (Row.fresh wr.drew 27 #[.int .i64 0, .slice none 0 0]).under hb6 (by simp)
          have HC := Lib.hid (cut_before (room := room) (c6 := c6) HTk.out hrow (by simpa using hf6) hb6')
          have n0 : w6.cell? ⟨wr.heap.size, 0, none⟩ = some (.int .i64 0) := hrow.cell 0
          have n1 : w6.cell? ⟨wr.heap.size, 1, none⟩ = some (.slice none 0 0) := hrow.cell 1
          have nf0 : w6.frozen? ⟨wr.heap.size, 0, none⟩ = false := hrow.thaw 0
          have nf1 : w6.frozen? ⟨wr.heap.size, 1, none⟩ = false := hrow.thaw 1
          have nl : wr.heap.size < w6.heap.size := hrow.lt
          refine hK.out _ _ (HSt.out _ hb6') (fun hHeld => ?_)
          clear hK K hf6 hb6 hrow
          refine wpAnyH_take (i := 6) (oi := ⟨some 15, _, _, _, _, _⟩) (v := ?_) rfl (by kernel_rfl) (by kernel_rfl) (by kernel_rfl) (fun _ _ _ h => h) (Or.inl ⟨by rfl, ?_⟩) hHeld ?_
          rotate_left
          · intro W hSw
            obtain ⟨sd0, sd1, so0, so1, so2, so3, sdl, sol⟩ := hSw
            go_simp
            with_reducible rfl
          simp only [Act.put, List.setIfInBounds_toArray, List.set_cons_zero, List.set_cons_succ]
          refine wpAnyH_take (i := 7) (oi := ⟨some 22, _, _, _, _, _⟩) (v := ?_) rfl (by kernel_rfl) (by kernel_rfl) (by kernel_rfl) (fun _ _ _ h => h) (Or.inl ⟨by rfl, ?_⟩) hHeld ?_
          rotate_left
          · intro W hSw
            obtain ⟨sd0, sd1, so0, so1, so2, so3, sdl, sol⟩ := hSw
            go_simp
            with_reducible rfl
          simp only [Act.put, List.setIfInBounds_toArray, List.set_cons_zero, List.set_cons_succ]
          refine wpAnyH_take (i := 8) (oi := ⟨some 23, _, _, _, _, _⟩) (v := ?_) rfl (by kernel_rfl) (by kernel_rfl) (by kernel_rfl) (fun _ _ _ h => h) (Or.inl ⟨by rfl, ?_⟩) hHeld ?_
          rotate_left
          · intro W hSw
            obtain ⟨sd0, sd1, so0, so1, so2, so3, sdl, sol⟩ := hSw
            go_simp
            with_reducible rfl
          simp only [Act.put, List.setIfInBounds_toArray, List.set_cons_zero, List.set_cons_succ]
          refine wpAnyH_ready (rs := [10]) (by kernel_rfl) (by simp) ?_
          refine AllReadyH.cons (o := ⟨none, _, _, _, _, _⟩) rfl (fun K hK => ?_) AllReadyH.nil
          go_simp
          refine hK.out _ _ (HSt.out _ ((hb6'.setCell (by show wr.heap.size ≤ wr.heap.size; omega) _).setCell (by show wr.heap.size ≤ wr.heap.size; omega) _)) (fun hHeld => ?_)
          clear hK K
          refine wpAnyH_take (i := 11) (oi := ⟨some 8, _, _, _, _, _⟩) (v := ?_) rfl (by kernel_rfl) (by kernel_rfl) (by kernel_rfl) (fun _ _ _ h => h) (Or.inl ⟨by rfl, ?_⟩) hHeld ?_
          rotate_left
          · intro W hSw
            obtain ⟨sd0, sd1, so0, so1, so2, so3, sdl, sol⟩ := hSw
            go_simp
            with_reducible rfl
          simp only [Act.put, List.setIfInBounds_toArray, List.set_cons_zero, List.set_cons_succ]
          refine wpAnyH_done (by kernel_rfl) ?_ _
          go_wp2_with fail
          go_meet
          exact ⟨_, r6, a6, c6, rfl, rfl, hr6, HC.out⟩
      case rest =>
        obtain ⟨nb, r6, a6, c6, rfl, rfl, hr6, hcf⟩ := hcut
        obtain ⟨er, her⟩ : ∃ er, er = (doL room (runL room fs (l.take k)).1 ⟨xk, xn, xt, xd⟩).2 := ⟨_, rfl⟩
        have hRb := HR.out
        have hs2 := hRb.sz
        have hrd := hRb.rd.under hcf.back hRb.rd.lt
        have hrr := hRb.rr.under hcf.back hRb.rr.lt
        rw [← her] at HTake ⊢
        have d0 : wc.cell? ⟨w.heap.size, 0, none⟩ = some (.int .i64 room) := hrd.cell 0
        have d1 : wc.cell? ⟨w.heap.size, 1, none⟩ = some (.slice ak rk.length ck) := hrd.cell 1
        have dl := hrd.lt
        have q0 : wc.cell? ⟨w.heap.size + 1, 0, none⟩ = some (.int .i64 0) := hrr.cell 0
        have q1 : wc.cell? ⟨w.heap.size + 1, 1, none⟩ = some (.slice none 0 0) := hrr.cell 1
        have qf0 := hrr.thaw 0
        have qf1 := hrr.thaw 1
        have ql := hrr.lt
        have hnb := hcf.nb
        by_cases he : er = 0
        · have he' : ((er : Int) == 0) = true := by simp [he]
          have e0 : wc.cell? ⟨nb, 0, none⟩ = some (.int .i64 room) := hcf.row.cell 0
          have e1 : wc.cell? ⟨nb, 1, none⟩ = some (.slice a6 r6.length c6) := hcf.row.cell 1
          have el := hcf.row.lt
          have df0 := hrd.thaw 0
          have df1 := hrd.thaw 1
          have HN := Lib.hid (show RuE w T room fs l (k + 1) ((wc.setCell ⟨w.heap.size, 0, none⟩ (.int .i64 room)).setCell ⟨w.heap.size, 1, none⟩ (.slice a6 r6.length c6)) from by
            have hsz : ((wc.setCell ⟨w.heap.size, 0, none⟩ (.int .i64 room)).setCell ⟨w.heap.size, 1, none⟩ (.slice a6 r6.length c6)).heap.size = wc.heap.size := by simp [World.setCell]
            have hb2 := hRb.back.trans (hcf.back.mono hRb.back.size)
            have hws := hcf.back.size
            have h1 := (HTake.out.1 he)
            refine ⟨r6, a6, c6, (hrd.put 0 _).put 1 _, (hrr.away (by show w.heap.size + 1 ≠ w.heap.size; omega) _).away (by show w.heap.size + 1 ≠ w.heap.size; omega) _, (hcf.fs.kept ⟨fun j hj => ?_, by rw [hsz]; exact Nat.le_refl _⟩).mono fun j hj => ?_, ?_, ?_, (hb2.setCell (by show w.heap.size ≤ w.heap.size; omega) _).setCell (by show w.heap.size ≤ w.heap.size; omega) _, by rw [hsz]; omega⟩
            · have hne : j ≠ w.heap.size := by
                rcases hj with (q | q) | q
                · have := HT.out j q; omega
                · omega
                · omega
              exact (Below.heap_setCell _ _ _ _ hne).trans (Below.heap_setCell _ _ _ _ hne)
            · rw [hsz]
              rcases hj with (q | q) | q
              · exact .inl q
              · exact .inr ⟨q.1, by omega⟩
              · exact .inr ⟨by omega, q.2⟩
            · rw [hr6, h1]
            · rw [h1])
          have HE := Lib.hid he
          clear hRb hrd hrr hcf hr6 her he
          go_wp2
          go_roundw
          case rel =>
            first
              | exact ⟨k + 1, by omega, by go_num, HN.out⟩
              | exact ⟨_, _, _, ⟨k + 1, by omega, by go_num, HN.out⟩, rfl, rfl, rfl⟩
          case measure => simp [intOf]; omega
        · have he' : ((er : Int) == 0) = false := by simp [he]
          have h1 := HTake.out.2 he
          have HEnd := Lib.hid (show RDo w T room (runL room fs l).1 (runL room fs l).2 (.returned (.tuple #[dV room ak rk.length ck, .int .i64 k])) ((wc.setCell ⟨w.heap.size + 1, 0, none⟩ (.int .i64 room)).setCell ⟨w.heap.size + 1, 1, none⟩ (.slice ak rk.length ck)) from by
            have hsz : ((wc.setCell ⟨w.heap.size + 1, 0, none⟩ (.int .i64 room)).setCell ⟨w.heap.size + 1, 1, none⟩ (.slice ak rk.length ck)).heap.size = wc.heap.size := by simp [World.setCell]
            have hb2 := hRb.back.trans (hcf.back.mono hRb.back.size)
            have hws := hcf.back.size
            have hg := hRb.gs.kept (kept_below HTk.out hcf.back)
            refine ⟨_, rk, by rw [h1], by rw [hRb.mp, h1], ak, ck, rfl, (hg.kept ⟨fun j hj => ?_, by rw [hsz]; exact Nat.le_refl _⟩).mono fun j hj => ?_, (hb2.setCell (by show w.heap.size ≤ w.heap.size + 1; omega) _).setCell (by show w.heap.size ≤ w.heap.size + 1; omega) _⟩
            · have hne : j ≠ w.heap.size + 1 := by
                rcases hj with q | q
                · have := HT.out j q; omega
                · omega
              exact (Below.heap_setCell _ _ _ _ hne).trans (Below.heap_setCell _ _ _ _ hne)
            · rw [hsz]
              rcases hj with q | q
              · exact .inl q
              · exact .inr ⟨by omega, by omega⟩)
          clear hRb hrd hrr hcf hr6 her h1
          go_wp2
          refine bodyPost_ret (v := .tuple #[dV room ak rk.length ck, .int .i64 k]) (by simp [results, Try.results20, go_sem, q0, q1]) rfl ?_
          exact HEnd.out
    · have hlt' : ¬ (k : Int) < (l.length : Int) := by omega
      have hkl : k = l.length := by omega
      have hok := hR.ok
      have hmp := hR.mp
      rw [hkl, List.take_length] at hok hmp
      have d0 : wr.cell? ⟨w.heap.size, 0, none⟩ = some (.int .i64 room) := hR.rd.cell 0
      have d1 : wr.cell? ⟨w.heap.size, 1, none⟩ = some (.slice ak rk.length ck) := hR.rd.cell 1
      have dl := hR.rd.lt
      have q0 : wr.cell? ⟨w.heap.size + 1, 0, none⟩ = some (.int .i64 0) := hR.rr.cell 0
      have q1 : wr.cell? ⟨w.heap.size + 1, 1, none⟩ = some (.slice none 0 0) := hR.rr.cell 1
      have qf0 := hR.rr.thaw 0
      have qf1 := hR.rr.thaw 1
      have ql := hR.rr.lt
      have HEnd := Lib.hid (show RDo w T room (runL room fs l).1 (runL room fs l).2 (.returned (.tuple #[dV room ak rk.length ck, .int .i64 l.length])) ((wr.setCell ⟨w.heap.size + 1, 0, none⟩ (.int .i64 room)).setCell ⟨w.heap.size + 1, 1, none⟩ (.slice ak rk.length ck)) from by
        have hsz : ((wr.setCell ⟨w.heap.size + 1, 0, none⟩ (.int .i64 room)).setCell ⟨w.heap.size + 1, 1, none⟩ (.slice ak rk.length ck)).heap.size = wr.heap.size := by simp [World.setCell]
        refine ⟨_, rk, by rw [hok], hmp, ak, ck, rfl, (hR.gs.kept ⟨fun j hj => ?_, by rw [hsz]; exact Nat.le_refl _⟩).mono fun j hj => ?_, (hR.back.setCell (by show w.heap.size ≤ w.heap.size + 1; omega) _).setCell (by show w.heap.size ≤ w.heap.size + 1; omega) _⟩
        · have hne : j ≠ w.heap.size + 1 := by
            rcases hj with q | q
            · have := HT.out j q; omega
            · omega
          exact (Below.heap_setCell _ _ _ _ hne).trans (Below.heap_setCell _ _ _ _ hne)
        · rw [hsz]
          rcases hj with q | q
          · exact .inl q
          · exact .inr ⟨by omega, q.2⟩)
      clear hR hok hmp
      go_wp2
      refine bodyPost_ret (v := .tuple #[dV room ak rk.length ck, .int .i64 l.length]) (by simp [results, Try.results20, go_sem, q0, q1]) rfl ?_
      exact HEnd.out
end Go.Proofs.Ythheolhghhmdlaa
