/- A disk: another one like it, the walk. -/
import Derived.Test.YthheolhghhmdlaaDiskO
namespace Go.Proofs.Ythheolhghhmdlaa
open Go.RowKit Dsk
open Go.Maps (Keyed)
section
variable {w w' : World} {g : Nat} {S : Nat → Prop} {room : Int} {L : List Ent} {mv : Value} {o : Nat → Nat} {used : Nat}
set_option maxRecDepth 100000 in
theorem copy_some (mb : Nat) (h : Dk w g S room L (.map (some mb)) o used) (hs : Sm (L.map Ent.fil)) :
    Calls Try.prog 22 #[ptr g] w (Copied w room (L.map Ent.fil)) := by
  have k0 : w.cell? ⟨g, 0, none⟩ = some (.int .i64 room) := h.row.cell 0
  have hl := h.lt
  obtain ⟨w1, hw1⟩ : ∃ w1, w1 = w.alloc (.cells #[.int .i64 room, .int .i64 0, .map none] 64) := ⟨_, rfl⟩
  have hb1 : Below w.heap.size w w1 := by rw [hw1]; exact (Below.refl _ _).alloc (Nat.le_refl _) _
  have hs1 : w1.heap.size = w.heap.size + 1 := by rw [hw1]; simp
  have h1 := h.below hb1
  have k2 : w1.cell? ⟨g, 2, none⟩ = some (.map (some mb)) := h1.row.cell 2
  have hl1 := h1.lt
  have hd1 : Dk w1 w.heap.size (fun k => k = w.heap.size) room [] (.map none) (fun k => k) 0 := by rw [hw1]; exact fresh_disk w room
  have HO := Lib.hid (MapV.some h1.map)
  have HMb := Lib.hid (h.map.lt rfl)
  have HD1 := Lib.hid (And.intro hd1 (And.intro hb1 hs1))
  have HH := Lib.hid h
  have HS := Lib.hid hs
  have HW1 := Lib.hid hw1
  clear h hs h1 hd1 hb1
  go_enter Try.func22, Try.ntmps22
  rw [hw1] at k2 hl1 HO hs1
  clear hw1
  go_wp2_with (first
    | (at_range; refine wpList_range_own _ rfl _ 62 rfl 9 67 keyS Try.underlying62 _ mb L.length _ rfl HO.out ?_; intro w0 hrg0 hg0 hs0; have HR0 := Lib.hid (And.intro hrg0 (And.intro hg0 hs0)); clear hrg0 hg0 hs0)
    | go_in)
  go_frame
  rw [World.size_alloc] at HR0 ⊢
  rw [← HW1.out] at HR0
  clear k2 hl1 HO hs1
  go_loopw [4, 5] (fun _ _ wr => CopiesR w room L mb wr) (fun _ _ wr => wr.rangeLeft mb (w.heap.size + 1))
  case atStart =>
    have hg0 := HR0.out.2.1
    have hd := HD1.out.1.only (S' := fun _ => False) (w' := w0) ⟨hg0.os, hg0.tape, hg0.output, hg0.size, fun k hk _ => hg0.block k hk (by simp)⟩ (fun _ _ q => q)
    exact ⟨_, _, [], _, [], _, _, HR0.out.1, by simp [Maps.size], Collected.start _, hd, fun f => by simp, Nat.le_refl _, fun k q => by have q' : k = w.heap.size := q; omega, HD1.out.2.1.grown hg0 (by have := HD1.out.2.2; omega) (fun k e => by cases e)⟩
  case round =>
    obtain ⟨left, cnt, ss, S2, L2, mv2, o2, hrg, hcs, hC, hd, hmem, hll, hS2, hb⟩ := hrel
    have hbs := hb.size
    have HC := Lib.hid (And.intro hC (And.intro hd (And.intro hmem (And.intro hll (And.intro hS2 hb)))))
    have HCs := Lib.hid hcs
    clear hC hd hmem hll hS2 hb hcs
    go_wp2_with (first
      | (at_next; refine wpList_next_ranges _ rfl _ rfl 9 keyS pE encStr ptrOf (fun key kl hk => by obtain ⟨x, hx, _⟩ := Maps.keyOf_str Try.underlying9 hk; exact ⟨x, hx⟩) pE_inv mb (w.heap.size + 1) L.length _ _ _ rfl hrg ?_ ?_)
      | go_in)
    · intro hc0 hl0
      have hp : ss.Perm (L.map Ent.name) := by
        have := HC.out.1.perm (MapV.some HH.out.map) keyS Try.underlying9 hl0
        rw [keys_datum hE] at this
        exact this
      have hall := copies_all HH.out.rise HC.out.2.1.rise HC.out.2.2.1 hp
      have HE := Lib.hid hall
      have HCn := Lib.hid (count_any HC.out.2.1 (by rw [hall]; exact HS.out))
      clear hl0 hrg hp hall
      go_wp2_with fail
      refine HCn.out.mono ?_
      rintro e w5 ⟨rfl, o5, hd5, ho5⟩
      have HF := Lib.hid (show Copied w room (L.map Ent.fil) (.returned (ptr w.heap.size)) w5 from by
        have hc := HC.out.2.2.2.2
        refine ⟨w.heap.size, S2, rfl, ⟨L2, mv2, o5, ?_, HE.out⟩, fun k q => (hc.1 k q).1, hc.2.trans (ho5.below (K := w.heap.size) (fun k q => by rw [q]; exact Nat.le_refl _) hbs)⟩
        rw [← HE.out]
        exact hd5)
      clear hd5 ho5
      go_wp2
      go_ret
      exact HF.out
    · intro x c kl yd yp w2 cnt2 hkey hlk hv hat hrg2 hlt hg2 hs2 hen
      obtain ⟨x', ex, rfl, _⟩ := Maps.keyOf_str Try.underlying9 hkey
      obtain rfl : x = x' := encStr_inj ex
      obtain ⟨e, hge, hpe⟩ := entry_at hv hat
      rw [hpe] at hen hv ⊢
      have hC2 := HC.out.1.step hlk hat
      have hc := HC.out.2
      have hb2 : Below w.heap.size w w2 := hc.2.2.2.2.grown hg2 hbs (fun k e => by cases e; omega)
      have hd2 := hc.1.only (S' := fun k => k = w.heap.size + 1) (w' := w2) ((Only.refl _ wr).grown hg2 (fun k q => by cases q; exact .inl rfl)) (fun k hk q => (hc.2.2.2.1 k hk).2 q)
      have hme := (get_some hge).1
      have hfe := (HH.out.fl e hme).below hb2
      have hsm := HS.out.at_ hme
      have hnm : x.length ≤ 60 := by rw [← (get_some hge).2]; exact HH.out.nm e hme
      have HCp := Lib.hid (fcopied_any _ (relab o2 wr.heap.size w.heap.size) e.blk e.fv e.wv e.vs e.firm e.ws w2 hfe hsm.1 hsm.2.1)
      have HN := Lib.hid (And.intro hrg2 (And.intro hC2 (And.intro hb2 (And.intro hlt (And.intro hge (And.intro hrg (And.intro hd2 hnm)))))))
      clear hkey hlk hv hat hrg2 hlt hg2 hs2 hC2 hb2 hge hrg hpe ex hd2 hme hfe hsm hnm hc
      go_wp2_with fail
      refine HCp.out.mono ?_
      rintro r w3 ⟨fb', fv', wv', vs', rfl, hf3, hb3, hfb3⟩
      have hd3 := HN.out.2.2.2.2.2.2.1.onlyTo (Only.of_below (fun _ => False) hb3) (fun _ _ q => q) fb' (fun y hy => by have := (HN.out.2.2.2.2.2.2.1.fl y hy).lt; omega) hf3.lt
      have HLy := Lib.hid (lay_any w.heap.size room (0 : Nat) mv2 L2 ⟨x, fb', fv', wv', vs', e.firm, e.ws⟩ w3 hd3.row hd3.map HN.out.2.2.2.2.2.2.2 (by have h1 := HC.out.2.2.2.1; have h2 := HCs.out; have h3 := HS.out; unfold Sm at h3; simp only [List.length_map] at h3; omega))
      have H3 := Lib.hid (And.intro hf3 (And.intro hb3 hfb3))
      clear hf3 hb3 hfb3 hd3
      go_wp2_with fail
      refine HLy.out.mono ?_
      rintro r w4 ⟨rfl, hl4⟩
      have hn := HN.out
      have HR := Lib.hid (copies_step (w := w) HH.out.rise hn.2.2.2.2.1 hn.2.2.2.2.2.2.2 HMb.out hn.1 HCs.out hn.2.2.2.1 hn.2.1 hn.2.2.2.2.2.2.1 HC.out.2.2.1 HC.out.2.2.2.1 HC.out.2.2.2.2.1 hn.2.2.1 H3.out.1 H3.out.2.1 H3.out.2.2 hl4)
      have HM := Lib.hid (show w4.rangeLeft mb (w.heap.size + 1) < wr.rangeLeft mb (w.heap.size + 1) from by
        rw [HR.out.2, HN.out.2.2.2.2.2.1.left_eq]
        exact HN.out.2.2.2.1)
      clear hl4 hn
      go_wp2
      go_roundw
      case rel =>
        first
          | exact HR.out.1
          | exact ⟨_, _, HR.out.1, rfl, rfl⟩
          | exact ⟨_, _, _, HR.out.1, rfl, rfl, rfl⟩
      case measure => exact HM.out
set_option maxRecDepth 100000 in
theorem copy_none (h : Dk w g S room L (.map none) o used) (hL : L = []) : Calls Try.prog 22 #[ptr g] w (Copied w room (L.map Ent.fil)) := by
  have k0 : w.cell? ⟨g, 0, none⟩ = some (.int .i64 room) := h.row.cell 0
  have hl := h.lt
  obtain ⟨w1, hw1⟩ : ∃ w1, w1 = w.alloc (.cells #[.int .i64 room, .int .i64 0, .map none] 64) := ⟨_, rfl⟩
  have hb1 : Below w.heap.size w w1 := by rw [hw1]; exact (Below.refl _ _).alloc (Nat.le_refl _) _
  have hs1 : w1.heap.size = w.heap.size + 1 := by rw [hw1]; simp
  have h1 := h.below hb1
  have k2 : w1.cell? ⟨g, 2, none⟩ = some (.map none) := h1.row.cell 2
  have hl1 := h1.lt
  have hd1 : Dk w1 w.heap.size (fun k => k = w.heap.size) room [] (.map none) (fun k => k) 0 := by rw [hw1]; exact fresh_disk w room
  have hd2 := hd1.below ((Below.refl w1.heap.size w1).alloc (Nat.le_refl _) (.mapIter none 0 #[] 0))
  have hb2 := (hb1.alloc (by omega) (.mapIter none 0 #[] 0))
  have HL := Lib.hid hL
  have hrg := run_range_nilMap (P := Try.prog) w1 62 9 67 Try.underlying62
  have hnx : ∀ ty, (Instr.next (.pointer (some ⟨w1.heap.size, 0, none⟩)) false ty).run Try.prog (w1.alloc (.mapIter none 0 #[] 0)) = _ := fun ty => run_next_nilMap _ ty 0 0 #[]
  have HCn := Lib.hid (count_none hd2)
  have HB := Lib.hid hb2
  have HW := Lib.hid hw1
  rw [hs1] at hrg hnx
  rw [hw1] at k2 hl1 hrg hnx
  clear h h1 hd1 hd2 hb1 hb2 hs1 hL hw1
  go_enter Try.func22, Try.ntmps22
  go_wp2
  go_loopw [4, 5] (fun _ _ wr => wr = w1.alloc (.mapIter none 0 #[] 0)) (fun _ _ _ => 0)
  case atStart => rw [HW.out]
  case round =>
    subst hrel
    rw [HW.out]
    go_wp2_with fail
    rw [← HW.out]
    refine HCn.out.mono ?_
    rintro e w5 ⟨rfl, o5, hd5, ho5⟩
    have HF := Lib.hid (show Copied w room (L.map Ent.fil) (.returned (ptr w.heap.size)) w5 from by
      rw [HL.out]
      refine ⟨w.heap.size, _, rfl, ⟨[], _, o5, hd5, rfl⟩, fun k q => ?_, HB.out.trans (ho5.below (K := w.heap.size) (fun k q => by rw [q]; exact Nat.le_refl _) HB.out.size)⟩
      have q' : k = w.heap.size := q
      omega)
    clear hd5 ho5
    go_wp2
    go_ret
    exact HF.out
theorem dcopy_any {fs : List Fil} (h : Dq w g S room fs) (hs : Sm fs) : Calls Try.prog 22 #[ptr g] w (Copied w room fs) := by
  obtain ⟨L, mv, o, h1, h2⟩ := h
  subst h2
  rcases h1.map with ⟨hm, hL⟩ | ⟨mb, hm, _⟩
  · subst hm
    exact copy_none h1 hL
  · subst hm
    exact copy_some mb h1 hs
end
end Go.Proofs.Ythheolhghhmdlaa
