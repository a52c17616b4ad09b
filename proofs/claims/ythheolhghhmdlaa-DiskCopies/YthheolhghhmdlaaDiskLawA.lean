/- DiskRoom: the walk. -/
import Derived.Test.YthheolhghhmdlaaDiskR
namespace Go.Proofs.Ythheolhghhmdlaa
open Go.RowKit Dsk

namespace Dsk
theorem cost_take (l : List Ope) (k : Nat) (hk : k < l.length) : cost (l.take (k + 1)) = cost (l.take k) + ((l[k]'hk).data.length + 2) := by
  unfold cost
  rw [List.take_succ_eq_append_getElem hk, List.map_append, List.sum_append_nat]
  simp only [List.map_cons, List.map_nil, List.sum_cons, List.sum_nil, Nat.add_zero]
theorem cost_le (l : List Ope) (k : Nat) : cost (l.take k) ≤ cost l := by
  conv => rhs; rw [← List.take_append_drop k l]
  unfold cost
  rw [List.map_append, List.sum_append_nat]
  omega
theorem doL_room {room : Int} {fs : List Fil} (x : Ope) (hr : Rising Fil.name fs) (h : (sizeL fs : Int) ≤ room) : (sizeL (doL room fs x).1 : Int) ≤ room := by
  unfold doL
  split
  · exact h
  · split
    · split
      · exact h
      · have h1 := size_write (n := x.name) (l := x.data) hr
        simp only
        omega
    · split
      · exact h
      · rename_i f hg
        split
        · have h1 := size_sync hr hg
          simp only
          omega
        · split
          · by_cases hne : x.name = x.to
            · have h1 := sizeL_put (f.called x.to) (del Fil.name x.name fs)
              have h2 := sizeL_del_le (f.called x.to).name (del Fil.name x.name fs)
              have h3 := sizeL_del hr hg
              have e1 : (f.called x.to).all.length = f.all.length := rfl
              simp only
              omega
            · have h1 := size_rename hr hg hne
              have h2 := sizeL_del_le x.to fs
              simp only
              omega
          · have h2 := sizeL_del_le x.name fs
            simp only
            omega
theorem doL_full {room : Int} {fs : List Fil} (x : Ope) (h : (doL room fs x).2 = 11) : room < (sizeL fs : Int) + x.data.length := by
  unfold doL at h
  split at h
  · simp at h
  · split at h
    · split at h
      · rename_i h3
        omega
      · simp at h
    · split at h
      · simp at h
      · split at h
        · simp at h
        · split at h <;> simp at h
end Dsk
theorem long_test {w : World} {T : Nat → Prop} {ad : Option Addr} {l : List Ope} {c : Nat} (h : Ops w T ad l) (hF : Few l) (hl9 : l.length ≤ 140737488351232) : Calls Try.prog 10 #[.slice ad l.length c] w fun e w' => ∃ z : Int, e = .returned (.int .i64 z) ∧ (l.length ≤ 60 → z = (longL l : Nat)) ∧ Below w.heap.size w w' := by
  by_cases hl : l.length ≤ 60
  · refine (long_few h hl hF).mono ?_
    rintro e w1 ⟨rfl, hb⟩
    exact ⟨_, rfl, fun _ => rfl, hb⟩
  · refine (long_any h hl9).mono ?_
    rintro e w1 ⟨⟨z, rfl⟩, hb⟩
    exact ⟨z, rfl, fun q => absurd q hl, hb⟩
/-- One of them, in its cells. -/
def OpC (w : World) (b q : Nat) (a : Option Addr) (c : Nat) (x : Ope) : Prop := w.cell? ⟨b, q, none⟩ = some (.int .i64 x.kind) ∧ w.cell? ⟨b, q + 1, none⟩ = some (.string ⟨x.name.toArray⟩) ∧ w.cell? ⟨b, q + 2, none⟩ = some (.string ⟨x.to.toArray⟩) ∧ w.cell? ⟨b, q + 3, none⟩ = some (.slice a x.data.length c) ∧ Bytes w a x.data
theorem Ops.nth {w : World} {T : Nat → Prop} {ad : Option Addr} {l : List Ope} (h : Ops w T ad l) {k : Nat} (hk : k < l.length) : ∃ b o a c, ad = some ⟨b, o, none⟩ ∧ T b ∧ b < w.heap.size ∧ OpC w b (o + k * 4) a c (l[k]'hk) ∧ (0 < (l[k]'hk).data.length → ∀ j, (Value.slice a (l[k]'hk).data.length c).ownBlock = some j → T j) := by
  rcases h with rfl | ⟨b, o, rfl, hT, h⟩
  · simp at hk
  · obtain ⟨a, c, h0, h1, h2, h3, h4, h5⟩ := h k _ (List.getElem?_eq_getElem hk)
    exact ⟨b, o, a, c, rfl, hT, block_lt_of_cell h0, ⟨h0, h1, h2, h3, h4⟩, h5⟩
theorem OpC.under {w w' : World} {b q c : Nat} {a : Option Addr} {x : Ope} (h : OpC w b q a c x) (hb : Below w.heap.size w w') : OpC w' b q a c x := by
  obtain ⟨h0, h1, h2, h3, h4⟩ := h
  have hl : b < w.heap.size := block_lt_of_cell h0
  exact ⟨(hb.cell (p := ⟨b, q, none⟩) hl).trans h0, (hb.cell (p := ⟨b, q + 1, none⟩) hl).trans h1, (hb.cell (p := ⟨b, q + 2, none⟩) hl).trans h2, (hb.cell (p := ⟨b, q + 3, none⟩) hl).trans h3, h4.under hb⟩
/-- What is kept between two rounds of a law over one disk. -/
def Mid (W : World) (g : Nat) (room : Int) (fs : List Fil) (w : World) : Prop := ∃ S, Dq w g S room fs ∧ (∀ k, S k → W.heap.size ≤ k) ∧ Below W.heap.size W w
theorem Mid.under {W w w' : World} {g : Nat} {room : Int} {fs : List Fil} (h : Mid W g room fs w) (hb : Below w.heap.size w w') : Mid W g room fs w' := by
  obtain ⟨S, h1, h2, h3⟩ := h
  exact ⟨S, h1.below hb, h2, h3.trans (hb.mono h3.size)⟩
theorem Mid.do {W w : World} {g : Nat} {room : Int} {fs : List Fil} (h : Mid W g room fs w) (x : Ope) (a : Option Addr) (c : Nat) (hs : Sm fs) (hr0 : 0 ≤ room) (hr1 : room ≤ 1099511627776) (hB : Bytes w a x.data) (hBS : 0 < x.data.length → ∀ k, (Value.slice a x.data.length c).ownBlock = some k → k < W.heap.size) (hl9 : x.data.length ≤ 1000000000) :
    Calls Try.prog 14 #[ptr g, opV x a c] w fun e w' => e = .returned (.int .i64 ((doL room fs x).2 : Nat)) ∧ Mid W g room (doL room fs x).1 w' := by
  obtain ⟨S, h1, h2, h3⟩ := h
  refine (do_any x a c h1 hs hr0 hr1 hB (fun q k hk s => by have := hBS q k hk; have := h2 k s; omega) hl9).mono ?_
  rintro e w1 ⟨rfl, hd⟩
  obtain ⟨S1, q1, q2, q3⟩ := hd.dq
  have := h3.size
  exact ⟨rfl, S1, q1, fun k hk => (q2 k hk).elim (h2 k) (fun r => by omega), h3.trans (q3.below (K := W.heap.size) h2 h3.size)⟩
theorem Mid.size {W w : World} {g : Nat} {room : Int} {fs : List Fil} (h : Mid W g room fs w) : Calls Try.prog 29 #[ptr g] w fun e w' => e = .returned (.int .i64 (sizeL fs : Nat)) ∧ w' = w := by
  obtain ⟨S, h1, h2, h3⟩ := h
  exact size_any h1
theorem Mid.loose {W w : World} {g : Nat} {room : Int} {fs : List Fil} (h : Mid W g room fs w) (hs : Sm fs) : Calls Try.prog 25 #[ptr g] w fun e w' => e = .returned (.int .i64 (looseL fs : Nat)) ∧ Below w.heap.size w w' := by
  obtain ⟨S, h1, h2, h3⟩ := h
  exact loose_any h1 hs
theorem Mid.back {W w : World} {g : Nat} {room : Int} {fs : List Fil} (h : Mid W g room fs w) : Below W.heap.size W w := by
  obtain ⟨S, h1, h2, h3⟩ := h
  exact h3
theorem Mid.rising {W w : World} {g : Nat} {room : Int} {fs : List Fil} (h : Mid W g room fs w) : Rising Fil.name fs := by
  obtain ⟨S, h1, h2, h3⟩ := h
  exact h1.rising
theorem Mid.new {W w w' : World} {g : Nat} {room : Int} (hW : Below W.heap.size W w) (hg : g = w.heap.size) (h : Dq w' g (fun k => k = w.heap.size) room []) (hb : Below w.heap.size w w') : Mid W g room [] w' :=
  ⟨_, h, fun k hk => by rw [hk]; exact hW.size, hW.trans (hb.mono hW.size)⟩
def RoomR (W : World) (g : Nat) (r : Int) (l : List Ope) (k : Nat) (wr : World) : Prop := ∃ fs, Mid W g r fs wr ∧ sizeL fs + looseL fs + fs.length ≤ cost (l.take k) ∧ (sizeL fs : Int) ≤ r
set_option maxRecDepth 100000 in
theorem room_small (r : Int) (h0 : 0 ≤ r) (h1 : r ≤ 255) (ad : Option Addr) (l : List Ope) (c : Nat) (W : World) (z : Int) (hL : Calls Try.prog 10 #[.slice ad l.length c] W fun e w' => e = .returned (.int .i64 z) ∧ Below W.heap.size W w') (hO : Ops W (fun k => k < W.heap.size) ad l) (hz : z ≤ 800) (hl : l.length ≤ 50) (hc : cost l ≤ 800) :
    Calls Try.prog 8 #[.int .u8 r, .slice ad l.length c] W fun e w' => e = .returned (.bool true) ∧ Below W.heap.size W w' := by
  have HL := Lib.hid hL
  have HO := Lib.hid hO
  have HC := Lib.hid hc
  have hz' : ¬ 800 < z := by omega
  have hlI : (l.length : Int) ≤ 50 := by omega
  have hlJ : ¬ (50 : Int) < (l.length : Int) := by omega
  have hr8 : r % 256 = r := by omega
  clear hL hO hc
  go_enter Try.func8, Try.ntmps8
  go_wp2_with fail
  refine HL.out.mono ?_
  rintro e w1 ⟨rfl, hb1⟩
  have HB1 := Lib.hid hb1
  have HN := Lib.hid (new_any r w1 h0 (by omega))
  clear hb1
  go_wp2_with fail
  refine HN.out.mono ?_
  rintro e w2 ⟨rfl, hd, hb⟩
  have HM := Lib.hid (Mid.new HB1.out rfl hd hb)
  generalize w1.heap.size = g at *
  clear hd hb HN
  go_wp2
  go_loopw [6, 7, 8, 9] (fun i _ _ _ wr => ∃ k : Nat, k ≤ l.length ∧ i = .int .i64 k ∧ RoomR W g r l k wr) (fun i _ _ _ _ => l.length - (intOf i).toNat)
  case atStart => exact ⟨0, by omega, rfl, [], HM.out, by simp [sizeL, looseL], by simpa [sizeL] using h0⟩
  case round =>
    obtain ⟨k, hk, rfl, fs, hm, hcs, hsz⟩ := hrel
    have HMr := Lib.hid hm
    by_cases hlt : k < l.length
    · have hlt' : (k : Int) < (l.length : Int) := by omega
      have hbr := hm.back
      obtain ⟨b, off, a, c2, had, hTb, hbl, hop, hT⟩ := HO.out.nth hlt
      subst had
      have hct := cost_take l k hlt
      have hcl := cost_le l (k + 1)
      have HS := Lib.hid (show Sm fs ∧ (l[k]'hlt).data.length ≤ 800 by
        have := HC.out
        unfold Sm
        omega)
      have hsx := doL_size (room := r) (l[k]'hlt) hm.rising
      have HX := Lib.hid (And.intro hsx (And.intro (doL_room (l[k]'hlt) hm.rising hsz) (And.intro (doL_err (room := r) (fs := fs) (l[k]'hlt)) (And.intro (doL_full (room := r) (fs := fs) (l[k]'hlt)) (And.intro hct hcs)))))
      have HT := Lib.hid hT
      have HOp := Lib.hid hop
      have HSz := Lib.hid hsz
      have HSzI := Lib.hid (show (sizeL fs : Int) ≤ 800 ∧ (looseL fs : Int) ≤ 800 by have := HC.out; omega)
      clear hm hbr hct hcl hsx hT hop hcs hsz
      generalize (l[k]'hlt) = x at *
      obtain ⟨xk, xn, xt, xd⟩ := x
      go_wp2_with fail
      refine HMr.out.size.mono ?_
      rintro e w' ⟨rfl, rfl⟩
      go_wp2_with fail
      refine (HMr.out.loose HS.out.1).mono ?_
      rintro e w3 ⟨rfl, hb3⟩
      have HM3 := Lib.hid (HMr.out.under hb3)
      have h3 := HOp.out.under HM3.out.back
      have hbl3 : b < w3.heap.size := by have := HM3.out.back.size; omega
      obtain ⟨j0, j1, j2, j3, jB⟩ := h3
      have HBy := Lib.hid jB
      clear hb3 jB
      simp only at j0 j1 j2 j3
      go_wp2_with fail
      refine (HM3.out.do ⟨xk, xn, xt, xd⟩ a c2 HS.out.1 h0 (by omega) HBy.out HT.out (Nat.le_trans HS.out.2 (by omega))).mono ?_
      rintro e w4 ⟨rfl, hm4⟩
      have HM4 := Lib.hid hm4
      clear hm4 j0 j1 j2 j3
      obtain ⟨er, her⟩ : ∃ er, er = (doL r fs ⟨xk, xn, xt, xd⟩).2 := ⟨_, rfl⟩
      obtain ⟨fs2, hfs2⟩ : ∃ fs2, fs2 = (doL r fs ⟨xk, xn, xt, xd⟩).1 := ⟨_, rfl⟩
      rw [← her, ← hfs2] at HX
      rw [← her]
      rw [← hfs2] at HM4
      clear her hfs2
      have hroom : ¬ r < (sizeL fs2 : Int) := by have := HX.out.2.1; omega
      have hrec : RoomR W g r l (k + 1) w4 := ⟨fs2, HM4.out, by have := HX.out; omega, HX.out.2.1⟩
      have HRec := Lib.hid hrec
      clear hrec
      by_cases he0 : er = 0
      · have he1 : (er : Int) = 0 := by omega
        subst he0
        go_wp2_with fail
        refine HM4.out.size.mono ?_
        rintro e w' ⟨rfl, rfl⟩
        go_wp2
        go_roundw
        case rel =>
          first
            | exact ⟨k + 1, by omega, by go_num, HRec.out⟩
            | exact ⟨_, _, _, _, ⟨k + 1, by omega, by go_num, HRec.out⟩, rfl, rfl, rfl, rfl⟩
        case measure => simp [intOf]; omega
      · have he1 : ((er : Int) == 0) = false := by simp; omega
        have hfe := HX.out.2.2.1 he0
        subst hfe
        have hs9 := HSzI.out
        go_wp2_with fail
        refine HM4.out.size.mono ?_
        rintro e w' ⟨rfl, rfl⟩
        go_wp2_with fail
        refine HM4.out.size.mono ?_
        rintro e w' ⟨rfl, rfl⟩
        go_wp2_with fail
        refine (HM4.out.loose HS.out.1).mono ?_
        rintro e w5 ⟨rfl, hb5⟩
        have HM5 := Lib.hid (HM4.out.under hb5)
        have HRec5 := Lib.hid (show RoomR W g r l (k + 1) w5 from ⟨_, HM5.out, by have := HX.out; omega, HX.out.2.1⟩)
        have h3 := HOp.out.under HM5.out.back
        have hbl5 : b < w5.heap.size := by have := HM5.out.back.size; omega
        obtain ⟨j0, j1, j2, j3, jB⟩ := h3
        clear jB hb5
        simp only at j0 j1 j2 j3
        by_cases h11 : er = 11
        · have hful : r < (sizeL fs2 : Int) + (xd.length : Int) := HX.out.2.2.2.1 h11
          have hful' : ¬ (sizeL fs2 : Int) + (xd.length : Int) ≤ r := by omega
          have hxN : xd.length ≤ 800 := HS.out.2
          have hxI : (xd.length : Int) ≤ 800 := by omega
          subst h11
          clear hful
          go_wp2
          go_roundw
          case rel =>
            first
              | exact ⟨k + 1, by omega, by go_num, HRec5.out⟩
              | exact ⟨_, _, _, _, ⟨k + 1, by omega, by go_num, HRec5.out⟩, rfl, rfl, rfl, rfl⟩
          case measure => simp [intOf]; omega
        · have he11 : ((er : Int) == 11) = false := by simp; omega
          go_wp2
          go_roundw
          case rel =>
            first
              | exact ⟨k + 1, by omega, by go_num, HRec5.out⟩
              | exact ⟨_, _, _, _, ⟨k + 1, by omega, by go_num, HRec5.out⟩, rfl, rfl, rfl, rfl⟩
          case measure => simp [intOf]; omega
    · have hlt' : ¬ (k : Int) < (l.length : Int) := by omega
      have HK := Lib.hid (known_any wr)
      have HB := Lib.hid hm.back
      clear hm
      go_wp2_with fail
      refine HK.out.mono ?_
      rintro e w5 ⟨rfl, hb5⟩
      have HB5 := Lib.hid (HB.out.trans (hb5.mono HB.out.size))
      clear hb5
      go_wp2
      go_ret
      exact ⟨rfl, HB5.out⟩
set_option maxRecDepth 100000 in
theorem room_big (r : Int) (ad : Option Addr) (l : List Ope) (c : Nat) (W : World) (hO : Ops W (fun k => k < W.heap.size) ad l) (hF : Few l) (hl9 : l.length ≤ 140737488351232) (hbig : 50 < l.length ∨ 800 < longL l) :
    Calls Try.prog 8 #[.int .u8 r, .slice ad l.length c] W fun e w' => e = .returned (.bool true) ∧ Below W.heap.size W w' := by
  have HL := Lib.hid (long_test (c := c) hO hF hl9)
  have HBig := Lib.hid hbig
  have hlI : (l.length : Int) ≤ 140737488351232 := by omega
  clear hO hF hl9 hbig
  go_enter Try.func8, Try.ntmps8
  go_wp2_with fail
  refine HL.out.mono ?_
  rintro e w1 ⟨z, rfl, hz, hb⟩
  have HB := Lib.hid hb
  have HK := Lib.hid (known_any w1)
  have HZ := Lib.hid hz
  clear hb hz
  by_cases h8 : 800 < z
  · go_wp2_with fail
    refine HK.out.mono ?_
    rintro e w5 ⟨rfl, hb5⟩
    have HB5 := Lib.hid (HB.out.trans (hb5.mono HB.out.size))
    clear hb5
    go_wp2
    go_ret
    exact ⟨rfl, HB5.out⟩
  · have h5 : (50 : Int) < (l.length : Int) := by
      have h1 := HBig.out
      have h2 := HZ.out
      omega
    go_wp2_with fail
    refine HK.out.mono ?_
    rintro e w5 ⟨rfl, hb5⟩
    have HB5 := Lib.hid (HB.out.trans (hb5.mono HB.out.size))
    clear hb5
    go_wp2
    go_ret
    exact ⟨rfl, HB5.out⟩
theorem room_walk (r : Int) (hr : (Lit.int .u8 r).wf = true) (ad : Option Addr) (l : List Ope) (c : Nat) (W : World) (hO : Ops W (fun k => k < W.heap.size) ad l) (hF : Few l) (hl9 : l.length ≤ 140737488351232) :
    Calls Try.prog 8 #[.int .u8 r, .slice ad l.length c] W fun e w' => e = .returned (.bool true) ∧ Below W.heap.size W w' := by
  by_cases hs : 50 < l.length ∨ 800 < longL l
  · exact room_big r ad l c W hO hF hl9 hs
  · have hr' : 0 ≤ r ∧ r ≤ 255 := by
      obtain ⟨y, rfl⟩ := B_of r hr
      unfold B
      have := y.isLt
      omega
    have h1 : l.length ≤ 50 := by omega
    exact room_small r hr'.1 hr'.2 ad l c W _ (long_few hO (by omega) hF) hO (by omega) h1 (by have := longL_cost l; omega)
end Go.Proofs.Ythheolhghhmdlaa
