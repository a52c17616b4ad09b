/- DiskSteps: what the law holds. -/
import Derived.Test.YthheolhghhmdlaaDiskE1
import Derived.Test.YthheolhghhmdlaaDiskLawE
namespace Go.Proofs.Ythheolhghhmdlaa
open Go.RowKit Dsk

/-- One behind the other, whatever is told. -/
def allL (room : Int) (l : List Ope) (k : Nat) : List Fil := (l.take k).foldl (fun fs x => (doL room fs x).1) []
theorem allL_succ (room : Int) (l : List Ope) (k : Nat) (hk : k < l.length) : allL room l (k + 1) = (doL room (allL room l k) (l[k]'hk)).1 := by
  unfold allL
  rw [List.take_succ_eq_append_getElem hk, List.foldl_append]
  rfl
theorem allL_fits (room : Int) (l : List Ope) : ∀ k, k ≤ l.length → sizeL (allL room l k) + looseL (allL room l k) + (allL room l k).length ≤ cost (l.take k) ∧ Rising Fil.name (allL room l k) ∧ Named (allL room l k)
  | 0, _ => ⟨Nat.zero_le _, List.Pairwise.nil, fun f hf => by cases hf⟩
  | k + 1, h => by
    have hk : k < l.length := h
    obtain ⟨h1, h2, h3⟩ := allL_fits room l k (by omega)
    rw [allL_succ room l k hk, cost_take l k hk]
    have h4 := doL_size (room := room) (l[k]'hk) h2
    exact ⟨by omega, doL_rising _ h2, doL_named _ h3⟩
/-- Both disks, and what else there is: the document's lies in block bt. -/
structure St (W : World) (g bt : Nat) (room : Int) (fs : List Fil) (T : Nat → Prop) (rs : List Rf) (a : Option Addr) (c : Nat) (wr : World) : Prop where
  md : Md W g room fs (fun k => T k ∨ k = bt) wr
  nb : ¬ T bt
  bg : W.heap.size ≤ bt
  row : Row wr bt 27 #[.int .i64 room, .slice a rs.length c]
  gs : Fs3 wr T a rs
section
variable {W wr wy : World} {g bt : Nat} {room : Int} {fs : List Fil} {T : Nat → Prop} {rs : List Rf} {a : Option Addr} {c : Nat}
theorem St.tl (h : St W g bt room fs T rs a c wr) : ∀ k, T k → k < wr.heap.size := fun k hk => h.md.lt k (.inl hk)
theorem St.arg (h : St W g bt room fs T rs a c wr) : ∀ k, k < W.heap.size → T k := fun k hk => (h.md.arg k hk).elim id (fun e => by have := h.bg; omega)
theorem St.argR {α : Type} {f : α → Value} {ax : Option Addr} {lx : List α} (h : St W g bt room fs T rs a c wr) (hR : RdT f W (fun k => k < W.heap.size) ax lx) : RdT f wr T ax lx := (hR.only (Only.of_below (fun _ => False) h.md.back) (fun _ _ q => q)).mono h.arg
theorem St.under (h : St W g bt room fs T rs a c wr) (hb : Below wr.heap.size wr wy) : St W g bt room fs T rs a c wy := ⟨h.md.under hb, h.nb, h.bg, h.row.under hb h.row.lt, h.gs.kept (kept_below h.tl hb)⟩
theorem Md.set {U : Nat → Prop} {w w' : World} (h : Md W g room fs U w) (hU : U bt) (hW : W.heap.size ≤ bt) (ho : Only (fun k => k = bt) w w') : Md W g room fs U w' := by
  obtain ⟨S, h1, h2⟩ := h.dq
  exact ⟨⟨S, h1.only ho (fun k hk e => h2 k hk (by rw [e]; exact hU)), h2⟩, h.arg, fun k hk => Nat.lt_of_lt_of_le (h.lt k hk) ho.size, h.back.trans (ho.below (K := W.heap.size) (fun k hk => by rw [hk]; exact hW) h.back.size)⟩
theorem Md.more {U : Nat → Prop} {w w' : World} (h : Md W g room fs U w) (hb : Below w.heap.size w w') : Md W g room fs (moreT U w.heap.size w'.heap.size) w' := h.wide hb
theorem Md.mono {U U' : Nat → Prop} {w : World} (h : Md W g room fs U w) (h1 : ∀ k, U' k → U k) (h2 : ∀ k, k < W.heap.size → U' k) : Md W g room fs U' w := by
  obtain ⟨S, q1, q2⟩ := h.dq
  exact ⟨⟨S, q1, fun k hk t => q2 k hk (h1 k t)⟩, h2, fun k hk => h.lt k (h1 k hk), h.back⟩
/-- The document's disk is another one. -/
theorem St.cut (h : St W g bt room fs T rs a c wr) {wc : World} {nb : Nat} {r6 : List Rf} {a6 : Option Addr} {c6 : Nat} (hc : CutF wr T room nb r6 a6 c6 wc) :
    St W g bt room fs (moreT T wr.heap.size wc.heap.size) r6 a6 c6 ((wc.setCell ⟨bt, 0, none⟩ (.int .i64 room)).setCell ⟨bt, 1, none⟩ (.slice a6 r6.length c6)) := by
  have hsz : ((wc.setCell ⟨bt, 0, none⟩ (.int .i64 room)).setCell ⟨bt, 1, none⟩ (.slice a6 r6.length c6)).heap.size = wc.heap.size := by simp [World.setCell]
  have hbt := h.row.lt
  have hnb : ¬ moreT T wr.heap.size wc.heap.size bt := fun q => q.elim h.nb (fun q => by omega)
  have hon : Only (fun k => k = bt) wc ((wc.setCell ⟨bt, 0, none⟩ (.int .i64 room)).setCell ⟨bt, 1, none⟩ (.slice a6 r6.length c6)) := ((Only.refl (fun k => k = bt) wc).setCell (p := ⟨bt, 0, none⟩) (.inl rfl) _).setCell (p := ⟨bt, 1, none⟩) (.inl rfl) _
  refine ⟨?_, hnb, h.bg, ((h.row.under hc.back hbt).put 0 _).put 1 _, hc.fs.kept ⟨fun k hk => hon.block k (hk.elim (fun q => by have := h.tl k q; have := hc.back.size; omega) (fun q => q.2)) (fun e => hnb (by rw [← e]; exact hk)), by rw [hsz]; exact Nat.le_refl _⟩⟩
  have h1 := (h.md.wide hc.back).set (.inl (.inr rfl)) h.bg hon
  refine h1.mono (fun k hk => ?_) (fun k hk => .inl (.inl (h.arg k hk)))
  rcases hk with (q | q) | q
  · exact .inl (.inl q)
  · exact .inr q
  · exact .inl (.inr q)
theorem St.do (h : St W g bt room fs T rs a c wr) (x : Ope) (ax : Option Addr) (cx : Nat) (hs : Sm fs) (hr0 : 0 ≤ room) (hr1 : room ≤ 1099511627776) (hB : RdT byV wr T ax x.data) (hl9 : x.data.length ≤ 1000000000) :
    Calls Try.prog 14 #[ptr g, opV x ax cx] wr fun e w' => e = .returned (.int .i64 ((doL room fs x).2 : Nat)) ∧ St W g bt room (doL room fs x).1 T rs a c w' := by
  refine (h.md.do x ax cx hs hr0 hr1 (hB.mono fun k hk => .inl hk) hl9).mono ?_
  rintro e w' ⟨rfl, h1, h2⟩
  exact ⟨rfl, h1, h.nb, h.bg, (h2.1 bt (.inr rfl)).trans h.row, h.gs.kept (h2.mono fun k hk => .inl hk)⟩
theorem St.read (h : St W g bt room fs T rs a c wr) (n : Nm) (hs : Sm fs) (hn : n.length ≤ maxLen) : Calls Try.prog 16 #[ptr g, .string ⟨n.toArray⟩] wr fun e w' => ∃ a1 c1, e = .returned (.tuple #[.slice a1 (readL fs n).1.length c1, .int .i64 ((readL fs n).2 : Nat)]) ∧ Bytes w' a1 (readL fs n).1 ∧ St W g bt room fs T rs a c w' ∧ Below wr.heap.size wr w' := by
  obtain ⟨S, q1, q2⟩ := h.md.dq
  refine (read_any n q1 hs hn).mono ?_
  rintro e w1 ⟨v, rfl, hO, hb⟩
  obtain ⟨a1, c1, rfl, hB, hc⟩ := hO.shape
  exact ⟨a1, c1, rfl, hB, h.under hb, hb⟩
theorem St.rread (h : St W g bt room fs T rs a c wr) (hm : rs.map Rf.fil = fs) (hr : Rising Fil.name fs) (hs : sizeL fs + looseL fs + fs.length ≤ 100000) (n : Nm) : Calls Try.prog 17 #[dV room a rs.length c, .string ⟨n.toArray⟩] wr fun e w' => ∃ a1 c1, e = .returned (.tuple #[.slice a1 (readL fs n).1.length c1, .int .i64 ((readL fs n).2 : Nat)]) ∧ Bytes w' a1 (readL fs n).1 ∧ St W g bt room fs T rs a c w' ∧ Below wr.heap.size wr w' := by
  have hl : rs.length = fs.length := by rw [← hm]; simp
  have h1 := rread_any room c n h.gs h.tl ((Rising.map rf_key).1 (by rw [hm]; exact hr)) (by rw [hm, hl]; exact hs)
  rw [hm] at h1
  refine h1.mono ?_
  rintro e w1 ⟨v, rfl, hO, hb⟩
  obtain ⟨a1, c1, rfl, hB, hc⟩ := hO.shape
  exact ⟨a1, c1, rfl, hB, h.under hb, hb⟩
theorem St.same (h : St W g bt room fs T rs a c wr) (hm : rs.map Rf.fil = fs) (hs : sizeL fs + looseL fs + fs.length ≤ 100000) (hn : Named fs) : Calls Try.prog 18 #[ptr g, dV room a rs.length c] wr fun e w' => e = .returned (.bool true) ∧ St W g bt room fs T rs a c w' ∧ Below wr.heap.size wr w' := by
  obtain ⟨S, q1, q2⟩ := h.md.dq
  refine (lsame_any c q1 h.gs h.tl hm hs (fun f hf => by have := hn f hf; omega)).mono ?_
  rintro e w' ⟨rfl, hb⟩
  exact ⟨rfl, h.under hb, hb⟩
theorem St.start {w1 w2 w3 : World} (hW : Below W.heap.size W w1) (hbt : bt = w1.heap.size) (hw2 : Row w2 bt 27 #[.int .i64 room, .slice none 0 0]) (hb2 : Below w1.heap.size w1 w2) (hs2 : w2.heap.size = w1.heap.size + 1) (hd : Dq w3 g (fun k => k = w2.heap.size) room []) (hb3 : Below w2.heap.size w2 w3) : St W g bt room [] (fun k => k < w1.heap.size) [] none 0 w3 := by
  have hws := hW.size
  refine ⟨⟨⟨_, hd, fun k hk q => by rcases q with q | q <;> omega⟩, fun k hk => .inl (by omega), fun k hk => by have := hb3.size; rcases hk with q | q <;> omega, hW.trans ((hb2.mono hws).trans (hb3.mono (by omega)))⟩, by omega, by omega, hw2.under hb3 hw2.lt, Fs3.nil _ _ _⟩
end
set_option maxRecDepth 100000 in
theorem steps_big (room : Int) (ad : Option Addr) (l : List Ope) (c : Nat) (name : Nm) (W : World) (hO : Ops W (fun k => k < W.heap.size) ad l) (hF : Few l) (hl9 : l.length ≤ 140737488351232) (hbig : 1000 < longL l ∨ 60 < l.length) :
    Calls Try.prog 3 #[.int .i64 room, .slice ad l.length c, .string ⟨name.toArray⟩] W fun e w' => e = .returned (.bool true) ∧ Below W.heap.size W w' := by
  have HL := Lib.hid (long_test (c := c) hO hF hl9)
  have HBig := Lib.hid hbig
  have hlI : (l.length : Int) ≤ 140737488351232 := by omega
  clear hO hF hl9 hbig
  go_enter Try.func3, Try.ntmps3
  go_wp2_with fail
  refine HL.out.mono ?_
  rintro e w1 ⟨z, rfl, hz, hb⟩
  have HB := Lib.hid hb
  have HK := Lib.hid (known_any w1)
  have HZ := Lib.hid hz
  clear hb hz
  by_cases h0 : 1000 < z
  · go_wp2_with fail
    refine HK.out.mono ?_
    rintro e w5 ⟨rfl, hb5⟩
    have HB5 := Lib.hid (HB.out.trans (hb5.mono HB.out.size))
    clear hb5
    go_wp2
    go_ret
    exact ⟨rfl, HB5.out⟩
  · have _p0 : True := trivial
    have h1 : (60 : Int) < (l.length : Int) := by
      have q1 := HBig.out
      have q2 := HZ.out
      omega
    go_wp2_with fail
    refine HK.out.mono ?_
    rintro e w5 ⟨rfl, hb5⟩
    have HB5 := Lib.hid (HB.out.trans (hb5.mono HB.out.size))
    clear hb5
    go_wp2
    go_ret
    exact ⟨rfl, HB5.out⟩
end Go.Proofs.Ythheolhghhmdlaa
