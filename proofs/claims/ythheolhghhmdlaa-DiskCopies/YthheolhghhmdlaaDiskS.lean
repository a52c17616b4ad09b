/- A law's disk, beside what else the law holds: what is kept from call to call. -/
import Derived.Test.YthheolhghhmdlaaDiskLawA
namespace Go.Proofs.Ythheolhghhmdlaa
open Go.RowKit Dsk

/-- The blocks of T are as they were. -/
def Kept (T : Nat → Prop) (w w' : World) : Prop := (∀ k, T k → w'.heap[k]? = w.heap[k]?) ∧ w.heap.size ≤ w'.heap.size
theorem Kept.trans {T : Nat → Prop} {a b c : World} (h : Kept T a b) (k : Kept T b c) : Kept T a c := ⟨fun i hi => (k.1 i hi).trans (h.1 i hi), Nat.le_trans h.2 k.2⟩
theorem Kept.mono {T T' : Nat → Prop} {a b : World} (h : Kept T' a b) (ht : ∀ k, T k → T' k) : Kept T a b := ⟨fun i hi => h.1 i (ht i hi), h.2⟩
theorem RdT.kept {α : Type} {f : α → Value} {w w' : World} {T : Nat → Prop} {a : Option Addr} {l : List α} (h : RdT f w T a l) (hk : Kept T w w') : RdT f w' T a l := by
  rcases h with h | ⟨b, o, rfl, hT, h⟩
  · exact .inl h
  · exact .inr ⟨b, o, rfl, hT, fun i x hx => by rw [World.cell?_of_block (a := ⟨b, o + i, none⟩) (hk.1 b hT)]; exact h i x hx⟩
abbrev byV (x : BitVec 8) : Value := .int .u8 (B x)
theorem RdT.bytes {w : World} {T : Nat → Prop} {a : Option Addr} {l : By} (h : RdT byV w T a l) : Bytes w a l := by
  rcases h with h | ⟨b, o, rfl, _, h⟩
  · exact .inl h
  · exact .inr ⟨b, o, rfl, h⟩
theorem RdT.blk {w : World} {T : Nat → Prop} {a : Option Addr} {l : By} {c : Nat} (h : RdT byV w T a l) : 0 < l.length → ∀ k, (Value.slice a l.length c).ownBlock = some k → T k := by
  intro h0 k hk
  rcases h with rfl | ⟨b, o, rfl, hT, h⟩
  · simp at h0
  · cases hk
    exact hT
theorem rdT_of_bytes {w : World} {T : Nat → Prop} {a : Option Addr} {l : By} (h : Bytes w a l) (hT : ∀ k, k < w.heap.size → T k) : RdT byV w T a l := by
  rcases h with rfl | ⟨b, o, rfl, h⟩
  · exact .inl rfl
  · by_cases h0 : l = []
    · exact .inl h0
    · refine .inr ⟨b, o, rfl, hT b ?_, h⟩
      have hl : 0 < l.length := List.length_pos_iff.2 h0
      exact block_lt_of_cell (h 0 _ (List.getElem?_eq_getElem hl))
theorem Ops.kept {w w' : World} {T : Nat → Prop} {ad : Option Addr} {l : List Ope} (h : Ops w T ad l) (hk : Kept T w w') : Ops w' T ad l := by
  rcases h with h | ⟨b, o, rfl, hT, h⟩
  · exact .inl h
  · refine .inr ⟨b, o, rfl, hT, fun i x hx => ?_⟩
    obtain ⟨a, c, h0, h1, h2, h3, h4, h5⟩ := h i x hx
    have hs : ∀ j, w'.cell? ⟨b, j, none⟩ = w.cell? ⟨b, j, none⟩ := fun j => World.cell?_of_block (a := ⟨b, j, none⟩) (hk.1 b hT)
    refine ⟨a, c, (hs _).trans h0, (hs _).trans h1, (hs _).trans h2, (hs _).trans h3, ?_, h5⟩
    rcases h4 with h4 | ⟨b2, o2, rfl, h4⟩
    · exact .inl h4
    · by_cases q : x.data = []
      · exact .inl q
      · have hb2 := h5 (List.length_pos_iff.2 q) b2 rfl
        exact .inr ⟨b2, o2, rfl, fun j y hy => by rw [World.cell?_of_block (a := ⟨b2, o2 + j, none⟩) (hk.1 b2 hb2)]; exact h4 j y hy⟩
theorem Ops.mono {w : World} {T T' : Nat → Prop} {ad : Option Addr} {l : List Ope} (h : Ops w T ad l) (hk : ∀ k, T k → T' k) : Ops w T' ad l := by
  rcases h with h | ⟨b, o, rfl, hT, h⟩
  · exact .inl h
  · refine .inr ⟨b, o, rfl, hk b hT, fun i x hx => ?_⟩
    obtain ⟨a, c, h0, h1, h2, h3, h4, h5⟩ := h i x hx
    exact ⟨a, c, h0, h1, h2, h3, h4, fun q j hj => hk j (h5 q j hj)⟩
theorem Dq.kept {w w' : World} {g : Nat} {S : Nat → Prop} {room : Int} {fs : List Fil} (h : Dq w g S room fs) {T : Nat → Prop} (hS : ∀ k, S k → T k) (hkk : Kept T w w') : Dq w' g S room fs := by
  obtain ⟨hk, hs⟩ := hkk
  obtain ⟨L, mv, o, h1, h2⟩ := h
  refine ⟨L, mv, relab o w.heap.size g, ?_, h2⟩
  exact ⟨(hk g (hS g h1.sg)).trans h1.row, h1.map.same fun mb e => hk mb (hS mb (h1.sm mb e)), fun e he => (h1.fl e he).same (fun k hk' q => hk k (hS k (h1.sf e he k hk' q))) (fun _ hk' q => (relab_old hk').trans q) hs,
    h1.inj, h1.rise, h1.nm, (relab_old h1.lt).trans h1.og, fun mb e => (relab_old (h1.map.lt e)).trans (h1.om mb e), h1.oe, h1.sg, h1.sm, fun e he k _ q => by
      rcases Nat.lt_or_ge k w.heap.size with hk' | hk'
      · rw [relab_old hk'] at q
        exact h1.sf e he k hk' q
      · rw [relab_new hk'] at q
        exact absurd q.symm (h1.oe e he), fun k hk' => Nat.lt_of_lt_of_le (h1.sl k hk') hs, fun k _ => relab_lt h1.ob (Nat.lt_of_lt_of_le h1.lt hs) hs⟩
/-- The law's disk, beside the blocks T of all else. -/
structure Md (W : World) (g : Nat) (room : Int) (fs : List Fil) (T : Nat → Prop) (w : World) : Prop where
  dq : ∃ S, Dq w g S room fs ∧ ∀ k, S k → ¬ T k
  arg : ∀ k, k < W.heap.size → T k
  lt : ∀ k, T k → k < w.heap.size
  back : Below W.heap.size W w
section
variable {W w w' : World} {g : Nat} {room : Int} {fs : List Fil} {T : Nat → Prop}
theorem Md.rising (h : Md W g room fs T w) : Rising Fil.name fs := by
  obtain ⟨S, h1, _⟩ := h.dq
  exact h1.rising
theorem Md.kept (h : Md W g room fs T w) (hb : Below w.heap.size w w') : Kept T w w' := ⟨fun k hk => hb.block k (h.lt k hk), hb.size⟩
theorem Md.under (h : Md W g room fs T w) (hb : Below w.heap.size w w') : Md W g room fs T w' := by
  obtain ⟨S, h1, h2⟩ := h.dq
  exact ⟨⟨S, h1.below hb, h2⟩, h.arg, fun k hk => Nat.lt_of_lt_of_le (h.lt k hk) hb.size, h.back.trans (hb.mono h.back.size)⟩
/-- All that is new is somebody else's. -/
def moreT (T : Nat → Prop) (n m : Nat) : Nat → Prop := fun k => T k ∨ (n ≤ k ∧ k < m)
theorem Md.wide (h : Md W g room fs T w) (hb : Below w.heap.size w w') : Md W g room fs (moreT T w.heap.size w'.heap.size) w' := by
  obtain ⟨S, h1, h2⟩ := h.dq
  refine ⟨⟨S, h1.below hb, fun k hk q => ?_⟩, fun k hk => .inl (h.arg k hk), fun k hk => ?_, h.back.trans (hb.mono h.back.size)⟩
  · rcases q with q | q
    · exact h2 k hk q
    · have := h1.lt k hk; omega
  · rcases hk with q | q
    · exact Nat.lt_of_lt_of_le (h.lt k q) hb.size
    · exact q.2
theorem Md.of_dd {S : Nat → Prop} {fs' : List Fil} (h : Md W g room fs T w) (h2 : ∀ k, S k → ¬ T k) (hd : Dd w g S room fs' w') : Md W g room fs' T w' ∧ Kept T w w' := by
  obtain ⟨S1, q1, q2, q3⟩ := hd.dq
  have hs := h.back.size
  refine ⟨⟨⟨S1, q1, fun k hk t => ?_⟩, h.arg, fun k hk => Nat.lt_of_lt_of_le (h.lt k hk) q3.size, ?_⟩, fun k hk => q3.block k (h.lt k hk) (fun s => h2 k s hk), q3.size⟩
  · rcases q2 k hk with s | s
    · exact h2 k s t
    · have := h.lt k t; omega
  · exact h.back.trans (q3.below (K := W.heap.size) (fun k s => by
      rcases Nat.lt_or_ge k W.heap.size with r | r
      · exact absurd (h.arg k r) (h2 k s)
      · exact r) hs)
theorem Md.do (h : Md W g room fs T w) (x : Ope) (a : Option Addr) (c : Nat) (hs : Sm fs) (hr0 : 0 ≤ room) (hr1 : room ≤ 1099511627776) (hB : RdT byV w T a x.data) (hl9 : x.data.length ≤ 1000000000) :
    Calls Try.prog 14 #[ptr g, opV x a c] w fun e w' => e = .returned (.int .i64 ((doL room fs x).2 : Nat)) ∧ Md W g room (doL room fs x).1 T w' ∧ Kept T w w' := by
  obtain ⟨S, h1, h2⟩ := h.dq
  refine (do_any x a c h1 hs hr0 hr1 hB.bytes (fun q k hk s => h2 k s (hB.blk q k hk)) hl9).mono ?_
  rintro e w1 ⟨rfl, hd⟩
  exact ⟨rfl, h.of_dd h2 hd⟩
theorem Md.run (h : Md W g room fs T w) (l : List Ope) (ad : Option Addr) (c : Nat) (hr0 : 0 ≤ room) (hr1 : room ≤ 1099511627776) (hO : Ops w T ad l) (hc : sizeL fs + looseL fs + fs.length + cost l ≤ 1000000000) :
    Calls Try.prog 21 #[ptr g, .slice ad l.length c] w fun e w' => e = .returned (.int .i64 ((runL room fs l).2 : Nat)) ∧ Md W g room (runL room fs l).1 T w' ∧ Kept T w w' := by
  obtain ⟨S, h1, h2⟩ := h.dq
  refine (run_any l ad c h1 hr0 hr1 hO (fun k t s => h2 k s t) h.lt hc).mono ?_
  rintro e w1 ⟨rfl, hd⟩
  exact ⟨rfl, h.of_dd h2 hd⟩
theorem Md.crash (h : Md W g room fs T w) (ms : List Int) (am : Option Addr) (cm : Nat) (hs : Sm fs) (hM : RdT numV w T am ms) (hm9 : ms.length ≤ 1000000000) (hmc : ms.length ≤ cm) :
    Calls Try.prog 23 #[ptr g, .slice am ms.length cm] w fun e w' => e = .returned (.tuple #[]) ∧ Md W g room (crashL fs ms) T w' ∧ Kept T w w' := by
  obtain ⟨S, h1, h2⟩ := h.dq
  refine (crash_any ms am cm h1 hs hM (fun k t s => h2 k s t) h.lt hm9 hmc).mono ?_
  rintro e w1 ⟨rfl, hd⟩
  exact ⟨rfl, h.of_dd h2 hd⟩
theorem Md.size (h : Md W g room fs T w) : Calls Try.prog 29 #[ptr g] w fun e w' => e = .returned (.int .i64 (sizeL fs : Nat)) ∧ w' = w := by
  obtain ⟨S, h1, h2⟩ := h.dq
  exact size_any h1
theorem Md.loose (h : Md W g room fs T w) (hs : Sm fs) : Calls Try.prog 25 #[ptr g] w fun e w' => e = .returned (.int .i64 (looseL fs : Nat)) ∧ Md W g room fs T w' ∧ Kept T w w' := by
  obtain ⟨S, h1, h2⟩ := h.dq
  refine (loose_any h1 hs).mono ?_
  rintro e w1 ⟨rfl, hb⟩
  exact ⟨rfl, h.under hb, h.kept hb⟩
/-- What a call hands back that the law keeps. -/
def Hands (W : World) (g : Nat) (room : Int) (fs : List Fil) (T : Nat → Prop) (w w' : World) (T' : Nat → Prop) : Prop := Md W g room fs T' w' ∧ (∀ k, T k → T' k) ∧ Kept T w w'
theorem Md.read (h : Md W g room fs T w) (n : Nm) (hs : Sm fs) (hn : n.length ≤ maxLen) : Calls Try.prog 16 #[ptr g, .string ⟨n.toArray⟩] w fun e w' => ∃ T' a c, e = .returned (.tuple #[.slice a (readL fs n).1.length c, .int .i64 ((readL fs n).2 : Nat)]) ∧ Hands W g room fs T w w' T' ∧ RdT byV w' T' a (readL fs n).1 ∧ (readL fs n).1.length ≤ c := by
  obtain ⟨S, h1, h2⟩ := h.dq
  refine (read_any n h1 hs hn).mono ?_
  rintro e w1 ⟨v, rfl, hO, hb⟩
  obtain ⟨a, c, rfl, hB, hc⟩ := hO.shape
  refine ⟨_, a, c, rfl, ⟨h.wide hb, fun k q => .inl q, h.kept hb⟩, ?_, hc⟩
  rcases hB with hB | ⟨b, o, rfl, hB⟩
  · exact .inl hB
  · refine .inr ⟨b, o, rfl, .inr ?_, hB⟩
    exact World.ownsRow.lt hO b rfl
theorem Md.names (h : Md W g room fs T w) (hL : fs.length ≤ 1000000000) : Calls Try.prog 26 #[ptr g] w fun e w' => ∃ T' a c, e = .returned (.slice a fs.length c) ∧ Hands W g room fs T w w' T' ∧ RdT encStr w' T' a (fs.map Fil.name) := by
  obtain ⟨S, ⟨L, mv, o, h1, h3⟩, h2⟩ := h.dq
  have e1 : fs.map Fil.name = L.map Ent.name := by rw [← h3, List.map_map]; rfl
  have e2 : fs.length = (L.map Ent.name).length := by rw [← h3]; simp
  refine (names_any h1 (by rw [e2] at hL; simpa using hL)).mono ?_
  rintro e w1 ⟨v, rfl, hv, hb⟩
  rw [show L.length = (L.map Ent.name).length by simp] at hv
  obtain ⟨a, c, rfl, hr⟩ := RdT.of_row hv
  rw [e1, e2]
  exact ⟨_, a, c, rfl, ⟨h.wide hb, fun k q => .inl q, h.kept hb⟩, hr.mono fun k q => .inr q⟩
theorem Md.copy (h : Md W g room fs T w) (hs : Sm fs) : Calls Try.prog 22 #[ptr g] w fun e w' => ∃ T' g' S', e = .returned (ptr g') ∧ Hands W g room fs T w w' T' ∧ Dq w' g' S' room fs ∧ (∀ k, S' k → T' k ∧ ¬ T k) := by
  obtain ⟨S, h1, h2⟩ := h.dq
  refine (dcopy_any h1 hs).mono ?_
  rintro e w1 ⟨g', S', rfl, hd, hS, hb⟩
  exact ⟨_, g', S', rfl, ⟨h.wide hb, fun k q => .inl q, h.kept hb⟩, hd, fun k q => ⟨.inr ⟨hS k q, hd.lt k q⟩, fun t => by have := hS k q; have := h.lt k t; omega⟩⟩
theorem Md.new (hW : Below W.heap.size W w) (h : Dq w' g (fun k => k = w.heap.size) room []) (hb : Below w.heap.size w w') : Md W g room [] (fun k => k < w.heap.size) w' :=
  ⟨⟨_, h, fun k hk q => by omega⟩, fun k hk => Nat.lt_of_lt_of_le hk hW.size, fun k hk => Nat.lt_of_lt_of_le hk hb.size, hW.trans (hb.mono hW.size)⟩
end
set_option maxRecDepth 100000 in
theorem sameNames_any {w : World} {T T' : Nat → Prop} (a b : Option Addr) (l : List Nm) (c d : Nat) (hA : RdT encStr w T a l) (hB : RdT encStr w T' b l) (hl : l.length ≤ 1000000000) :
    Calls Try.prog 27 #[.slice a l.length c, .slice b l.length d] w fun e w' => e = .returned (.bool true) ∧ Below w.heap.size w w' := by
  have HA := Lib.hid hA
  have HB := Lib.hid hB
  have hlI : (l.length : Int) ≤ 1000000000 := by omega
  clear hA hB
  go_enter Try.func27, Try.ntmps27
  go_wp2
  go_loopw [5] (fun i wr => ∃ k : Nat, k ≤ l.length ∧ i = .int .i64 k ∧ Below w.heap.size w wr) (fun i _ => l.length - (intOf i).toNat)
  case atStart => exact ⟨0, by omega, rfl, Below.refl _ _⟩
  case round =>
    obtain ⟨k, hk, rfl, hb⟩ := hrel
    by_cases hlt : k < l.length
    · obtain ⟨b1, o1, rfl, _, _, hc1⟩ := (HA.out.only (Only.of_below (fun _ => False) hb) (fun _ _ q => q)).at_ (i := k) hlt
      obtain ⟨b2, o2, rfl, _, _, hc2⟩ := (HB.out.only (Only.of_below (fun _ => False) hb) (fun _ _ q => q)).at_ (i := k) hlt
      unfold encStr at hc1 hc2
      generalize l[k]'hlt = x at *
      have hlt' : (k : Int) < (l.length : Int) := by omega
      have HX := Lib.hid hb
      clear hb
      go_wp2
      go_quiet (fail)
      go_wp2
      go_roundw
      case rel => exact ⟨k + 1, by omega, by go_num, below_dN HX.out _⟩
      case measure => simp [intOf]; omega
    · obtain rfl : k = l.length := by omega
      have HX := Lib.hid hb
      clear hb
      go_wp2
      go_ret
      exact ⟨rfl, HX.out⟩
end Go.Proofs.Ythheolhghhmdlaa
