/- gr.lay: a line of numbers. -/
import Derived.Test.YtdjfmmfggkkbaaaDoorGrP
import Derived.Test.YtdjfmmfggkkbaaaDoorGrG
namespace Go.Proofs.YtdjfmmfggkkbaaaDoor
open Go.RowKit Go.Shelf Grm

/-- The table lies below B. -/
def TabB (B : Nat) (w : World) : Prop := TabW w ∧ (Tryd.prog.globalNamed "internal/strconv.uint64pow10").getD 0 < B
theorem TabB.under {B : Nat} {w w' : World} (h : TabB B w) (hb : Below B w w') : TabB B w' := by
  refine ⟨?_, h.2⟩
  have hg : Tryd.prog.globalNamed "internal/strconv.uint64pow10" = some ((Tryd.prog.globalNamed "internal/strconv.uint64pow10").getD 0) := by kernel_rfl
  have h1 := h.1
  have h2 := h.2
  generalize (Tryd.prog.globalNamed "internal/strconv.uint64pow10").getD 0 = g at *
  unfold TabW Lib.TabIs World.var? at *
  rw [hg] at h1 ⊢
  simp only [Option.bind_some] at h1 ⊢
  rw [hb.block g h2]
  exact h1
theorem TabB.mono {B B' : Nat} {w : World} (h : TabB B w) (hB : B ≤ B') : TabB B' w := ⟨h.1, Nat.lt_of_lt_of_le h.2 hB⟩
theorem TabB.of {w : World} (h : TabW w) : TabB w.heap.size w := by
  refine ⟨h, ?_⟩
  have hg : Tryd.prog.globalNamed "internal/strconv.uint64pow10" = some ((Tryd.prog.globalNamed "internal/strconv.uint64pow10").getD 0) := by kernel_rfl
  generalize (Tryd.prog.globalNamed "internal/strconv.uint64pow10").getD 0 = g at *
  unfold TabW Lib.TabIs World.var? at h
  rw [hg] at h
  simp only [Option.bind_some] at h
  rcases Nat.lt_or_ge g w.heap.size with h' | h'
  · exact h'
  · rw [Array.getElem?_eq_none h'] at h; cases h
/-- A builder that holds these bytes. -/
def Bld (B b : Nat) (l : Tx) (w : World) : Prop := Lib.IsBuilderF 67 5 B b (Lib.byteCells l) w
abbrev Oth (b : Nat) (w w' : World) : Prop := Lib.OthersKept 5 (some b) w w'
theorem Bld.str {B b : Nat} {l : Tx} {w : World} (h : Bld B b l w) (s : Tx) (hl : l.length + s.length ≤ 140737488355328) (hB : B ≤ w.heap.size) :
    Calls Tryd.prog 40 #[ptr b, txV s] w fun e w' => e = .returned (.tuple #[.int .i64 ((⟨s.toArray⟩ : ByteArray).size : Nat), .nilIface]) ∧ Bld B b (l ++ s) w' ∧ Below B w w' ∧ Oth b w w' := by
  refine (wstr_any B b (Lib.byteCells l) ⟨s.toArray⟩ w h (by rw [Lib.byteCells_length, gr_size]; exact hl) hB).mono ?_
  rintro e w' ⟨rfl, h1, h2, h3⟩
  refine ⟨rfl, .inr ?_, h2, h3⟩
  rw [Lib.strCells_toArray, ← Lib.byteCells_append] at h1
  exact h1
theorem Bld.byte {B b : Nat} {l : Tx} {w : World} (h : Bld B b l w) (c : UInt8) (hl : l.length + 1 ≤ 140737488355328) (hB : B ≤ w.heap.size) :
    Calls Tryd.prog 41 #[ptr b, .int .u8 (c.toNat : Nat)] w fun e w' => e = .returned .nilIface ∧ Bld B b (l ++ [c]) w' ∧ Below B w w' ∧ Oth b w w' := by
  refine (wbyte_any B b (Lib.byteCells l) (c.toNat : Nat) w h (by rw [Lib.byteCells_length]; exact hl) hB).mono ?_
  rintro e w' ⟨rfl, h1, h2, h3⟩
  refine ⟨rfl, .inr ?_, h2, h3⟩
  rw [Lib.byteCells_append]
  exact h1
theorem below_grownBy {w w' : World} (hb : Below w.heap.size w w') : w.grownBy w' Option.none := ⟨hb.os, hb.tape, hb.output, hb.size, fun k hk _ => hb.block k hk⟩
theorem bldAt_under {B b : Nat} {p : Value} {bs : List Value} {w w' : World} (h : Lib.BuilderAtF 67 5 B b p bs w) (hb : Below w.heap.size w w') : Lib.BuilderAtF 67 5 B b p bs w' := by
  have hlt := h.lt
  obtain ⟨hB, v, hbk, hown, hne⟩ := h
  refine ⟨hB, v, (hb.block b hlt).trans hbk, hown.kept (below_grownBy hb) ?_, hne⟩
  cases hv : v.ownBlock
  · exact .inl rfl
  · exact .inr (by simp)
theorem Bld.under {B b : Nat} {l : Tx} {w w' : World} (h : Bld B b l w) (hb : Below w.heap.size w w') : Bld B b l w' :=
  h.elim (fun x => .inl (bldAt_under x hb)) (fun x => .inr (bldAt_under x hb))
theorem Oth.below {b : Nat} {w w' : World} (hb : Below w.heap.size w w') : Oth b w w' := fun k o hk _ _ => (hb.block k (Array.getElem?_eq_some_iff.1 hk).1).trans hk
theorem Row.oth {b g : Nat} {t : TypeId} {cs : Array Value} {w w' : World} (h : Row w g t cs) (ho : Oth b w w') (hg : g ≠ b) (ht : t ≠ 5) : Row w' g t cs :=
  ho g _ h (fun e => hg (Option.some.inj e)) (fun c fz e => by injection e with _ e _; exact ht e)
theorem Bld.lt {B b : Nat} {l : Tx} {w : World} (h : Bld B b l w) : B ≤ b ∧ b < w.heap.size := h.elim (fun x => ⟨x.1, x.lt⟩) (fun x => ⟨x.1, x.lt⟩)

abbrev nsV (ns : List Nat) : Array Value := (ns.map fun n => Value.int .i64 (n : Nat)).toArray
/-- What a number's word is behind its blank. -/
def nT (n : Nat) : Tx := 32 :: digL n
def nsT (ns : List Nat) : Tx := ns.flatMap nT
theorem nT_len {n : Nat} (h : n < 9223372036854775808) : (nT n).length ≤ 20 := by have := digL_len19 n h; simp [nT]; omega
theorem nsT_take {ns : List Nat} {k : Nat} (h : k < ns.length) : nsT (ns.take (k + 1)) = nsT (ns.take k) ++ nT (ns[k]'h) := by
  unfold nsT
  rw [List.take_succ_eq_append_getElem h, List.flatMap_append]
  simp
theorem nsT_len {ns : List Nat} (h : ∀ n ∈ ns, n < 9223372036854775808) : (nsT ns).length ≤ ns.length * 20 := by
  induction ns with
  | nil => simp [nsT]
  | cons a t ih =>
    have h1 := nT_len (h a (by simp))
    have h2 := ih (fun n hn => h n (by simp [hn]))
    simp only [nsT, List.flatMap_cons, List.length_append, List.length_cons] at *
    omega
set_option maxHeartbeats 2000000 in
set_option maxRecDepth 100000 in
theorem lay_any {B b g : Nat} {l : Tx} {w : World} (h : Bld B b l w) (head : Tx) (ns : List Nat) (c : Nat) (hr : Row w g 3 (nsV ns)) (hgb : g ≠ b) (hn : ∀ n ∈ ns, n < 9223372036854775808) (hB : B ≤ w.heap.size) (ht : TabB B w) (h9 : ns.length ≤ 10) (hl : l.length + head.length + 300 ≤ 140737488355328) :
    Calls Tryd.prog 28 #[ptr b, txV head, .slice (some ⟨g, 0, none⟩) ns.length c] w fun e w' => e = .returned (.tuple #[]) ∧ Bld B b (l ++ head ++ nsT ns ++ [10]) w' ∧ Below B w w' := by
  have hg := hr.lt
  have HR := Lib.hid hr
  have HN := Lib.hid hn
  have HT := Lib.hid ht
  have HL := Lib.hid hl
  have i1 : (ns.length : Int) ≤ 10 := by omega
  have HC := Lib.hid (h.str head (by omega) hB)
  clear hr hn ht hl h h9
  go_enter Tryd.func28, Tryd.ntmps28
  go_wp2_with fail
  refine HC.out.mono ?_
  rintro e w1 ⟨rfl, h1, hb1, ho1⟩
  have H1 := Lib.hid h1
  have HB1 := Lib.hid hb1
  have HO1 := Lib.hid ho1
  clear h1 hb1 ho1
  go_wp2
  go_loopw [13] (fun i wr => ∃ k : Nat, k ≤ ns.length ∧ i = .int .i64 k ∧ Bld B b (l ++ head ++ nsT (ns.take k)) wr ∧ Below B w wr ∧ Oth b w wr) (fun i _ => ns.length - (intOf i).toNat)
  case atStart => exact ⟨0, by omega, rfl, by simpa [nsT] using H1.out, HB1.out, HO1.out⟩
  case round =>
    obtain ⟨k, hk, rfl, hq, hbw, how⟩ := hrel
    have HQ := Lib.hid hq
    have HBw := Lib.hid hbw
    have HOw := Lib.hid how
    clear hq hbw how
    by_cases hlt : k < ns.length
    · have hlt' : (k : Int) < (ns.length : Int) := by omega
      have ck := (HR.out.oth HOw.out hgb (by decide)).cell k
      simp only [List.getElem?_toArray, List.getElem?_map, List.getElem?_eq_getElem hlt, Option.map_some] at ck
      have HS := Lib.hid (nsT_take hlt)
      have hm := HN.out _ (List.getElem_mem hlt)
      generalize ns[k]'hlt = m at *
      have hlen : (nsT (ns.take k)).length ≤ 200 := by
        have := nsT_len (ns := ns.take k) (fun n hn => HN.out n (List.mem_of_mem_take hn))
        have h2 : (ns.take k).length ≤ 9 := by rw [List.length_take]; omega
        omega
      have HM := Lib.hid hm
      have HLe := Lib.hid hlen
      clear hm hlen
      go_wp2_with fail
      refine (HQ.out.byte 32 (by have := HLe.out; have := HL.out; simp only [List.length_append]; omega) (by have := HBw.out.size; omega)).mono ?_
      rintro e w2 ⟨rfl, h2, hb2, ho2⟩
      have H2 := Lib.hid h2
      have HB2 := Lib.hid (HBw.out.trans hb2)
      have HO2 := Lib.hid (HOw.out.trans ho2)
      clear h2 hb2 ho2
      go_wp2_with fail
      refine (itoa_any m HM.out w2 (HT.out.under HB2.out).1).mono ?_
      rintro e w3 ⟨rfl, hb3⟩
      have H3 := Lib.hid (H2.out.under hb3)
      have HB3 := Lib.hid (HB2.out.trans (hb3.mono (by have := HB2.out.size; omega)))
      have HO3 := Lib.hid (HO2.out.trans (Oth.below hb3))
      clear hb3
      go_wp2_with fail
      refine (H3.out.str (digL m) (by have := HLe.out; have := HL.out; have := digL_len19 m HM.out; simp only [List.length_append, List.length_cons, List.length_nil]; omega) (by have := HB3.out.size; omega)).mono ?_
      rintro e w4 ⟨rfl, h4, hb4, ho4⟩
      have H4 := Lib.hid h4
      have HB4 := Lib.hid (HB3.out.trans hb4)
      have HO4 := Lib.hid (HO3.out.trans ho4)
      clear h4 hb4 ho4
      go_wp2
      refine ⟨⟨k + 1, by omega, by go_num, ?_, HB4.out, HO4.out⟩, by simp [intOf]; omega⟩
      rw [HS.out]
      have := H4.out
      simpa [nT, List.append_assoc] using this
    · obtain rfl : k = ns.length := by omega
      have hlt' : ¬ (ns.length : Int) < (ns.length : Int) := by omega
      have hlen : (nsT ns).length ≤ 200 := by
        have := nsT_len HN.out
        omega
      have HLe := Lib.hid hlen
      clear hlen
      have HQ' := HQ.out
      rw [List.take_length] at HQ'
      have HQ2 := Lib.hid HQ'
      clear HQ'
      go_wp2_with fail
      refine (HQ2.out.byte 10 (by have := HLe.out; have := HL.out; simp only [List.length_append]; omega) (by have := HBw.out.size; omega)).mono ?_
      rintro e w2 ⟨rfl, h2, hb2, ho2⟩
      have H2 := Lib.hid h2
      have HB2 := Lib.hid (HBw.out.trans hb2)
      clear h2 hb2 ho2
      go_wp2
      go_end0
      exact ⟨rfl, H2.out, HB2.out⟩
end Go.Proofs.YtdjfmmfggkkbaaaDoor
