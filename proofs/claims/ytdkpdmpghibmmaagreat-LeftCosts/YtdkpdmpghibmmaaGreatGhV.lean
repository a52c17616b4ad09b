/- graph.Kept. -/
import Derived.Test.YtdkpdmpghibmmaaGreatGhS
import Derived.Test.YtdkpdmpghibmmaaGreatShelf
import Derived.Sort.OwnSortedInts
namespace Go.Proofs.YtdkpdmpghibmmaaGreat
open Go.RowKit Go.Shelf Grm Lay Go.Sort

/-- Ints in a row of the call's own. -/
abbrev IsV (w : World) (K : Nat) (v : Value) (xs : List Int) : Prop := w.ownsRow K 3 1 v xs.length (xs.map (Value.int .i64))
def arcsOf (l : List Ed) : List Int := l.map fun e => ((e.2.2 : Nat) : Int)
theorem kept_nil (w : World) : Calls Tryz.prog 54 #[.pointer none] w fun e w' => e = .returned (.slice none 0 0) ∧ w = w' := by
  go_enter Tryz.func54, Tryz.ntmps54
  go_wp2
  go_ret
  exact ⟨rfl, rfl⟩
set_option maxRecDepth 100000 in
set_option maxHeartbeats 4000000 in
theorem kept_any {w : World} {K M g n : Nat} {l : List Ar} (h : Gra w K M g n l) : Calls Tryz.prog 54 #[ptr g] w fun e w' => Below w.heap.size w w' ∧ ∃ x, e = .returned x ∧ IsV w' w.heap.size x ((keptL l).map fun k => ((k : Nat) : Int)) := by
  obtain ⟨a, c, ib, cb, jb, db, h⟩ := h
  have g2 := Row.cell h.gb 2
  simp only [List.getElem?_toArray, List.getElem?_cons_zero, List.getElem?_cons_succ] at g2
  have hgl := Row.lt h.gb
  have hL : (outs n l).length ≤ 67108864 := by have h1 := h.hl; have h2 := outs_len h.ok; have h3 := keptL_len l; omega
  have hLi : ((outs n l).length : Int) ≤ 67108864 := by omega
  have HO := Lib.hid (And.intro h.io (kept_sort h.ok))
  have HL := Lib.hid hL
  clear h
  generalize outs n l = O at *
  obtain ⟨i0, hi, hz0, hz1, hz2⟩ := info_partsC infoIC
  go_enter Tryz.func54, Tryz.ntmps54
  go_wp2_with (first | (with_reducible show wpList _ _ _ (Oper.mk _ (Op.makeSlice _ _ _) _ _ _ _ :: _) _ _; refine wpList_make_own _ rfl _ _ 33 rfl w.heap.size 3 i0 (.int .i64 0) 1 Tryz.underlying33 hi hz0 hz1 .i64 .i64 _ O.length rfl rfl rfl (by rw [hz2]; have := HL.out; omega) (by unfold maxLen; have := HL.out; omega) (Nat.le_refl _) ?_; intro w1 hown1 hg1; obtain ⟨cc1, cf1⟩ := (show (∀ q, w1.cell? ⟨g, q, none⟩ = w.cell? ⟨g, q, none⟩) ∧ True from ⟨fun q => by unfold World.cell?; rw [hg1.block g hgl (by simp)], trivial⟩); have HW1 := Lib.hid (And.intro hown1 hg1); clear hown1 hg1))
  have hio := HO.out.1.under (K := w.heap.size) ⟨HW1.out.2.os, HW1.out.2.tape, HW1.out.2.output, HW1.out.2.size, fun k hk => HW1.out.2.block k hk (by simp)⟩ HO.out.1.lt
  have HIo := Lib.hid hio
  clear hio
  go_loopw [3, 21] (fun v i wr => ∃ (k cap gg : Nat), i = .int .i64 k ∧ k ≤ O.length ∧ v = .slice (some ⟨gg, 0, none⟩) k cap ∧ IsV wr w.heap.size v (arcsOf (O.take k)) ∧ Below w.heap.size w wr ∧ Row wr ib 94 (esV O)) (fun _ i _ => O.length - (intOf i).toNat)
  case atStart => exact ⟨0, O.length, w.heap.size, rfl, Nat.zero_le _, rfl, HW1.out.1, ⟨HW1.out.2.os, HW1.out.2.tape, HW1.out.2.output, HW1.out.2.size, fun k hk => HW1.out.2.block k hk (by simp)⟩, HIo.out⟩
  case round =>
    obtain ⟨k, cap, gg, rfl, hk, rfl, hown, hb, hio⟩ := hrel
    have htl : (arcsOf (O.take k)).length = k := by unfold arcsOf; rw [List.length_map, List.length_take]; omega
    by_cases hlt : k < O.length
    · have hlt' : (k : Int) < (O.length : Int) := by omega
      have hw1 : IntKind.i64.wrap ((k : Int) + 1) = (k : Int) + 1 := by rw [IntKind.wrap_i64]; omega
      obtain ⟨q0, q1, q2⟩ := esV_at hlt
      have y0 := (hio.cell (k * 3)).trans q0
      have y1 := (hio.cell (k * 3 + 1)).trans q1
      have y2 := (hio.cell (k * 3 + 2)).trans q2
      have htk : arcsOf (O.take (k + 1)) = arcsOf (O.take k) ++ [(((O[k]'hlt).2.2 : Nat) : Int)] := by
        unfold arcsOf
        rw [List.take_succ_eq_append_getElem hlt, List.map_append]
        rfl
      clear q0 q1 q2
      generalize O[k]'hlt = x at *
      have hown2 : wr.ownsRow w.heap.size 3 1 (.slice (some ⟨gg, 0, none⟩) k cap) k ((arcsOf (O.take k)).map (Value.int .i64)) := by
        have h := hown
        unfold IsV at h
        rw [htl] at h
        exact h
      have HR := Lib.hid (And.intro hown2 (And.intro hb (And.intro hio (And.intro htk htl))))
      clear hown hown2 hb hio htk htl
      go_wp2_with (at_builtin; refine wpList_append_own_at _ rfl _ _ 33 rfl w.heap.size 3 i0 (.int .i64 0) 1 8 Tryz.underlying33 hi hz0 hz1 hz2 rfl (by decide) _ k ((arcsOf (O.take k)).map (Value.int .i64)) rfl ((HR.out.1.alloc _).alloc _) ⟨wr.heap.size + 1, 0, none⟩ 1 1 [.int .i64 (x.2.2 : Nat)] rfl rfl (by have h := cell_one_new (wr.alloc (.cells #[.int .i64 x.1, .int .i64 x.2.1, .int .i64 (x.2.2 : Nat)] 94)) (.int .i64 (x.2.2 : Nat)) 3; rw [World.size_alloc] at h; exact h) (by simp [Value.oneCell']) (by unfold maxLen; have := HL.out; omega) (by have := HL.out; omega) (by have := HR.out.2.1.size; simp; omega) ?_; intro v' w3 hown' hg3 _ hat3; obtain ⟨g', cap', rfl⟩ := ownsRow_succ hown'; have HA := Lib.hid (And.intro hown' (And.intro hg3 hat3)); clear hown' hg3 hat3)
      have hgg := (owns_lt HR.out.1 gg rfl).1
      have hbal : Below w.heap.size w ((wr.alloc (.cells #[.int .i64 x.1, .int .i64 x.2.1, .int .i64 (x.2.2 : Nat)] 94)).alloc (.cells #[.int .i64 (x.2.2 : Nat)] 3)) := (HR.out.2.1.alloc HR.out.2.1.size _).alloc (by have := HR.out.2.1.size; simp; omega) _
      refine ⟨⟨k + 1, cap', g', by go_num, hlt, rfl, ?_, hbal.grown HA.out.2.1 hbal.size (fun q e => by cases e; exact hgg), ?_⟩, by simp [intOf]; omega⟩
      · show w3.ownsRow w.heap.size 3 1 _ (arcsOf (O.take (k + 1))).length _
        rw [HR.out.2.2.2.1, List.length_append, HR.out.2.2.2.2, List.map_append]
        exact HA.out.1
      · have hib := HO.out.1.lt
        exact ((HR.out.2.2.1.past _).past _).only (only_grown (S := fun q => q = gg) HA.out.2.1 (fun q e => by cases e; rfl)) (fun e => by omega)
    · obtain rfl : k = O.length := by omega
      have hlt' : ¬ (O.length : Int) < (O.length : Int) := by omega
      rw [List.take_length] at hown htl
      rcases hown.2 with ⟨hnil, _⟩ | ⟨g', cap', cur, e, hbase, hbk, h1, h2, h3, h4⟩
      · cases hnil
      rw [htl] at e
      cases e
      have hgl2 : gg < wr.heap.size := (Array.getElem?_eq_some_iff.1 hbk).1
      have hlen : (arcsOf O).length < 4611686018427387904 := by have := HL.out; omega
      have hC := Tryz.slices_Sort_int gg 0 cap (arcsOf O) wr (holds_of_blockI hbk (by simpa using h4)) hgl2 hlen
      rw [htl] at hC
      have HC := Lib.hid hC
      have hsrt : ((arcsOf O).mergeSort fun x y => decide (x ≤ y)) = (keptL l).map fun k => ((k : Nat) : Int) := HO.out.2
      have hkl : ((keptL l).map fun k => ((k : Nat) : Int)).length = O.length := by rw [← hsrt, List.length_mergeSort, htl]
      have HS : Hid (∀ nn os, ∃ w3, w3 = grow (putRow (Value.int .i64) (Sort.ahead wr nn) gg 0 ((arcsOf O).mergeSort fun x y => decide (x ≤ y)).toArray) os ∧ Hid (IsV w3 w.heap.size (.slice (some ⟨gg, 0, none⟩) O.length cap) ((keptL l).map fun k => ((k : Nat) : Int)) ∧ Below w.heap.size w w3)) := fun nn os => by
        have hg := grownBy_sortedI (w := wr) (g := gg) (n := nn) (os := os) ((arcsOf O).mergeSort fun x y => decide (x ≤ y)).toArray
        refine ⟨_, rfl, ?_, hb.grown hg hb.size (fun q e => by cases e; exact hbase)⟩
        have hq := ownsRow_sortedI (w := wr) (n := nn) (os := os) (ts := (arcsOf O).mergeSort fun x y => decide (x ≤ y)) (by rw [List.length_mergeSort]) hbase hbk h1 h2 h3
        rw [hsrt, htl] at hq
        show World.ownsRow _ _ _ _ _ (List.map _ _).length _
        rw [hkl]
        rw [hsrt]
        exact hq
      clear hown hb hio htl hbase hbk h1 h2 h3 h4 hC hsrt hkl hgl2 hlen
      go_wp2_with (go_at_call 102; refine HC.out.mono ?_; rintro e w' ⟨rfl, nn, os, hw'⟩; obtain ⟨w3, hw3, HF⟩ := HS.out nn os; rw [← hw3] at hw'; subst hw'; clear hw3)
      go_ret
      exact ⟨HF.out.2, _, rfl, HF.out.1⟩
end Go.Proofs.YtdkpdmpghibmmaaGreat
