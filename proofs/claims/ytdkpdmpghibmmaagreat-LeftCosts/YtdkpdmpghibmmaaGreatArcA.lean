/- Arcs in memory; a map that comes in as an argument (written by mkarc.py). -/
import Derived.Test.YtdkpdmpghibmmaaGreatM1
import Derived.Test.YtdkpdmpghibmmaaGreatChecked
import Derived.Shelf.Abstract
import Derived.Shelf.RegionOpen
import Derived.WalkKit
import Derived.StillTailTactics
import Derived.BigQuiet
import Derived.Deep.QuietTactic
import Derived.Deep.Cut
import Derived.Lib.Hide
import Derived.Deep.Slices
import Derived.ChangeArms
import Derived.DataReads
import Derived.ChangeAt
namespace Go.Proofs.YtdkpdmpghibmmaaGreat
namespace Grm
end Grm
open Go.RowKit Go.ChangeShapes Go.WideShapes Grm

abbrev Ar := Int × Int × Int
/-- A slice that reads as these arcs. -/
def Arcs (w : World) (a : Option Addr) (l : List Ar) : Prop := l = [] ∨ ∃ b o, a = some ⟨b, o, none⟩ ∧ ∀ i y, l[i]? = some y → w.cell? ⟨b, o + i * 3, none⟩ = some (.int .i64 y.1) ∧ w.cell? ⟨b, o + i * 3 + 1, none⟩ = some (.int .i64 y.2.1) ∧ w.cell? ⟨b, o + i * 3 + 2, none⟩ = some (.int .i64 y.2.2)
theorem Arcs.at_ {w : World} {a : Option Addr} {l : List Ar} (h : Arcs w a l) {k : Nat} (hk : k < l.length) : ∃ b o, a = some ⟨b, o, none⟩ ∧ w.cell? ⟨b, o + k * 3, none⟩ = some (.int .i64 (l[k]'hk).1) ∧ w.cell? ⟨b, o + k * 3 + 1, none⟩ = some (.int .i64 (l[k]'hk).2.1) ∧ w.cell? ⟨b, o + k * 3 + 2, none⟩ = some (.int .i64 (l[k]'hk).2.2) := by
  rcases h with rfl | ⟨b, o, rfl, h⟩
  · simp at hk
  · exact ⟨b, o, rfl, h k _ (List.getElem?_eq_getElem hk)⟩
theorem Arcs.under {w w' : World} {a : Option Addr} {l : List Ar} (h : Arcs w a l) (hb : Below w.heap.size w w') : Arcs w' a l := by
  rcases h with rfl | ⟨b, o, rfl, h⟩
  · exact .inl rfl
  · have hc : ∀ (j : Nat) (v : Value), w.cell? ⟨b, j, none⟩ = some v → w'.cell? ⟨b, j, none⟩ = some v := fun j v q => by
      have := hb.block b (block_lt_of_cell q)
      unfold World.cell? at q ⊢
      simp only at q ⊢
      rw [this]
      exact q
    exact .inr ⟨b, o, rfl, fun i y hy => ⟨hc _ _ (h i y hy).1, hc _ _ (h i y hy).2.1, hc _ _ (h i y hy).2.2⟩⟩
theorem below_dN {B : Nat} {a w : World} (h : Below B a w) (n : Nat) : Below B a (w.drewN n) := ⟨h.os, h.tape, h.output, h.size, h.block⟩
theorem take_eq_succ {α : Type} {l r : List α} {k : Nat} (hl : k < l.length) (hr : k < r.length) (h : l.take k = r.take k) (e : l[k]'hl = r[k]'hr) : l.take (k + 1) = r.take (k + 1) := by
  rw [List.take_succ_eq_append_getElem hl, List.take_succ_eq_append_getElem hr, h, e]
abbrev mV (n : Int) (a : Option Addr) (k c : Nat) : Value := .agg #[.int .i64 n, .slice a k c]
def numAt (w : World) (a : Addr) : Int := match w.cell? a with
  | some (.int _ z) => z
  | _ => 0
theorem numAt_of {w : World} {a : Addr} {z : Int} (h : w.cell? a = some (.int .i64 z)) : w.cell? a = some (.int .i64 (numAt w a)) := by
  unfold numAt
  rw [h]
theorem numAt_eq {w : World} {a : Addr} {z : Int} (h : w.cell? a = some (.int .i64 z)) : numAt w a = z := by
  unfold numAt
  rw [h]
theorem cellsA : Tryz.prog.cellsOf 88 = 3 := by kernel_rfl
theorem cellsI : Tryz.prog.cellsOf 3 = 1 := by kernel_rfl
theorem cellsS : Tryz.prog.cellsOf 22 = 1 := by kernel_rfl
/-- A number that an int may be. -/
def Fit (z : Int) : Prop := -9223372036854775808 ≤ z ∧ z ≤ 9223372036854775807
def FitA (x : Ar) : Prop := Fit x.1 ∧ Fit x.2.1 ∧ Fit x.2.2
theorem fit_of {z : Int} (h : (Lit.int .i64 z).wf = true) : Fit z := by
  simp [Lit.wf, IntKind.min, IntKind.max, IntKind.signed, IntKind.bits] at h
  unfold Fit
  omega
section
variable {H : Type} {enc : TypeId × Value → H} {w : World} {base : Nat} {spare : Nat → Bool} {held : Bool}
theorem num_of {fuel off : Nat} {cs : List Value} {x : DataW H × List MemPlace} (h : DataW.trod enc Tryz.prog w base spare held fuel 3 ((cs.drop off).take (Tryz.prog.cellsOf 3)) = some x) : ∃ z, cs[off]? = some (.int .i64 z) ∧ Fit z := by
  obtain ⟨z, hz, _, hw⟩ := DataW.trod_int Tryz.underlying3 h
  rw [cellsI] at hz
  refine ⟨z, ?_, fit_of hw⟩
  have : ((cs.drop off).take 1)[0]? = some (.int .i64 z) := by rw [hz]; rfl
  rw [List.getElem?_take_of_lt (by omega), List.getElem?_drop] at this
  simpa using this
theorem three_of {fuel : Nat} {cs : List Value} {x : DataW H × List MemPlace} (h : DataW.trod enc Tryz.prog w base spare held fuel 88 cs = some x) : ∃ z0 z1 z2, cs[0]? = some (.int .i64 z0) ∧ cs[1]? = some (.int .i64 z1) ∧ cs[2]? = some (.int .i64 z2) ∧ FitA (z0, z1, z2) := by
  obtain ⟨xs, k, _, _, _, hl, hf⟩ := DataW.trod_struct Tryz.underlying88 h
  have hl3 : xs.length = 3 := hl
  have h0 := hf 0 _ rfl
  have h1 := hf 1 _ rfl
  have h2 := hf 2 _ rfl
  rw [List.getElem?_eq_getElem (by omega)] at h0 h1 h2
  obtain ⟨z0, e0, f0⟩ := num_of h0
  obtain ⟨z1, e1, f1⟩ := num_of h1
  obtain ⟨z2, e2, f2⟩ := num_of h2
  exact ⟨z0, z1, z2, e0, e1, e2, f0, f1, f2⟩
theorem arcs_of {fuel n c : Nat} {ad : Option Addr} {x : DataW H × List MemPlace} (h : DataW.trod enc Tryz.prog w base spare held fuel 22 [.slice ad n c] = some x) : ∃ l, l.length = n ∧ Arcs w ad l ∧ (∀ y ∈ l, FitA y) ∧ n ≤ c := by
  rcases Go.Deep.open_slice Tryz.underlying22 h with ⟨hcs, _⟩ | ⟨a, len, cap, m, fu, D, Pl, hcs, _, hl, _, hm, _, hi⟩
  · simp at hcs
    obtain ⟨rfl, rfl, rfl⟩ := hcs
    exact ⟨[], rfl, .inl rfl, fun y hy => (by cases hy), Nat.le_refl _⟩
  · simp at hcs
    obtain ⟨rfl, rfl, rfl⟩ := hcs
    rcases Nat.eq_zero_or_pos n with h0 | h0
    · subst h0
      exact ⟨[], rfl, .inl rfl, fun y hy => (by cases hy), Nat.zero_le _⟩
    · have hmn : n ≤ m := by rw [hm]; split <;> omega
      have hcell : ∀ i, i < n → ∃ z0 z1 z2, w.cell? ((a.add (i * 3)).add 0) = some (.int .i64 z0) ∧ w.cell? ((a.add (i * 3)).add 1) = some (.int .i64 z1) ∧ w.cell? ((a.add (i * 3)).add 2) = some (.int .i64 z2) ∧ FitA (z0, z1, z2) := by
        intro i hin
        obtain ⟨cs, hc, ht⟩ := hi i (by omega)
        rw [cellsA] at hc
        obtain ⟨_, _, hat⟩ := World.cells?_some hc
        obtain ⟨z0, z1, z2, e0, e1, e2, hf⟩ := three_of ht
        exact ⟨z0, z1, z2, (hat 0 (by omega)).trans e0, (hat 1 (by omega)).trans e1, (hat 2 (by omega)).trans e2, hf⟩
      obtain ⟨b, o, spot⟩ := a
      have hspot : spot = none := by
        obtain ⟨z0, _, _, e, _⟩ := hcell 0 h0
        simpa [Addr.add] using World.cell?_spot e
      subst hspot
      have ea : ∀ i j, ((⟨b, o, none⟩ : Addr).add i).add j = ⟨b, o + i + j, none⟩ := by
        intro i j
        unfold Addr.add
        by_cases h1 : i = 0 <;> by_cases h2 : j = 0 <;> simp [h1, h2]
      refine ⟨(List.range n).map fun i => (numAt w ⟨b, o + i * 3, none⟩, numAt w ⟨b, o + i * 3 + 1, none⟩, numAt w ⟨b, o + i * 3 + 2, none⟩), by simp, .inr ⟨b, o, rfl, fun i y hy => ?_⟩, fun y hy => ?_, hl⟩
      · rw [List.getElem?_map] at hy
        have hin : i < n := by
          rcases Nat.lt_or_ge i n with h | h
          · exact h
          · rw [List.getElem?_eq_none (by simpa using h)] at hy
            simp at hy
        rw [List.getElem?_range hin] at hy
        simp only [Option.map_some, Option.some.injEq] at hy
        subst hy
        obtain ⟨z0, z1, z2, e0, e1, e2, _⟩ := hcell i hin
        rw [ea] at e0 e1 e2
        exact ⟨numAt_of e0, numAt_of e1, numAt_of e2⟩
      · obtain ⟨i, hi', rfl⟩ := List.mem_map.1 hy
        obtain ⟨z0, z1, z2, e0, e1, e2, hf⟩ := hcell i (List.mem_range.1 hi')
        rw [ea] at e0 e1 e2
        have g0 := numAt_eq e0
        have g1 := numAt_eq e1
        have g2 := numAt_eq e2
        rw [Nat.add_zero] at g0
        rw [g0, g1, g2]
        exact hf
theorem map_of {fuel : Nat} {cs : Array Value} {x : DataW H × List MemPlace} (hz : cs.size = 2) (h : DataW.trod enc Tryz.prog w base spare held fuel 24 cs.toList = some x) : ∃ n a c l, Value.agg cs = mV n a l.length c ∧ Fit n ∧ Arcs w a l ∧ ∀ y ∈ l, FitA y := by
  obtain ⟨xs, k, _, _, _, hl, hf⟩ := DataW.trod_struct Tryz.underlying24 h
  have hl2 : xs.length = 2 := hl
  have h0 := hf 0 _ rfl
  have h1 := hf 1 _ rfl
  rw [List.getElem?_eq_getElem (by omega)] at h0 h1
  obtain ⟨n, e0, fn⟩ := num_of h0
  have hcs : ∃ c0 c1, cs = #[c0, c1] := ⟨cs[0], cs[1], by apply Array.ext (by simp [hz]); intro i h1 h2; match i, h2 with | 0, _ => rfl | 1, _ => rfl⟩
  obtain ⟨c0, c1, rfl⟩ := hcs
  simp at e0
  subst e0
  have h1' : DataW.trod enc Tryz.prog w base spare held k 22 [c1] = some (xs[1]'(by omega)) := by
    have := h1
    simpa [cellsS] using this
  obtain ⟨ad, nn, c, rfl⟩ : ∃ ad nn c, c1 = .slice ad nn c := by
    rcases Go.Deep.open_slice Tryz.underlying22 h1' with ⟨hcs, _⟩ | ⟨a, len, cap, m, fu, D, Pl, hcs, _⟩
    · simp at hcs; exact ⟨_, _, _, hcs⟩
    · simp at hcs; exact ⟨_, _, _, hcs⟩
  obtain ⟨l, hl, hA, hF, _⟩ := arcs_of h1'
  subst hl
  exact ⟨n, ad, c, l, rfl, fn, hA, hF⟩
end
end Go.Proofs.YtdkpdmpghibmmaaGreat
