/- Words for memory: a row of cells that lies whole in a block; a table of words; a slice that reads as bytes. -/
import Derived.Test.YthljgkaigjokjaaCrcBits
import Derived.Below
import Derived.Deep.WholeRow
import Derived.Deep.Draws
namespace Go.Proofs.Ythljgkaigjokjaa
open Go.RowKit

/-- Block g is just these cells, none of them marked. -/
def Row (w : World) (g : Nat) (t : TypeId) (cs : Array Value) : Prop := w.heap[g]? = some (.cells cs t (0, 0))

theorem Row.lt {w : World} {g : Nat} {t : TypeId} {cs : Array Value} (h : Row w g t cs) : g < w.heap.size := (Array.getElem?_eq_some_iff.1 h).1
theorem Row.cell {w : World} {g : Nat} {t : TypeId} {cs : Array Value} (h : Row w g t cs) (i : Nat) : w.cell? ⟨g, i, none⟩ = cs[i]? := cell_of_row w g i cs t (0, 0) h
theorem Row.thaw {w : World} {g : Nat} {t : TypeId} {cs : Array Value} (h : Row w g t cs) (i : Nat) : w.frozen? ⟨g, i, none⟩ = false := frozen_of_row w g i cs t h
theorem Row.fresh (w : World) (t : TypeId) (cs : Array Value) : Row (w.alloc (.cells cs t)) w.heap.size t cs := heap_alloc_new w _
theorem Row.past {w : World} {g : Nat} {t : TypeId} {cs : Array Value} (h : Row w g t cs) (o : Obj) : Row (w.alloc o) g t cs := (Below.heap_alloc w o g h.lt).trans h
theorem Row.put {w : World} {g : Nat} {t : TypeId} {cs : Array Value} (h : Row w g t cs) (i : Nat) (v : Value) : Row (w.setCell ⟨g, i, none⟩ v) g t (cs.setIfInBounds i v) := heap_setCell_same w g i cs t v h
theorem Row.away {w : World} {g : Nat} {t : TypeId} {cs : Array Value} (h : Row w g t cs) {a : Addr} (ha : g ≠ a.block) (v : Value) : Row (w.setCell a v) g t cs := (heap_setCell_other w a g v ha).trans h
theorem Row.under {w w' : World} {K g : Nat} {t : TypeId} {cs : Array Value} (h : Row w g t cs) (hb : Below K w w') (hg : g < K) : Row w' g t cs := (hb.block g hg).trans h
theorem Row.whole {w : World} {g : Nat} {t : TypeId} {cs : Array Value} (h : Row w g t cs) (cs' : Array Value) : Row (w.setRow g cs') g t cs' := setRow_heap w g cs cs' t (0, 0) h
theorem Row.wholeAway {w : World} {g : Nat} {t : TypeId} {cs : Array Value} (h : Row w g t cs) {k : Nat} (hk : g ≠ k) (cs' : Array Value) : Row (w.setRow k cs') g t cs := (setRow_other w k g cs' hk).trans h
theorem below_setRow' {K : Nat} {a w : World} (h : Below K a w) {g : Nat} (hg : K ≤ g) (cs : Array Value) : Below K a (w.setRow g cs) :=
  h.trans ⟨rfl, rfl, rfl, by simp, fun k hk => setRow_other w g k cs (by omega)⟩

/-- n words of 32 bits, as cells. -/
def words (n : Nat) (f : Nat → BitVec 32) : Array Value := Array.ofFn (n := n) fun i => .int .u32 (U (f i.val))
theorem words_size (n : Nat) (f : Nat → BitVec 32) : (words n f).size = n := by simp [words]
theorem words_get (n : Nat) (f : Nat → BitVec 32) (i : Nat) (h : i < n) : (words n f)[i]? = some (.int .u32 (U (f i))) := by simp [words, h]
theorem words_cells (n : Nat) (f : Nat → BitVec 32) : (words n f).all (·.oneCell') = true := by
  rw [Array.all_eq_true]
  intro i hi
  simp [words, Value.oneCell']
theorem words_put (n : Nat) (f : Nat → BitVec 32) (k : Nat) (y : BitVec 32) : (words n f).setIfInBounds k (.int .u32 (U y)) = words n (fun i => if i = k then y else f i) := by
  apply Array.ext_getElem?
  intro i
  rw [Array.getElem?_setIfInBounds]
  by_cases hi : i < n
  · rw [words_get n (fun i => if i = k then y else f i) i hi]
    by_cases hk : k = i
    · subst hk; simp [words_size, hi]
    · have : ¬ i = k := fun e => hk e.symm
      rw [if_neg hk, words_get n f i hi, if_neg this]
  · have h1 : (words n f)[i]? = none := by simp [words]; omega
    have h2 : (words n (fun i => if i = k then y else f i))[i]? = none := by simp [words]; omega
    rw [h1, h2]
    split
    · rw [words_size]; rename_i e; rw [if_neg (by omega)]
    · rfl
theorem words_congr (n : Nat) (f g : Nat → BitVec 32) (h : ∀ i, i < n → f i = g i) : words n f = words n g := by
  apply Array.ext_getElem?
  intro i
  by_cases hi : i < n
  · rw [words_get n _ i hi, words_get n _ i hi, h i hi]
  · have h1 : (words n f)[i]? = none := by simp [words]; omega
    have h2 : (words n g)[i]? = none := by simp [words]; omega
    rw [h1, h2]

/-- A slice whose first cell is at a reads as these bytes. -/
def Bytes (w : World) (a : Option Addr) (l : List (BitVec 8)) : Prop :=
  l = [] ∨ ∃ b o, a = some ⟨b, o, none⟩ ∧ ∀ i x, l[i]? = some x → w.cell? ⟨b, o + i, none⟩ = some (.int .u8 (B x))

theorem Bytes.at_ {w : World} {a : Option Addr} {l : List (BitVec 8)} (h : Bytes w a l) {i : Nat} (hi : i < l.length) : ∃ b o, a = some ⟨b, o, none⟩ ∧ b < w.heap.size ∧ w.cell? ⟨b, o + i, none⟩ = some (.int .u8 (B (l[i]'hi))) := by
  rcases h with rfl | ⟨b, o, rfl, h⟩
  · simp at hi
  · have hc := h i (l[i]'hi) (List.getElem?_eq_getElem hi)
    exact ⟨b, o, rfl, block_lt_of_cell hc, hc⟩
theorem Bytes.under {w w' : World} {a : Option Addr} {l : List (BitVec 8)} (h : Bytes w a l) (hb : Below w.heap.size w w') : Bytes w' a l := by
  rcases h with h | ⟨b, o, rfl, h⟩
  · exact .inl h
  · refine .inr ⟨b, o, rfl, fun i x hx => ?_⟩
    have hc := h i x hx
    have hl : b < w.heap.size := block_lt_of_cell hc
    rw [hb.cell (p := ⟨b, o + i, none⟩) hl]
    exact hc
theorem bytes_of {w : World} {x : Addr} {len cap : Nat} {zs : List Int} (hl : len ≤ cap) (hz : zs.length = cap) (hcell : ∀ i, i < zs.length → w.cell? (x.add i) = some (.int .u8 (zs.getD i 0)))
    (hwz : ∀ n ∈ zs, (Lit.int .u8 n).wf = true) : ∃ l, l.length = len ∧ Bytes w (some x) l := by
  rcases Nat.eq_zero_or_pos len with h0 | h0
  · exact ⟨[], by rw [h0]; rfl, .inl rfl⟩
  · obtain ⟨b, o, spot⟩ := x
    have hc := hcell 0 (by omega)
    have hspot : spot = none := by simpa [Addr.add] using World.cell?_spot hc
    subst hspot
    refine ⟨(zs.take len).map (fun z => BitVec.ofNat 8 z.toNat), by simp; omega, .inr ⟨b, o, rfl, fun i v hv => ?_⟩⟩
    rw [List.getElem?_map] at hv
    have hi : i < len := by
      rcases Nat.lt_or_ge i len with h | h
      · exact h
      · rw [List.getElem?_eq_none (by simp; omega)] at hv
        simp at hv
    have hiz : i < zs.length := by omega
    rw [List.getElem?_take_of_lt hi, List.getElem?_eq_getElem hiz] at hv
    simp only [Option.map_some, Option.some.injEq] at hv
    subst hv
    have hcc := hcell i hiz
    have ea : (⟨b, o, none⟩ : Addr).add i = ⟨b, o + i, none⟩ := by
      unfold Addr.add
      split
      · simp_all
      · rfl
    rw [ea] at hcc
    rw [hcc]
    have hw := hwz zs[i] (List.getElem_mem hiz)
    obtain ⟨y, hy⟩ := B_of _ hw
    have e2 : zs.getD i 0 = zs[i] := by simp [List.getD, hiz]
    rw [e2, hy]
    congr 2
    unfold B
    have := y.isLt
    simp
theorem Bytes.nil (w : World) (a : Option Addr) : Bytes w a [] := .inl rfl
end Go.Proofs.Ythljgkaigjokjaa
