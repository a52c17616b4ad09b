/- A list of things done that comes in as an argument: what its cells hold. -/
import Derived.Test.YthpfhimdgmckgaaHeapM
import Derived.Deep.Slices
import Derived.ChangeArms
import Derived.DataReads
namespace Go.Proofs.Ythpfhimdgmckgaa
open Go.RowKit Go.ChangeShapes Go.WideShapes

def numAt (w : World) (a : Addr) : Int := match w.cell? a with
  | some (.int _ z) => z
  | _ => 0
theorem numAt_of {w : World} {a : Addr} {z : Int} (h : w.cell? a = some (.int .i64 z)) : w.cell? a = some (.int .i64 (numAt w a)) := by
  unfold numAt
  rw [h]
theorem cells3 : Try.prog.cellsOf 37 = 3 := by kernel_rfl
theorem cells1 : Try.prog.cellsOf 3 = 1 := by kernel_rfl

section
variable {H : Type} {enc : TypeId × Value → H} {w : World} {base : Nat} {spare : Nat → Bool} {held : Bool}
/-- One of three numbers, read as a struct. -/
theorem num_of {fuel off : Nat} {cs : List Value} {x : DataW H × List MemPlace} (h : DataW.trod enc Try.prog w base spare held fuel 3 ((cs.drop off).take (Try.prog.cellsOf 3)) = some x) : ∃ z, cs[off]? = some (.int .i64 z) := by
  obtain ⟨z, hz, _⟩ := DataW.trod_int Try.underlying3 h
  rw [cells1] at hz
  refine ⟨z, ?_⟩
  have : ((cs.drop off).take 1)[0]? = some (.int .i64 z) := by rw [hz]; rfl
  rw [List.getElem?_take_of_lt (by omega), List.getElem?_drop] at this
  simpa using this
theorem three_of {fuel : Nat} {cs : List Value} {x : DataW H × List MemPlace} (h : DataW.trod enc Try.prog w base spare held fuel 37 cs = some x) : ∃ z0 z1 z2, cs[0]? = some (.int .i64 z0) ∧ cs[1]? = some (.int .i64 z1) ∧ cs[2]? = some (.int .i64 z2) := by
  obtain ⟨xs, k, _, _, _, hl, hf⟩ := DataW.trod_struct Try.underlying37 h
  have hl3 : xs.length = 3 := hl
  have h0 := hf 0 _ rfl
  have h1 := hf 1 _ rfl
  have h2 := hf 2 _ rfl
  rw [List.getElem?_eq_getElem (by omega)] at h0 h1 h2
  obtain ⟨z0, e0⟩ := num_of h0
  obtain ⟨z1, e1⟩ := num_of h1
  obtain ⟨z2, e2⟩ := num_of h2
  exact ⟨z0, z1, z2, e0, e1, e2⟩
theorem dos_of {fuel n c : Nat} {ad : Option Addr} {x : DataW H × List MemPlace} (h : DataW.trod enc Try.prog w base spare held fuel 22 [.slice ad n c] = some x) : ∃ l, l.length = n ∧ Dos w ad l := by
  rcases Go.Deep.open_slice Try.underlying22 h with ⟨hcs, _⟩ | ⟨a, len, cap, m, fu, D, Pl, hcs, _, hl, _, hm, _, hi⟩
  · simp at hcs
    obtain ⟨rfl, rfl, rfl⟩ := hcs
    exact ⟨[], rfl, .inl rfl⟩
  · simp at hcs
    obtain ⟨rfl, rfl, rfl⟩ := hcs
    rcases Nat.eq_zero_or_pos n with h0 | h0
    · subst h0
      exact ⟨[], rfl, .inl rfl⟩
    · have hmn : n ≤ m := by rw [hm]; split <;> omega
      have hcell : ∀ i, i < n → ∃ z0 z1 z2, w.cell? ((a.add (i * 3)).add 0) = some (.int .i64 z0) ∧ w.cell? ((a.add (i * 3)).add 1) = some (.int .i64 z1) ∧ w.cell? ((a.add (i * 3)).add 2) = some (.int .i64 z2) := by
        intro i hin
        obtain ⟨cs, hc, ht⟩ := hi i (by omega)
        rw [cells3] at hc
        obtain ⟨_, _, hat⟩ := World.cells?_some hc
        obtain ⟨z0, z1, z2, e0, e1, e2⟩ := three_of ht
        exact ⟨z0, z1, z2, (hat 0 (by omega)).trans e0, (hat 1 (by omega)).trans e1, (hat 2 (by omega)).trans e2⟩
      obtain ⟨b, o, spot⟩ := a
      have hspot : spot = none := by
        obtain ⟨z0, _, _, e, _⟩ := hcell 0 h0
        simpa [Addr.add] using World.cell?_spot e
      subst hspot
      have ea : ∀ i j, ((⟨b, o, none⟩ : Addr).add i).add j = ⟨b, o + i + j, none⟩ := by
        intro i j
        unfold Addr.add
        by_cases h1 : i = 0 <;> by_cases h2 : j = 0 <;> simp [h1, h2]
      refine ⟨(List.range n).map fun i => (numAt w ⟨b, o + i * 3, none⟩, numAt w ⟨b, o + i * 3 + 1, none⟩, numAt w ⟨b, o + i * 3 + 2, none⟩), by simp, .inr ⟨b, o, rfl, fun i y hy => ?_⟩⟩
      rw [List.getElem?_map] at hy
      have hin : i < n := by
        rcases Nat.lt_or_ge i n with h | h
        · exact h
        · rw [List.getElem?_eq_none (by simpa using h)] at hy
          simp at hy
      rw [List.getElem?_range hin] at hy
      simp only [Option.map_some, Option.some.injEq] at hy
      subst hy
      obtain ⟨z0, z1, z2, e0, e1, e2⟩ := hcell i hin
      rw [ea] at e0 e1 e2
      exact ⟨numAt_of e0, numAt_of e1, numAt_of e2⟩
end
end Go.Proofs.Ythpfhimdgmckgaa
