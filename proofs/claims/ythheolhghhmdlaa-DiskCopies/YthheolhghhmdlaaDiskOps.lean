/- Things to do that come in as an argument: what their cells hold. -/
import Derived.Test.YthheolhghhmdlaaDiskK
import Derived.Deep.Slices
import Derived.ChangeArms
import Derived.DataReads
import Derived.SizedLaws
namespace Go.Proofs.Ythheolhghhmdlaa
open Go.RowKit Go.ChangeShapes Go.WideShapes Dsk

theorem exists_list {α : Type} (P : Nat → α → Prop) : ∀ n, (∀ i, i < n → ∃ x, P i x) → ∃ l : List α, l.length = n ∧ ∀ i x, l[i]? = some x → P i x
  | 0, _ => ⟨[], rfl, fun i x h => by simp at h⟩
  | n + 1, h => by
    obtain ⟨l, hl, hp⟩ := exists_list P n fun i hi => h i (by omega)
    obtain ⟨x, hx⟩ := h n (by omega)
    refine ⟨l ++ [x], by simp [hl], fun i y hy => ?_⟩
    rw [List.getElem?_append] at hy
    split at hy
    · exact hp i y hy
    · rename_i hi
      have h1 := (List.getElem?_eq_some_iff.1 hy).1
      simp at h1
      have h2 : i = n := by omega
      subst h2
      have h3 : i - l.length = 0 := by omega
      rw [h3] at hy
      simp at hy
      subst hy
      exact hx
theorem opCells : Try.prog.cellsOf 36 = 4 := by kernel_rfl
theorem intCells : Try.prog.cellsOf 3 = 1 := by kernel_rfl
theorem strCells : Try.prog.cellsOf 9 = 1 := by kernel_rfl
theorem rowCells : Try.prog.cellsOf 34 = 1 := by kernel_rfl
theorem byteBytes : Try.prog.bytesOf 5 = 1 := by kernel_rfl
/-- Four cells that are something to do. -/
def OpAt (w : World) (cs : List Value) (y : Ope) : Prop := ∃ a c, cs[0]? = some (.int .i64 y.kind) ∧ cs[1]? = some (.string ⟨y.name.toArray⟩) ∧ cs[2]? = some (.string ⟨y.to.toArray⟩) ∧ cs[3]? = some (.slice a y.data.length c) ∧ cs.length = 4 ∧ Bytes w a y.data ∧ y.data.length ≤ c ∧ (0 < y.data.length → ∀ k, (Value.slice a y.data.length c).ownBlock = some k → k < w.heap.size) ∧ y.name.length ≤ 140737488351232 ∧ y.to.length ≤ 140737488351232 ∧ y.data.length ≤ 140737488351232 ∧ (Lit.int .i64 y.kind).wf = true

theorem at_off {cs : List Value} {off : Nat} {v : Value} (h : (cs.drop off).take 1 = [v]) : cs[off]? = some v := by
  have : ((cs.drop off).take 1)[0]? = some v := by rw [h]; rfl
  rw [List.getElem?_take_of_lt (by omega), List.getElem?_drop] at this
  simpa using this
section
variable {H : Type} {enc : TypeId × Value → H} {w : World} {base : Nat} {held : Bool}
theorem num_at {fuel off : Nat} {cs : List Value} {x : DataW H × List MemPlace} (h : DataW.trod enc Try.prog w base (fun _ => true) held fuel 3 ((cs.drop off).take (Try.prog.cellsOf 3)) = some x) : ∃ z, cs[off]? = some (.int .i64 z) ∧ (Lit.int .i64 z).wf = true := by
  obtain ⟨z, hz, _, hwf⟩ := DataW.trod_int Try.underlying3 h
  rw [intCells] at hz
  exact ⟨z, at_off hz, hwf⟩
theorem str_at {fuel off : Nat} {cs : List Value} {x : DataW H × List MemPlace} (h : DataW.trod enc Try.prog w base (fun _ => true) held fuel 9 ((cs.drop off).take (Try.prog.cellsOf 9)) = some x) : ∃ s : ByteArray, cs[off]? = some (.string s) ∧ x = (.lit (.string s.data.toList), []) := by
  obtain ⟨z, hz, hx, _⟩ := DataW.trod_string Try.underlying9 h
  rw [strCells] at hz
  exact ⟨z, at_off hz, hx⟩
theorem row_at {fuel off : Nat} {cs : List Value} {x : DataW H × List MemPlace} (h : DataW.trod enc Try.prog w base (fun _ => true) held fuel 34 ((cs.drop off).take (Try.prog.cellsOf 34)) = some x) (hw : ∀ m ∈ x.1.weights Try.prog 34, m ≤ reachBytes) : ∃ a l c, cs[off]? = some (.slice a (List.length l) c) ∧ Bytes w a l ∧ l.length ≤ c ∧ (0 < l.length → ∀ k, (Value.slice a l.length c).ownBlock = some k → k < w.heap.size) ∧ l.length ≤ 140737488351232 := by
  rcases open_ints Try.underlying34 Try.underlying5 (by kernel_rfl) h with ⟨hcs, _⟩ | ⟨a, len, cap, zs, hcs, _, hle, hm, hz, hx, hcell, hwz⟩
  · rw [rowCells] at hcs
    exact ⟨none, [], 0, at_off hcs, .inl rfl, Nat.le_refl _, fun q => by simp at q, by simp⟩
  · rw [rowCells] at hcs
    obtain ⟨l, rfl, hB⟩ := bytes_of hle (by simpa using hz) hcell hwz
    have b3 := hw ((zs.take l.length).length + (zs.drop l.length).length) (by rw [hx]; simp [DataW.weights, Try.underlying34, byteBytes, lits])
    simp only [reachBytes, List.length_take, List.length_drop] at b3
    have hz' : zs.length = cap := by simpa using hz
    refine ⟨some a, l, cap, at_off hcs, hB, hle, fun q j hj => ?_, by omega⟩
    obtain ⟨b, off, e, hlt, _⟩ := hB.at_ (i := 0) q
    cases e
    cases hj
    exact hlt
theorem op_of {fuel : Nat} {cs : List Value} {x : DataW H × List MemPlace} (h : DataW.trod enc Try.prog w base (fun _ => true) held fuel 36 cs = some x) (hw : ∀ m ∈ x.1.weights Try.prog 36, m ≤ reachBytes) : ∃ y, OpAt w cs y := by
  obtain ⟨xs, k, _, hx, hlc, hl, hf⟩ := DataW.trod_struct Try.underlying36 h
  have hl4 : xs.length = 4 := hl
  subst hx
  have hw' : ∀ (j : Nat) (t : TypeId) (d : DataW H), ([3, 9, 9, 34] : List TypeId)[j]? = some t → (xs.map (·.1))[j]? = some d → ∀ m ∈ d.weights Try.prog t, m ≤ reachBytes := fun j t d ht hd m hm => by
    refine hw m ?_
    simp only [DataW.weights, Try.underlying36]
    exact DataW.weights_mem_each ht hd m hm
  have h0 := hf 0 _ rfl
  have h1 := hf 1 _ rfl
  have h2 := hf 2 _ rfl
  have h3 := hf 3 _ rfl
  rw [List.getElem?_eq_getElem (by omega)] at h0 h1 h2 h3
  obtain ⟨z0, g0, hwf⟩ := num_at h0
  obtain ⟨s1, g1, x1⟩ := str_at h1
  obtain ⟨s2, g2, x2⟩ := str_at h2
  obtain ⟨a, l, c, g3, hB, hle, hT, h9⟩ := row_at h3 (fun m hm => hw' 3 _ _ rfl (by rw [List.getElem?_map, List.getElem?_eq_getElem (by omega)]; rfl) m hm)
  have b1 := hw' 1 _ _ rfl (by rw [List.getElem?_map, List.getElem?_eq_getElem (by omega)]; rfl) s1.data.toList.length (by rw [x1]; simp [DataW.weights])
  have b2 := hw' 2 _ _ rfl (by rw [List.getElem?_map, List.getElem?_eq_getElem (by omega)]; rfl) s2.data.toList.length (by rw [x2]; simp [DataW.weights])
  simp only [reachBytes] at b1 b2
  exact ⟨⟨z0, s1.data.toList, s2.data.toList, l⟩, a, c, g0, by simp only [Array.toArray_toList]; exact g1, by simp only [Array.toArray_toList]; exact g2, g3, hlc.trans opCells, hB, hle, hT, by simpa using b1, by simpa using b2, h9, hwf⟩
theorem ops_of {fuel n c : Nat} {ad : Option Addr} {x : DataW H × List MemPlace} (h : DataW.trod enc Try.prog w base (fun _ => true) held fuel 22 [.slice ad n c] = some x) (hw : ∀ m ∈ x.1.weights Try.prog 22, m ≤ reachBytes) :
    ∃ l, l.length = n ∧ Ops w (fun k => k < w.heap.size) ad l ∧ (∀ y ∈ l, y.name.length ≤ 140737488351232 ∧ y.to.length ≤ 140737488351232 ∧ y.data.length ≤ 140737488351232) ∧ n ≤ 140737488351232 := by
  rcases Go.Deep.open_slice Try.underlying22 h with ⟨hcs, _⟩ | ⟨a, len, cap, m, fu, D, Pl, hcs, _, hl, _, hm, hxx, hi⟩
  · simp at hcs
    obtain ⟨rfl, rfl, rfl⟩ := hcs
    exact ⟨[], rfl, .inl rfl, fun y hy => by simp at hy, by omega⟩
  · simp at hcs
    obtain ⟨rfl, rfl, rfl⟩ := hcs
    simp at hm
    subst hm
    have hwn := hw ((n + (m - n)) * Try.prog.bytesOf 36) (by rw [hxx]; simp [DataW.weights, Try.underlying22])
    have hbo : Try.prog.bytesOf 36 = 64 := by kernel_rfl
    rw [hbo] at hwn
    simp only [reachBytes] at hwn
    rcases Nat.eq_zero_or_pos n with h0 | h0
    · subst h0
      exact ⟨[], rfl, .inl rfl, fun y hy => by simp at hy, by omega⟩
    · have hall : ∀ i, i < n → ∃ y cs, w.cells? base (a.add (i * 4)) 4 = some cs ∧ OpAt w cs y := by
        intro i hin
        obtain ⟨cs, hc, ht⟩ := hi i (by omega)
        rw [opCells] at hc
        obtain ⟨y, hy⟩ := op_of ht (fun k hk => hw k (by
          rw [hxx]
          simp only [DataW.weights, Try.underlying22]
          refine List.mem_cons_of_mem _ (List.mem_append.2 (.inl ?_))
          have hmem : D i ∈ (List.range n).map D := List.mem_map_of_mem (List.mem_range.2 hin)
          revert hmem
          generalize (List.range n).map D = ds
          intro hmem
          induction ds with
          | nil => cases hmem
          | cons d r ih =>
            simp only [DataW.weightsAll, List.mem_append]
            rcases List.mem_cons.1 hmem with rfl | hmem
            · exact .inl hk
            · exact .inr (ih hmem)))
        exact ⟨y, cs, hc, hy⟩
      have hspot : a.spot = none := by
        obtain ⟨y, cs, hc, hy⟩ := hall 0 h0
        obtain ⟨_, _, hat⟩ := World.cells?_some hc
        obtain ⟨_, _, g0, _⟩ := hy
        have := (hat 0 (by omega)).trans g0
        simpa [Addr.add] using World.cell?_spot this
      obtain ⟨b, o, spot⟩ := a
      simp only at hspot
      subst hspot
      have ea : ∀ i j, ((⟨b, o, none⟩ : Addr).add i).add j = ⟨b, o + i + j, none⟩ := by
        intro i j
        unfold Addr.add
        by_cases h1 : i = 0 <;> by_cases h2 : j = 0 <;> simp [h1, h2]
      obtain ⟨l, hln, hl'⟩ := exists_list (fun i y => ∃ cs, w.cells? base ((⟨b, o, none⟩ : Addr).add (i * 4)) 4 = some cs ∧ OpAt w cs y) n hall
      have hcl : ∀ i y, l[i]? = some y → ∃ a c, w.cell? ⟨b, o + i * 4, none⟩ = some (.int .i64 y.kind) ∧ w.cell? ⟨b, o + i * 4 + 1, none⟩ = some (.string ⟨y.name.toArray⟩) ∧ w.cell? ⟨b, o + i * 4 + 2, none⟩ = some (.string ⟨y.to.toArray⟩) ∧ w.cell? ⟨b, o + i * 4 + 3, none⟩ = some (.slice a y.data.length c) ∧
          Bytes w a y.data ∧ (0 < y.data.length → ∀ k, (Value.slice a y.data.length c).ownBlock = some k → k < w.heap.size) := fun i y hy => by
        obtain ⟨cs, hc, a2, c2, g0, g1, g2, g3, _, hB, _, hT, _⟩ := hl' i y hy
        obtain ⟨_, _, hat⟩ := World.cells?_some hc
        have r0 := hat 0 (by omega)
        have r1 := hat 1 (by omega)
        have r2 := hat 2 (by omega)
        have r3 := hat 3 (by omega)
        rw [ea] at r0 r1 r2 r3
        exact ⟨a2, c2, r0.trans g0, r1.trans g1, r2.trans g2, r3.trans g3, hB, hT⟩
      refine ⟨l, hln, .inr ⟨b, o, rfl, ?_, hcl⟩, fun y hy => ?_, by omega⟩
      · obtain ⟨_, _, g0, _⟩ := hcl 0 _ (List.getElem?_eq_getElem (by omega))
        exact block_lt_of_cell g0
      · obtain ⟨i, hi1⟩ := List.mem_iff_getElem?.1 hy
        obtain ⟨_, _, _, _, _, _, _, _, _, _, _, _, q1, q2, q3, _⟩ := hl' i y hi1
        exact ⟨q1, q2, q3⟩
end
end Go.Proofs.Ythheolhghhmdlaa
