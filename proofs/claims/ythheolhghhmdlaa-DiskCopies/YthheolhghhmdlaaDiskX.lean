/- The document's disk: a file laid behind the others of a disk in the making; where a file comes among others. -/
import Derived.Test.YthheolhghhmdlaaDiskW
namespace Go.Proofs.Ythheolhghhmdlaa
open Go.RowKit Dsk

/-- One more file, laid. -/
structure Laid1 (wr : World) (B K : Nat) (room : Int) (ua : Option Addr) (uc : Nat) (rs0 : List Rf) (y : Rf) (wa : World) (a4 : Option Addr) (c4 m4 : Nat) (w4 : World) : Prop where
  run : ∀ ty, (Builtin.append_ #[25, 25] ty #[.slice ua rs0.length uc, .slice (some ⟨wr.heap.size, 0, none⟩) 1 1]).run Try.prog wa = .ok (.slice a4 m4 c4) w4
  old : Row w4 B 27 #[.int .i64 room, .slice ua rs0.length uc]
  len : m4 = (rs0 ++ [y]).length
  row : Row (w4.setCell ⟨B, 1, none⟩ (.slice a4 m4 c4)) B 27 #[.int .i64 room, .slice a4 m4 c4]
  fv : FV (w4.setCell ⟨B, 1, none⟩ (.slice a4 m4 c4)) K (.slice a4 m4 c4) (rs0 ++ [y])
  only : Only (fun k => k = B ∨ K ≤ k) wr (w4.setCell ⟨B, 1, none⟩ (.slice a4 m4 c4))
theorem laid1 {wr : World} {B K : Nat} {room : Int} {ua : Option Addr} {uc : Nat} {rs0 : List Rf} (y : Rf) (wa : World) (hwa : Below (wr.heap.size + 1) (wr.alloc (.cells #[.string ⟨y.name.toArray⟩, y.fv, y.wv] 73)) wa) (hws : wa.heap.size = wr.heap.size + 1)
    (ru : Row wr B 27 #[.int .i64 room, .slice ua rs0.length uc]) (hiv : FV wr K (.slice ua rs0.length uc) rs0) (hBK : B < K) (hK : K ≤ wr.heap.size) (hlen : rs0.length ≤ 1000000) (hone : y.fv.oneCell' = true ∧ y.wv.oneCell' = true) :
    ∃ a4 c4 m4 w4, Laid1 wr B K room ua uc rs0 y wa a4 c4 m4 w4 := by
  have hal : Below wr.heap.size wr wa := ((Below.refl _ _).alloc (Nat.le_refl _) _).trans (hwa.mono (by omega))
  have hrf : Row wa wr.heap.size 73 #[.string ⟨y.name.toArray⟩, y.fv, y.wv] := (Row.fresh wr 73 #[.string ⟨y.name.toArray⟩, y.fv, y.wv]).under hwa (by omega)
  have hivA : FV wa K (.slice ua rs0.length uc) rs0 := ownsRow_same hiv fun k hk => hal.block k (World.ownsRow.lt hiv k hk).2
  obtain ⟨v', w4, hrun, hiv4, hg4, hat4⟩ := run_appendF (w := wa) K 25 (.slice ua rs0.length uc) rs0 wr.heap.size y hivA hlen (hrf.cell 0) (hrf.cell 1) (hrf.cell 2) hone (by omega)
  obtain ⟨a4, c4, hv4⟩ := hiv4.shape
  subst hv4
  have hfr : ∀ k, (Value.slice ua rs0.length uc).ownBlock = some k → K ≤ k := fun k hk => (World.ownsRow.lt hiv k hk).1
  have hBlt := ru.lt
  have ru4 : Row w4 B 27 #[.int .i64 room, .slice ua rs0.length uc] := (hg4.block _ (by omega) (fun e => by have := hfr _ e.symm; omega)).trans (ru.under hal hBlt)
  refine ⟨a4, c4, _, w4, ⟨fun ty => ?_, ru4, rfl, ru4.put 1 _, ownsRow_same hiv4 fun k hk => Below.heap_setCell _ _ _ _ (fun e => by have := (World.ownsRow.lt hiv4 k hk).1; have e' : k = B := e; omega), ?_⟩⟩
  · exact hrun
  · refine ((Only.of_below _ hal).grown hg4 fun k e => .inl (.inr (hfr k e))).setCell (p := ⟨B, 1, none⟩) (.inl (.inl rfl)) _

/-- Is there one behind it? -/
def laidB (r : Rf) (l : List Rf) : Bool := l.any fun y => bytesBefore r.name y.name
def outL (r : Rf) (l : List Rf) : List Rf := if laidB r l then ins Rf.name r l else l
theorem laidB_snoc (r y : Rf) (l : List Rf) : laidB r (l ++ [y]) = (laidB r l || bytesBefore r.name y.name) := by simp [laidB]
theorem ins_laid {r y : Rf} : ∀ {l : List Rf}, laidB r l = true → ins Rf.name r (l ++ [y]) = ins Rf.name r l ++ [y]
  | [], h => by simp [laidB] at h
  | z :: t, h => by
    simp only [List.cons_append, ins]
    by_cases hb : bytesBefore r.name z.name = true
    · rw [if_pos hb, if_pos hb]; rfl
    · rw [if_neg hb, if_neg hb]
      have : laidB r t = true := by simpa [laidB, hb] using h
      rw [ins_laid this]
      rfl
theorem ins_here {r y : Rf} : ∀ {l : List Rf}, laidB r l = false → bytesBefore r.name y.name = true → ins Rf.name r (l ++ [y]) = l ++ [r, y]
  | [], _, hy => by simp [ins, hy]
  | z :: t, h, hy => by
    have hz : bytesBefore r.name z.name = false := by
      have := h
      simp only [laidB, List.any_cons, Bool.or_eq_false_iff] at this
      exact this.1
    have ht : laidB r t = false := by
      have := h
      simp only [laidB, List.any_cons, Bool.or_eq_false_iff] at this
      exact this.2
    simp only [List.cons_append, ins, hz]
    rw [ins_here ht hy]
    rfl
theorem ins_end {r : Rf} : ∀ {l : List Rf}, laidB r l = false → ins Rf.name r l = l ++ [r]
  | [], _ => rfl
  | z :: t, h => by
    have hz : bytesBefore r.name z.name = false := by
      have := h
      simp only [laidB, List.any_cons, Bool.or_eq_false_iff] at this
      exact this.1
    have ht : laidB r t = false := by
      have := h
      simp only [laidB, List.any_cons, Bool.or_eq_false_iff] at this
      exact this.2
    simp only [ins, hz]
    rw [ins_end ht]
    rfl
theorem outL_laid {r y : Rf} {l : List Rf} (h : laidB r l = true) : outL r (l ++ [y]) = outL r l ++ [y] := by
  unfold outL
  rw [laidB_snoc, h, Bool.true_or, if_pos rfl, if_pos rfl, ins_laid h]
theorem outL_here {r y : Rf} {l : List Rf} (h : laidB r l = false) (hy : bytesBefore r.name y.name = true) : outL r (l ++ [y]) = (outL r l ++ [r]) ++ [y] := by
  unfold outL
  rw [laidB_snoc, h, hy, Bool.false_or, if_pos rfl, if_neg (by decide), ins_here h hy]
  simp
theorem outL_past {r y : Rf} {l : List Rf} (h : laidB r l = false) (hy : bytesBefore r.name y.name = false) : outL r (l ++ [y]) = outL r l ++ [y] := by
  unfold outL
  rw [laidB_snoc, h, hy, Bool.false_or, if_neg (by decide), if_neg (by decide)]
theorem outL_length (r : Rf) (l : List Rf) : (outL r l).length ≤ l.length + 1 := by
  unfold outL
  split
  · rw [ins_length]; omega
  · omega
theorem outL_mem {r x : Rf} {l : List Rf} (h : x ∈ outL r l) : x = r ∨ x ∈ l := by
  unfold outL at h
  split at h
  · exact mem_ins.1 h
  · exact .inr h
end Go.Proofs.Ythheolhghhmdlaa
