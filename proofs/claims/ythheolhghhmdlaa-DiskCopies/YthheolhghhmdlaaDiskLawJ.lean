/- DiskCopies: what the law holds. -/
import Derived.Test.YthheolhghhmdlaaDiskLawG
namespace Go.Proofs.Ythheolhghhmdlaa
open Go.RowKit Dsk

/-- The law's disk (beside the blocks U of all else), the document's in block bt, of the blocks T, the thing to do in block nx. -/
structure Cp (W : World) (g bt nx : Nat) (fs : List Fil) (U T : Nat → Prop) (rs : List Rf) (a : Option Addr) (c : Nat) (x : Ope) (ax : Option Addr) (cx : Nat) (wr : World) : Prop where
  md : Md W g 5000 fs U wr
  tu : ∀ k, T k → U k
  ub : U bt
  nb : ¬ T bt
  ux : U nx
  nt : ¬ T nx
  row : Row wr bt 27 #[.int .i64 5000, .slice a rs.length c]
  ro : Row wr nx 36 #[.int .i64 x.kind, .string ⟨x.name.toArray⟩, .string ⟨x.to.toArray⟩, .slice ax x.data.length cx]
  gs : Fs3 wr T a rs
/-- Blocks that the law, or another disk, may write. -/
def Free (W : World) (bt nx : Nat) (U T V : Nat → Prop) : Prop := ∀ k, V k → U k ∧ ¬ T k ∧ k ≠ bt ∧ k ≠ nx ∧ W.heap.size ≤ k
section
variable {W wr wy : World} {g bt nx : Nat} {fs : List Fil} {U T : Nat → Prop} {rs : List Rf} {a : Option Addr} {c : Nat} {x : Ope} {ax : Option Addr} {cx : Nat}
theorem Cp.hands (h : Cp W g bt nx fs U T rs a c x ax cx wr) {U' : Nat → Prop} (hm : Md W g 5000 fs U' wy) (hu : ∀ k, U k → U' k) (hk : Kept U wr wy) : Cp W g bt nx fs U' T rs a c x ax cx wy :=
  ⟨hm, fun k q => hu k (h.tu k q), hu bt h.ub, h.nb, hu nx h.ux, h.nt, (hk.1 bt h.ub).trans h.row, (hk.1 nx h.ux).trans h.ro, h.gs.kept (hk.mono h.tu)⟩
theorem Cp.wide (h : Cp W g bt nx fs U T rs a c x ax cx wr) (hb : Below wr.heap.size wr wy) : Cp W g bt nx fs (moreT U wr.heap.size wy.heap.size) T rs a c x ax cx wy :=
  h.hands (h.md.wide hb) (fun k q => .inl q) (h.md.kept hb)
/-- Another disk, or the law itself, wrote into blocks that are free for it. -/
theorem Cp.only (h : Cp W g bt nx fs U T rs a c x ax cx wr) {V : Nat → Prop} (hV : Free W bt nx U T V) (ho : Only V wr wy) : Cp W g bt nx fs (moreT U wr.heap.size wy.heap.size) T rs a c x ax cx wy := by
  obtain ⟨S, h1, h2⟩ := h.md.dq
  have hm : Md W g 5000 fs (moreT U wr.heap.size wy.heap.size) wy := by
    refine ⟨⟨S, h1.only ho (fun k s v => h2 k s (hV k v).1), fun k s q => ?_⟩, fun k hk => .inl (h.md.arg k hk), fun k hk => ?_, h.md.back.trans (ho.below (K := W.heap.size) (fun k v => (hV k v).2.2.2.2) h.md.back.size)⟩
    · rcases q with q | q
      · exact h2 k s q
      · have := h1.lt k s; omega
    · rcases hk with q | q
      · exact Nat.lt_of_lt_of_le (h.md.lt k q) ho.size
      · exact q.2
  exact ⟨hm, fun k q => .inl (h.tu k q), .inl h.ub, h.nb, .inl h.ux, h.nt, h.row.only ho (fun v => (hV bt v).2.2.1 rfl), h.ro.only ho (fun v => (hV nx v).2.2.2.1 rfl), h.gs.kept ⟨fun k q => ho.block k (h.md.lt k (h.tu k q)) (fun v => (hV k v).2.1 q), ho.size⟩⟩
theorem Free.more {V : Nat → Prop} {n m : Nat} (h : Free W bt nx U T V) : Free W bt nx (moreT U n m) T V := fun k v => ⟨.inl (h k v).1, (h k v).2⟩
theorem Cp.new_free (h : Cp W g bt nx fs U T rs a c x ax cx wr) {m : Nat} : ∀ k, wr.heap.size ≤ k → k < m → moreT U wr.heap.size m k ∧ ¬ T k ∧ k ≠ bt ∧ k ≠ nx ∧ W.heap.size ≤ k := fun k h1 h2 =>
  ⟨.inr ⟨h1, h2⟩, fun t => by have := h.md.lt k (h.tu k t); omega, fun e => by have := h.md.lt bt h.ub; omega, fun e => by have := h.md.lt nx h.ux; omega, by have := h.md.back.size; omega⟩
/-- Something was done to the other disk. -/
theorem Cp.other (h : Cp W g bt nx fs U T rs a c x ax cx wr) {ge : Nat} {Se : Nat → Prop} {fe : List Fil} (hS : Free W bt nx U T Se) (hd : Dd wr ge Se 5000 fe wy) : ∃ Se', Dq wy ge Se' 5000 fe ∧ Cp W g bt nx fs (moreT U wr.heap.size wy.heap.size) T rs a c x ax cx wy ∧ Free W bt nx (moreT U wr.heap.size wy.heap.size) T Se' := by
  obtain ⟨Se', q1, q2, q3⟩ := hd.dq
  refine ⟨Se', q1, h.only hS q3, fun k hk => ?_⟩
  rcases q2 k hk with q | q
  · exact hS.more k q
  · exact h.new_free k q (q1.lt k hk)
/-- A row of bytes of the law's own, whatever it holds. -/
def Byr (w : World) (K : Nat) (a : Option Addr) (m c : Nat) : Prop := ∃ xs, w.ownsRow K 5 1 (.slice a m c) m xs
theorem Byr.kept {w w' : World} {K m cc : Nat} {aa : Option Addr} (h : Byr w K aa m cc) (hb : ∀ b, (Value.slice aa m cc).ownBlock = some b → w'.heap[b]? = w.heap[b]?) : Byr w' K aa m cc := by
  obtain ⟨xs, h⟩ := h
  exact ⟨xs, ownsRow_same h hb⟩
theorem Byr.at_ {w : World} {K m cc j : Nat} {aa : Option Addr} (h : Byr w K aa m cc) (hj : j < m) : ∃ b v, aa = some ⟨b, 0, none⟩ ∧ K ≤ b ∧ b < w.heap.size ∧ w.cell? ⟨b, j, none⟩ = some v ∧ w.frozen? ⟨b, j, none⟩ = false ∧ ∀ u, Byr (w.setCell ⟨b, j, none⟩ u) K aa m cc := by
  obtain ⟨xs, h⟩ := h
  rcases h.2 with ⟨_, h0⟩ | ⟨b, cap, cur, hv, h1, h2, _⟩
  · omega
  · injection hv with e1 e2 e3
    subst e1
    subst e3
    have hl : xs.length = m := by have := h.1; omega
    have hc := World.ownsRow.cellAt h j (by omega)
    rw [List.getElem?_eq_getElem (by omega)] at hc
    exact ⟨b, _, rfl, h1, (Array.getElem?_eq_some_iff.1 h2).1, hc, World.ownsRow.frozenAt h j, fun u => ⟨_, (World.ownsRow.stored h j u).1⟩⟩
end
end Go.Proofs.Ythheolhghhmdlaa
