/- Walks: the heap's lay. -/
import Derived.Test.YthpfhimdgmckgaaHeapA
namespace Go.Proofs.Ythpfhimdgmckgaa
open Go.RowKit

theorem Tree.past {w : World} {tb c m : Nat} {e : Nat → Int × Nat} (h : Tree w tb c m e) (o : Obj) : Tree (w.alloc o) tb c m e := by
  obtain ⟨cs, hr, h⟩ := h
  exact ⟨cs, hr.past o, h⟩
theorem Spots.past {w : World} {sb n : Nat} {p : Nat → Nat} (h : Spots w sb n p) (o : Obj) : Spots (w.alloc o) sb n p := by
  obtain ⟨cs, hr, h⟩ := h
  exact ⟨cs, hr.past o, h⟩
theorem Tree.away {w : World} {tb c m : Nat} {e : Nat → Int × Nat} (h : Tree w tb c m e) {a : Addr} (ha : tb ≠ a.block) (v : Value) : Tree (w.setCell a v) tb c m e := by
  obtain ⟨cs, hr, h⟩ := h
  exact ⟨cs, hr.away ha v, h⟩
theorem Spots.away {w : World} {sb n : Nat} {p : Nat → Nat} (h : Spots w sb n p) {a : Addr} (ha : sb ≠ a.block) (v : Value) : Spots (w.setCell a v) sb n p := by
  obtain ⟨cs, hr, h⟩ := h
  exact ⟨cs, hr.away ha v, h⟩
theorem Tree.drew {w : World} {tb c m : Nat} {e : Nat → Int × Nat} (h : Tree w tb c m e) : Tree w.drew tb c m e := h
theorem Spots.drew {w : World} {sb n : Nat} {p : Nat → Nat} (h : Spots w sb n p) : Spots w.drew sb n p := h

/-- A statement of open order whose last operations come last in any order. -/
theorem region_tail {P : Program} {id : Nat} {Q : Exit → Act → World → Prop} {a : Act} {w : World} {l : List Oper} (n : Nat) (hm : P.follows .mixedOrders = true) (hB : Region.lexTailB .any l.toArray n = true)
    (h : wpStill P l.toArray w.drew (fun a' => wpList P l.toArray Q (l.drop n) a' w.drew) (l.take n) a) : (Code.region id l.toArray true).wp P Q a w := wp_region_still_tail n hm hB h

theorem lay_any (g tb sb c m n j i : Nat) (k : Int) (e : Nat → Int × Nat) (p : Nat → Nat) (w : World) (h : Qs w g tb sb c m n e p) (hj : j < m) (hi : i < n) :
    Calls Try.prog 36 #[ptr g, .int .i64 j, ent k i] w fun e' w' => e' = .returned (.tuple #[]) ∧ Qs w' g tb sb c m n (upd e j (k, i)) (upd p i (j + 1)) ∧ Only (fun x => x = tb ∨ x = sb) w w' := by
  obtain ⟨hr, ht, hs, h1, h2, h3, hn, hmn⟩ := h
  have k0 : w.cell? ⟨g, 0, none⟩ = some (.slice (some ⟨tb, 0, none⟩) m c) := hr.cell 0
  have k1 : w.cell? ⟨g, 1, none⟩ = some (.slice (some ⟨sb, 0, none⟩) n n) := hr.cell 1
  have hg := hr.lt
  obtain ⟨t0, t1, htl, tf0, tf1⟩ := ht.cell hj
  obtain ⟨s0, hsl, sf0⟩ := hs.cell hi
  have hj' : (j : Int) < (m : Int) := by omega
  have hi' : (i : Int) < (n : Int) := by omega
  have hw : IntKind.i64.wrap ((j : Int) + 1) = ((j + 1 : Nat) : Int) := by rw [IntKind.wrap_i64]; omega
  have HR := Lib.hid hr
  have HT := Lib.hid ht
  have HS := Lib.hid hs
  have HM := Lib.hid (And.intro h1 (And.intro h2 (And.intro h3 (And.intro hn hmn))))
  clear hr ht hs
  go_enter Try.func36, Try.ntmps36
  go_wp2
  refine region_tail 7 (by kernel_rfl) (by kernel_rfl) ?_
  simp only [List.take_succ_cons, List.take_zero, List.drop_succ_cons, List.drop_zero]
  repeat still_step
  refine wpStill_nil ?_
  go_wp2
  refine region_tail 9 (by kernel_rfl) (by kernel_rfl) ?_
  simp only [List.take_succ_cons, List.take_zero, List.drop_succ_cons, List.drop_zero]
  repeat still_step
  refine wpStill_nil ?_
  go_wp2
  go_end0
  have hT := (((HT.out.put hj k i).away (a := ⟨sb, i, none⟩) h3 (.int .i64 ((j + 1 : Nat) : Int))).past (.cells #[.int .i64 k, .int .i64 i] 61))
  have hS := ((((HS.out.away (a := ⟨tb, j * 2, none⟩) (Ne.symm h3) (.int .i64 k)).away (a := ⟨tb, j * 2 + 1, none⟩) (Ne.symm h3) (.int .i64 i)).put (i := i) (j + 1)).past (.cells #[.int .i64 k, .int .i64 i] 61))
  have hR := ((((HR.out.away (a := ⟨tb, j * 2, none⟩) h1 (.int .i64 k)).away (a := ⟨tb, j * 2 + 1, none⟩) h1 (.int .i64 i)).away (a := ⟨sb, i, none⟩) h2 (.int .i64 ((j + 1 : Nat) : Int))).past (.cells #[.int .i64 k, .int .i64 i] 61))
  exact ⟨rfl, ⟨hR, hT, hS, HM.out⟩, (((((Only.refl _ w).setCell (.inl (.inl rfl)) _).setCell (.inl (.inl rfl)) _).setCell (.inl (.inr rfl)) _).alloc _).drew.drew⟩
end Go.Proofs.Ythpfhimdgmckgaa
