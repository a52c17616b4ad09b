/- Walks: the heap's small functions: before, knows, size. What lies in memory: the tree and the spots. -/
import Derived.Test.YthpfhimdgmckgaaProg
import Derived.Test.YthpfhimdgmckgaaCrcMem
import Derived.WalkKit
import Derived.Lib.Hide
import Derived.StillTailTactics
import Derived.BigQuiet
import Derived.Deep.QuietTactic
namespace Go.Proofs.Ythpfhimdgmckgaa
open Go.RowKit

/-- The cells of an entry. -/
abbrev ent (k : Int) (i : Nat) : Value := .agg #[.int .i64 k, .int .i64 i]
abbrev ptr (g : Nat) : Value := .pointer (some ⟨g, 0, none⟩)

def ahead (k : Int) (i : Nat) (k' : Int) (i' : Nat) : Bool := decide (k < k' ∨ (k = k' ∧ i < i'))

theorem before_any (k k' : Int) (i i' : Nat) (w : World) :
    Calls Try.prog 37 #[ent k i, ent k' i'] w fun e w' => e = .returned (.bool (ahead k i k' i')) ∧ Below w.heap.size w w' := by
  have hb : Below w.heap.size w ((w.alloc (.cells #[.int .i64 k, .int .i64 i] 61)).alloc (.cells #[.int .i64 k', .int .i64 i'] 61)) := ((Below.refl w.heap.size w).alloc (Nat.le_refl _) _).alloc (by simp) _
  have HB := Lib.hid hb
  clear hb
  rcases Int.lt_trichotomy k k' with h | h | h
  · have e : ahead k i k' i' = true := decide_eq_true (.inl h)
    rw [e]
    have hd : decide (k < k') = true := decide_eq_true h
    go_enter Try.func37, Try.ntmps37
    go_wp2
    go_ret
    exact ⟨rfl, HB.out⟩
  · subst h
    by_cases h2 : i < i'
    · have e : ahead k i k i' = true := decide_eq_true (.inr ⟨rfl, h2⟩)
      rw [e]
      have h3 : (i : Int) < (i' : Int) := by omega
      go_enter Try.func37, Try.ntmps37
      go_wp2
      go_ret
      exact ⟨rfl, HB.out⟩
    · have e : ahead k i k i' = false := decide_eq_false (by omega)
      rw [e]
      have h3 : ¬ (i : Int) < (i' : Int) := by omega
      go_enter Try.func37, Try.ntmps37
      go_wp2
      go_ret
      exact ⟨rfl, HB.out⟩
  · have e : ahead k i k' i' = false := decide_eq_false (by omega)
    rw [e]
    have hd : decide (k < k') = false := decide_eq_false (by omega)
    have hd2 : (k == k') = false := by simp; omega
    go_enter Try.func37, Try.ntmps37
    go_wp2
    go_ret
    exact ⟨rfl, HB.out⟩

/-- Nothing turned but the blocks of S. -/
structure Only (S : Nat → Prop) (w w' : World) : Prop where
  os : w'.os = w.os
  tape : w'.tape = w.tape
  output : w'.output = w.output
  size : w.heap.size ≤ w'.heap.size
  block : ∀ k, k < w.heap.size → ¬ S k → w'.heap[k]? = w.heap[k]?

theorem Only.refl (S : Nat → Prop) (w : World) : Only S w w := ⟨rfl, rfl, rfl, Nat.le_refl _, fun _ _ _ => rfl⟩
theorem Only.trans {S : Nat → Prop} {a b c : World} (h : Only S a b) {S' : Nat → Prop} (k : Only S' b c) (hS : ∀ i, S' i → S i ∨ a.heap.size ≤ i) : Only S a c :=
  ⟨k.os.trans h.os, k.tape.trans h.tape, k.output.trans h.output, Nat.le_trans h.size k.size, fun i hi hn => (k.block i (by have := h.size; omega) (fun s => by rcases hS i s with x | x; exact hn x; omega)).trans (h.block i hi hn)⟩
theorem Only.mono {S S' : Nat → Prop} {w w' : World} (h : Only S w w') (hS : ∀ k, S k → S' k ∨ w.heap.size ≤ k) : Only S' w w' :=
  ⟨h.os, h.tape, h.output, h.size, fun k hk hn => h.block k hk (fun s => by rcases hS k s with x | x; exact hn x; omega)⟩
theorem Only.of_below (S : Nat → Prop) {w w' : World} (h : Below w.heap.size w w') : Only S w w' := ⟨h.os, h.tape, h.output, h.size, fun k hk _ => h.block k hk⟩
theorem Only.alloc {S : Nat → Prop} {a w : World} (h : Only S a w) (o : Obj) : Only S a (w.alloc o) :=
  ⟨h.os, h.tape, h.output, by have := h.size; simp; omega, fun k hk hn => (Below.heap_alloc _ _ _ (by have := h.size; omega)).trans (h.block k hk hn)⟩
theorem Only.setCell {S : Nat → Prop} {a w : World} (h : Only S a w) {p : Addr} (hp : S p.block ∨ a.heap.size ≤ p.block) (u : Value) : Only S a (w.setCell p u) :=
  ⟨h.os, h.tape, h.output, by simpa [World.setCell] using h.size, fun k hk hn => (Below.heap_setCell _ _ _ _ (fun e => by subst e; rcases hp with x | x; exact hn x; omega)).trans (h.block k hk hn)⟩
theorem Only.drew {S : Nat → Prop} {a w : World} (h : Only S a w) : Only S a w.drew := ⟨h.os, h.tape, h.output, h.size, h.block⟩
theorem Only.below {S : Nat → Prop} {w w' : World} (h : Only S w w') {K : Nat} (hK : ∀ k, S k → K ≤ k) (hk : K ≤ w.heap.size) : Below K w w' :=
  ⟨h.os, h.tape, h.output, h.size, fun k hk' => h.block k (by omega) (fun s => by have := hK k s; omega)⟩
theorem Only.grown {S : Nat → Prop} {a w w' : World} {row : Option Nat} (h : Only S a w) (hg : w.grownBy w' row) (hr : ∀ k, row = some k → S k ∨ a.heap.size ≤ k) : Only S a w' :=
  h.trans (S' := fun k => row = some k) ⟨hg.os, hg.tape, hg.output, hg.size, fun k hk hn => hg.block k hk (fun e => hn e.symm)⟩ (fun i e => hr i e)
theorem Row.only {S : Nat → Prop} {w w' : World} {g : Nat} {t : TypeId} {cs : Array Value} (h : Row w g t cs) (hb : Only S w w') (hg : ¬ S g) : Row w' g t cs := (hb.block g h.lt hg).trans h

/-- The tree's list: block tb holds (room for c) m entries. -/
def Tree (w : World) (tb c m : Nat) (e : Nat → Int × Nat) : Prop :=
  ∃ cs, Row w tb 61 cs ∧ cs.size = c * 2 ∧ m ≤ c ∧ c ≤ maxLen ∧ ∀ j, j < m → cs[j * 2]? = some (.int .i64 (e j).1) ∧ cs[j * 2 + 1]? = some (.int .i64 (e j).2)
/-- The spots: block sb holds n numbers. -/
def Spots (w : World) (sb n : Nat) (p : Nat → Nat) : Prop :=
  ∃ cs, Row w sb 3 cs ∧ cs.size = n ∧ ∀ i, i < n → cs[i]? = some (.int .i64 (p i))
/-- The queue in block g. -/
def Qs (w : World) (g tb sb c m n : Nat) (e : Nat → Int × Nat) (p : Nat → Nat) : Prop :=
  Row w g 58 #[.slice (some ⟨tb, 0, none⟩) m c, .slice (some ⟨sb, 0, none⟩) n n] ∧ Tree w tb c m e ∧ Spots w sb n p ∧ g ≠ tb ∧ g ≠ sb ∧ tb ≠ sb ∧ n ≤ 16777216 ∧ m ≤ n

def upd {α : Type} (f : Nat → α) (i : Nat) (x : α) : Nat → α := fun j => if j = i then x else f j

theorem Tree.put {w : World} {tb c m j : Nat} {e : Nat → Int × Nat} (h : Tree w tb c m e) (hj : j < m) (k : Int) (i : Nat) :
    Tree ((w.setCell ⟨tb, j * 2, none⟩ (.int .i64 k)).setCell ⟨tb, j * 2 + 1, none⟩ (.int .i64 i)) tb c m (upd e j (k, i)) := by
  obtain ⟨cs, hr, hs, hm, hx, hc⟩ := h
  refine ⟨_, (hr.put _ _).put _ _, by simpa using hs, hm, hx, fun l hl => ?_⟩
  simp only [Array.getElem?_setIfInBounds, Array.size_setIfInBounds]
  obtain ⟨h1, h2⟩ := hc l hl
  by_cases e1 : l = j
  · subst e1
    simp [upd]
    omega
  · simp only [upd, if_neg e1]
    rw [if_neg (by omega), if_neg (by omega), if_neg (by omega), if_neg (by omega)]
    exact ⟨h1, h2⟩
theorem Spots.put {w : World} {sb n i : Nat} {p : Nat → Nat} (h : Spots w sb n p) (x : Nat) : Spots (w.setCell ⟨sb, i, none⟩ (.int .i64 x)) sb n (upd p i x) := by
  obtain ⟨cs, hr, hs, hc⟩ := h
  refine ⟨_, hr.put _ _, by simpa using hs, fun l hl => ?_⟩
  rw [Array.getElem?_setIfInBounds]
  by_cases e1 : i = l
  · subst e1
    simp [upd]
    omega
  · rw [if_neg e1, hc l hl]
    simp only [upd]
    rw [if_neg (by omega)]
theorem Tree.only {S : Nat → Prop} {w w' : World} {tb c m : Nat} {e : Nat → Int × Nat} (h : Tree w tb c m e) (ho : Only S w w') (hs : ¬ S tb) : Tree w' tb c m e := by
  obtain ⟨cs, hr, h⟩ := h
  exact ⟨cs, hr.only ho hs, h⟩
theorem Spots.only {S : Nat → Prop} {w w' : World} {sb n : Nat} {p : Nat → Nat} (h : Spots w sb n p) (ho : Only S w w') (hs : ¬ S sb) : Spots w' sb n p := by
  obtain ⟨cs, hr, h⟩ := h
  exact ⟨cs, hr.only ho hs, h⟩
theorem Qs.only {S : Nat → Prop} {w w' : World} {g tb sb c m n : Nat} {e : Nat → Int × Nat} {p : Nat → Nat} (h : Qs w g tb sb c m n e p) (ho : Only S w w') (h1 : ¬ S g) (h2 : ¬ S tb) (h3 : ¬ S sb) : Qs w' g tb sb c m n e p :=
  ⟨h.1.only ho h1, h.2.1.only ho h2, h.2.2.1.only ho h3, h.2.2.2⟩
theorem Tree.cell {w : World} {tb c m j : Nat} {e : Nat → Int × Nat} (h : Tree w tb c m e) (hj : j < m) : w.cell? ⟨tb, j * 2, none⟩ = some (.int .i64 (e j).1) ∧ w.cell? ⟨tb, j * 2 + 1, none⟩ = some (.int .i64 (e j).2) ∧ tb < w.heap.size ∧ w.frozen? ⟨tb, j * 2, none⟩ = false ∧ w.frozen? ⟨tb, j * 2 + 1, none⟩ = false := by
  obtain ⟨cs, hr, _, _, _, hc⟩ := h
  exact ⟨(hr.cell _).trans (hc j hj).1, (hr.cell _).trans (hc j hj).2, hr.lt, hr.thaw _, hr.thaw _⟩
theorem Spots.cell {w : World} {sb n i : Nat} {p : Nat → Nat} (h : Spots w sb n p) (hi : i < n) : w.cell? ⟨sb, i, none⟩ = some (.int .i64 (p i)) ∧ sb < w.heap.size ∧ w.frozen? ⟨sb, i, none⟩ = false := by
  obtain ⟨cs, hr, _, hc⟩ := h
  exact ⟨(hr.cell _).trans (hc i hi), hr.lt, hr.thaw _⟩
theorem Qs.lts {w : World} {g tb sb c m n : Nat} {e : Nat → Int × Nat} {p : Nat → Nat} (h : Qs w g tb sb c m n e p) : g < w.heap.size ∧ tb < w.heap.size ∧ sb < w.heap.size := by
  obtain ⟨h1, ⟨_, h2, _⟩, ⟨_, h3, _⟩, _⟩ := h
  exact ⟨h1.lt, h2.lt, h3.lt⟩

theorem knows_in (g sb n i : Nat) (tv : Value) (w : World) (h : Row w g 58 #[tv, .slice (some ⟨sb, 0, none⟩) n n]) (hi : i < n) :
    Calls Try.prog 23 #[ptr g, .int .i64 i] w fun e w' => e = .returned (.bool true) ∧ w' = w := by
  have k1 : w.cell? ⟨g, 1, none⟩ = some (.slice (some ⟨sb, 0, none⟩) n n) := h.cell 1
  have hi' : (i : Int) < (n : Int) := by omega
  clear h
  go_enter Try.func23, Try.ntmps23
  go_wp2
  go_ret
  exact ⟨rfl, rfl⟩
theorem knows_out (g sb n : Nat) (z : Int) (tv : Value) (w : World) (h : Row w g 58 #[tv, .slice (some ⟨sb, 0, none⟩) n n]) (hz : z < 0 ∨ (n : Int) ≤ z) :
    Calls Try.prog 23 #[ptr g, .int .i64 z] w fun e w' => e = .returned (.bool false) ∧ w' = w := by
  have k1 : w.cell? ⟨g, 1, none⟩ = some (.slice (some ⟨sb, 0, none⟩) n n) := h.cell 1
  clear h
  by_cases h0 : z < 0
  · clear hz
    go_enter Try.func23, Try.ntmps23
    go_wp2
    go_ret
    exact ⟨rfl, rfl⟩
  · have h1 : ¬ z < (n : Int) := by omega
    have h2 : (0 : Int) ≤ z := by omega
    clear hz h0
    go_enter Try.func23, Try.ntmps23
    go_wp2
    go_ret
    exact ⟨rfl, rfl⟩
theorem size_any (g m c : Nat) (a : Option Addr) (sv : Value) (w : World) (h : Row w g 58 #[.slice a m c, sv]) :
    Calls Try.prog 27 #[ptr g] w fun e w' => e = .returned (.int .i64 m) ∧ w' = w := by
  have k1 : w.cell? ⟨g, 0, none⟩ = some (.slice a m c) := h.cell 0
  clear h
  go_enter Try.func27, Try.ntmps27
  go_wp2
  go_ret
  exact ⟨rfl, rfl⟩
theorem holds_out (g sb n : Nat) (z : Int) (tv : Value) (w : World) (h : Row w g 58 #[tv, .slice (some ⟨sb, 0, none⟩) n n]) (hz : z < 0 ∨ (n : Int) ≤ z) :
    Calls Try.prog 29 #[ptr g, .int .i64 z] w fun e w' => e = .returned (.bool false) ∧ w' = w := by
  have HC := Lib.hid (knows_out g sb n z tv w h hz)
  clear h hz
  go_enter Try.func29, Try.ntmps29
  go_wp2_with fail
  refine HC.out.mono ?_
  rintro e w1 ⟨rfl, rfl⟩
  go_wp2
  go_ret
  exact ⟨rfl, rfl⟩
theorem holds_yes (g sb n i j : Nat) (tv : Value) (p : Nat → Nat) (w : World) (h : Row w g 58 #[tv, .slice (some ⟨sb, 0, none⟩) n n]) (hs : Spots w sb n p) (hi : i < n) (hp : p i = j + 1) :
    Calls Try.prog 29 #[ptr g, .int .i64 i] w fun e w' => e = .returned (.bool true) ∧ w' = w := by
  have HC := Lib.hid (knows_in g sb n i tv w h hi)
  have k1 : w.cell? ⟨g, 1, none⟩ = some (.slice (some ⟨sb, 0, none⟩) n n) := h.cell 1
  obtain ⟨k2, hl, hf⟩ := hs.cell hi
  rw [hp] at k2
  have hi' : (i : Int) < (n : Int) := by omega
  have hne : (((j + 1 : Nat) : Int) != 0) = true := by simp; omega
  have hne2 : (((j : Int) + 1) != 0) = true := by simp; omega
  clear h hs hp
  go_enter Try.func29, Try.ntmps29
  go_wp2_with fail
  refine HC.out.mono ?_
  rintro e w1 ⟨rfl, rfl⟩
  go_wp2
  go_ret
  exact ⟨rfl, rfl⟩
theorem holds_no (g sb n i : Nat) (tv : Value) (p : Nat → Nat) (w : World) (h : Row w g 58 #[tv, .slice (some ⟨sb, 0, none⟩) n n]) (hs : Spots w sb n p) (hi : i < n) (hp : p i = 0) :
    Calls Try.prog 29 #[ptr g, .int .i64 i] w fun e w' => e = .returned (.bool false) ∧ w' = w := by
  have HC := Lib.hid (knows_in g sb n i tv w h hi)
  have k1 : w.cell? ⟨g, 1, none⟩ = some (.slice (some ⟨sb, 0, none⟩) n n) := h.cell 1
  obtain ⟨k2, hl, hf⟩ := hs.cell hi
  rw [hp] at k2
  have hi' : (i : Int) < (n : Int) := by omega
  clear h hs hp
  go_enter Try.func29, Try.ntmps29
  go_wp2_with fail
  refine HC.out.mono ?_
  rintro e w1 ⟨rfl, rfl⟩
  go_wp2
  go_ret
  exact ⟨rfl, rfl⟩
theorem spot_in (g sb n i : Nat) (tv : Value) (p : Nat → Nat) (w : World) (h : Row w g 58 #[tv, .slice (some ⟨sb, 0, none⟩) n n]) (hs : Spots w sb n p) (hi : i < n) (j : Nat) (hp : p i = j + 1) (hj : j ≤ 16777216) :
    Calls Try.prog 30 #[ptr g, .int .i64 i] w fun e w' => e = .returned (.int .i64 j) ∧ w' = w := by
  have k1 : w.cell? ⟨g, 1, none⟩ = some (.slice (some ⟨sb, 0, none⟩) n n) := h.cell 1
  obtain ⟨k2, hl, hf⟩ := hs.cell hi
  rw [hp] at k2
  have hi' : (i : Int) < (n : Int) := by omega
  have hw : wrap64 (j : Int) = (j : Int) := by unfold wrap64; omega
  clear h hs
  go_enter Try.func30, Try.ntmps30
  go_wp2
  go_ret
  exact ⟨rfl, rfl⟩
theorem at_in (g tb c m j : Nat) (sv : Value) (e : Nat → Int × Nat) (w : World) (h : Row w g 58 #[.slice (some ⟨tb, 0, none⟩) m c, sv]) (hs : Tree w tb c m e) (hj : j < m) :
    Calls Try.prog 28 #[ptr g, .int .i64 j] w fun e' w' => e' = .returned (ent (e j).1 (e j).2) ∧ Below w.heap.size w w' := by
  have k1 : w.cell? ⟨g, 0, none⟩ = some (.slice (some ⟨tb, 0, none⟩) m c) := h.cell 0
  obtain ⟨k2, k3, hl, hf, hf'⟩ := hs.cell hj
  have hj' : (j : Int) < (m : Int) := by omega
  have hgl := h.lt
  clear h hs
  generalize (e j).1 = k at *
  generalize (e j).2 = i at *
  go_enter Try.func28, Try.ntmps28
  go_wp2
  exact bodyPost_ret (v := ent k i) (by simp [results, Try.results28, go_sem]) rfl ⟨rfl, (Below.refl _ _).alloc (Nat.le_refl _) _⟩
end Go.Proofs.Ythpfhimdgmckgaa
