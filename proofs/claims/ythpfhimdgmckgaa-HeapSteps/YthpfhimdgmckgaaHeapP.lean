/- A heap of the call's own beside two rows of ints of its own. -/
import Derived.Test.YthpfhimdgmckgaaHeapO
import Derived.Test.YthpfhimdgmckgaaHeapDos
namespace Go.Proofs.Ythpfhimdgmckgaa
open Go.RowKit Hp

/-- Block sb holds n ints. -/
def IRow (w : World) (sb n : Nat) (p : Nat → Int) : Prop := ∃ cs, Row w sb 3 cs ∧ cs.size = n ∧ ∀ i, i < n → cs[i]? = some (.int .i64 (p i))
theorem IRow.put {w : World} {sb n i : Nat} {p : Nat → Int} (h : IRow w sb n p) (x : Int) : IRow (w.setCell ⟨sb, i, none⟩ (.int .i64 x)) sb n (upd p i x) := by
  obtain ⟨cs, hr, hs, hc⟩ := h
  refine ⟨_, hr.put _ _, by simpa using hs, fun l hl => ?_⟩
  rw [Array.getElem?_setIfInBounds]
  by_cases e1 : i = l
  · subst e1
    simp [upd]
    omega
  · rw [if_neg e1, hc l hl]
    simp only [upd]
    rw [if_neg (by omega)]
theorem IRow.only {S : Nat → Prop} {w w' : World} {sb n : Nat} {p : Nat → Int} (h : IRow w sb n p) (ho : Only S w w') (hs : ¬ S sb) : IRow w' sb n p := by
  obtain ⟨cs, hr, h⟩ := h
  exact ⟨cs, hr.only ho hs, h⟩
theorem IRow.cell {w : World} {sb n i : Nat} {p : Nat → Int} (h : IRow w sb n p) (hi : i < n) : w.cell? ⟨sb, i, none⟩ = some (.int .i64 (p i)) ∧ sb < w.heap.size ∧ w.frozen? ⟨sb, i, none⟩ = false := by
  obtain ⟨cs, hr, _, hc⟩ := h
  exact ⟨(hr.cell _).trans (hc i hi), hr.lt, hr.thaw _⟩
theorem IRow.lt {w : World} {sb n : Nat} {p : Nat → Int} (h : IRow w sb n p) : sb < w.heap.size := by
  obtain ⟨cs, hr, _⟩ := h
  exact hr.lt

/-- The heap x of 8, the keys in block kb, what is in by block ib. -/
def KG (w : World) (x kb ib : Nat) (f : Nat → Option Int) (kv iv : Nat → Int) (wr : World) : Prop :=
  ∃ S, Hq wr x S 8 f ∧ (∀ k, S k → w.heap.size ≤ k) ∧ ¬ S kb ∧ ¬ S ib ∧ kb ≠ ib ∧ IRow wr kb 8 kv ∧ IRow wr ib 8 iv ∧ w.heap.size ≤ kb ∧ w.heap.size ≤ ib ∧ Below w.heap.size w wr
/-- Rows in blocks from B on are as they were. -/
def Keep (B : Nat) (w1 w2 : World) : Prop := ∀ b t cs, B ≤ b → Row w1 b t cs → Row w2 b t cs
section
variable {w wr w1 : World} {x kb ib : Nat} {f : Nat → Option Int} {kv iv : Nat → Int}
theorem KG.b (q : KG w x kb ib f kv iv wr) : Below w.heap.size w wr := by
  obtain ⟨_, _, _, _, _, _, _, _, _, _, h⟩ := q
  exact h
theorem KG.own (q : KG w x kb ib f kv iv wr) : Own w x 8 f wr := by
  obtain ⟨S, h1, h2, _, _, _, _, _, _, _, h⟩ := q
  exact ⟨S, h1, h2, h⟩
theorem KG.kc (q : KG w x kb ib f kv iv wr) {i : Nat} (hi : i < 8) : wr.cell? ⟨kb, i, none⟩ = some (.int .i64 (kv i)) ∧ kb < wr.heap.size ∧ wr.frozen? ⟨kb, i, none⟩ = false := by
  obtain ⟨_, _, _, _, _, _, h, _⟩ := q
  exact h.cell hi
theorem KG.ic (q : KG w x kb ib f kv iv wr) {i : Nat} (hi : i < 8) : wr.cell? ⟨ib, i, none⟩ = some (.int .i64 (iv i)) ∧ ib < wr.heap.size ∧ wr.frozen? ⟨ib, i, none⟩ = false := by
  obtain ⟨_, _, _, _, _, _, _, h, _⟩ := q
  exact h.cell hi
theorem KG.under (q : KG w x kb ib f kv iv wr) (hb : Below wr.heap.size wr w1) : KG w x kb ib f kv iv w1 := by
  obtain ⟨S, h1, h2, h3, h4, h5, h6, h7, h8, h9, h10⟩ := q
  exact ⟨S, h1.below hb, h2, h3, h4, h5, h6.only (S := fun _ => False) (Only.of_below _ hb) (fun f => f), h7.only (S := fun _ => False) (Only.of_below _ hb) (fun f => f), h8, h9, then_below h10 hb⟩
theorem KG.putI (q : KG w x kb ib f kv iv wr) (i : Nat) (v : Int) : KG w x kb ib f kv (upd iv i v) (wr.setCell ⟨ib, i, none⟩ (.int .i64 v)) := by
  obtain ⟨S, h1, h2, h3, h4, h5, h6, h7, h8, h9, h10⟩ := q
  have ho : Only (fun k => k = ib) wr (wr.setCell ⟨ib, i, none⟩ (.int .i64 v)) := (Only.refl (fun k => k = ib) wr).setCell (p := ⟨ib, i, none⟩) (.inl rfl) _
  exact ⟨S, h1.only ho (fun k hk e => h4 (e ▸ hk)), h2, h3, h4, h5, h6.only ho h5, h7.put v, h8, h9, h10.setCell h9 _⟩
theorem KG.putK (q : KG w x kb ib f kv iv wr) (i : Nat) (v : Int) : KG w x kb ib f (upd kv i v) iv (wr.setCell ⟨kb, i, none⟩ (.int .i64 v)) := by
  obtain ⟨S, h1, h2, h3, h4, h5, h6, h7, h8, h9, h10⟩ := q
  have ho : Only (fun k => k = kb) wr (wr.setCell ⟨kb, i, none⟩ (.int .i64 v)) := (Only.refl (fun k => k = kb) wr).setCell (p := ⟨kb, i, none⟩) (.inl rfl) _
  exact ⟨S, h1.only ho (fun k hk e => h3 (e ▸ hk)), h2, h3, h4, h5, h6.put v, h7.only ho (Ne.symm h5), h8, h9, h10.setCell h8 _⟩
theorem kg_step {w2 : World} {f' : Nat → Option Int} {S : Nat → Prop} (h1 : Hq wr x S 8 f) (h2 : ∀ k, S k → w.heap.size ≤ k) (h3 : ¬ S kb) (h4 : ¬ S ib) (h5 : kb ≠ ib) (h6 : IRow wr kb 8 kv) (h7 : IRow wr ib 8 iv) (h8 : w.heap.size ≤ kb) (h9 : w.heap.size ≤ ib) (h10 : Below w.heap.size w wr) (hb : Below wr.heap.size wr w1) (hd : Did w1 x 8 S f' w2) :
    KG w x kb ib f' kv iv w2 ∧ Keep wr.heap.size w1 w2 := by
  obtain ⟨S', r1, r2, r3⟩ := hd
  have hbs := hb.size
  have h10s := h10.size
  have h61 := h6.only (S := fun _ => False) (Only.of_below _ hb) (fun f => f)
  have h71 := h7.only (S := fun _ => False) (Only.of_below _ hb) (fun f => f)
  have hn : ∀ b, b < wr.heap.size → ¬ S b → ¬ S' b := fun b hl hs h => by
    rcases r2 b h with h' | h'
    · exact hs h'
    · omega
  refine ⟨⟨S', r1, fun k hk => by rcases r2 k hk with h | h; exact h2 k h; omega, hn kb h6.lt h3, hn ib h7.lt h4, h5, h61.only r3 h3, h71.only r3 h4, h8, h9, (then_below h10 hb).trans (r3.below h2 (then_below h10 hb).size)⟩, fun b t cs hB hr => hr.only r3 (fun hs => by have := h1.lt b hs; omega)⟩
theorem KG.set (q : KG w x kb ib f kv iv wr) (hb : Below wr.heap.size wr w1) {i : Nat} (k : Int) (hi : i < 8) : Calls Try.prog 12 #[ptr x, .int .i64 i, .int .i64 k] w1 fun e w2 => e = .returned (.bool true) ∧ KG w x kb ib (upd f i (some k)) kv iv w2 ∧ Keep wr.heap.size w1 w2 := by
  obtain ⟨S, h1, h2, h3, h4, h5, h6, h7, h8, h9, h10⟩ := q
  refine (set_in x 8 i S f k w1 (h1.below hb) hi).mono ?_
  rintro e w2 ⟨rfl, hd⟩
  exact ⟨rfl, kg_step h1 h2 h3 h4 h5 h6 h7 h8 h9 h10 hb hd⟩
theorem KG.dropYes (q : KG w x kb ib f kv iv wr) (hb : Below wr.heap.size wr w1) {i : Nat} {k : Int} (hf : f i = some k) : Calls Try.prog 22 #[ptr x, .int .i64 i] w1 fun e w2 => e = .returned (.bool true) ∧ KG w x kb ib (upd f i none) kv iv w2 ∧ Keep wr.heap.size w1 w2 := by
  obtain ⟨S, h1, h2, h3, h4, h5, h6, h7, h8, h9, h10⟩ := q
  refine (drop_yes x 8 i S f k w1 (h1.below hb) hf).mono ?_
  rintro e w2 ⟨rfl, hd⟩
  exact ⟨rfl, kg_step h1 h2 h3 h4 h5 h6 h7 h8 h9 h10 hb hd⟩
theorem KG.dropNo (q : KG w x kb ib f kv iv wr) (hb : Below wr.heap.size wr w1) {i : Nat} (hi : i < 8) (hf : f i = none) : Calls Try.prog 22 #[ptr x, .int .i64 i] w1 fun e w2 => e = .returned (.bool false) ∧ KG w x kb ib (upd f i none) kv iv w2 ∧ Keep wr.heap.size w1 w2 := by
  have q' := q
  obtain ⟨S, h1, h2, h3, h4, h5, h6, h7, h8, h9, h10⟩ := q
  refine (drop_no x 8 i S f w1 (h1.below hb) hi hf).mono ?_
  rintro e w2 ⟨rfl, rfl⟩
  have e : upd f i none = f := by
    funext j
    unfold upd
    split
    · rename_i h; rw [h, hf]
    · rfl
  rw [e]
  exact ⟨rfl, q'.under hb, fun b t cs _ h => h⟩
theorem KG.setOut (q : KG w x kb ib f kv iv wr) (hb : Below wr.heap.size wr w1) {z : Int} (k : Int) (hz : z < 0 ∨ ((8 : Nat) : Int) ≤ z) : Calls Try.prog 12 #[ptr x, .int .i64 z, .int .i64 k] w1 fun e w2 => e = .returned (.bool false) ∧ w2 = w1 := by
  obtain ⟨S, h1, _⟩ := q
  exact set_out x 8 S f z k w1 (h1.below hb) hz
theorem KG.dropOut (q : KG w x kb ib f kv iv wr) (hb : Below wr.heap.size wr w1) {z : Int} (hz : z < 0 ∨ ((8 : Nat) : Int) ≤ z) : Calls Try.prog 22 #[ptr x, .int .i64 z] w1 fun e w2 => e = .returned (.bool false) ∧ w2 = w1 := by
  obtain ⟨S, h1, _⟩ := q
  exact drop_out x 8 S f z w1 (h1.below hb) hz
theorem KG.keyYes (q : KG w x kb ib f kv iv wr) {i : Nat} {k : Int} (hf : f i = some k) : Calls Try.prog 18 #[ptr x, .int .i64 i] wr fun e w2 => e = .returned (keyed k true) ∧ KG w x kb ib f kv iv w2 := by
  have q' := q
  obtain ⟨S, h1, h2, h3, h4, h5, h6, h7, h8, h9, h10⟩ := q
  refine (key_yes x 8 i S f k wr h1 hf).mono ?_
  rintro e w2 ⟨rfl, hb⟩
  exact ⟨rfl, q'.under hb⟩
theorem KG.first (q : KG w x kb ib f kv iv wr) : Calls Try.prog 16 #[ptr x] wr fun e w2 => (∃ v, e = .returned v ∧ FirstV f v) ∧ KG w x kb ib f kv iv w2 := by
  have q' := q
  obtain ⟨S, h1, h2, h3, h4, h5, h6, h7, h8, h9, h10⟩ := q
  refine (first_any x 8 S f wr h1).mono ?_
  rintro e w2 ⟨hv, hb⟩
  exact ⟨hv, q'.under hb⟩
theorem OwnR.two {sb : Nat} (q : OwnR w x 8 f sb 8 (fun _ => 0) wr) : KG w x sb wr.heap.size f (fun _ => 0) (fun _ => 0) (wr.alloc (.cells (List.replicate 8 (Value.int .i64 0)).toArray 3)) := by
  obtain ⟨S, h1, h2, h3, ⟨cs, r1, r2, r3⟩, h5, h6⟩ := q
  have hb : Below wr.heap.size wr (wr.alloc (.cells (List.replicate 8 (Value.int .i64 0)).toArray 3)) := (Below.refl _ _).alloc (Nat.le_refl _) _
  have := r1.lt
  exact ⟨S, h1.below hb, h2, h3, fun h => by have := h1.lt _ h; omega, by omega, ⟨cs, r1.past _, r2, r3⟩, ⟨_, Row.fresh wr _ _, by simp, fun i hi => by rw [List.getElem?_toArray, List.getElem?_replicate, if_pos hi]⟩, h5, h6.size, h6.alloc h6.size _⟩
end
/-- What is in, as 0 and 1. -/
def ins (f : Nat → Option Int) : Nat → Int := fun i => if (f i).isSome then 1 else 0
theorem ins_none : ins (fun _ => none) = fun _ => 0 := by funext i; simp [ins]
theorem ins_set (f : Nat → Option Int) (i : Nat) (k : Int) : upd (ins f) i 1 = ins (upd f i (some k)) := by
  funext j
  unfold upd ins
  by_cases h : j = i <;> simp [h]
theorem ins_drop (f : Nat → Option Int) (i : Nat) : upd (ins f) i 0 = ins (upd f i none) := by
  funext j
  unfold upd ins
  by_cases h : j = i <;> simp [h]
/-- The keys of those that are in. -/
def Keys (f : Nat → Option Int) (kv : Nat → Int) : Prop := ∀ i k, f i = some k → kv i = k
theorem Keys.drop {f : Nat → Option Int} {kv : Nat → Int} (h : Keys f kv) (i : Nat) : Keys (upd f i none) kv := by
  intro j k hj
  by_cases e : j = i
  · subst e; rw [upd_same] at hj; cases hj
  · rw [upd_other _ _ _ _ e] at hj; exact h j k hj
theorem Keys.set {f : Nat → Option Int} {kv : Nat → Int} (h : Keys f kv) (i : Nat) (z : Int) : Keys (upd f i (some z)) (upd kv i z) := by
  intro j k hj
  by_cases e : j = i
  · subst e; rw [upd_same] at hj ⊢; injection hj
  · rw [upd_other _ _ _ _ e] at hj ⊢; exact h j k hj
end Go.Proofs.Ythpfhimdgmckgaa
