/- Counting what is in; a list of things done, in memory. Walk of the law HeapPops. -/
import Derived.Test.YthpfhimdgmckgaaHeapL
namespace Go.Proofs.Ythpfhimdgmckgaa
open Go.RowKit Hp

theorem cnt_succ (n : Nat) (f : Nat → Option Int) : cnt (n + 1) f = cnt n f + (if (f n).isSome then 1 else 0) := by
  unfold cnt
  rw [List.range_succ, List.filter_append, List.length_append]
  congr 1
  by_cases h : (f n).isSome = true <;> simp [h]
theorem cnt_congr (n : Nat) (f f' : Nat → Option Int) (h : ∀ i, i < n → (f' i).isSome = (f i).isSome) : cnt n f' = cnt n f := by
  induction n with
  | zero => rfl
  | succ n ih => rw [cnt_succ, cnt_succ, ih (fun i hi => h i (by omega)), h n (by omega)]
theorem cnt_del (n : Nat) (f : Nat → Option Int) (i : Nat) (hi : i < n) (h : (f i).isSome = true) : cnt n f = cnt n (upd f i none) + 1 := by
  induction n with
  | zero => omega
  | succ n ih =>
    rw [cnt_succ, cnt_succ]
    by_cases e : i = n
    · subst e
      rw [cnt_congr i f (upd f i none) (fun j hj => by rw [upd_other _ _ _ _ (by omega)]), upd_same, h]
      rfl
    · rw [ih (by omega), upd_other _ _ _ _ (fun e' => e e'.symm)]
      omega
theorem cnt_add (n : Nat) (f : Nat → Option Int) (i : Nat) (k : Int) (hi : i < n) (h : f i = none) : cnt n (upd f i (some k)) = cnt n f + 1 := by
  have h1 := cnt_del n (upd f i (some k)) i hi (by rw [upd_same]; rfl)
  rw [h1]
  congr 1
  apply cnt_congr
  intro j hj
  by_cases e : j = i
  · subst e; rw [upd_same, h]
  · rw [upd_other _ _ _ _ e, upd_other _ _ _ _ e]
theorem cnt_set (n : Nat) (f : Nat → Option Int) (i : Nat) (k : Int) (h : (f i).isSome = true) : cnt n (upd f i (some k)) = cnt n f := by
  apply cnt_congr
  intro j hj
  by_cases e : j = i
  · subst e; rw [upd_same, h]; rfl
  · rw [upd_other _ _ _ _ e]
theorem cnt_zero (n : Nat) (f : Nat → Option Int) (h : cnt n f = 0) (i : Nat) (hi : i < n) : f i = none := by
  cases hf : f i with
  | none => rfl
  | some k =>
    have := cnt_del n f i hi (by rw [hf]; rfl)
    omega
theorem cnt_none (n : Nat) (f : Nat → Option Int) (h : ∀ i, i < n → f i = none) : cnt n f = 0 := by
  induction n with
  | zero => rfl
  | succ n ih => rw [cnt_succ, ih (fun i hi => h i (by omega)), h n (by omega)]; rfl
theorem FirstV.some {f : Nat → Option Int} {v : Value} {n : Nat} (h : FirstV f v) (hc : 0 < cnt n f) : ∃ (i : Nat) (k : Int), v = told i k true ∧ isFirst f i k := by
  rcases h with ⟨_, h⟩ | h
  · rw [cnt_none n f (fun i _ => h i)] at hc
    omega
  · exact h
/-- How long the heap's list is, read off the world. -/
def hlen (g : Nat) (w : World) : Nat := match w.cell? ⟨g, 0, none⟩ with
  | some (.slice _ m _) => m
  | _ => 0
theorem Hq.hlen {w : World} {g : Nat} {S : Nat → Prop} {n : Nat} {f : Nat → Option Int} (h : Hq w g S n f) : hlen g w = cnt n f := by
  obtain ⟨key, a, m, sb, p, e, tv, h1, h2, h3, h4, hr, ht, hs, h5, h6, h7, hS⟩ := h
  rw [cnt_of h2 h1]
  obtain ⟨x, c, rfl⟩ := ht.shape
  have k0 : w.cell? ⟨g, 0, none⟩ = some (.slice x m c) := hr.cell 0
  unfold Go.Proofs.Ythpfhimdgmckgaa.hlen
  rw [k0]
theorem Own.hlen {w w1 : World} {g n : Nat} {f : Nat → Option Int} (h : Own w g n f w1) : hlen g w1 = cnt n f := by
  obtain ⟨S, q, _⟩ := h
  exact q.hlen

/-- A slice whose first cell is at a reads as these things done. -/
def Dos (w : World) (a : Option Addr) (l : List (Int × Int × Int)) : Prop :=
  l = [] ∨ ∃ b o, a = some ⟨b, o, none⟩ ∧ ∀ i x, l[i]? = some x → w.cell? ⟨b, o + i * 3, none⟩ = some (.int .i64 x.1) ∧ w.cell? ⟨b, o + i * 3 + 1, none⟩ = some (.int .i64 x.2.1) ∧ w.cell? ⟨b, o + i * 3 + 2, none⟩ = some (.int .i64 x.2.2)
theorem Dos.at_ {w w' : World} {a : Option Addr} {l : List (Int × Int × Int)} (h : Dos w a l) (hb : Below w.heap.size w w') {i : Nat} (hi : i < l.length) : ∃ b o, a = some ⟨b, o, none⟩ ∧ b < w.heap.size ∧ w'.cell? ⟨b, o + i * 3, none⟩ = some (.int .i64 (l[i]'hi).1) ∧ w'.cell? ⟨b, o + i * 3 + 1, none⟩ = some (.int .i64 (l[i]'hi).2.1) ∧ w'.cell? ⟨b, o + i * 3 + 2, none⟩ = some (.int .i64 (l[i]'hi).2.2) := by
  rcases h with rfl | ⟨b, o, rfl, h⟩
  · simp at hi
  · obtain ⟨h1, h2, h3⟩ := h i (l[i]'hi) (List.getElem?_eq_getElem hi)
    have hl : b < w.heap.size := block_lt_of_cell h1
    exact ⟨b, o, rfl, hl, (hb.cell (p := ⟨b, _, none⟩) hl).trans h1, (hb.cell (p := ⟨b, _, none⟩) hl).trans h2, (hb.cell (p := ⟨b, _, none⟩) hl).trans h3⟩

theorem then_below {w0 w w' : World} (h : Below w0.heap.size w0 w) (h' : Below w.heap.size w w') : Below w0.heap.size w0 w' := h.trans (h'.mono h.size)

theorem Own.len {w w1 : World} {g n : Nat} {f : Nat → Option Int} (h : Own w g n f w1) : Calls Try.prog 19 #[ptr g] w1 fun e w' => e = .returned (.int .i64 (cnt n f)) ∧ w' = w1 := by
  obtain ⟨S, q, _⟩ := h
  exact len_any g n S f w1 q
theorem Own.under {w w1 w2 : World} {g n : Nat} {f : Nat → Option Int} (h : Own w g n f w1) (hb : Below w1.heap.size w1 w2) : Own w g n f w2 := by
  obtain ⟨S, q1, q2, q3⟩ := h
  exact ⟨S, q1.below hb, q2, then_below q3 hb⟩
theorem Own.first {w w1 : World} {g n : Nat} {f : Nat → Option Int} (h : Own w g n f w1) : Calls Try.prog 16 #[ptr g] w1 fun e w' => (∃ v, e = .returned v ∧ FirstV f v) ∧ Own w g n f w' := by
  obtain ⟨S, q1, q2, q3⟩ := h
  refine (first_any g n S f w1 q1).mono ?_
  rintro e w2 ⟨hv, hb⟩
  exact ⟨hv, Own.under ⟨S, q1, q2, q3⟩ hb⟩
theorem own_of_did {w w1 w2 : World} {g n : Nat} {f' : Nat → Option Int} {S : Nat → Prop} (q2 : ∀ k, S k → w.heap.size ≤ k) (q3 : Below w.heap.size w w1) (hd : Did w1 g n S f' w2) : Own w g n f' w2 := by
  obtain ⟨S', r1, r2, r3⟩ := hd
  have := q3.size
  exact ⟨S', r1, fun k hk => by rcases r2 k hk with h | h; exact q2 k h; omega, q3.trans (r3.below q2 q3.size)⟩
theorem Own.did {w w1 : World} {g n : Nat} {f : Nat → Option Int} (h : Own w g n f w1) (d : Int × Int × Int) : Calls Try.prog 14 #[ptr g, doV d] w1 fun e w' => ∃ v f', e = .returned v ∧ DidV n f d v f' ∧ Own w g n f' w' := by
  obtain ⟨S, q1, q2, q3⟩ := h
  refine (did_any g n S f d w1 q1).mono ?_
  rintro e w2 ⟨v, f', rfl, hv, hd⟩
  exact ⟨v, f', rfl, hv, own_of_did q2 q3 hd⟩
theorem Own.pop {w w1 : World} {g n : Nat} {f : Nat → Option Int} (h : Own w g n f w1) : Calls Try.prog 20 #[ptr g] w1 fun e w' =>
    (e = .returned (told 0 0 false) ∧ (∀ i, f i = none) ∧ Own w g n f w') ∨ ∃ (i : Nat) (k : Int), e = .returned (told i k true) ∧ isFirst f i k ∧ Own w g n (upd f i none) w' := by
  obtain ⟨S, q1, q2, q3⟩ := h
  refine (pop_any g n S f w1 q1).mono ?_
  rintro e w2 (⟨rfl, hn, hd⟩ | ⟨i, k, rfl, hf, hd⟩)
  · exact .inl ⟨rfl, hn, own_of_did q2 q3 hd⟩
  · exact .inr ⟨i, k, rfl, hf, own_of_did q2 q3 hd⟩
theorem Own.some_lt {w w1 : World} {g n : Nat} {f : Nat → Option Int} (h : Own w g n f w1) {i : Nat} {k : Int} (hi : f i = some k) : i < n := by
  obtain ⟨S, q, _⟩ := h
  exact q.some_lt hi
theorem Own.popped {w w1 : World} {g n : Nat} {f : Nat → Option Int} (h : Own w g n f w1) {i : Nat} {k : Int} (hf : isFirst f i k) : Calls Try.prog 20 #[ptr g] w1 fun e w' => e = .returned (told i k true) ∧ Own w g n (upd f i none) w' := by
  refine h.pop.mono ?_
  rintro e w2 (⟨rfl, hn, _⟩ | ⟨j, l, rfl, hf2, hd⟩)
  · have := hf.1; rw [hn] at this; cases this
  · obtain ⟨rfl, rfl⟩ := hf.unique hf2
    exact ⟨rfl, hd⟩
theorem Own.popNone {w w1 : World} {g n : Nat} {f : Nat → Option Int} (h : Own w g n f w1) (hc : cnt n f = 0) : Calls Try.prog 20 #[ptr g] w1 fun e w' => e = .returned (told 0 0 false) ∧ Own w g n f w' := by
  have hlt : ∀ i, f i = none := fun i => by
    cases hf : f i with
    | none => rfl
    | some k => have := cnt_zero n f hc i (h.some_lt hf); rw [hf] at this; cases this
  refine h.pop.mono ?_
  rintro e w2 (⟨rfl, hn, hd⟩ | ⟨j, l, rfl, hf2, hd⟩)
  · exact ⟨rfl, hd⟩
  · have := hf2.1; rw [hlt] at this; cases this
theorem Own.keyNo {w w1 : World} {g n i : Nat} {f : Nat → Option Int} (h : Own w g n f w1) (hi : i < n) (hf : f i = none) : Calls Try.prog 18 #[ptr g, .int .i64 i] w1 fun e w' => e = .returned (keyed 0 false) ∧ w' = w1 := by
  obtain ⟨S, q, _⟩ := h
  exact key_no g n i S f w1 q hi hf
theorem Own.keyYes {w w1 : World} {g n i : Nat} {k : Int} {f : Nat → Option Int} (h : Own w g n f w1) (hf : f i = some k) : Calls Try.prog 18 #[ptr g, .int .i64 i] w1 fun e w' => e = .returned (keyed k true) ∧ Own w g n f w' := by
  obtain ⟨S, q1, q2, q3⟩ := h
  refine (key_yes g n i S f k w1 q1 hf).mono ?_
  rintro e w2 ⟨rfl, hb⟩
  exact ⟨rfl, Own.under ⟨S, q1, q2, q3⟩ hb⟩
theorem Own.b {w w1 : World} {g n : Nat} {f : Nat → Option Int} (h : Own w g n f w1) : Below w.heap.size w w1 := by
  obtain ⟨S, _, _, q⟩ := h
  exact q
theorem Own.new (n : Nat) (w : World) (hn : n ≤ 16777216) : Calls Try.prog 11 #[.int .i64 n] w fun e w' => ∃ g, e = .returned (ptr g) ∧ Own w g n (fun _ => none) w' := new_in n w hn
end Go.Proofs.Ythpfhimdgmckgaa
