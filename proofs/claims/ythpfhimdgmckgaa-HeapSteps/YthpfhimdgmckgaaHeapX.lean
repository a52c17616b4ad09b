/- What the law HeapSteps keeps between its calls: the heap and the document's list, side by side. -/
import Derived.Test.YthpfhimdgmckgaaHeapW
namespace Go.Proofs.Ythpfhimdgmckgaa
open Go.RowKit Hp

theorem IV.only {S : Nat → Prop} {w w' : World} {v : Value} {t : List (Int × Int)} (h : IV w v t) (ho : Only S w w') (hs : ∀ k, v.ownBlock = some k → ¬ S k) : IV w' v t := by
  refine ⟨h.1, ?_⟩
  rcases h.2 with h0 | ⟨g, cap, cur, rfl, h1, h2, h3⟩
  · exact .inl h0
  · exact .inr ⟨g, cap, cur, rfl, h1, (ho.block g (Array.getElem?_eq_some_iff.1 h2).1 (hs g rfl)).trans h2, h3⟩
/-- What is told of one number's key. -/
def KeyV (f : Nat → Option Int) (id : Int) (v : Value) : Prop := (∃ (i : Nat) (k : Int), id = i ∧ f i = some k ∧ v = keyed k true) ∨ ((∀ i : Nat, id = i → f i = none) ∧ v = keyed 0 false)
theorem KeyV.det {f : Nat → Option Int} {id : Int} {v v' : Value} (h : KeyV f id v) (h' : KeyV f id v') : v = v' := by
  rcases h with ⟨i, k, e, hf, rfl⟩ | ⟨h, rfl⟩ <;> rcases h' with ⟨j, l, e', hf', rfl⟩ | ⟨h', rfl⟩
  · have : i = j := by omega
    subst this
    rw [hf] at hf'; injection hf' with hf'; rw [hf']
  · rw [h' i e] at hf; cases hf
  · rw [h j e'] at hf'; cases hf'
  · rfl
theorem KeyV.shape {f : Nat → Option Int} {id : Int} {v : Value} (h : KeyV f id v) : ∃ k b, v = keyed k b := by
  rcases h with ⟨i, k, e, hf, rfl⟩ | ⟨h, rfl⟩ <;> exact ⟨_, _, rfl⟩
theorem key_any (g n : Nat) (S : Nat → Prop) (f : Nat → Option Int) (z : Int) (w : World) (h : Hq w g S n f) : Calls Try.prog 18 #[ptr g, .int .i64 z] w fun e w' => (∃ v, e = .returned v ∧ KeyV f z v) ∧ Below w.heap.size w w' := by
  by_cases hz : z < 0 ∨ (n : Int) ≤ z
  · refine (key_out g n S f z w h hz).mono ?_
    rintro e w' ⟨rfl, rfl⟩
    refine ⟨⟨_, rfl, .inr ⟨fun i hi => ?_, rfl⟩⟩, Below.refl _ _⟩
    cases hf : f i with
    | none => rfl
    | some k => have := h.some_lt hf; omega
  · obtain ⟨i, rfl⟩ : ∃ i : Nat, z = i := ⟨z.toNat, by omega⟩
    cases hf : f i with
    | none =>
      refine (key_no g n i S f w h (by omega) hf).mono ?_
      rintro e w' ⟨rfl, rfl⟩
      refine ⟨⟨_, rfl, .inr ⟨fun j hj => ?_, rfl⟩⟩, Below.refl _ _⟩
      have : j = i := by omega
      rw [this]; exact hf
    | some k =>
      refine (key_yes g n i S f k w h hf).mono ?_
      rintro e w' ⟨rfl, hb⟩
      exact ⟨⟨_, rfl, .inl ⟨i, k, rfl, hf, rfl⟩⟩, hb⟩
theorem rkey_any (n id : Int) (f : Nat → Option Int) (v : Value) (t : List (Int × Int)) (w : World) (h : IV w v t) (hr : Rel f t) (hl : t.length ≤ 1000000) : Calls Try.prog 17 #[tV n v, .int .i64 id] w fun e w' => (∃ v, e = .returned v ∧ KeyV f id v) ∧ Below w.heap.size w w' := by
  by_cases hid : ∀ i : Nat, id = i → f i = none
  · refine (rkey_no n id v t w h hl (hr.key_none id hid)).mono ?_
    rintro e w' ⟨rfl, hb⟩
    exact ⟨⟨_, rfl, .inr ⟨hid, rfl⟩⟩, hb⟩
  · obtain ⟨i, k, rfl, hf⟩ : ∃ (i : Nat) (k : Int), id = i ∧ f i = some k := by
      apply Classical.byContradiction
      intro hc
      apply hid
      intro i hi
      cases hf : f i with
      | none => rfl
      | some k => exact absurd ⟨i, k, hi, hf⟩ hc
    obtain ⟨r, hrl, hrx, hno⟩ := hr.key hf
    refine (rkey_yes n i v t w h hl r hrl (by rw [hrx]) hno).mono ?_
    rintro e w' ⟨rfl, hb⟩
    exact ⟨⟨_, rfl, .inl ⟨i, k, rfl, hf, by rw [hrx]⟩⟩, hb⟩
theorem FirstV.det {f : Nat → Option Int} {v v' : Value} (h : FirstV f v) (h' : FirstV f v') : v = v' := by
  rcases h with ⟨rfl, h⟩ | ⟨i, k, rfl, h⟩ <;> rcases h' with ⟨rfl, h'⟩ | ⟨j, l, rfl, h'⟩
  · rfl
  · have := h'.1; rw [h j] at this; cases this
  · have := h.1; rw [h' i] at this; cases this
  · obtain ⟨rfl, rfl⟩ := h.unique h'; rfl
theorem rfirst_v (n : Int) (f : Nat → Option Int) (v : Value) (t : List (Int × Int)) (w : World) (h : IV w v t) (hr : Rel f t) (hl : t.length ≤ 1000000) : Calls Try.prog 15 #[tV n v] w fun e w' => ∃ (fi fk : Int) (fb : Bool), e = .returned (.tuple #[.agg #[.int .i64 fi, .int .i64 fk], .bool fb]) ∧ FirstV f (told fi fk fb) ∧ Below w.heap.size w w' := by
  refine (rfirst_any n v t w h hl).mono ?_
  rintro e w' ⟨⟨x, rfl, hx⟩, hb⟩
  refine ⟨_, _, _, rfl, ?_, hb⟩
  by_cases h0 : 0 < t.length
  · obtain ⟨i, k, rfl, hf⟩ := hr.first hx h0
    exact .inr ⟨i, k, by simp [told, h0], hf⟩
  · have h0' : t.length = 0 := by omega
    rcases hx with ⟨_, rfl⟩ | ⟨hp, _⟩
    · exact .inl ⟨by simp [told, h0], hr.empty h0'⟩
    · omega
/-- Behind the document's Step: the heap x holds f; the list in block U holds f2; the item lies in block bx. -/
def Mid1 (w : World) (x U n bx : Nat) (f f2 : Nat → Option Int) (t2 : List (Int × Int)) (a2 : Option Addr) (c2 : Nat) (xi xk : Int) (wr : World) : Prop :=
  ∃ S, Hq wr x S n f ∧ (∀ k, S k → w.heap.size ≤ k) ∧ ¬ S U ∧ ¬ S bx ∧ (∀ k, (Value.slice a2 t2.length c2).ownBlock = some k → ¬ S k ∧ k ≠ U) ∧ Row wr U 26 #[.int .i64 n, .slice a2 t2.length c2] ∧ Row wr bx 33 #[.int .i64 xi, .int .i64 xk] ∧ IV wr (.slice a2 t2.length c2) t2 ∧ Rel f2 t2 ∧ w.heap.size ≤ U ∧ Below w.heap.size w wr
theorem Mid1.under {w : World} {x U n bx : Nat} {f f2 : Nat → Option Int} {t2 : List (Int × Int)} {a2 : Option Addr} {c2 : Nat} {xi xk : Int} {wr wr' : World} (h : Mid1 w x U n bx f f2 t2 a2 c2 xi xk wr) (hb : Below wr.heap.size wr wr') : Mid1 w x U n bx f f2 t2 a2 c2 xi xk wr' := by
  obtain ⟨S, q1, q2, q3, q4, q5, q6, q7, q8, q9, q10, q11⟩ := h
  exact ⟨S, q1.below hb, q2, q3, q4, q5, q6.under hb q6.lt, q7.under hb q7.lt, q8.under hb, q9, q10, then_below q11 hb⟩
theorem Mid1.b {w : World} {x U n bx : Nat} {f f2 : Nat → Option Int} {t2 : List (Int × Int)} {a2 : Option Addr} {c2 : Nat} {xi xk : Int} {wr : World} (h : Mid1 w x U n bx f f2 t2 a2 c2 xi xk wr) : Below w.heap.size w wr := by
  obtain ⟨S, q1, q2, q3, q4, q5, q6, q7, q8, q9, q10, q11⟩ := h
  exact q11
theorem Mid1.cells {w : World} {x U n bx : Nat} {f f2 : Nat → Option Int} {t2 : List (Int × Int)} {a2 : Option Addr} {c2 : Nat} {xi xk : Int} {wr : World} (h : Mid1 w x U n bx f f2 t2 a2 c2 xi xk wr) : wr.cell? ⟨U, 0, none⟩ = some (.int .i64 n) ∧ wr.cell? ⟨U, 1, none⟩ = some (.slice a2 t2.length c2) ∧ wr.cell? ⟨bx, 0, none⟩ = some (.int .i64 xi) ∧ wr.cell? ⟨bx, 1, none⟩ = some (.int .i64 xk) := by
  obtain ⟨S, q1, q2, q3, q4, q5, q6, q7, q8, q9, q10, q11⟩ := h
  exact ⟨q6.cell 0, q6.cell 1, q7.cell 0, q7.cell 1⟩
theorem Mid1.short {w : World} {x U n bx : Nat} {f : Nat → Option Int} {t2 : List (Int × Int)} {a2 : Option Addr} {c2 : Nat} {xi xk : Int} {wr : World} (h : Mid1 w x U n bx f f t2 a2 c2 xi xk wr) : t2.length = cnt n f := by
  obtain ⟨S, q1, q2, q3, q4, q5, q6, q7, q8, q9, q10, q11⟩ := h
  exact q9.len n (fun i k hi => q1.some_lt hi)
theorem Mid1.did {w : World} {x U n bx : Nat} {f f2 : Nat → Option Int} {t2 : List (Int × Int)} {a2 : Option Addr} {c2 : Nat} {xi xk : Int} {bb : Bool} {d : Int × Int × Int} {wr : World} (h : Mid1 w x U n bx f f2 t2 a2 c2 xi xk wr) (hd : DidV n f d (told xi xk bb) f2) : Calls Try.prog 14 #[ptr x, doV d] wr fun e w' => e = .returned (told xi xk bb) ∧ Mid1 w x U n bx f2 f2 t2 a2 c2 xi xk w' := by
  obtain ⟨S, q1, q2, q3, q4, q5, q6, q7, q8, q9, q10, q11⟩ := h
  refine (did_any x n S f d wr q1).mono ?_
  rintro e w' ⟨v, f', rfl, hdv, S', p1, p2, p3⟩
  obtain ⟨rfl, rfl⟩ := hdv.det hd
  refine ⟨rfl, S', p1, fun k hk => ?_, fun hk => ?_, fun hk => ?_, fun k hk => ⟨fun hk' => ?_, (q5 k hk).2⟩, q6.only p3 q3, q7.only p3 q4, q8.only p3 (fun k hk => (q5 k hk).1), q9, q10, ?_⟩
  · rcases p2 k hk with h | h
    · exact q2 k h
    · exact Nat.le_trans q11.size h
  · rcases p2 _ hk with h | h
    · exact q3 h
    · have := q6.lt; omega
  · rcases p2 _ hk with h | h
    · exact q4 h
    · have := q7.lt; omega
  · rcases p2 _ hk' with h | h
    · exact (q5 k hk).1 h
    · have := q8.lt k hk; omega
  · exact q11.trans (p3.below q2 q11.size)
theorem Mid1.rfirst {w : World} {x U n bx : Nat} {f f2 : Nat → Option Int} {t2 : List (Int × Int)} {a2 : Option Addr} {c2 : Nat} {xi xk : Int} {wr : World} (h : Mid1 w x U n bx f f2 t2 a2 c2 xi xk wr) (hl : t2.length ≤ 1000000) : Calls Try.prog 15 #[tV n (.slice a2 t2.length c2)] wr fun e w' => ∃ (fi fk : Int) (fb : Bool), e = .returned (.tuple #[.agg #[.int .i64 fi, .int .i64 fk], .bool fb]) ∧ FirstV f2 (told fi fk fb) ∧ Mid1 w x U n bx f f2 t2 a2 c2 xi xk w' := by
  have h' := h
  obtain ⟨S, q1, q2, q3, q4, q5, q6, q7, q8, q9, q10, q11⟩ := h
  refine (rfirst_v n f2 _ t2 wr q8 q9 hl).mono ?_
  rintro e w' ⟨fi, fk, fb, rfl, hf, hb⟩
  exact ⟨fi, fk, fb, rfl, hf, h'.under hb⟩
theorem Mid1.first {w : World} {x U n bx : Nat} {f : Nat → Option Int} {t2 : List (Int × Int)} {a2 : Option Addr} {c2 : Nat} {xi xk fi fk : Int} {fb : Bool} {wr : World} (h : Mid1 w x U n bx f f t2 a2 c2 xi xk wr) (hf : FirstV f (told fi fk fb)) : Calls Try.prog 16 #[ptr x] wr fun e w' => e = .returned (told fi fk fb) ∧ Below wr.heap.size wr w' := by
  obtain ⟨S, q1, q2, q3, q4, q5, q6, q7, q8, q9, q10, q11⟩ := h
  refine (first_any x n S f wr q1).mono ?_
  rintro e w' ⟨⟨v, rfl, hv⟩, hb⟩
  rw [hv.det hf]
  exact ⟨rfl, hb⟩
theorem Mid1.rkey {w : World} {x U n bx : Nat} {f f2 : Nat → Option Int} {t2 : List (Int × Int)} {a2 : Option Addr} {c2 : Nat} {xi xk : Int} {wr : World} (h : Mid1 w x U n bx f f2 t2 a2 c2 xi xk wr) (hl : t2.length ≤ 1000000) (id : Int) : Calls Try.prog 17 #[tV n (.slice a2 t2.length c2), .int .i64 id] wr fun e w' => ∃ (k : Int) (b : Bool), e = .returned (keyed k b) ∧ KeyV f2 id (keyed k b) ∧ Below wr.heap.size wr w' := by
  obtain ⟨S, q1, q2, q3, q4, q5, q6, q7, q8, q9, q10, q11⟩ := h
  refine (rkey_any n id f2 _ t2 wr q8 q9 hl).mono ?_
  rintro e w' ⟨⟨v, rfl, hv⟩, hb⟩
  obtain ⟨k, b, rfl⟩ := hv.shape
  exact ⟨k, b, rfl, hv, hb⟩
theorem Mid1.key {w : World} {x U n bx : Nat} {f : Nat → Option Int} {t2 : List (Int × Int)} {a2 : Option Addr} {c2 : Nat} {xi xk k id : Int} {b : Bool} {wr : World} (h : Mid1 w x U n bx f f t2 a2 c2 xi xk wr) (hf : KeyV f id (keyed k b)) : Calls Try.prog 18 #[ptr x, .int .i64 id] wr fun e w' => e = .returned (keyed k b) ∧ Below wr.heap.size wr w' := by
  obtain ⟨S, q1, q2, q3, q4, q5, q6, q7, q8, q9, q10, q11⟩ := h
  refine (key_any x n S f id wr q1).mono ?_
  rintro e w' ⟨⟨v, rfl, hv⟩, hb⟩
  rw [hv.det hf]
  exact ⟨rfl, hb⟩
theorem Mid1.len {w : World} {x U n bx : Nat} {f : Nat → Option Int} {t2 : List (Int × Int)} {a2 : Option Addr} {c2 : Nat} {xi xk : Int} {wr : World} (h : Mid1 w x U n bx f f t2 a2 c2 xi xk wr) {w1 : World} (hb : Below wr.heap.size wr w1) : Calls Try.prog 19 #[ptr x] w1 fun e w' => e = .returned (.int .i64 t2.length) ∧ w' = w1 := by
  rw [h.short]
  obtain ⟨S, q1, q2, q3, q4, q5, q6, q7, q8, q9, q10, q11⟩ := h
  exact len_any x n S f w1 (q1.below hb)
end Go.Proofs.Ythpfhimdgmckgaa
