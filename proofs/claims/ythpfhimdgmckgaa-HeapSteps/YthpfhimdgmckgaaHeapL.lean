/- Walks: the laws' known and did. -/
import Derived.Test.YthpfhimdgmckgaaHeapK
namespace Go.Proofs.Ythpfhimdgmckgaa
open Go.RowKit Hp

theorem isFirst.unique {f : Nat → Option Int} {i j : Nat} {k l : Int} (h : isFirst f i k) (h' : isFirst f j l) : i = j ∧ k = l := by
  have h1 := h.2 j l h'.1
  have h2 := h'.2 i k h.1
  omega
def f0 : Nat → Option Int := upd (upd (upd (fun _ => none) 4 (some 9)) 2 (some 7)) 3 (some 7)
theorem f0_first {i : Nat} {k : Int} (h : isFirst f0 i k) : i = 2 ∧ k = 7 := by
  refine h.unique ⟨by simp [f0, upd], fun j k' hj => ?_⟩
  unfold f0 upd at hj
  split at hj
  · injection hj with hj; omega
  · split at hj
    · injection hj with hj; omega
    · split at hj
      · injection hj with hj; omega
      · cases hj
theorem Newed.did {w w1 : World} {n g : Nat} (h : Newed w n g w1) : ∃ S, Hq w1 g S n (fun _ => none) ∧ (∀ k, S k → w.heap.size ≤ k) ∧ Below w.heap.size w w1 := h
/-- A heap of the call's own. -/
def Own (w : World) (g n : Nat) (f : Nat → Option Int) (w' : World) : Prop := ∃ S, Hq w' g S n f ∧ (∀ k, S k → w.heap.size ≤ k) ∧ Below w.heap.size w w'
theorem Own.step {w w1 w2 : World} {g n : Nat} {f f' : Nat → Option Int} (h : Own w g n f w1) (hd : ∀ S, Hq w1 g S n f → Did w1 g n S f' w2) : Own w g n f' w2 := by
  obtain ⟨S, q1, q2, q3⟩ := h
  obtain ⟨S', r1, r2, r3⟩ := hd S q1
  have := q3.size
  exact ⟨S', r1, fun k hk => by rcases r2 k hk with h | h; exact q2 k h; omega, q3.trans (r3.below q2 q3.size)⟩
theorem Own.set {w w1 : World} {g n : Nat} {f : Nat → Option Int} (h : Own w g n f w1) (i : Nat) (k : Int) (hi : i < n) : Calls Try.prog 12 #[ptr g, .int .i64 i, .int .i64 k] w1 fun e w' => e = .returned (.bool true) ∧ Own w g n (upd f i (some k)) w' := by
  obtain ⟨S, q1, q2, q3⟩ := h
  refine (set_in g n i S f k w1 q1 hi).mono ?_
  rintro e w2 ⟨rfl, S', r1, r2, r3⟩
  have := q3.size
  exact ⟨rfl, S', r1, fun k hk => by rcases r2 k hk with h | h; exact q2 k h; omega, q3.trans (r3.below q2 q3.size)⟩

set_option maxRecDepth 10000 in
theorem known_any (w : World) : Calls Try.prog 9 #[] w fun e w' => e = .returned (.bool true) ∧ Below w.heap.size w w' := by
  go_enter Try.func9, Try.ntmps9
  go_wp2_with fail
  refine (new_in 5 w (by omega)).mono ?_
  rintro e w1 ⟨g, rfl, h1⟩
  have H1 := Lib.hid (show Own w g 5 (fun _ => none) w1 from h1)
  clear h1
  go_wp2_with fail
  refine (H1.out.set 4 9 (by omega)).mono ?_
  rintro e w2 ⟨rfl, h2⟩
  have H2 := Lib.hid h2
  clear h2 H1
  go_wp2_with fail
  refine (H2.out.set 2 7 (by omega)).mono ?_
  rintro e w3 ⟨rfl, h3⟩
  have H3 := Lib.hid h3
  clear h3 H2
  go_wp2_with fail
  refine (H3.out.set 3 7 (by omega)).mono ?_
  rintro e w4 ⟨rfl, S, q1, q2, q3⟩
  have HQ := Lib.hid q1
  have HS := Lib.hid q2
  have HB := Lib.hid q3
  clear q1 q2 q3 H3
  go_wp2_with fail
  refine (pop_any g 5 S f0 w4 HQ.out).mono ?_
  rintro e w5 (⟨_, hn, _⟩ | ⟨i, k, rfl, hf, S', r1, r2, r3⟩)
  · have := hn 2
    simp [f0, upd] at this
  · obtain ⟨rfl, rfl⟩ := f0_first hf
    have HB5 := Lib.hid (HB.out.trans (r3.below HS.out HB.out.size))
    clear hf r1 r2 r3
    unfold told
    go_wp2_with fail
    refine (len_nil w5).mono ?_
    rintro e w6 ⟨rfl, rfl⟩
    go_wp2
    go_ret
    exact ⟨rfl, HB5.out⟩

/-- Something that is done, as a value. -/
abbrev doV (d : Int × Int × Int) : Value := .agg #[.int .i64 d.1, .int .i64 d.2.1, .int .i64 d.2.2]
/-- What is told, and what is in then. -/
def DidV (n : Nat) (f : Nat → Option Int) (d : Int × Int × Int) (v : Value) (f' : Nat → Option Int) : Prop :=
  (d.1 = 1 ∧ ((∃ i : Nat, d.2.1 = i ∧ i < n ∧ v = told 0 0 true ∧ f' = upd f i (some d.2.2)) ∨ ((d.2.1 < 0 ∨ (n : Int) ≤ d.2.1) ∧ v = told 0 0 false ∧ f' = f))) ∨
  (d.1 = 2 ∧ ((v = told 0 0 false ∧ (∀ i, f i = none) ∧ f' = f) ∨ ∃ (i : Nat) (k : Int), v = told i k true ∧ isFirst f i k ∧ f' = upd f i none)) ∨
  (d.1 = 3 ∧ ((∃ (i : Nat) (k : Int), d.2.1 = i ∧ f i = some k ∧ v = told 0 0 true ∧ f' = upd f i none) ∨ ((∀ i : Nat, d.2.1 = i → f i = none) ∧ v = told 0 0 false ∧ f' = f))) ∨
  (d.1 = 4 ∧ v = told 0 0 false ∧ f' = fun _ => none) ∨
  (d.1 ≠ 1 ∧ d.1 ≠ 2 ∧ d.1 ≠ 3 ∧ d.1 ≠ 4 ∧ v = told 0 0 false ∧ f' = f)
theorem DidV.det {n : Nat} {f f1 f2 : Nat → Option Int} {d : Int × Int × Int} {v1 v2 : Value} (h1 : DidV n f d v1 f1) (h2 : DidV n f d v2 f2) : v1 = v2 ∧ f1 = f2 := by
  rcases h1 with ⟨a1, h1⟩ | ⟨a1, h1⟩ | ⟨a1, h1⟩ | ⟨a1, h1, g1⟩ | ⟨x1, x2, x3, x4, h1, g1⟩ <;> rcases h2 with ⟨a2, h2⟩ | ⟨a2, h2⟩ | ⟨a2, h2⟩ | ⟨a2, h2, g2⟩ | ⟨y1, y2, y3, y4, h2, g2⟩ <;> try omega
  · rcases h1 with ⟨i, e1, l1, rfl, rfl⟩ | ⟨o1, rfl, rfl⟩ <;> rcases h2 with ⟨j, e2, l2, rfl, rfl⟩ | ⟨o2, rfl, rfl⟩
    · obtain rfl : i = j := by omega
      exact ⟨rfl, rfl⟩
    · omega
    · omega
    · exact ⟨rfl, rfl⟩
  · rcases h1 with ⟨rfl, n1, rfl⟩ | ⟨i, k, rfl, i1, rfl⟩ <;> rcases h2 with ⟨rfl, n2, rfl⟩ | ⟨j, l, rfl, i2, rfl⟩
    · exact ⟨rfl, rfl⟩
    · have := i2.1; rw [n1] at this; cases this
    · have := i1.1; rw [n2] at this; cases this
    · obtain ⟨rfl, rfl⟩ := i1.unique i2
      exact ⟨rfl, rfl⟩
  · rcases h1 with ⟨i, k, e1, l1, rfl, rfl⟩ | ⟨o1, rfl, rfl⟩ <;> rcases h2 with ⟨j, l, e2, l2, rfl, rfl⟩ | ⟨o2, rfl, rfl⟩
    · obtain rfl : i = j := by omega
      exact ⟨rfl, rfl⟩
    · rw [o2 i e1] at l1; cases l1
    · rw [o1 j e2] at l2; cases l2
    · exact ⟨rfl, rfl⟩
  · exact ⟨h1.trans h2.symm, g1.trans g2.symm⟩
  · exact ⟨h1.trans h2.symm, g1.trans g2.symm⟩
theorem DidV.told {n : Nat} {f f' : Nat → Option Int} {d : Int × Int × Int} {v : Value} (h : DidV n f d v f') : ∃ a b c, v = told a b c := by
  rcases h with ⟨_, ⟨i, _, _, rfl, _⟩ | ⟨_, rfl, _⟩⟩ | ⟨_, ⟨rfl, _, _⟩ | ⟨i, k, rfl, _, _⟩⟩ | ⟨_, ⟨i, k, _, _, rfl, _⟩ | ⟨_, rfl, _⟩⟩ | ⟨_, rfl, _⟩ | ⟨_, _, _, _, rfl, _⟩ <;> exact ⟨_, _, _, rfl⟩
theorem did_any (g n : Nat) (S : Nat → Prop) (f : Nat → Option Int) (d : Int × Int × Int) (w : World) (h : Hq w g S n f) : Calls Try.prog 14 #[ptr g, doV d] w fun e w' => ∃ v f', e = .returned v ∧ DidV n f d v f' ∧ Did w g n S f' w' := by
  obtain ⟨kind, id, key⟩ := d
  have HB := Lib.hid ((Below.refl w.heap.size w).alloc (Nat.le_refl _) (.cells #[.int .i64 kind, .int .i64 id, .int .i64 key] 37))
  have HH := Lib.hid (h.below HB.out)
  have HH0 := Lib.hid h
  clear h
  unfold doV
  dsimp only
  by_cases h1 : kind = 1
  · subst h1
    by_cases hid : 0 ≤ id ∧ id < n
    · obtain ⟨i, rfl⟩ : ∃ i : Nat, id = i := ⟨id.toNat, by omega⟩
      have hi : i < n := by omega
      go_enter Try.func14, Try.ntmps14
      go_wp2_with fail
      refine (set_in g n i S f key _ HH.out hi).mono ?_
      rintro e w2 ⟨rfl, hd⟩
      have HD := Lib.hid hd
      clear hd
      go_wp2
      go_ret3
      exact ⟨_, _, rfl, .inl ⟨rfl, .inl ⟨i, rfl, hi, rfl, rfl⟩⟩, HD.out.after HB.out⟩
    · have hz : id < 0 ∨ (n : Int) ≤ id := by omega
      have HZ := Lib.hid hz
      clear hz hid
      go_enter Try.func14, Try.ntmps14
      go_wp2_with fail
      refine (set_out g n S f id key _ HH.out HZ.out).mono ?_
      rintro e w2 ⟨rfl, rfl⟩
      go_wp2
      go_ret3
      exact ⟨_, _, rfl, .inl ⟨rfl, .inr ⟨HZ.out, rfl, rfl⟩⟩, Did.refl HH0.out HB.out⟩
  · by_cases h2 : kind = 2
    · subst h2
      go_enter Try.func14, Try.ntmps14
      go_wp2_with fail
      refine (pop_any g n S f _ HH.out).mono ?_
      rintro e w2 (⟨rfl, hn, hd⟩ | ⟨i, k, rfl, hf, hd⟩)
      · have HN := Lib.hid hn
        have HD := Lib.hid hd
        clear hn hd
        unfold told
        go_wp2
        go_ret3
        exact ⟨_, _, rfl, .inr (.inl ⟨rfl, .inl ⟨rfl, HN.out, rfl⟩⟩), HD.out.after HB.out⟩
      · have HN := Lib.hid hf
        have HD := Lib.hid hd
        clear hf hd
        unfold told
        go_wp2
        go_ret3
        exact ⟨_, _, rfl, .inr (.inl ⟨rfl, .inr ⟨i, k, rfl, HN.out, rfl⟩⟩), HD.out.after HB.out⟩
    · by_cases h3 : kind = 3
      · subst h3
        by_cases hid : ∃ i : Nat, id = i ∧ ∃ k, f i = some k
        · obtain ⟨i, rfl, k, hf⟩ := hid
          have HN := Lib.hid hf
          clear hf
          go_enter Try.func14, Try.ntmps14
          go_wp2_with fail
          refine (drop_yes g n i S f k _ HH.out HN.out).mono ?_
          rintro e w2 ⟨rfl, hd⟩
          have HD := Lib.hid hd
          clear hd
          go_wp2
          go_ret3
          exact ⟨_, _, rfl, .inr (.inr (.inl ⟨rfl, .inl ⟨i, k, rfl, HN.out, rfl, rfl⟩⟩)), HD.out.after HB.out⟩
        · have hno : ∀ i : Nat, id = i → f i = none := fun i hi => by
            cases hf : f i with
            | none => rfl
            | some k => exact absurd ⟨i, hi, k, hf⟩ hid
          have HC : Hid (Calls Try.prog 22 #[ptr g, .int .i64 id] (w.alloc (.cells #[.int .i64 3, .int .i64 id, .int .i64 key] 37)) fun e w' => e = .returned (.bool false) ∧ w' = w.alloc (.cells #[.int .i64 3, .int .i64 id, .int .i64 key] 37)) := by
            by_cases hz : id < 0 ∨ (n : Int) ≤ id
            · exact drop_out g n S f id _ HH.out hz
            · obtain ⟨i, rfl⟩ : ∃ i : Nat, id = i := ⟨id.toNat, by omega⟩
              exact drop_no g n i S f _ HH.out (by omega) (hno i rfl)
          have HN := Lib.hid hno
          clear hno hid
          go_enter Try.func14, Try.ntmps14
          go_wp2_with fail
          refine HC.out.mono ?_
          rintro e w2 ⟨rfl, rfl⟩
          go_wp2
          go_ret3
          exact ⟨_, _, rfl, .inr (.inr (.inl ⟨rfl, .inr ⟨HN.out, rfl, rfl⟩⟩)), Did.refl HH0.out HB.out⟩
      · by_cases h4 : kind = 4
        · subst h4
          go_enter Try.func14, Try.ntmps14
          go_wp2_with fail
          refine (clear_any g n S f _ HH.out).mono ?_
          rintro e w2 ⟨rfl, hd⟩
          have HD := Lib.hid hd
          clear hd
          go_wp2
          go_ret3
          exact ⟨_, _, rfl, .inr (.inr (.inr (.inl ⟨rfl, rfl, rfl⟩))), HD.out.after HB.out⟩
        · have b1 : (kind == 1) = false := by simpa using h1
          have b2 : (kind == 2) = false := by simpa using h2
          have b3 : (kind == 3) = false := by simpa using h3
          have b4 : (kind == 4) = false := by simpa using h4
          have HN := Lib.hid (And.intro h1 (And.intro h2 (And.intro h3 h4)))
          clear h1 h2 h3 h4
          go_enter Try.func14, Try.ntmps14
          go_wp2
          go_ret3
          exact ⟨_, _, rfl, .inr (.inr (.inr (.inr ⟨HN.out.1, HN.out.2.1, HN.out.2.2.1, HN.out.2.2.2, rfl, rfl⟩))), Did.refl HH0.out HB.out⟩
end Go.Proofs.Ythpfhimdgmckgaa
