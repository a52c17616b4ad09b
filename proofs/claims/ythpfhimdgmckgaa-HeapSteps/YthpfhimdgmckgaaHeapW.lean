/- Walks: the document's Step. -/
import Derived.Test.YthpfhimdgmckgaaHeapV
namespace Go.Proofs.Ythpfhimdgmckgaa
open Go.RowKit Hp

/-- What Step lays first. -/
abbrev st0 (w : World) (n : Int) (v : Value) (d : Int × Int × Int) : World :=
  (((w.alloc (.cells #[.int .i64 n, v] 26)).alloc (.cells #[.int .i64 d.1, .int .i64 d.2.1, .int .i64 d.2.2] 37)).alloc (.cells #[.int .i64 0, .slice none 0 0] 26)).alloc (.cells #[.int .i64 0, .int .i64 0] 33)
theorem st0_b (w : World) (n : Int) (v : Value) (d : Int × Int × Int) : Below w.heap.size w (st0 w n v d) := ((((Below.refl _ _).alloc (Nat.le_refl _) _).alloc (by simp) _).alloc (by simp; omega) _).alloc (by simp; omega) _
theorem st0_rows (w : World) (n : Int) (v : Value) (d : Int × Int × Int) : Row (st0 w n v d) w.heap.size 26 #[.int .i64 n, v] ∧ Row (st0 w n v d) (w.heap.size + 1 + 1) 26 #[.int .i64 0, .slice none 0 0] ∧ Row (st0 w n v d) (w.heap.size + 1 + 1 + 1) 33 #[.int .i64 0, .int .i64 0] := by
  refine ⟨(((Row.fresh w _ _).past _).past _).past _, ?_, ?_⟩
  · have := (Row.fresh ((w.alloc (.cells #[.int .i64 n, v] 26)).alloc (.cells #[.int .i64 d.1, .int .i64 d.2.1, .int .i64 d.2.2] 37)) 26 #[.int .i64 0, .slice none 0 0]).past (.cells #[.int .i64 0, .int .i64 0] 33)
    simpa using this
  · have := Row.fresh (((w.alloc (.cells #[.int .i64 n, v] 26)).alloc (.cells #[.int .i64 d.1, .int .i64 d.2.1, .int .i64 d.2.2] 37)).alloc (.cells #[.int .i64 0, .slice none 0 0] 26)) 33 #[.int .i64 0, .int .i64 0]
    simpa using this
/-- What Step leaves. -/
def Stepped (w : World) (n : Nat) (v : Value) (f : Nat → Option Int) (d : Int × Int × Int) (e : Ending) (w' : World) : Prop :=
  ∃ (v' : Value) (t' : List (Int × Int)) (f' : Nat → Option Int) (x : Int × Int) (b : Bool), e = .returned (.tuple #[tV n v', .agg #[.int .i64 x.1, .int .i64 x.2], .bool b]) ∧ IV w' v' t' ∧ (∀ k, v'.ownBlock = some k → v.ownBlock = some k ∨ w.heap.size ≤ k) ∧ Rel f' t' ∧ DidV n f d (told x.1 x.2 b) f' ∧ Below w.heap.size w w'

theorem IV.four {w : World} {v : Value} {t : List (Int × Int)} (h : IV w v t) {p q : Nat} (h4 : v.ownBlock ≠ some p) (h5 : v.ownBlock ≠ some q) (x0 x1 y0 y1 : Value) : IV ((((w.setCell ⟨p, 0, none⟩ x0).setCell ⟨p, 1, none⟩ x1).setCell ⟨q, 0, none⟩ y0).setCell ⟨q, 1, none⟩ y1) v t :=
  (((h.cell (p := ⟨p, 0, none⟩) h4 x0).cell (p := ⟨p, 1, none⟩) h4 x1).cell (p := ⟨q, 0, none⟩) h5 y0).cell (p := ⟨q, 1, none⟩) h5 y1
theorem below_four {K : Nat} {a w : World} (h : Below K a w) {p q : Nat} (h4 : K ≤ p) (h5 : K ≤ q) (x0 x1 y0 y1 : Value) : Below K a ((((w.setCell ⟨p, 0, none⟩ x0).setCell ⟨p, 1, none⟩ x1).setCell ⟨q, 0, none⟩ y0).setCell ⟨q, 1, none⟩ y1) :=
  (((h.setCell (p := ⟨p, 0, none⟩) h4 x0).setCell (p := ⟨p, 1, none⟩) h4 x1).setCell (p := ⟨q, 0, none⟩) h5 y0).setCell (p := ⟨q, 1, none⟩) h5 y1
theorem rstep_set_in (n : Nat) (i : Nat) (key : Int) (f : Nat → Option Int) (v : Value) (t : List (Int × Int)) (w : World) (h : IV w v t) (hr : Rel f t) (hl : t.length ≤ 1000000) (hi : i < n) : Calls Try.prog 13 #[tV n v, doV (1, (i : Int), key)] w fun e w' => Stepped w n v f (1, (i : Int), key) e w' := by
  obtain ⟨ad, c, rfl⟩ := h.shape
  have HB0 := Lib.hid (st0_b w n (.slice ad t.length c) (1, (i : Int), key))
  have HR0 := Lib.hid (st0_rows w n (.slice ad t.length c) (1, (i : Int), key))
  have HV := Lib.hid (h.under HB0.out)
  have HR := Lib.hid hr
  have HVL := Lib.hid (fun k hk => h.lt k hk)
  have hi1 : (i : Int) < (n : Int) := by omega
  clear h hr
  unfold doV
  dsimp only
  go_enter Try.func13, Try.ntmps13
  go_wp2_with fail
  refine (rset_in n i key _ t _ HV.out hl (by omega) hi1).mono ?_
  rintro e w1 ⟨v1, rfl, hiv, hfr, hb⟩
  obtain ⟨a1, c1, rfl⟩ := hiv.shape
  generalize hm1 : (dropL t i ++ [((i : Int), key)]).length = m1 at *
  have hz : w.heap.size + 4 ≤ w1.heap.size := by have := hb.size; simp at this; omega
  have r4 := HR0.out.2.1.under hb (by simp)
  have r5 := HR0.out.2.2.under hb (by simp)
  have rb := HR0.out.1.under hb (by simp; omega)
  have p0 : w1.cell? ⟨w.heap.size + 1 + 1, 0, none⟩ = some (.int .i64 0) := r4.cell 0
  have p1 : w1.cell? ⟨w.heap.size + 1 + 1, 1, none⟩ = some (.slice none 0 0) := r4.cell 1
  have pf0 := r4.thaw 0
  have pf1 := r4.thaw 1
  have q0 : w1.cell? ⟨w.heap.size + 1 + 1 + 1, 0, none⟩ = some (.int .i64 0) := r5.cell 0
  have q1 : w1.cell? ⟨w.heap.size + 1 + 1 + 1, 1, none⟩ = some (.int .i64 0) := r5.cell 1
  have qf0 := r5.thaw 0
  have qf1 := r5.thaw 1
  have b0 : w1.cell? ⟨w.heap.size, 0, none⟩ = some (.int .i64 n) := rb.cell 0
  have b1 : w1.cell? ⟨w.heap.size, 1, none⟩ = some (.slice ad t.length c) := rb.cell 1
  have l4 := r4.lt
  have l5 := r5.lt
  have lB := rb.lt
  have HI := Lib.hid hiv
  have HF := Lib.hid (show ∀ k, (Value.slice a1 m1 c1).ownBlock = some k → w.heap.size + 4 ≤ k from fun k hk => by have := hfr k hk; simp at this; omega)
  have HB := Lib.hid (then_below HB0.out hb)
  clear hiv hfr hb r4 r5 rb hm1 HV HR0 HB0
  go_wp2
  refine bodyPost_ret (v := .tuple #[tV n (.slice a1 m1 c1), .agg #[.int .i64 0, .int .i64 0], .bool true]) (by simp [results, Try.results13, go_sem, World.cell?_alloc_lt, l4, l5, p0, p1, q0, q1]) rfl ?_
  exact ⟨_, _, _, (0, 0), true, rfl, (HI.out.four (fun e => by have := HF.out _ e; omega) (fun e => by have := HF.out _ e; omega) _ _ _ _).under ((Below.refl _ _).alloc (Nat.le_refl _) _), fun k hk => .inr (by have := HF.out k hk; omega), HR.out.set i key, .inl ⟨rfl, .inl ⟨i, rfl, hi, rfl, rfl⟩⟩, (below_four HB.out (by omega) (by omega) _ _ _ _).alloc (by have := HB.out.size; simp; omega) _⟩
theorem rstep_set_out (n : Nat) (id key : Int) (f : Nat → Option Int) (v : Value) (t : List (Int × Int)) (w : World) (h : IV w v t) (hr : Rel f t) (hl : t.length ≤ 1000000) (hz : id < 0 ∨ (n : Int) ≤ id) : Calls Try.prog 13 #[tV n v, doV (1, id, key)] w fun e w' => Stepped w n v f (1, id, key) e w' := by
  obtain ⟨ad, c, rfl⟩ := h.shape
  have HB0 := Lib.hid (st0_b w n (.slice ad t.length c) (1, id, key))
  have HR0 := Lib.hid (st0_rows w n (.slice ad t.length c) (1, id, key))
  have HV := Lib.hid (h.under HB0.out)
  have HR := Lib.hid hr
  have HVL := Lib.hid (fun k hk => h.lt k hk)
  clear h hr
  unfold doV
  dsimp only
  go_enter Try.func13, Try.ntmps13
  go_wp2_with fail
  refine (rset_out n id key _ t _ HV.out hz).mono ?_
  rintro e w1 ⟨rfl, hb⟩
  have hz2 : w.heap.size + 4 ≤ w1.heap.size := by have := hb.size; simp at this; omega
  have r4 := HR0.out.2.1.under hb (by simp)
  have r5 := HR0.out.2.2.under hb (by simp)
  have rb := HR0.out.1.under hb (by simp; omega)
  have p0 : w1.cell? ⟨w.heap.size + 1 + 1, 0, none⟩ = some (.int .i64 0) := r4.cell 0
  have p1 : w1.cell? ⟨w.heap.size + 1 + 1, 1, none⟩ = some (.slice none 0 0) := r4.cell 1
  have pf0 := r4.thaw 0
  have pf1 := r4.thaw 1
  have q0 : w1.cell? ⟨w.heap.size + 1 + 1 + 1, 0, none⟩ = some (.int .i64 0) := r5.cell 0
  have q1 : w1.cell? ⟨w.heap.size + 1 + 1 + 1, 1, none⟩ = some (.int .i64 0) := r5.cell 1
  have qf0 := r5.thaw 0
  have qf1 := r5.thaw 1
  have b0 : w1.cell? ⟨w.heap.size, 0, none⟩ = some (.int .i64 n) := rb.cell 0
  have b1 : w1.cell? ⟨w.heap.size, 1, none⟩ = some (.slice ad t.length c) := rb.cell 1
  have l4 := r4.lt
  have l5 := r5.lt
  have lB := rb.lt
  have HI := Lib.hid (HV.out.under hb)
  have HB := Lib.hid (then_below HB0.out hb)
  have HZ := Lib.hid hz
  clear hb r4 r5 rb HV HR0 HB0 hz
  go_wp2
  refine bodyPost_ret (v := .tuple #[tV n (.slice ad t.length c), .agg #[.int .i64 0, .int .i64 0], .bool false]) (by simp [results, Try.results13, go_sem, World.cell?_alloc_lt, l4, l5, p0, p1, q0, q1]) rfl ?_
  exact ⟨_, t, f, (0, 0), false, rfl, (HI.out.four (fun e => by have := HVL.out _ e; omega) (fun e => by have := HVL.out _ e; omega) _ _ _ _).under ((Below.refl _ _).alloc (Nat.le_refl _) _), fun k hk => .inl hk, HR.out, .inl ⟨rfl, .inr ⟨HZ.out, rfl, rfl⟩⟩, (below_four HB.out (by omega) (by omega) _ _ _ _).alloc (by have := HB.out.size; simp; omega) _⟩
theorem rstep_drop_yes (n : Nat) (i : Nat) (k key : Int) (f : Nat → Option Int) (v : Value) (t : List (Int × Int)) (w : World) (h : IV w v t) (hr : Rel f t) (hl : t.length ≤ 1000000) (hf : f i = some k) : Calls Try.prog 13 #[tV n v, doV (3, (i : Int), key)] w fun e w' => Stepped w n v f (3, (i : Int), key) e w' := by
  obtain ⟨ad, c, rfl⟩ := h.shape
  have HB0 := Lib.hid (st0_b w n (.slice ad t.length c) (3, (i : Int), key))
  have HR0 := Lib.hid (st0_rows w n (.slice ad t.length c) (3, (i : Int), key))
  have HV := Lib.hid (h.under HB0.out)
  have HR := Lib.hid hr
  have HVL := Lib.hid (fun k hk => h.lt k hk)
  have HFi := Lib.hid hf
  have HD := Lib.hid (show decide ((dropL t i).length < t.length) = true from decide_eq_true (HR.out.drop_lt i k HFi.out))
  clear hf
  clear h hr
  unfold doV
  dsimp only
  go_enter Try.func13, Try.ntmps13
  go_wp2_with fail
  refine (rdrop_any n i _ t _ HV.out hl).mono ?_
  rintro e w1 ⟨v1, rfl, hiv, hfr, hb⟩
  obtain ⟨a1, c1, rfl⟩ := hiv.shape
  rw [HD.out]
  generalize hm1 : (dropL t i).length = m1 at *
  have hz : w.heap.size + 4 ≤ w1.heap.size := by have := hb.size; simp at this; omega
  have r4 := HR0.out.2.1.under hb (by simp)
  have r5 := HR0.out.2.2.under hb (by simp)
  have rb := HR0.out.1.under hb (by simp; omega)
  have p0 : w1.cell? ⟨w.heap.size + 1 + 1, 0, none⟩ = some (.int .i64 0) := r4.cell 0
  have p1 : w1.cell? ⟨w.heap.size + 1 + 1, 1, none⟩ = some (.slice none 0 0) := r4.cell 1
  have pf0 := r4.thaw 0
  have pf1 := r4.thaw 1
  have q0 : w1.cell? ⟨w.heap.size + 1 + 1 + 1, 0, none⟩ = some (.int .i64 0) := r5.cell 0
  have q1 : w1.cell? ⟨w.heap.size + 1 + 1 + 1, 1, none⟩ = some (.int .i64 0) := r5.cell 1
  have qf0 := r5.thaw 0
  have qf1 := r5.thaw 1
  have b0 : w1.cell? ⟨w.heap.size, 0, none⟩ = some (.int .i64 n) := rb.cell 0
  have b1 : w1.cell? ⟨w.heap.size, 1, none⟩ = some (.slice ad t.length c) := rb.cell 1
  have l4 := r4.lt
  have l5 := r5.lt
  have lB := rb.lt
  have HI := Lib.hid hiv
  have HF := Lib.hid (show ∀ k, (Value.slice a1 m1 c1).ownBlock = some k → w.heap.size + 4 ≤ k from fun k hk => by have := hfr k hk; simp at this; omega)
  have HB := Lib.hid (then_below HB0.out hb)
  clear hiv hfr hb r4 r5 rb hm1 HV HR0 HB0 HD
  go_wp2
  refine bodyPost_ret (v := .tuple #[tV n (.slice a1 m1 c1), .agg #[.int .i64 0, .int .i64 0], .bool true]) (by simp [results, Try.results13, go_sem, World.cell?_alloc_lt, l4, l5, p0, p1, q0, q1]) rfl ?_
  exact ⟨_, _, (upd f i none), (0, 0), true, rfl, (HI.out.four (fun e => by have := HF.out _ e; omega) (fun e => by have := HF.out _ e; omega) _ _ _ _).under ((Below.refl _ _).alloc (Nat.le_refl _) _), fun k hk => .inr (by have := HF.out k hk; omega), (HR.out.drop i), .inr (.inr (.inl ⟨rfl, .inl ⟨i, k, rfl, HFi.out, rfl, rfl⟩⟩)), (below_four HB.out (by omega) (by omega) _ _ _ _).alloc (by have := HB.out.size; simp; omega) _⟩
theorem rstep_drop_no (n : Nat) (id key : Int) (f : Nat → Option Int) (v : Value) (t : List (Int × Int)) (w : World) (h : IV w v t) (hr : Rel f t) (hl : t.length ≤ 1000000) (hf : ∀ i : Nat, id = i → f i = none) : Calls Try.prog 13 #[tV n v, doV (3, id, key)] w fun e w' => Stepped w n v f (3, id, key) e w' := by
  obtain ⟨ad, c, rfl⟩ := h.shape
  have HB0 := Lib.hid (st0_b w n (.slice ad t.length c) (3, id, key))
  have HR0 := Lib.hid (st0_rows w n (.slice ad t.length c) (3, id, key))
  have HV := Lib.hid (h.under HB0.out)
  have HR := Lib.hid hr
  have HVL := Lib.hid (fun k hk => h.lt k hk)
  have HFi := Lib.hid hf
  have HD := Lib.hid (show decide ((dropL t id).length < t.length) = false from decide_eq_false (by rw [HR.out.drop_none id HFi.out]; omega))
  clear hf
  clear h hr
  unfold doV
  dsimp only
  go_enter Try.func13, Try.ntmps13
  go_wp2_with fail
  refine (rdrop_any n id _ t _ HV.out hl).mono ?_
  rintro e w1 ⟨v1, rfl, hiv, hfr, hb⟩
  obtain ⟨a1, c1, rfl⟩ := hiv.shape
  rw [HD.out]
  generalize hm1 : (dropL t id).length = m1 at *
  have hz : w.heap.size + 4 ≤ w1.heap.size := by have := hb.size; simp at this; omega
  have r4 := HR0.out.2.1.under hb (by simp)
  have r5 := HR0.out.2.2.under hb (by simp)
  have rb := HR0.out.1.under hb (by simp; omega)
  have p0 : w1.cell? ⟨w.heap.size + 1 + 1, 0, none⟩ = some (.int .i64 0) := r4.cell 0
  have p1 : w1.cell? ⟨w.heap.size + 1 + 1, 1, none⟩ = some (.slice none 0 0) := r4.cell 1
  have pf0 := r4.thaw 0
  have pf1 := r4.thaw 1
  have q0 : w1.cell? ⟨w.heap.size + 1 + 1 + 1, 0, none⟩ = some (.int .i64 0) := r5.cell 0
  have q1 : w1.cell? ⟨w.heap.size + 1 + 1 + 1, 1, none⟩ = some (.int .i64 0) := r5.cell 1
  have qf0 := r5.thaw 0
  have qf1 := r5.thaw 1
  have b0 : w1.cell? ⟨w.heap.size, 0, none⟩ = some (.int .i64 n) := rb.cell 0
  have b1 : w1.cell? ⟨w.heap.size, 1, none⟩ = some (.slice ad t.length c) := rb.cell 1
  have l4 := r4.lt
  have l5 := r5.lt
  have lB := rb.lt
  have HI := Lib.hid hiv
  have HF := Lib.hid (show ∀ k, (Value.slice a1 m1 c1).ownBlock = some k → w.heap.size + 4 ≤ k from fun k hk => by have := hfr k hk; simp at this; omega)
  have HB := Lib.hid (then_below HB0.out hb)
  clear hiv hfr hb r4 r5 rb hm1 HV HR0 HB0 HD
  go_wp2
  refine bodyPost_ret (v := .tuple #[tV n (.slice a1 m1 c1), .agg #[.int .i64 0, .int .i64 0], .bool false]) (by simp [results, Try.results13, go_sem, World.cell?_alloc_lt, l4, l5, p0, p1, q0, q1]) rfl ?_
  exact ⟨_, _, (f), (0, 0), false, rfl, (HI.out.four (fun e => by have := HF.out _ e; omega) (fun e => by have := HF.out _ e; omega) _ _ _ _).under ((Below.refl _ _).alloc (Nat.le_refl _) _), fun k hk => .inr (by have := HF.out k hk; omega), (by rw [HR.out.drop_none id HFi.out]; exact HR.out), .inr (.inr (.inl ⟨rfl, .inr ⟨HFi.out, rfl, rfl⟩⟩)), (below_four HB.out (by omega) (by omega) _ _ _ _).alloc (by have := HB.out.size; simp; omega) _⟩
theorem rstep_clear (n : Nat) (id key : Int) (f : Nat → Option Int) (v : Value) (t : List (Int × Int)) (w : World) (h : IV w v t) (hr : Rel f t) (hl : t.length ≤ 1000000) : Calls Try.prog 13 #[tV n v, doV (4, id, key)] w fun e w' => Stepped w n v f (4, id, key) e w' := by
  obtain ⟨ad, c, rfl⟩ := h.shape
  have HB0 := Lib.hid (st0_b w n (.slice ad t.length c) (4, id, key))
  have HR0 := Lib.hid (st0_rows w n (.slice ad t.length c) (4, id, key))
  have HV := Lib.hid (h.under HB0.out)
  have HR := Lib.hid hr
  have HVL := Lib.hid (fun k hk => h.lt k hk)
  clear h hr
  unfold doV
  dsimp only
  go_enter Try.func13, Try.ntmps13
  go_wp2
  refine bodyPost_ret (v := .tuple #[tV n (.slice none 0 0), .agg #[.int .i64 0, .int .i64 0], .bool false]) (by simp [results, Try.results13, go_sem]) rfl ?_
  exact ⟨_, [], _, (0, 0), false, rfl, IV.nil _, fun k hk => by simp [Value.ownBlock] at hk, Rel.nil, .inr (.inr (.inr (.inl ⟨rfl, rfl, rfl⟩))), ((((Below.refl _ _).alloc (Nat.le_refl _) _).alloc (by simp) _).alloc (by simp; omega) _).alloc (by simp; omega) _⟩
theorem rstep_else (n : Nat) (kd id key : Int) (f : Nat → Option Int) (v : Value) (t : List (Int × Int)) (w : World) (h : IV w v t) (hr : Rel f t) (hl : t.length ≤ 1000000) (h1 : kd ≠ 1) (h2 : kd ≠ 2) (h3 : kd ≠ 3) (h4 : kd ≠ 4) : Calls Try.prog 13 #[tV n v, doV (kd, id, key)] w fun e w' => Stepped w n v f (kd, id, key) e w' := by
  obtain ⟨ad, c, rfl⟩ := h.shape
  have HB0 := Lib.hid (st0_b w n (.slice ad t.length c) (kd, id, key))
  have HR0 := Lib.hid (st0_rows w n (.slice ad t.length c) (kd, id, key))
  have HV := Lib.hid (h.under HB0.out)
  have HR := Lib.hid hr
  have HV0 := Lib.hid h
  have HVL := Lib.hid (fun k hk => h.lt k hk)
  have b1 : (kd == 1) = false := by simpa using h1
  have b2 : (kd == 2) = false := by simpa using h2
  have b3 : (kd == 3) = false := by simpa using h3
  have b4 : (kd == 4) = false := by simpa using h4
  have HN := Lib.hid (And.intro h1 (And.intro h2 (And.intro h3 h4)))
  clear h1 h2 h3 h4
  clear h hr
  unfold doV
  dsimp only
  go_enter Try.func13, Try.ntmps13
  go_wp2
  refine bodyPost_ret (v := .tuple #[tV n (.slice ad t.length c), .agg #[.int .i64 0, .int .i64 0], .bool false]) (by simp [results, Try.results13, go_sem]) rfl ?_
  have hb : Below w.heap.size w ((((w.alloc (.cells #[.int .i64 n, .slice ad t.length c] 26)).alloc (.cells #[.int .i64 kd, .int .i64 id, .int .i64 key] 37)).alloc (.cells #[.int .i64 n, .slice ad t.length c] 26)).alloc (.cells #[.int .i64 0, .int .i64 0] 33)) := ((((Below.refl _ _).alloc (Nat.le_refl _) _).alloc (by simp) _).alloc (by simp; omega) _).alloc (by simp; omega) _
  exact ⟨_, t, f, (0, 0), false, rfl, HV0.out.under hb, fun k hk => .inl hk, HR.out, .inr (.inr (.inr (.inr ⟨HN.out.1, HN.out.2.1, HN.out.2.2.1, HN.out.2.2.2, rfl, rfl⟩))), hb⟩
set_option maxHeartbeats 2000000 in
theorem rstep_pop_none (n : Nat) (id key : Int) (f : Nat → Option Int) (v : Value) (t : List (Int × Int)) (w : World) (h : IV w v t) (hr : Rel f t) (hl : t.length ≤ 1000000) (h0 : t.length = 0) : Calls Try.prog 13 #[tV n v, doV (2, id, key)] w fun e w' => Stepped w n v f (2, id, key) e w' := by
  obtain ⟨ad, c, rfl⟩ := h.shape
  have HB0 := Lib.hid (st0_b w n (.slice ad t.length c) (2, id, key))
  have HR0 := Lib.hid (st0_rows w n (.slice ad t.length c) (2, id, key))
  have HV := Lib.hid (h.under HB0.out)
  have HR := Lib.hid hr
  have HVL := Lib.hid (fun k hk => h.lt k hk)
  have H0 := Lib.hid h0
  clear h0
  clear h hr
  unfold doV
  dsimp only
  go_enter Try.func13, Try.ntmps13
  go_wp2_with fail
  refine (rfirst_any n _ t _ HV.out hl).mono ?_
  rintro e w1 ⟨⟨x, rfl, hx⟩, hb⟩
  obtain rfl : x = (0, 0) := by
    rcases hx with ⟨_, h⟩ | ⟨h, _⟩
    · exact h
    · rw [H0.out] at h; omega
  rw [show decide (0 < t.length) = false from decide_eq_false (by rw [H0.out]; omega)]
  dsimp only
  have hz : w.heap.size + 4 ≤ w1.heap.size := by have := hb.size; simp at this; omega
  have r4 := HR0.out.2.1.under hb (by simp)
  have r5 := HR0.out.2.2.under hb (by simp)
  have rb := HR0.out.1.under hb (by simp; omega)
  have p0 : w1.cell? ⟨w.heap.size + 1 + 1, 0, none⟩ = some (.int .i64 0) := r4.cell 0
  have p1 : w1.cell? ⟨w.heap.size + 1 + 1, 1, none⟩ = some (.slice none 0 0) := r4.cell 1
  have pf0 := r4.thaw 0
  have pf1 := r4.thaw 1
  have q0 : w1.cell? ⟨w.heap.size + 1 + 1 + 1, 0, none⟩ = some (.int .i64 0) := r5.cell 0
  have q1 : w1.cell? ⟨w.heap.size + 1 + 1 + 1, 1, none⟩ = some (.int .i64 0) := r5.cell 1
  have qf0 := r5.thaw 0
  have qf1 := r5.thaw 1
  have b0 : w1.cell? ⟨w.heap.size, 0, none⟩ = some (.int .i64 n) := rb.cell 0
  have b1 : w1.cell? ⟨w.heap.size, 1, none⟩ = some (.slice ad t.length c) := rb.cell 1
  have l4 := r4.lt
  have l5 := r5.lt
  have lB := rb.lt
  have HI := Lib.hid (HV.out.under hb)
  have HB := Lib.hid (then_below HB0.out hb)
  clear hx hb r4 r5 rb HV HR0 HB0
  go_wp2
  go_region
  go_wp2
  refine bodyPost_ret (v := .tuple #[tV n (.slice ad t.length c), .agg #[.int .i64 0, .int .i64 0], .bool false]) (by simp [results, Try.results13, go_sem, World.cell?_alloc_lt, l4, l5, p0, p1, q0, q1]) rfl ?_
  exact ⟨_, t, f, (0, 0), false, rfl, (HI.out.four (fun e => by have := HVL.out _ e; omega) (fun e => by have := HVL.out _ e; omega) _ _ _ _).under ((Below.refl _ _).alloc (Nat.le_refl _) _).drew, fun k hk => .inl hk, HR.out, .inr (.inl ⟨rfl, .inl ⟨rfl, HR.out.empty H0.out, rfl⟩⟩), ((below_four HB.out (by omega) (by omega) _ _ _ _).alloc (by have := HB.out.size; simp; omega) _).drew⟩
set_option maxHeartbeats 2000000 in
theorem rstep_pop_some (n : Nat) (id key : Int) (f : Nat → Option Int) (v : Value) (t : List (Int × Int)) (w : World) (h : IV w v t) (hr : Rel f t) (hl : t.length ≤ 1000000) (h0 : 0 < t.length) : Calls Try.prog 13 #[tV n v, doV (2, id, key)] w fun e w' => Stepped w n v f (2, id, key) e w' := by
  obtain ⟨ad, c, rfl⟩ := h.shape
  have HB0 := Lib.hid (st0_b w n (.slice ad t.length c) (2, id, key))
  have HR0 := Lib.hid (st0_rows w n (.slice ad t.length c) (2, id, key))
  have HV := Lib.hid (h.under HB0.out)
  have HR := Lib.hid hr
  have HVL := Lib.hid (fun k hk => h.lt k hk)
  have H0 := Lib.hid h0
  clear h0
  clear h hr
  unfold doV
  dsimp only
  go_enter Try.func13, Try.ntmps13
  go_wp2_with fail
  refine (rfirst_any n _ t _ HV.out hl).mono ?_
  rintro e w1 ⟨⟨x, rfl, hx⟩, hb⟩
  obtain ⟨i, k, rfl, hfi⟩ := HR.out.first hx H0.out
  rw [show decide (0 < t.length) = true from decide_eq_true H0.out]
  dsimp only
  have hz : w.heap.size + 4 ≤ w1.heap.size := by have := hb.size; simp at this; omega
  have r4 := HR0.out.2.1.under hb (by simp)
  have r5 := HR0.out.2.2.under hb (by simp)
  have rb := HR0.out.1.under hb (by simp; omega)
  have b0 : w1.cell? ⟨w.heap.size, 0, none⟩ = some (.int .i64 n) := rb.cell 0
  have b1 : w1.cell? ⟨w.heap.size, 1, none⟩ = some (.slice ad t.length c) := rb.cell 1
  have hbl : w.heap.size < w1.heap.size := by omega
  have HI1 := Lib.hid ((HV.out.under hb).under ((Below.refl _ _).alloc (Nat.le_refl _) (.cells #[.int .i64 i, .int .i64 k] 33)))
  have HB := Lib.hid ((then_below HB0.out hb).alloc (by omega) (.cells #[.int .i64 i, .int .i64 k] 33))
  have H4 := Lib.hid (r4.past (.cells #[.int .i64 i, .int .i64 k] 33))
  have H5 := Lib.hid (r5.past (.cells #[.int .i64 i, .int .i64 k] 33))
  have HBx := Lib.hid (rb.past (.cells #[.int .i64 i, .int .i64 k] 33))
  have HX := Lib.hid (Row.fresh w1 33 #[.int .i64 i, .int .i64 k])
  have HFi := Lib.hid hfi
  clear hx hb r4 r5 rb HV HR0 HB0 hfi
  go_wp2_with fail
  refine (rdrop_any n i _ t _ HI1.out hl).mono ?_
  rintro e w2 ⟨v1, rfl, hiv, hfr, hb⟩
  obtain ⟨a1, c1, rfl⟩ := hiv.shape
  generalize hm1 : (dropL t i).length = m1 at *
  have hz2 : w1.heap.size + 1 ≤ w2.heap.size := by have := hb.size; simp at this; omega
  have r4 := H4.out.under hb (by simp; omega)
  have r5 := H5.out.under hb (by simp; omega)
  have rb := HBx.out.under hb (by simp; omega)
  have rx := HX.out.under hb (by simp)
  have x0 : w2.cell? ⟨w1.heap.size, 0, none⟩ = some (.int .i64 i) := rx.cell 0
  have x1 : w2.cell? ⟨w1.heap.size, 1, none⟩ = some (.int .i64 k) := rx.cell 1
  have lx := rx.lt
  have n4 : w1.heap.size ≠ w.heap.size + 1 + 1 := by omega
  have n5 : w1.heap.size ≠ w.heap.size + 1 + 1 + 1 := by omega
  clear b0 b1
  have p0 : w2.cell? ⟨w.heap.size + 1 + 1, 0, none⟩ = some (.int .i64 0) := r4.cell 0
  have p1 : w2.cell? ⟨w.heap.size + 1 + 1, 1, none⟩ = some (.slice none 0 0) := r4.cell 1
  have pf0 := r4.thaw 0
  have pf1 := r4.thaw 1
  have q0 : w2.cell? ⟨w.heap.size + 1 + 1 + 1, 0, none⟩ = some (.int .i64 0) := r5.cell 0
  have q1 : w2.cell? ⟨w.heap.size + 1 + 1 + 1, 1, none⟩ = some (.int .i64 0) := r5.cell 1
  have qf0 := r5.thaw 0
  have qf1 := r5.thaw 1
  have b0 : w2.cell? ⟨w.heap.size, 0, none⟩ = some (.int .i64 n) := rb.cell 0
  have b1 : w2.cell? ⟨w.heap.size, 1, none⟩ = some (.slice ad t.length c) := rb.cell 1
  have l4 := r4.lt
  have l5 := r5.lt
  have lB := rb.lt
  have HI := Lib.hid hiv
  have HF := Lib.hid (show ∀ k, (Value.slice a1 m1 c1).ownBlock = some k → w.heap.size + 4 ≤ k from fun k hk => by have := hfr k hk; simp at this; omega)
  have HB2 := Lib.hid (then_below HB.out hb)
  clear hiv hfr hb r4 r5 rb rx hm1 H4 H5 HBx HX HB HI1
  go_wp2
  go_region
  go_wp2
  refine bodyPost_ret (v := .tuple #[tV n (.slice a1 m1 c1), .agg #[.int .i64 i, .int .i64 k], .bool true]) (by simp [results, Try.results13, go_sem, World.cell?_alloc_lt, l4, l5, p0, p1, q0, q1]) rfl ?_
  exact ⟨_, _, _, (i, k), true, rfl, (HI.out.four (fun e => by have := HF.out _ e; omega) (fun e => by have := HF.out _ e; omega) _ _ _ _).under ((Below.refl _ _).alloc (Nat.le_refl _) _).drew, fun k hk => .inr (by have := HF.out k hk; omega), HR.out.drop i, .inr (.inl ⟨rfl, .inr ⟨i, k, rfl, HFi.out, rfl⟩⟩), ((below_four HB2.out (by omega) (by omega) _ _ _ _).alloc (by have := HB2.out.size; simp; omega) _).drew⟩
theorem rstep_any (n : Nat) (d : Int × Int × Int) (f : Nat → Option Int) (v : Value) (t : List (Int × Int)) (w : World) (h : IV w v t) (hr : Rel f t) (hl : t.length ≤ 1000000) : Calls Try.prog 13 #[tV n v, doV d] w fun e w' => Stepped w n v f d e w' := by
  obtain ⟨kd, id, key⟩ := d
  by_cases h1 : kd = 1
  · subst h1
    by_cases hz : id < 0 ∨ (n : Int) ≤ id
    · exact rstep_set_out n id key f v t w h hr hl hz
    · obtain ⟨i, rfl⟩ : ∃ i : Nat, id = i := ⟨id.toNat, by omega⟩
      exact rstep_set_in n i key f v t w h hr hl (by omega)
  · by_cases h2 : kd = 2
    · subst h2
      by_cases h0 : t.length = 0
      · exact rstep_pop_none n id key f v t w h hr hl h0
      · exact rstep_pop_some n id key f v t w h hr hl (by omega)
    · by_cases h3 : kd = 3
      · subst h3
        by_cases hid : ∃ i : Nat, id = i ∧ ∃ k, f i = some k
        · obtain ⟨i, rfl, k, hf⟩ := hid
          exact rstep_drop_yes n i k key f v t w h hr hl hf
        · exact rstep_drop_no n id key f v t w h hr hl (fun i hi => by
            cases hf : f i with
            | none => rfl
            | some k => exact absurd ⟨i, hi, k, hf⟩ hid)
      · by_cases h4 : kd = 4
        · subst h4
          exact rstep_clear n id key f v t w h hr hl
        · exact rstep_else n kd id key f v t w h hr hl h1 h2 h3 h4
end Go.Proofs.Ythpfhimdgmckgaa
