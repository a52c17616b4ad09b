/- Walks: the heap's First, Drop, Pop, Key, Len, Clear, New. -/
import Derived.Test.YthpfhimdgmckgaaHeapJ
namespace Go.Proofs.Ythpfhimdgmckgaa
open Go.RowKit Hp

/-- i with the key k comes first. -/
def isFirst (f : Nat → Option Int) (i : Nat) (k : Int) : Prop := f i = some k ∧ ∀ j k', f j = some k' → k < k' ∨ (k = k' ∧ i ≤ j)
def told (i k : Int) (b : Bool) : Value := .tuple #[.int .i64 i, .int .i64 k, .bool b]
/-- What First tells. -/
def FirstV (f : Nat → Option Int) (v : Value) : Prop := (v = told 0 0 false ∧ ∀ i, f i = none) ∨ ∃ (i : Nat) (k : Int), v = told i k true ∧ isFirst f i k

theorem Did.after {w w1 w2 : World} {g : Nat} {S : Nat → Prop} {n : Nat} {f : Nat → Option Int} (h : Did w1 g n S f w2) (hb : Below w.heap.size w w1) : Did w g n S f w2 := by
  obtain ⟨S2, q1, q2, q3⟩ := h
  have := hb.size
  exact ⟨S2, q1, fun k hk => (q2 k hk).imp id (fun h => by omega), (Only.of_below S hb).trans q3 (fun i hi => .inl hi)⟩
theorem Did.then_below {w w1 w2 : World} {g : Nat} {S : Nat → Prop} {n : Nat} {f : Nat → Option Int} (h : Did w g n S f w1) (hb : Below w1.heap.size w1 w2) : Did w g n S f w2 := by
  obtain ⟨S2, q1, q2, q3⟩ := h
  exact ⟨S2, q1.below hb, q2, q3.trans (S' := fun _ => False) (Only.of_below _ hb) (fun _ f => f.elim)⟩
theorem len_nil (w : World) : Calls Try.prog 19 #[.pointer none] w fun e w' => e = .returned (.int .i64 0) ∧ w' = w := by
  go_enter Try.func19, Try.ntmps19
  go_wp2
  go_ret
  exact ⟨rfl, rfl⟩
theorem TreeV.shape {w : World} {tv : Value} {m : Nat} {e : Nat → Int × Nat} (h : TreeV w tv m e) : ∃ a c, tv = .slice a m c := by
  rcases h with ⟨rfl, rfl⟩ | ⟨tb, c, rfl, _⟩
  · exact ⟨_, _, rfl⟩
  · exact ⟨_, _, rfl⟩
theorem len_any (g n : Nat) (S : Nat → Prop) (f : Nat → Option Int) (w : World) (h : Hq w g S n f) : Calls Try.prog 19 #[ptr g] w fun e w' => e = .returned (.int .i64 (cnt n f)) ∧ w' = w := by
  obtain ⟨key, a, m, sb, p, e, tv, h1, h2, h3, h4, hr, ht, hs, h5, h6, h7, hS⟩ := h
  rw [cnt_of h2 h1]
  obtain ⟨x, c, rfl⟩ := ht.shape
  have HC := Lib.hid (size_any g m c x _ w hr)
  clear h1 h2 h3 h4 hr ht hs h5 h6 h7 hS
  go_enter Try.func19, Try.ntmps19
  go_wp2_with fail
  refine HC.out.mono ?_
  rintro e w1 ⟨rfl, rfl⟩
  go_wp2
  go_ret
  exact ⟨rfl, rfl⟩
theorem first_any (g n : Nat) (S : Nat → Prop) (f : Nat → Option Int) (w : World) (h : Hq w g S n f) : Calls Try.prog 16 #[ptr g] w fun e w' => (∃ v, e = .returned v ∧ FirstV f v) ∧ Below w.heap.size w w' := by
  obtain ⟨key, a, m, sb, p, e, tv, h1, h2, h3, h4, hr, ht, hs, h5, h6, h7, hS⟩ := h
  by_cases hm : m = 0
  · have HV := Lib.hid (show FirstV f (told 0 0 false) from .inl ⟨rfl, fun i => by
      cases hf : f i with
      | none => rfl
      | some k => obtain ⟨⟨j, hj, _⟩, _⟩ := (h1 i k).1 hf; omega⟩)
    obtain ⟨x, c, rfl⟩ := ht.shape
    subst hm
    have HC := Lib.hid (size_any g 0 c x _ w hr)
    clear h1 h2 h3 h4 hr ht hs h5 h6 h7 hS
    go_enter Try.func16, Try.ntmps16
    go_wp2_with fail
    refine HC.out.mono ?_
    rintro e w1 ⟨rfl, rfl⟩
    go_wp2
    go_ret3
    exact ⟨⟨_, rfl, HV.out⟩, Below.refl _ _⟩
  · obtain ⟨tb, c, rfl, hT⟩ := ht.some (by omega)
    have HV := Lib.hid (show FirstV f (told (a 0) (key (a 0)) true) from .inr ⟨a 0, key (a 0), rfl, (h1 _ _).2 ⟨⟨0, by omega, rfl⟩, rfl⟩, fun j k' hj => by
      obtain ⟨⟨l, hl, rfl⟩, rfl⟩ := (h1 j k').1 hj
      have := h3.first l hl
      unfold Hp.lt at this
      omega⟩)
    have HC := Lib.hid (size_any g m c _ _ w hr)
    have hat := at_in g tb c m 0 _ e w hr hT (by omega)
    rw [h2.ent 0 (by omega) (by omega)] at hat
    have HA := Lib.hid hat
    have hm' : ((m : Int) == 0) = false := by simp; omega
    clear h1 h2 h3 h4 hr ht hs h5 h6 h7 hS hT hat
    generalize a 0 = i0 at *
    generalize key i0 = k0 at *
    go_enter Try.func16, Try.ntmps16
    go_wp2_with fail
    refine HC.out.mono ?_
    rintro e w1 ⟨rfl, rfl⟩
    go_wp2_with fail
    refine HA.out.mono ?_
    rintro e w2 ⟨rfl, hb⟩
    have HB := Lib.hid hb
    clear hb
    go_wp2
    go_quiet (fail)
    go_wp2
    go_ret3
    exact ⟨⟨_, rfl, HV.out⟩, (HB.out.alloc HB.out.size _).trans ⟨rfl, rfl, rfl, Nat.le_refl _, fun _ _ => rfl⟩⟩
theorem drop_out (g n : Nat) (S : Nat → Prop) (f : Nat → Option Int) (z : Int) (w : World) (h : Hq w g S n f) (hz : z < 0 ∨ (n : Int) ≤ z) : Calls Try.prog 22 #[ptr g, .int .i64 z] w fun e w' => e = .returned (.bool false) ∧ w' = w := by
  obtain ⟨key, a, m, sb, p, e, tv, h1, h2, h3, h4, hr, ht, hs, h5, h6, h7, hS⟩ := h
  have HC := Lib.hid (holds_out g sb n z tv w hr hz)
  clear h1 h2 h3 h4 hr ht hs h5 h6 h7 hS hz
  go_enter Try.func22, Try.ntmps22
  go_wp2_with fail
  refine HC.out.mono ?_
  rintro e w1 ⟨rfl, rfl⟩
  go_wp2
  go_ret
  exact ⟨rfl, rfl⟩
theorem drop_no (g n i : Nat) (S : Nat → Prop) (f : Nat → Option Int) (w : World) (h : Hq w g S n f) (hi : i < n) (hf : f i = none) : Calls Try.prog 22 #[ptr g, .int .i64 i] w fun e w' => e = .returned (.bool false) ∧ w' = w := by
  obtain ⟨key, a, m, sb, p, e, tv, h1, h2, h3, h4, hr, ht, hs, h5, h6, h7, hS⟩ := h
  have HC := Lib.hid (holds_no g sb n i tv p w hr hs hi (h2.out i hi (fun j hj e1 => by have := (h1 i (key i)).2 ⟨⟨j, hj, e1⟩, rfl⟩; rw [hf] at this; cases this)))
  clear h1 h2 h3 h4 hr ht hs h5 h6 h7 hS hf
  go_enter Try.func22, Try.ntmps22
  go_wp2_with fail
  refine HC.out.mono ?_
  rintro e w1 ⟨rfl, rfl⟩
  go_wp2
  go_ret
  exact ⟨rfl, rfl⟩
theorem drop_yes (g n i : Nat) (S : Nat → Prop) (f : Nat → Option Int) (k : Int) (w : World) (h : Hq w g S n f) (hf : f i = some k) : Calls Try.prog 22 #[ptr g, .int .i64 i] w fun e w' => e = .returned (.bool true) ∧ Did w g n S (upd f i none) w' := by
  have hi := h.some_lt hf
  obtain ⟨key, a, m, sb, p, e, tv, h1, h2, h3, h4, hr, ht, hs, h5, h6, h7, hS⟩ := h
  obtain ⟨⟨j, hj, haj⟩, _⟩ := (h1 i k).1 hf
  have hmn : m ≤ n := by rw [← cnt_of h2 h1]; exact cnt_le n f
  obtain ⟨tb, c, rfl, hT⟩ := ht.some (by omega)
  have e6 : g ≠ tb := fun e => h6 (by rw [e]; rfl)
  have e7 : tb ≠ sb := fun e => h7 (by rw [e]; rfl)
  have hp : p i = j + 1 := by rw [← haj]; exact h2.pos j hj (by omega)
  have HC := Lib.hid (holds_yes g sb n i j _ p w hr hs hi hp)
  obtain ⟨m, rfl⟩ : ∃ m', m = m' + 1 := ⟨m - 1, by omega⟩
  have HM := Lib.hid ((remove_any g tb sb c n m i j e p w ⟨hr, hT, hs, e6, h5, e7, h4, hmn⟩ hi hj key a h2 h3 haj).mono (R' := fun e' w' => e' = .returned (.tuple #[]) ∧ Did w g n S (upd f i none) w') (by
    rintro e' w' ⟨rfl, ⟨a', e1, p1, q1, q2, q3, q4⟩, q5⟩
    refine ⟨rfl, S, ⟨key, a', m, sb, p1, e1, .slice (some ⟨tb, 0, none⟩) m c, fun l kl => ?_, q2, q3, h4, q1.1, .inr ⟨tb, c, rfl, q1.2.1⟩, q1.2.2.1, h5, h6, h7, hS⟩, fun k hk => .inl hk, q5.mono (fun x hx => .inl ((hS x).2 ?_))⟩
    · rw [q4 l]
      by_cases el : l = i
      · subst el
        rw [upd_same]
        exact ⟨(fun e => by cases e), fun e => absurd rfl e.1.2⟩
      · rw [upd_other _ _ _ _ el, h1 l kl]
        exact ⟨fun ⟨x, y⟩ => ⟨⟨x, el⟩, y⟩, fun ⟨x, y⟩ => ⟨x.1, y⟩⟩
    · rcases hx with rfl | rfl | rfl
      · exact .inl rfl
      · exact .inr (.inl rfl)
      · exact .inr (.inr rfl)))
  clear h1 h2 h3 h4 hr ht hs h5 h6 h7 hS hf hT hp haj e6 e7
  go_enter Try.func22, Try.ntmps22
  go_wp2_with fail
  refine HC.out.mono ?_
  rintro e w1 ⟨rfl, rfl⟩
  go_wp2_with fail
  refine HM.out.mono ?_
  rintro e w2 ⟨rfl, hd⟩
  have HD := Lib.hid hd
  clear hd
  go_wp2
  go_ret
  exact ⟨rfl, HD.out⟩
theorem pop_any (g n : Nat) (S : Nat → Prop) (f : Nat → Option Int) (w : World) (h : Hq w g S n f) : Calls Try.prog 20 #[ptr g] w fun e w' =>
    (e = .returned (told 0 0 false) ∧ (∀ i, f i = none) ∧ Did w g n S f w') ∨ ∃ (i : Nat) (k : Int), e = .returned (told i k true) ∧ isFirst f i k ∧ Did w g n S (upd f i none) w' := by
  have HH := Lib.hid h
  clear h
  go_enter Try.func20, Try.ntmps20
  go_wp2_with fail
  refine (first_any g n S f w HH.out).mono ?_
  rintro e w1 ⟨⟨v, rfl, hv⟩, hb⟩
  have HB := Lib.hid hb
  clear hb
  rcases hv with ⟨rfl, hv⟩ | ⟨i, k, rfl, hv⟩
  · have HV := Lib.hid hv
    clear hv
    unfold told
    go_wp2
    go_ret3
    exact .inl ⟨rfl, HV.out, Did.refl HH.out HB.out⟩
  · have HV := Lib.hid hv
    clear hv
    unfold told
    go_wp2_with fail
    refine (drop_yes g n i S f k w1 (HH.out.below HB.out) HV.out.1).mono ?_
    rintro e w2 ⟨rfl, hd⟩
    have HD := Lib.hid hd
    clear hd
    go_wp2
    go_ret3
    refine .inr ⟨i, k, rfl, HV.out, ?_⟩
    exact HD.out.after HB.out
theorem run_field_key (k : Int) (i : Nat) (W : World) : (Instr.field 61 (.agg #[.int .i64 k, .int .i64 i]) 0).run Try.prog W = .ok (.int .i64 k) W := by
  simp [Instr.field, asAgg, go_sem]
def keyed (k : Int) (b : Bool) : Value := .tuple #[.int .i64 k, .bool b]
theorem key_out (g n : Nat) (S : Nat → Prop) (f : Nat → Option Int) (z : Int) (w : World) (h : Hq w g S n f) (hz : z < 0 ∨ (n : Int) ≤ z) : Calls Try.prog 18 #[ptr g, .int .i64 z] w fun e w' => e = .returned (keyed 0 false) ∧ w' = w := by
  obtain ⟨key, a, m, sb, p, e, tv, h1, h2, h3, h4, hr, ht, hs, h5, h6, h7, hS⟩ := h
  have HC := Lib.hid (holds_out g sb n z tv w hr hz)
  clear h1 h2 h3 h4 hr ht hs h5 h6 h7 hS hz
  go_enter Try.func18, Try.ntmps18
  go_wp2_with fail
  refine HC.out.mono ?_
  rintro e w1 ⟨rfl, rfl⟩
  go_wp2
  go_ret2
  exact ⟨rfl, rfl⟩
theorem key_no (g n i : Nat) (S : Nat → Prop) (f : Nat → Option Int) (w : World) (h : Hq w g S n f) (hi : i < n) (hf : f i = none) : Calls Try.prog 18 #[ptr g, .int .i64 i] w fun e w' => e = .returned (keyed 0 false) ∧ w' = w := by
  obtain ⟨key, a, m, sb, p, e, tv, h1, h2, h3, h4, hr, ht, hs, h5, h6, h7, hS⟩ := h
  have HC := Lib.hid (holds_no g sb n i tv p w hr hs hi (h2.out i hi (fun j hj e1 => by have := (h1 i (key i)).2 ⟨⟨j, hj, e1⟩, rfl⟩; rw [hf] at this; cases this)))
  clear h1 h2 h3 h4 hr ht hs h5 h6 h7 hS hf
  go_enter Try.func18, Try.ntmps18
  go_wp2_with fail
  refine HC.out.mono ?_
  rintro e w1 ⟨rfl, rfl⟩
  go_wp2
  go_ret2
  exact ⟨rfl, rfl⟩
theorem key_yes (g n i : Nat) (S : Nat → Prop) (f : Nat → Option Int) (k : Int) (w : World) (h : Hq w g S n f) (hf : f i = some k) : Calls Try.prog 18 #[ptr g, .int .i64 i] w fun e w' => e = .returned (keyed k true) ∧ Below w.heap.size w w' := by
  have hi := h.some_lt hf
  obtain ⟨key, a, m, sb, p, e, tv, h1, h2, h3, h4, hr, ht, hs, h5, h6, h7, hS⟩ := h
  obtain ⟨⟨j, hj, haj⟩, hk⟩ := (h1 i k).1 hf
  have hmn : m ≤ n := by rw [← cnt_of h2 h1]; exact cnt_le n f
  obtain ⟨tb, c, rfl, hT⟩ := ht.some (by omega)
  have hp : p i = j + 1 := by rw [← haj]; exact h2.pos j hj (by omega)
  have HC := Lib.hid (holds_yes g sb n i j _ p w hr hs hi hp)
  have HS := Lib.hid (show ∀ W, Above w W → Calls Try.prog 30 #[ptr g, .int .i64 i] W fun e w' => e = .returned (.int .i64 j) ∧ w' = W from fun W hW => spot_in g sb n i _ p W (hr.under hW hr.lt) (hs.only (S := fun _ => False) (Only.of_below _ hW) (fun f => f)) hi j hp (by omega))
  have HA := Lib.hid (show ∀ W, Above w W → Calls Try.prog 28 #[ptr g, .int .i64 j] W fun e w' => e = .returned (ent k i) ∧ Below W.heap.size W w' from fun W hW => by
    have := at_in g tb c m j _ e W (hr.under hW hr.lt) (hT.only (S := fun _ => False) (Only.of_below _ hW) (fun f => f)) hj
    rw [h2.ent j hj (by omega), haj, ← hk] at this
    exact this)
  clear h1 h2 h3 h4 hr ht hs h5 h6 h7 hS hf hT hp haj hk
  go_enter Try.func18, Try.ntmps18
  go_wp2_with fail
  refine HC.out.mono ?_
  rintro e w1 ⟨rfl, rfl⟩
  go_wp2
  refine region_in (Above w1) (by kernel_rfl) (by kernel_rfl) (Above.start w1) ?_
  refine in_pure (o := ⟨some 16, _, _, _, _, _⟩) rfl ?_ (fun W hW => by go_simp; with_reducible rfl) ?_
  simp only [Act.put, List.setIfInBounds_toArray, List.set_cons_zero, List.set_cons_succ]
  refine in_pure (o := ⟨some 17, _, _, _, _, _⟩) rfl ?_ (fun W hW => by go_simp; with_reducible rfl) ?_
  simp only [Act.put, List.setIfInBounds_toArray, List.set_cons_zero, List.set_cons_succ]
  refine in_pure (o := ⟨some 18, _, _, _, _, _⟩) rfl ?_ (fun W hW => by go_simp; with_reducible rfl) ?_
  simp only [Act.put, List.setIfInBounds_toArray, List.set_cons_zero, List.set_cons_succ]
  refine in_pure (o := ⟨some 19, _, _, _, _, _⟩) rfl ?_ (fun W hW => by go_simp; with_reducible rfl) ?_
  simp only [Act.put, List.setIfInBounds_toArray, List.set_cons_zero, List.set_cons_succ]
  refine in_pure (o := ⟨some 20, _, _, _, _, _⟩) rfl ?_ (fun W hW => by go_simp; with_reducible rfl) ?_
  simp only [Act.put, List.setIfInBounds_toArray, List.set_cons_zero, List.set_cons_succ]
  refine in_pure (o := ⟨some 21, _, _, _, _, _⟩) rfl ?_ (fun W hW => by go_simp; with_reducible rfl) ?_
  simp only [Act.put, List.setIfInBounds_toArray, List.set_cons_zero, List.set_cons_succ]
  refine in_pure (o := ⟨some 22, _, _, _, _, _⟩) rfl ?_ (fun W hW => by go_simp; with_reducible rfl) ?_
  simp only [Act.put, List.setIfInBounds_toArray, List.set_cons_zero, List.set_cons_succ]
  refine in_call (o := ⟨some 23, _, _, _, _, _⟩) rfl 30 _ (.int .i64 j) (fun W hW => by go_simp) (fun W hW => (HS.out W hW).mono (fun e w' ⟨he, hb⟩ => ⟨he, hb ▸ hW⟩)) ?_
  simp only [Act.put, List.setIfInBounds_toArray, List.set_cons_zero, List.set_cons_succ]
  refine in_call (o := ⟨some 24, _, _, _, _, _⟩) rfl 28 _ (.agg #[.int .i64 k, .int .i64 i]) (fun W hW => by go_simp) (fun W hW => (HA.out W hW).mono (fun e w' ⟨he, hb⟩ => ⟨he, Above.call hW hb⟩)) ?_
  simp only [Act.put, List.setIfInBounds_toArray, List.set_cons_zero, List.set_cons_succ]
  refine in_pure (o := ⟨some 25, _, _, _, _, _⟩) rfl ?_ (fun W hW => by go_simp; rw [run_field_key, Result.andThen_ok]) ?_
  simp only [Act.put, List.setIfInBounds_toArray, List.set_cons_zero, List.set_cons_succ]
  refine in_pure (o := ⟨some 4, _, _, _, _, _⟩) rfl ?_ (fun W hW => by go_simp; with_reducible rfl) ?_
  simp only [Act.put, List.setIfInBounds_toArray, List.set_cons_zero, List.set_cons_succ]
  refine in_pure (o := ⟨some 5, _, _, _, _, _⟩) rfl ?_ (fun W hW => by go_simp; with_reducible rfl) ?_
  simp only [Act.put, List.setIfInBounds_toArray, List.set_cons_zero, List.set_cons_succ]
  refine wpQuiet_nil fun w5 hb5 => ?_
  have HB := Lib.hid hb5
  clear hb5
  go_wp2
  go_ret2
  exact ⟨rfl, HB.out⟩
theorem clear_any (g n : Nat) (S : Nat → Prop) (f : Nat → Option Int) (w : World) (h : Hq w g S n f) : Calls Try.prog 21 #[ptr g] w fun e w' => e = .returned (.tuple #[]) ∧ Did w g n S (fun _ => none) w' := by
  obtain ⟨key, a, m, sb, p, e, tv, h1, h2, h3, h4, hr, ht, hs, h5, h6, h7, hS⟩ := h
  have hmn : m ≤ n := by rw [← cnt_of h2 h1]; exact cnt_le n f
  have HE : Hid (Calls Try.prog 31 #[ptr g] w fun e' w' => e' = .returned (.tuple #[]) ∧ Did w g n S (fun _ => none) w') := by
    rcases ht with ⟨rfl, rfl⟩ | ⟨tb, c, rfl, hT⟩
    · refine (empty_none g _ w hr).mono ?_
      rintro e' w' ⟨rfl, rfl⟩
      refine ⟨rfl, S, ⟨key, a, 0, sb, p, e, .slice none 0 0, fun i k => ⟨(fun e => by cases e), fun ⟨⟨j, hj, _⟩, _⟩ => by omega⟩, h2, h3, h4, hr.put 0 _, .inl ⟨rfl, rfl⟩, hs.away (a := ⟨g, 0, none⟩) (Ne.symm h5) _, h5, h6, h7, hS⟩, fun k hk => .inl hk, (Only.refl _ w).setCell (.inl ((hS g).2 (.inl rfl))) _⟩
    · have e6 : g ≠ tb := fun e => h6 (by rw [e]; rfl)
      have e7 : tb ≠ sb := fun e => h7 (by rw [e]; rfl)
      refine (empty_some g tb sb c m n e p w ⟨hr, hT, hs, e6, h5, e7, h4, hmn⟩ key a h2).mono ?_
      rintro e' w' ⟨rfl, ⟨p1, q1, q2⟩, q3⟩
      refine ⟨rfl, S, ⟨key, a, 0, sb, p1, e, .slice (some ⟨tb, 0, none⟩) 0 c, fun i k => ⟨(fun e => by cases e), fun ⟨⟨j, hj, _⟩, _⟩ => by omega⟩, ⟨fun j hj => by omega, fun j hj => by omega, fun i j hi => by omega, fun j hj => by omega, fun i hi _ => q2 i hi⟩, fun j _ hj => by omega, h4, q1.1, .inr ⟨tb, c, rfl, q1.2.1⟩, q1.2.2.1, h5, h6, h7, hS⟩, fun k hk => .inl hk, q3.mono (fun x hx => .inl ((hS x).2 ?_))⟩
      rcases hx with rfl | rfl
      · exact .inl rfl
      · exact .inr (.inr rfl)
  clear h1 h2 h3 h4 hr ht hs h5 h6 h7 hS
  go_enter Try.func21, Try.ntmps21
  go_wp2_with fail
  refine HE.out.mono ?_
  rintro e w2 ⟨rfl, hd⟩
  have HD := Lib.hid hd
  clear hd
  go_wp2
  go_end0
  exact ⟨rfl, HD.out⟩
theorem new_out (z : Int) (w : World) (hz : z < 0 ∨ 16777216 < z) : Calls Try.prog 11 #[.int .i64 z] w fun e w' => e = .returned (.pointer none) ∧ w' = w := by
  rcases hz with hz | hz
  · go_enter Try.func11, Try.ntmps11
    go_wp2
    go_ret
    exact ⟨rfl, rfl⟩
  · have h0 : ¬ z < 0 := by omega
    go_enter Try.func11, Try.ntmps11
    go_wp2
    go_ret
    exact ⟨rfl, rfl⟩
theorem info64 : (Try.prog.info? 3).map (fun i => (i.zero, i.size, i.bytes)) = some (some (.int .i64 0), 1, 8) := by kernel_rfl
/-- 'make([]int, n)'. -/
theorem wpList_makeZ {w : World} {ops : Array Oper} {rest : List Oper} {o : Oper} {a : Act} {Q : Exit → Act → World → Prop} (hgd : o.guard = none) (x y : Operand) (ho : o.op = .makeSlice 48 x y)
    (n : Nat) (hx : a.eval x = .int .i64 n) (hy : a.eval y = .int .i64 n) (hn : n ≤ 10000000000)
    (h : ∀ w', Hid (Row w' w.heap.size 3 (List.replicate n (Value.int .i64 0)).toArray) → Hid (w' = w.alloc (.cells (List.replicate n (Value.int .i64 0)).toArray 3)) → wpList Try.prog ops Q rest (a.put o.dst (.slice (some ⟨w.heap.size, 0, none⟩) n n)) w') : wpList Try.prog ops Q (o :: rest) a w := by
  have h := h _ (Row.fresh w _ _) rfl
  obtain ⟨i, hi, hz0, hz1, hz2⟩ := info_partsE info64
  refine wpList_plain hgd fun K' hK' => ?_
  have hr := run_make (P := Try.prog) w 48 3 i (.int .i64 0) Try.underlying48 hi hz0 .i64 .i64 n n (by omega) (by omega) (by rw [hz2]; omega) (by omega)
  have e : (madeCells (Value.int IntKind.i64 0).cells ((n : Int).toNat * i.size)) = (List.replicate n (Value.int .i64 0)).toArray := by
    rw [hz1]
    apply Array.toList_inj.1
    have e1 : (Value.int IntKind.i64 0).cells = #[Value.int IntKind.i64 0] := rfl
    rw [e1, toList_madeCells_one]
    simp
  rw [e] at hr
  unfold Oper.wp execOp
  simp only [ho, hx, hy, Sem.run_bind, hr, Result.andThen_ok, Sem.run_pure]
  exact hK' _ _ h
/-- A new heap in block g. -/
def Newed (w : World) (n g : Nat) (w' : World) : Prop := ∃ S, Hq w' g S n (fun _ => none) ∧ (∀ k, S k → w.heap.size ≤ k) ∧ Below w.heap.size w w'
theorem new_in (n : Nat) (w : World) (hn : n ≤ 16777216) : Calls Try.prog 11 #[.int .i64 n] w fun e w' => ∃ g, e = .returned (ptr g) ∧ Newed w n g w' := by
  have hn' : ¬ (16777216 : Int) < (n : Int) := by omega
  have hd : decide ((16777216 : Int) < (n : Int)) = false := decide_eq_false hn'
  go_enter Try.func11, Try.ntmps11
  go_wp2_with ((with_reducible show wpList _ _ _ (Oper.mk _ (Op.makeSlice _ _ _) _ _ _ _ :: _) _ _); refine wpList_makeZ rfl _ _ rfl n rfl rfl ?_ ?_; omega; intro w1 HR HW1)
  go_ret
  have hb1 : Below w.heap.size w w1 := by rw [HW1.out]; exact (Below.refl _ _).alloc (Nat.le_refl _) _
  have hz : w1.heap.size = w.heap.size + 1 := by rw [HW1.out]; simp
  refine ⟨w1.heap.size, rfl, fun k => k = w1.heap.size ∨ k = w.heap.size, ⟨fun _ => 0, fun _ => 0, 0, w.heap.size, fun _ => 0, fun _ => (0, 0), .slice none 0 0, fun i k => ⟨(fun e => by cases e), fun ⟨⟨j, hj, _⟩, _⟩ => by omega⟩, ⟨fun j hj => by omega, fun j hj => by omega, fun i j hi => by omega, fun j hj => by omega, fun i hi _ => rfl⟩, fun j _ hj => by omega, hn, Row.fresh w1 _ _, .inl ⟨rfl, rfl⟩, ⟨_, HR.out.past _, by simp, fun i hi => by simp [hi]⟩, by omega, by simp [Value.ownBlock], by simp [Value.ownBlock], fun k => by simp [Value.ownBlock]⟩, fun k hk => by rcases hk with rfl | rfl <;> omega, hb1.alloc (by omega) _⟩
end Go.Proofs.Ythpfhimdgmckgaa
