/- A disk: whatever is done, one thing behind the other. -/
import Derived.Test.YthheolhghhmdlaaDiskJ
namespace Go.Proofs.Ythheolhghhmdlaa.Dsk
open Go

/-- How much some things to do may add. -/
def cost (l : List Ope) : Nat := (l.map fun x => x.data.length + 2).sum
theorem cost_cons (x : Ope) (l : List Ope) : cost (x :: l) = x.data.length + 2 + cost l := rfl
theorem cost_at : ∀ (l : List Ope) (k : Nat) (hk : k < l.length), cost (l.take k) + (l[k]'hk).data.length + 2 ≤ cost l
  | [], k, hk => by simp at hk
  | x :: r, 0, _ => by rw [List.take_zero, cost_cons]; simp [cost]
  | x :: r, k + 1, hk => by
    have := cost_at r k (by simpa using hk)
    rw [List.take_succ_cons, cost_cons, cost_cons, List.getElem_cons_succ]
    omega
theorem runL_size {room : Int} (l : List Ope) : ∀ {fs : List Fil}, Rising Fil.name fs → Rising Fil.name (runL room fs l).1 ∧ sizeL (runL room fs l).1 + looseL (runL room fs l).1 + (runL room fs l).1.length ≤ sizeL fs + looseL fs + fs.length + cost l ∧ (runL room fs l).2 ≤ l.length := by
  induction l with
  | nil => intro fs hr; exact ⟨hr, Nat.le_refl _, Nat.le_refl _⟩
  | cons x r ih =>
    intro fs hr
    unfold runL
    rw [cost_cons]
    split
    · have h1 := doL_size (room := room) x hr
      have h2 := ih (doL_rising (room := room) x hr)
      refine ⟨h2.1, ?_, ?_⟩
      · simp only; omega
      · simp only [List.length_cons]; omega
    · refine ⟨hr, ?_, ?_⟩
      · simp only; omega
      · simp
/-- One more. -/
theorem runL_take {room : Int} (l : List Ope) : ∀ {fs : List Fil} {k : Nat} (hk : k < l.length), (runL room fs (l.take k)).2 = k →
    ((doL room (runL room fs (l.take k)).1 (l[k]'hk)).2 = 0 → runL room fs (l.take (k + 1)) = ((doL room (runL room fs (l.take k)).1 (l[k]'hk)).1, k + 1)) ∧
    ((doL room (runL room fs (l.take k)).1 (l[k]'hk)).2 ≠ 0 → runL room fs l = ((runL room fs (l.take k)).1, k)) := by
  induction l with
  | nil => intro fs k hk; simp at hk
  | cons x r ih =>
    intro fs k hk he
    cases k with
    | zero =>
      simp only [List.take_zero, List.getElem_cons_zero, runL, List.take_succ_cons]
      constructor
      · intro h; rw [if_pos h]
      · intro h; rw [if_neg h]
    | succ k =>
      have hk' : k < r.length := by simpa using hk
      simp only [List.take_succ_cons, List.getElem_cons_succ] at he ⊢
      by_cases h0 : (doL room fs x).2 = 0
      · have e1 : ∀ m : List Ope, runL room fs (x :: m) = ((runL room (doL room fs x).1 m).1, (runL room (doL room fs x).1 m).2 + 1) := by
          intro m
          show (if (doL room fs x).2 = 0 then _ else _) = _
          rw [if_pos h0]
        rw [e1] at he
        have he' : (runL room (doL room fs x).1 (r.take k)).2 = k := by simpa using he
        obtain ⟨i1, i2⟩ := ih hk' he'
        rw [e1, e1, e1]
        constructor
        · intro h
          rw [i1 h]
        · intro h
          rw [i2 h]
      · have e1 : runL room fs (x :: r.take k) = (fs, 0) := by
          show (if (doL room fs x).2 = 0 then _ else _) = _
          rw [if_neg h0]
        rw [e1] at he
        simp at he
end Go.Proofs.Ythheolhghhmdlaa.Dsk
namespace Go.Proofs.Ythheolhghhmdlaa
open Go.RowKit Dsk

/-- The disk in block g, of the blocks S: these files. -/
def Dq (w : World) (g : Nat) (S : Nat → Prop) (room : Int) (fs : List Fil) : Prop := ∃ L mv o, Dk w g S room L mv o (sizeL fs) ∧ L.map Ent.fil = fs
section
variable {w w' w2 : World} {g : Nat} {S : Nat → Prop} {room : Int} {fs : List Fil}
theorem Dq.only (h : Dq w g S room fs) {S' : Nat → Prop} (ho : Only S' w w') (hd : ∀ k, S k → ¬ S' k) : Dq w' g S room fs := by
  obtain ⟨L, mv, o, h1, h2⟩ := h
  exact ⟨L, mv, _, h1.only ho hd, h2⟩
theorem Dq.below (h : Dq w g S room fs) (hb : Below w.heap.size w w') : Dq w' g S room fs := h.only (Only.of_below (fun _ => False) hb) (fun _ _ f => f)
theorem Dq.rising (h : Dq w g S room fs) : Rising Fil.name fs := by
  obtain ⟨L, mv, o, h1, h2⟩ := h
  rw [← h2]
  exact h1.filR
theorem Dq.lt (h : Dq w g S room fs) (k : Nat) (hk : S k) : k < w.heap.size := by
  obtain ⟨L, mv, o, h1, h2⟩ := h
  exact h1.sl k hk
theorem Dq.own (h : Dq w g S room fs) : S g := by
  obtain ⟨L, mv, o, h1, h2⟩ := h
  exact h1.sg
theorem Dd.dq (h : Dd w g S room fs w') : ∃ S', Dq w' g S' room fs ∧ (∀ k, S' k → S k ∨ w.heap.size ≤ k) ∧ Only S w w' := by
  obtain ⟨S', L, mv, o, h1, h2, h3, h4⟩ := h
  exact ⟨S', ⟨L, mv, o, h1, h2⟩, h3, h4⟩
theorem Dq.dd {S' : Nat → Prop} (h : Dq w' g S' room fs) (hS : ∀ k, S' k → S k ∨ w.heap.size ≤ k) (ho : Only S w w') : Dd w g S room fs w' := by
  obtain ⟨L, mv, o, h1, h2⟩ := h
  exact ⟨S', L, mv, o, h1, h2, hS, ho⟩
theorem do_any (x : Ope) (a : Option Addr) (c : Nat) (h : Dq w g S room fs) (hs : Sm fs) (hr0 : 0 ≤ room) (hr1 : room ≤ 1099511627776) (hB : Bytes w a x.data) (hBS : 0 < x.data.length → ∀ k, (Value.slice a x.data.length c).ownBlock = some k → ¬ S k) (hl9 : x.data.length ≤ 1000000000) :
    Calls Try.prog 14 #[ptr g, opV x a c] w fun e w' => e = .returned (.int .i64 ((doL room fs x).2 : Nat)) ∧ Dd w g S room (doL room fs x).1 w' := by
  obtain ⟨L, mv, o, h1, h2⟩ := h
  subst h2
  cases hm : mayBe x with
  | false => exact do_arg x a c h1 rfl hs hr0 hr1 hB hBS hl9 hm
  | true =>
    by_cases hk : x.kind = 1
    · exact do_write x a c h1 rfl hs hr0 hr1 hB hBS hl9 hm hk
    · cases hg : get Ent.name x.name L with
      | none => exact do_none x a c h1 rfl hs hr0 hr1 hB hBS hl9 hm hk hg
      | some e =>
        have h4 : x.kind = 2 ∨ x.kind = 3 ∨ x.kind = 4 := by
          simp only [mayBe, Bool.or_eq_true, Bool.and_eq_true, decide_eq_true_eq] at hm
          rcases hm with q | q <;> omega
        rcases h4 with h4 | h4 | h4
        · exact do_sync x a c h1 rfl hs hr0 hr1 hB hBS hl9 hm h4 e hg
        · by_cases hne : x.name = x.to
          · exact do_rename0 x a c h1 rfl hs hr0 hr1 hB hBS hl9 hm h4 e hg hne
          · exact do_rename x a c h1 rfl hs hr0 hr1 hB hBS hl9 hm h4 e hg hne
        · exact do_remove x a c h1 rfl hs hr0 hr1 hB hBS hl9 hm h4 e hg
theorem size_any (h : Dq w g S room fs) : Calls Try.prog 29 #[ptr g] w fun e w' => e = .returned (.int .i64 (sizeL fs : Nat)) ∧ w' = w := by
  obtain ⟨L, mv, o, h1, h2⟩ := h
  exact size_row g room _ mv w h1.row
theorem new_any (z : Int) (w : World) (h0 : 0 ≤ z) (h1 : z ≤ 1099511627776) : Calls Try.prog 13 #[.int .i64 z] w fun e w' => e = .returned (ptr w.heap.size) ∧ Dq w' w.heap.size (fun k => k = w.heap.size) z [] ∧ Below w.heap.size w w' :=
  (new_in z w h0 h1).mono fun _ _ ⟨h1, h2, h3⟩ => ⟨h1, ⟨[], _, _, h2, rfl⟩, h3⟩
/-- What is read: its error, its bytes. -/
def readL (fs : List Fil) (n : Nm) : By × Nat := match get Fil.name n fs with
  | some f => (f.all, 0)
  | none => ([], 4)
def Rd (w : World) (r : By × Nat) (e : Ending) (w' : World) : Prop := ∃ v, e = .returned (.tuple #[v, .int .i64 (r.2 : Nat)]) ∧ Owns w' w.heap.size v r.1 ∧ Below w.heap.size w w'
theorem read_any (n : Nm) (h : Dq w g S room fs) (hs : Sm fs) (hn : n.length ≤ maxLen) : Calls Try.prog 16 #[ptr g, .string ⟨n.toArray⟩] w (Rd w (readL fs n)) := by
  obtain ⟨L, mv, o, h1, h2⟩ := h
  subst h2
  cases hg : get Ent.name n L with
  | none =>
    refine (read_none n h1 hn hg).mono ?_
    rintro e w1 ⟨rfl, rfl⟩
    have : readL (L.map Ent.fil) n = ([], 4) := by unfold readL; rw [get_map fil_key, hg]; rfl
    rw [this]
    exact ⟨_, rfl, Owns.none _ _, Below.refl _ _⟩
  | some e =>
    obtain ⟨p1, p2, p3⟩ := hs.at_ (get_some hg).1
    refine (read_some n h1 hn e hg p1 p2).mono ?_
    rintro r w1 ⟨v, rfl, h3, h4⟩
    have : readL (L.map Ent.fil) n = (e.firm ++ e.ws.flatten, 0) := by unfold readL; rw [get_map fil_key, hg]; rfl
    rw [this]
    exact ⟨v, rfl, h3, h4⟩
end

/-- A slice of things to do, in blocks of T. -/
def Ops (w : World) (T : Nat → Prop) (ad : Option Addr) (l : List Ope) : Prop :=
  l = [] ∨ ∃ b o, ad = some ⟨b, o, none⟩ ∧ T b ∧ ∀ i x, l[i]? = some x → ∃ a c, w.cell? ⟨b, o + i * 4, none⟩ = some (.int .i64 x.kind) ∧ w.cell? ⟨b, o + i * 4 + 1, none⟩ = some (.string ⟨x.name.toArray⟩) ∧ w.cell? ⟨b, o + i * 4 + 2, none⟩ = some (.string ⟨x.to.toArray⟩) ∧ w.cell? ⟨b, o + i * 4 + 3, none⟩ = some (.slice a x.data.length c) ∧
    Bytes w a x.data ∧ (0 < x.data.length → ∀ k, (Value.slice a x.data.length c).ownBlock = some k → T k)
theorem Ops.only {w w' : World} {T S : Nat → Prop} {ad : Option Addr} {l : List Ope} (h : Ops w T ad l) (ho : Only S w w') (hd : ∀ k, T k → ¬ S k) : Ops w' T ad l := by
  rcases h with h | ⟨b, o, rfl, hT, h⟩
  · exact .inl h
  · refine .inr ⟨b, o, rfl, hT, fun i x hx => ?_⟩
    obtain ⟨a, c, h0, h1, h2, h3, h4, h5⟩ := h i x hx
    have hb : b < w.heap.size := block_lt_of_cell h0
    have hs : ∀ j, w'.cell? ⟨b, j, none⟩ = w.cell? ⟨b, j, none⟩ := fun j => World.cell?_of_block (a := ⟨b, j, none⟩) (ho.block b hb (hd b hT))
    exact ⟨a, c, (hs _).trans h0, (hs _).trans h1, (hs _).trans h2, (hs _).trans h3, h4.only (c := c) (fun q k hk => hd k (h5 q k hk)) ho, h5⟩
theorem Ops.below {w w' : World} {T : Nat → Prop} {ad : Option Addr} {l : List Ope} (h : Ops w T ad l) (hb : Below w.heap.size w w') : Ops w' T ad l := h.only (Only.of_below (fun _ => False) hb) (fun _ _ f => f)
theorem run_none (w : World) (g : Nat) (ad : Option Addr) (c : Nat) : Calls Try.prog 21 #[ptr g, .slice ad 0 c] w fun e w' => e = .returned (.int .i64 0) ∧ w' = w := by
  go_enter Try.func21, Try.ntmps21
  go_wp2
  go_loopw [9] (fun i wr => i = .int .i64 0 ∧ wr = w) (fun _ _ => 0)
  case atStart => exact ⟨rfl, rfl⟩
  case round =>
    obtain ⟨rfl, rfl⟩ := hrel
    go_wp2
    go_ret
    exact ⟨rfl, rfl⟩
theorem Dd.after {w w' wr : World} {g : Nat} {S S2 : Nat → Prop} {room : Int} {fs : List Fil} (hS2 : ∀ k, S2 k → S k ∨ w.heap.size ≤ k) (ho : Only S w wr) (h : Dd wr g S2 room fs w') : Dd w g S room fs w' := by
  obtain ⟨S', L', mv', o', h1, h2, h3, h4⟩ := h
  have := ho.size
  exact ⟨S', L', mv', o', h1, h2, fun k hk => (h3 k hk).elim (fun q => hS2 k q) (fun q => .inr (by omega)), ho.trans h4 hS2⟩
/-- So many were done. -/
def RunR (w : World) (g : Nat) (S : Nat → Prop) (room : Int) (fs : List Fil) (l : List Ope) (k : Nat) (wr : World) : Prop := (runL room fs (l.take k)).2 = k ∧ Dd w g S room (runL room fs (l.take k)).1 wr
set_option maxRecDepth 100000 in
theorem run_any {w : World} {g : Nat} {S T : Nat → Prop} {room : Int} {fs : List Fil} (l : List Ope) (ad : Option Addr) (c : Nat) (h : Dq w g S room fs) (hr0 : 0 ≤ room) (hr1 : room ≤ 1099511627776) (hO : Ops w T ad l) (hTS : ∀ k, T k → ¬ S k) (hTl : ∀ k, T k → k < w.heap.size) (hc : sizeL fs + looseL fs + fs.length + cost l ≤ 1000000000) :
    Calls Try.prog 21 #[ptr g, .slice ad l.length c] w fun e w' => e = .returned (.int .i64 ((runL room fs l).2 : Nat)) ∧ Dd w g S room (runL room fs l).1 w' := by
  have hlen : l.length ≤ 1000000000 := by
    have : l.length ≤ cost l := by
      clear hc hO
      induction l with
      | nil => simp [cost]
      | cons x r ih => rw [cost_cons, List.length_cons]; omega
    omega
  have HH := Lib.hid h
  have HO := Lib.hid hO
  have HTS := Lib.hid hTS
  have HTl := Lib.hid hTl
  have HC := Lib.hid hc
  have HR := Lib.hid (And.intro hr0 hr1)
  have hlI : (l.length : Int) ≤ 1000000000 := by omega
  clear h hO hTS hTl hc hr0 hr1
  go_enter Try.func21, Try.ntmps21
  go_wp2
  go_loopw [5, 6, 9] (fun _ _ i wr => ∃ k : Nat, k ≤ l.length ∧ i = .int .i64 k ∧ RunR w g S room fs l k wr) (fun _ _ i _ => l.length - (intOf i).toNat)
  case atStart => exact ⟨0, by omega, rfl, rfl, HH.out.dd (fun k hk => .inl hk) (Only.refl _ _)⟩
  case round =>
    obtain ⟨k, hk, rfl, hr⟩ := hrel
    have HRr := Lib.hid hr
    clear hr
    by_cases hlt : k < l.length
    · have hlt' : (k : Int) < (l.length : Int) := by omega
      obtain ⟨S2, hd2, hS2, ho2⟩ := HRr.out.2.dq
      have hOr := HO.out.only ho2 HTS.out
      obtain ⟨b, off, had, hTb, hops⟩ : ∃ b o, ad = some ⟨b, o, none⟩ ∧ T b ∧ _ := hOr.resolve_left (fun e => by rw [e] at hlt; simp at hlt)
      subst had
      obtain ⟨a, c2, q0, q1, q2, q3, qB, qT⟩ := hops k _ (List.getElem?_eq_getElem hlt)
      have hbl : b < wr.heap.size := block_lt_of_cell q0
      have htk := runL_take (room := room) (fs := fs) l hlt HRr.out.1
      have hsz := runL_size (room := room) (l.take k) HH.out.rising
      have HTk := Lib.hid htk
      have HD2 := Lib.hid hd2
      have HS2 := Lib.hid hS2
      have HO2 := Lib.hid ho2
      have hcost := cost_at l k hlt
      have HSm := Lib.hid (show Sm (runL room fs (l.take k)).1 ∧ (l[k]'hlt).data.length ≤ 1000000000 by
        have := HC.out
        unfold Sm
        omega)
      have hsw := ho2.size
      have HNS := Lib.hid (show 0 < (l[k]'hlt).data.length → ∀ j, (Value.slice a (l[k]'hlt).data.length c2).ownBlock = some j → ¬ S2 j from fun q j hj s => by
        have t := qT q j hj
        rcases hS2 j s with s | s
        · exact HTS.out j t s
        · have := HTl.out j t; omega)
      have HB := Lib.hid qB
      clear hd2 hS2 ho2 hOr hops qB qT htk hsz hcost
      generalize (runL room fs (l.take k)).1 = fk at *
      generalize hx : (l[k]'hlt) = x at *
      obtain ⟨xk, xn, xt, xd⟩ := x
      have HX := Lib.hid hx
      clear hx
      have HAl := Lib.hid (show Below wr.heap.size wr (wr.alloc (.cells #[.int .i64 xk, .string ⟨xn.toArray⟩, .string ⟨xt.toArray⟩, .slice a xd.length c2] 36)) from (Below.refl _ _).alloc (Nat.le_refl _) _)
      go_wp2_with fail
      refine (do_any ⟨xk, xn, xt, xd⟩ a c2 (HD2.out.below HAl.out) HSm.out.1 HR.out.1 HR.out.2 (HB.out.under HAl.out) HNS.out HSm.out.2).mono ?_
      rintro e w3 ⟨rfl, h3⟩
      have H3 := Lib.hid (Dd.after HS2.out HO2.out (Dd.under HAl.out h3))
      clear h3
      by_cases h0 : (doL room fk ⟨xk, xn, xt, xd⟩).2 = 0
      · have H0 := Lib.hid h0
        rw [h0]
        clear h0
        go_wp2
        go_roundw
        case rel =>
          have hE : RunR w g S room fs l (k + 1) w3 := by
            unfold RunR
            rw [HTk.out.1 H0.out]
            exact ⟨rfl, H3.out⟩
          first
            | exact ⟨k + 1, by omega, by go_num, hE⟩
            | exact ⟨_, _, .int .i64 (k + 1), ⟨k + 1, by omega, by go_num, hE⟩, rfl, rfl, rfl⟩
            | exact ⟨_, _, _, .int .i64 (k + 1), ⟨k + 1, by omega, by go_num, hE⟩, rfl, rfl, rfl, rfl⟩
        case measure => simp [intOf]; omega
      · have H0 := Lib.hid h0
        have h5 := HTk.out.2 h0
        have h6 := doL_err _ h0
        have H6 := Lib.hid h6
        have H5 := Lib.hid h5
        have hne : (((doL room fk ⟨xk, xn, xt, xd⟩).2 : Int) != 0) = true := by simp; omega
        clear h0 h5 h6
        generalize (doL room fk ⟨xk, xn, xt, xd⟩).2 = ee at *
        go_wp2
        go_ret
        rw [H5.out]
        refine ⟨rfl, ?_⟩
        rw [← H6.out]
        exact H3.out
    · have hlt' : ¬ (k : Int) < (l.length : Int) := by omega
      have hkk : k = l.length := by omega
      have h3 := HRr.out
      unfold RunR at h3
      rw [hkk, List.take_length] at h3
      have H3 := Lib.hid h3
      clear h3
      go_wp2
      go_ret
      rw [H3.out.1]
      exact ⟨rfl, H3.out.2⟩
end Go.Proofs.Ythheolhghhmdlaa
