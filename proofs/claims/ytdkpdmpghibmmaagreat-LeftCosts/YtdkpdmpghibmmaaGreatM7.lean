import Derived.Test.YtdkpdmpghibmmaaGreatM6
import Derived.Test.YtdkpdmpghibmmaaGreatM3
import Derived.Deep.AppendLies
/- left: the front of a search: what it holds, and how it lies in memory. -/
namespace Go.Proofs.YtdkpdmpghibmmaaGreat
open Go.RowKit Go.Maps Hp
/-- Where a place stands in the list of what was reached. -/
def numOf (R : List (Int × Int)) (p : Int) : Option Nat := R.findIdx? fun x => x.1 == p
theorem numOf_some {R : List (Int × Int)} {p : Int} {k : Nat} (h : numOf R p = some k) : ∃ hk : k < R.length, (R[k]'hk).1 = p := by
  unfold numOf at h
  obtain ⟨hk, h1, _⟩ := List.findIdx?_eq_some_iff_getElem.1 h
  exact ⟨hk, by simpa using h1⟩
theorem numOf_none {R : List (Int × Int)} {p : Int} : numOf R p = none ↔ ∀ x ∈ R, x.1 ≠ p := by
  unfold numOf
  rw [List.findIdx?_eq_none_iff]
  simp
theorem numOf_at {R : List (Int × Int)} (hn : (R.map (·.1)).Nodup) {k : Nat} (hk : k < R.length) : numOf R (R[k]'hk).1 = some k := by
  unfold numOf
  rw [List.findIdx?_eq_some_iff_getElem]
  refine ⟨hk, by simp, fun j hj => ?_⟩
  have h2 := (List.pairwise_iff_getElem.1 hn) j k (by simp; omega) (by simpa using hk) hj
  simpa using h2
theorem numOf_app {R : List (Int × Int)} {p d : Int} (h : numOf R p = none) (q : Int) : numOf (R ++ [(p, d)]) q = if q = p then some R.length else numOf R q := by
  unfold numOf at h ⊢
  rw [List.findIdx?_append]
  by_cases e : q = p
  · subst e
    rw [h, if_pos rfl]
    simp
  · rw [if_neg e]
    cases hq : List.findIdx? (fun x : Int × Int => x.1 == q) R with
    | some k => simp
    | none =>
      have : (p == q) = false := by simpa using Ne.symm e
      simp [this]
theorem map_set_same {R : List (Int × Int)} {k : Nat} {p d : Int} (hk : k < R.length) (h : (R[k]'hk).1 = p) : (R.set k (p, d)).map (·.1) = R.map (·.1) := by
  rw [List.map_set, ← h]
  have : (R.map (·.1))[k]'(by simpa using hk) = (R[k]'hk).1 := by simp
  rw [← this]
  exact List.set_getElem_self _
theorem numOf_map {R Q : List (Int × Int)} (h : R.map (·.1) = Q.map (·.1)) (q : Int) : numOf R q = numOf Q q := by
  have e : ∀ X : List (Int × Int), numOf X q = (X.map (·.1)).findIdx? fun x => x == q := fun X => by
    unfold numOf
    rw [List.findIdx?_map]
    rfl
  rw [e, e, h]
/-- What the front holds: how much room the heap has, what was reached, what stands in the heap. -/
structure Fp where
  room : Nat
  R : List (Int × Int)
  f : Nat → Option Int
structure FOk (N : Nat) (s : Fp) : Prop where
  nod : (s.R.map (·.1)).Nodup
  rng : ∀ x ∈ s.R, 0 ≤ x.1 ∧ x.1 < (N : Int)
  small : N ≤ 16777216
  len : s.R.length ≤ s.room
  lo : 16 ≤ s.room
  hi : s.room ≤ 16777216
  key : ∀ k d, s.f k = some d → ∃ h : k < s.R.length, (s.R[k]'h).2 = d
theorem nodup_le {N : Nat} {R : List (Int × Int)} (hn : (R.map (·.1)).Nodup) (hr : ∀ x ∈ R, 0 ≤ x.1 ∧ x.1 < (N : Int)) : R.length ≤ N := by
  have h1 : (R.map fun x => x.1.toNat).Nodup := by
    rw [List.Nodup, List.pairwise_map] at hn ⊢
    refine hn.imp_of_mem fun {a b} ha hb hab e => hab ?_
    have := hr a ha
    have := hr b hb
    omega
  have h2 : (R.map fun x => x.1.toNat).Perm ((List.range N).filter fun i => i ∈ R.map fun x => x.1.toNat) := by
    refine (List.perm_ext_iff_of_nodup h1 (List.nodup_range.filter _)).2 fun i => ?_
    rw [List.mem_filter, List.mem_range]
    simp only [decide_eq_true_eq]
    refine ⟨fun h => ⟨?_, h⟩, fun h => h.2⟩
    obtain ⟨x, hx, rfl⟩ := List.mem_map.1 h
    have := hr x hx
    omega
  have h3 := h2.length_eq
  rw [List.length_map] at h3
  rw [h3]
  exact Nat.le_trans (List.length_filter_le _ _) (by simp)
theorem FOk.le {N : Nat} {s : Fp} (h : FOk N s) : s.R.length ≤ N := nodup_le h.nod h.rng
/-- Lays a place, as reach does. -/
def Fp.reach (s : Fp) (p d : Int) : Fp := match numOf s.R p with
  | none => ⟨if s.room ≤ s.R.length then min (s.room * 4) 16777216 else s.room, s.R ++ [(p, d)], upd s.f s.R.length (some d)⟩
  | some k => if (s.R.getD k (0, 0)).2 ≤ d then s else ⟨s.room, s.R.set k (p, d), upd s.f k (some d)⟩
/-- The cells of what was reached. -/
def rcells : List (Int × Int) → List Value
  | [] => []
  | x :: t => .int .i64 x.1 :: .int .i64 x.2 :: rcells t
theorem rcells_length (t : List (Int × Int)) : (rcells t).length = t.length * 2 := by
  induction t with
  | nil => rfl
  | cons x t ih => simp [rcells, ih]; omega
theorem rcells_append (t s : List (Int × Int)) : rcells (t ++ s) = rcells t ++ rcells s := by
  induction t with
  | nil => rfl
  | cons x t ih => simp [rcells, ih]
theorem rcells_get (t : List (Int × Int)) (j : Nat) (h : j < t.length) : (rcells t)[j * 2]? = some (.int .i64 (t[j]'h).1) ∧ (rcells t)[j * 2 + 1]? = some (.int .i64 (t[j]'h).2) := by
  induction t generalizing j with
  | nil => simp at h
  | cons x t ih =>
    cases j with
    | zero => simp [rcells]
    | succ j =>
      have := ih j (by simpa using h)
      simpa [rcells, Nat.succ_mul] using this
theorem rcells_set : ∀ (l : List (Int × Int)) (k : Nat) (z : Int) (h : k < l.length), (rcells l).set (k * 2 + 1) (.int .i64 z) = rcells (l.set k ((l[k]'h).1, z)) := by
  intro l
  induction l with
  | nil => intro k z h; simp at h
  | cons x l ih =>
    intro k z h
    cases k with
    | zero => simp [rcells]
    | succ k =>
      have h2 := ih k z (by simpa using h)
      have e : (k + 1) * 2 + 1 = k * 2 + 1 + 2 := by omega
      rw [e]
      simp only [rcells, List.set_cons_succ, List.getElem_cons_succ] at h2 ⊢
      rw [h2]
def RV (w : World) (v : Value) (R : List (Int × Int)) : Prop := w.ownsRow 0 172 2 v R.length (rcells R)
theorem RV.nil (w : World) : RV w (.slice none 0 0) [] := ⟨rfl, .inl ⟨rfl, rfl⟩⟩
theorem RV.shape {w : World} {v : Value} {t : List (Int × Int)} (h : RV w v t) : ∃ ad c, v = .slice ad t.length c := by
  rcases h.2 with ⟨rfl, h0⟩ | ⟨g, cap, cur, rfl, _⟩
  · exact ⟨_, _, by rw [h0]⟩
  · exact ⟨_, _, rfl⟩
theorem RV.at_ {w : World} {v : Value} {t : List (Int × Int)} (h : RV w v t) {j : Nat} (hj : j < t.length) : ∃ b c, v = .slice (some ⟨b, 0, none⟩) t.length c ∧ b < w.heap.size ∧ w.cell? ⟨b, j * 2, none⟩ = some (.int .i64 (t[j]'hj).1) ∧ w.cell? ⟨b, j * 2 + 1, none⟩ = some (.int .i64 (t[j]'hj).2) := by
  rcases h.2 with ⟨rfl, h0⟩ | ⟨g, cap, cur, rfl, _, hr, hc, _, hs, ht⟩
  · omega
  · have hl : g < w.heap.size := (Array.getElem?_eq_some_iff.1 hr).1
    obtain ⟨e1, e2⟩ := rcells_get t j hj
    rw [← ht, List.getElem?_take_of_lt (by omega)] at e1 e2
    refine ⟨g, cap, rfl, hl, ?_, ?_⟩
    · rw [cell_of_row w g _ cur _ _ hr]; simpa using e1
    · rw [cell_of_row w g _ cur _ _ hr]; simpa using e2
theorem RV.only {S : Nat → Prop} {w w' : World} {v : Value} {t : List (Int × Int)} (h : RV w v t) (ho : Only S w w') (hS : ∀ k, v.ownBlock = some k → ¬ S k) : RV w' v t := by
  rcases h with ⟨h1, h2 | ⟨g, cap, cur, rfl, h3, hr, h4⟩⟩
  · exact ⟨h1, .inl h2⟩
  · exact ⟨h1, .inr ⟨g, cap, cur, rfl, h3, (ho.block g (Array.getElem?_eq_some_iff.1 hr).1 (hS g rfl)).trans hr, h4⟩⟩
theorem RV.lt {w : World} {v : Value} {t : List (Int × Int)} (h : RV w v t) (k : Nat) (hk : v.ownBlock = some k) : k < w.heap.size := (World.ownsRow.lt h k hk).2
/-- How a number reads. -/
def intElem : Rd
  | .int .i64 x => some (.lit (.int .i64 x), [])
  | _ => none
def eNum : Elem Nat intElem := ⟨fun k => .int .i64 (k : Nat), fun k => .lit (.int .i64 (k : Nat)), fun x => rfl, fun v x ps h => by
  unfold intElem at h
  split at h
  · simp only [Option.some.injEq, Prod.mk.injEq, DataW.lit.injEq, Lit.int.injEq, true_and] at h
    rw [h.1]
  · cases h⟩
/-- The front in block b. -/
structure FqAt (w : World) (b g mb : Nat) (Sg : Nat → Prop) (rv : Value) (N : Nat) (s : Fp) : Prop where
  hd : Row w b 170 #[ptr g, .int .i64 (s.room : Nat), .map (some mb), rv]
  heap : Hq w g Sg s.room s.f
  num : Mp eNum w mb N (numOf s.R)
  own : RV w rv s.R
  ok : FOk N s
  sep : b ≠ mb ∧ ¬ Sg b ∧ ¬ Sg mb ∧ rv.ownBlock ≠ some b ∧ rv.ownBlock ≠ some mb ∧ ∀ k, Sg k → rv.ownBlock ≠ some k
def FB (b mb : Nat) (Sg : Nat → Prop) (rv : Value) (k : Nat) : Prop := k = b ∨ k = mb ∨ Sg k ∨ rv.ownBlock = some k
def Fq (w : World) (b : Nat) (S : Nat → Prop) (N : Nat) (s : Fp) : Prop := ∃ g mb Sg rv, FqAt w b g mb Sg rv N s ∧ ∀ k, S k ↔ FB b mb Sg rv k
theorem FqAt.only {w w' : World} {S' : Nat → Prop} {b g mb N : Nat} {Sg : Nat → Prop} {rv : Value} {s : Fp} (h : FqAt w b g mb Sg rv N s) (ho : Only S' w w') (hS : ∀ k, FB b mb Sg rv k → ¬ S' k) : FqAt w' b g mb Sg rv N s :=
  ⟨h.hd.only ho (hS _ (.inl rfl)), h.heap.only ho (fun k hk => hS k (.inr (.inr (.inl hk)))), h.num.only ho (hS _ (.inr (.inl rfl))), h.own.only ho (fun k hk => hS k (.inr (.inr (.inr hk)))), h.ok, h.sep⟩
theorem FqAt.lt {w : World} {b g mb N : Nat} {Sg : Nat → Prop} {rv : Value} {s : Fp} (h : FqAt w b g mb Sg rv N s) : ∀ k, FB b mb Sg rv k → k < w.heap.size := by
  rintro k (rfl | rfl | hk | hk)
  · exact h.hd.lt
  · exact h.num.lt
  · exact h.heap.lt k hk
  · exact h.own.lt k hk
theorem Fq.only {w w' : World} {S S' : Nat → Prop} {b N : Nat} {s : Fp} (h : Fq w b S N s) (ho : Only S' w w') (hS : ∀ k, S k → ¬ S' k) : Fq w' b S N s := by
  obtain ⟨g, mb, Sg, rv, h1, h2⟩ := h
  exact ⟨g, mb, Sg, rv, h1.only ho (fun k hk => hS k ((h2 k).2 hk)), h2⟩
theorem Fq.under {w w' : World} {S : Nat → Prop} {b N : Nat} {s : Fp} (h : Fq w b S N s) (hb : Below w.heap.size w w') : Fq w' b S N s := h.only (Only.of_below (fun _ => False) hb) (fun _ _ h => h)
theorem Fq.lt {w : World} {S : Nat → Prop} {b N : Nat} {s : Fp} (h : Fq w b S N s) : ∀ k, S k → k < w.heap.size := by
  obtain ⟨g, mb, Sg, rv, h1, h2⟩ := h
  exact fun k hk => h1.lt k ((h2 k).1 hk)
theorem Fq.ok {w : World} {S : Nat → Prop} {b N : Nat} {s : Fp} (h : Fq w b S N s) : FOk N s := by
  obtain ⟨g, mb, Sg, rv, h1, h2⟩ := h
  exact h1.ok
/-- Behind a step. -/
def FDid (w : World) (b N : Nat) (S : Nat → Prop) (s : Fp) (w' : World) : Prop := ∃ S', Fq w' b S' N s ∧ (∀ k, S' k → S k ∨ w.heap.size ≤ k) ∧ Only S w w'
theorem numZ (w : World) : (zeroValue 3).run Tryz.prog w = .ok (.int .i64 0) w := by
  have h : Tryz.t3.zero = some (.int .i64 0) := by kernel_rfl
  simp [zeroValue, Tryz.zeroValue3, h]
set_option maxRecDepth 100000 in
set_option maxHeartbeats 1000000 in
theorem newFront_any {N : Nat} (hN : N ≤ 16777216) (w : World) :
    Calls Tryz.prog 75 #[] w fun e w' => ∃ b S, e = .returned (ptr b) ∧ Fq w' b S N ⟨16, [], fun _ => none⟩ ∧ (∀ k, S k → w.heap.size ≤ k) ∧ Below w.heap.size w w' := by
  have hmk : ∀ W : World, (Instr.makeMap 167 none).run Tryz.prog W = .ok (.map (some W.heap.size)) (W.alloc (.map #[] 0)) := fun W => rfl
  go_enter Tryz.func75, Tryz.ntmps75
  go_wp2_with (refine (new_in 16 w (by omega)).mono ?_; rintro e w1 ⟨g, rfl, Sg, hq, hs, hb⟩; have HQ := Lib.hid (And.intro hq (And.intro hs hb)); clear hq hs hb)
  go_ret
  obtain ⟨hq, hs, hb⟩ := HQ.out
  have hz := hb.size
  have hb1 : Below w1.heap.size w1 (w1.alloc (.map #[] 0)) := (Below.refl _ _).alloc (Nat.le_refl _) _
  have hb2 : Below w1.heap.size w1 ((w1.alloc (.map #[] 0)).alloc (.cells #[ptr g, .int .i64 16, .map (some w1.heap.size), .slice none 0 0] 170)) := hb1.alloc (by simp) _
  have hlt := hq.lt
  refine ⟨w1.heap.size + 1, FB (w1.heap.size + 1) w1.heap.size Sg (.slice none 0 0), by simp [ptr], ⟨g, w1.heap.size, Sg, .slice none 0 0, ⟨?_, hq.below hb2, ?_, RV.nil _, ⟨by simp, by simp, hN, by simp, by simp, by simp, by simp⟩, by omega, fun h => by have := hlt _ h; omega, fun h => by have := hlt _ h; omega, by simp [Value.ownBlock], by simp [Value.ownBlock], by simp [Value.ownBlock]⟩, fun k => Iff.rfl⟩, ?_, ?_⟩
  · have hr := Row.fresh (w1.alloc (.map #[] 0)) 170 #[ptr g, .int .i64 16, .map (some w1.heap.size), .slice none 0 0]
    rw [World.size_alloc] at hr
    exact hr
  · refine ((Mp.made eNum w1 N).under ((Below.refl _ _).alloc (Nat.le_refl _) _)).congr fun z => ?_
    simp [numOf]
  · rintro k (rfl | rfl | hk | hk)
    · omega
    · omega
    · exact hs k hk
    · simp [Value.ownBlock] at hk
  · exact hb.trans ((hb2.mono hz))
end Go.Proofs.YtdkpdmpghibmmaaGreat

/- left: front.pop. -/
namespace Go.Proofs.YtdkpdmpghibmmaaGreat
open Go.RowKit Go.Maps Hp
def Fp.pop (s : Fp) (k : Nat) : Fp := ⟨s.room, s.R, upd s.f k none⟩
theorem FOk.pop {N : Nat} {s : Fp} (h : FOk N s) (k : Nat) : FOk N (s.pop k) := by
  refine ⟨h.nod, h.rng, h.small, h.len, h.lo, h.hi, fun j d hj => ?_⟩
  by_cases e : j = k
  · subst e; simp [Fp.pop, upd] at hj
  · simp only [Fp.pop, upd, if_neg e] at hj
    exact h.key j d hj
theorem FqAt.heaped {w w' : World} {b g mb N : Nat} {Sg : Nat → Prop} {rv : Value} {s : Fp} {f' : Nat → Option Int} (h : FqAt w b g mb Sg rv N s) (hd : Did w g s.room Sg f' w') (hk : FOk N ⟨s.room, s.R, f'⟩) :
    ∃ Sg', FqAt w' b g mb Sg' rv N ⟨s.room, s.R, f'⟩ ∧ (∀ k, Sg' k → Sg k ∨ w.heap.size ≤ k) ∧ Only Sg w w' := by
  obtain ⟨S', q1, q2, q3⟩ := hd
  obtain ⟨s1, s2, s3, s4, s5, s6⟩ := h.sep
  have hlt := h.lt
  have l1 := hlt b (.inl rfl)
  have l2 := hlt mb (.inr (.inl rfl))
  refine ⟨S', ⟨h.hd.only q3 s2, q1, h.num.only q3 s3, h.own.only q3 (fun k hk hs => s6 k hs hk), hk, s1, fun hs => ?_, fun hs => ?_, s4, s5, fun k hs hk => ?_⟩, q2, q3⟩
  · rcases q2 _ hs with e | e
    · exact s2 e
    · omega
  · rcases q2 _ hs with e | e
    · exact s3 e
    · omega
  · rcases q2 _ hs with e | e
    · exact s6 k e hk
    · have := hlt k (.inr (.inr (.inr hk)))
      omega
theorem FqAt.did {w w' : World} {b g mb N : Nat} {Sg : Nat → Prop} {rv : Value} {s s' : Fp} {S : Nat → Prop} {g' : Nat} {Sg' : Nat → Prop} {rv' : Value} (_h : FqAt w b g mb Sg rv N s) (hS : ∀ k, S k ↔ FB b mb Sg rv k) (h' : FqAt w' b g' mb Sg' rv' N s')
    (h1 : ∀ k, FB b mb Sg' rv' k → FB b mb Sg rv k ∨ w.heap.size ≤ k) (ho : Only (FB b mb Sg rv) w w') : FDid w b N S s' w' :=
  ⟨FB b mb Sg' rv', ⟨g', mb, Sg', rv', h', fun k => Iff.rfl⟩, fun k hk => (h1 k hk).imp (hS k).2 id, ho.mono fun k hk => .inl ((hS k).2 hk)⟩
set_option maxRecDepth 100000 in
set_option maxHeartbeats 2000000 in
theorem fpop_any {w : World} {b N : Nat} {S : Nat → Prop} {s : Fp} (h : Fq w b S N s) :
    Calls Tryz.prog 77 #[ptr b] w fun e w' => (e = .returned (told 0 0 false) ∧ (∀ k, s.f k = none) ∧ FDid w b N S s w') ∨
      ∃ k d p, e = .returned (told p d true) ∧ s.f k = some d ∧ (∃ hk : k < s.R.length, s.R[k]'hk = (p, d)) ∧ FDid w b N S (s.pop k) w' := by
  obtain ⟨g, mb, Sg, rv, h1, hS⟩ := h
  have c0 := h1.hd.cell 0
  simp only [List.getElem?_toArray, List.getElem?_cons_zero, List.getElem?_cons_succ] at c0
  have HH := Lib.hid (And.intro h1 hS)
  clear h1 hS
  go_enter Tryz.func77, Tryz.ntmps77
  go_wp2_with fail
  refine (pop_any g s.room Sg s.f w HH.out.1.heap).mono ?_
  rintro e w1 hp
  rcases hp with ⟨rfl, hn, hd⟩ | ⟨i, k, rfl, hf, hd⟩
  · have HP := Lib.hid (And.intro hn hd)
    clear hn hd
    unfold told
    go_wp2
    refine bodyPost_ret (v := told 0 0 false) (by simp [results, Tryz.results77, go_sem, told]) rfl ?_
    obtain ⟨hn, hd⟩ := HP.out
    obtain ⟨Sg', h2, h3, h4⟩ := HH.out.1.heaped hd HH.out.1.ok
    refine .inl ⟨rfl, hn, HH.out.1.did HH.out.2 h2 (fun k hk => ?_) (h4.mono fun k hk => .inl (.inr (.inr (.inl hk))))⟩
    rcases hk with e | e | e | e
    · exact .inl (.inl e)
    · exact .inl (.inr (.inl e))
    · exact (h3 k e).imp (fun e => .inr (.inr (.inl e))) id
    · exact .inl (.inr (.inr (.inr e)))
  · obtain ⟨Sg', h2, h3, h4⟩ := HH.out.1.heaped hd (HH.out.1.ok.pop i)
    obtain ⟨hi, hk⟩ := HH.out.1.ok.key i k hf.1
    obtain ⟨rb, c, hrv, _, d0, d1⟩ := h2.own.at_ hi
    subst hrv
    have c3 := h2.hd.cell 3
    simp only [List.getElem?_toArray, List.getElem?_cons_zero, List.getElem?_cons_succ] at c3
    have HP := Lib.hid (And.intro hf (And.intro h2 (And.intro h3 h4)))
    have HK := Lib.hid hk
    clear hf hd h2 h3 h4 hk
    unfold told
    go_wp2
    refine bodyPost_ret (v := told (s.R[i]'hi).1 k true) (by simp [results, Tryz.results77, go_sem, told]) rfl ?_
    obtain ⟨hf, h2, h3, h4⟩ := HP.out
    refine .inr ⟨i, k, _, rfl, hf.1, ⟨hi, ?_⟩, HH.out.1.did HH.out.2 h2 (fun k hk => ?_) (h4.mono fun k hk => .inl (.inr (.inr (.inl hk))))⟩
    · exact Prod.ext rfl HK.out
    rcases hk with e | e | e | e
    · exact .inl (.inl e)
    · exact .inl (.inr (.inl e))
    · exact (h3 k e).imp (fun e => .inr (.inr (.inl e))) id
    · exact .inl (.inr (.inr (.inr e)))
end Go.Proofs.YtdkpdmpghibmmaaGreat

/- left: front.grow. -/
namespace Go.Proofs.YtdkpdmpghibmmaaGreat
open Go.RowKit Go.Maps Hp
def keyO : Option Int → Value
  | some d => keyed d true
  | none => keyed 0 false
theorem key_at {w : World} {g n : Nat} {S : Nat → Prop} {f : Nat → Option Int} (h : Hq w g S n f) (k : Nat) : Calls Tryz.prog 135 #[ptr g, .int .i64 k] w fun e w' => e = .returned (keyO (f k)) ∧ Below w.heap.size w w' := by
  by_cases hk : k < n
  · cases hf : f k with
    | none => exact (key_no g n k S f w h hk hf).mono fun e w' he => ⟨he.1, by rw [he.2]; exact Below.refl _ _⟩
    | some d => exact key_yes g n k S f d w h hf
  · have hf : f k = none := by
      cases hf : f k with
      | none => rfl
      | some d => exact absurd (h.some_lt hf) hk
    rw [hf]
    exact (key_out g n S f k w h (.inr (by omega))).mono fun e w' he => ⟨he.1, by rw [he.2]; exact Below.refl _ _⟩
def cutF (f : Nat → Option Int) (i : Nat) : Nat → Option Int := fun k => if k < i then f k else none
theorem cutF_zero (f : Nat → Option Int) : cutF f 0 = fun _ => none := by
  funext k
  simp [cutF]
theorem cutF_none {f : Nat → Option Int} {i : Nat} (h : f i = none) : cutF f (i + 1) = cutF f i := by
  funext k
  unfold cutF
  by_cases e : k = i
  · subst e
    rw [if_pos (by omega), if_neg (by omega), h]
  · by_cases e2 : k < i
    · rw [if_pos (by omega), if_pos e2]
    · rw [if_neg (by omega), if_neg e2]
theorem cutF_some {f : Nat → Option Int} {i : Nat} {d : Int} (h : f i = some d) : cutF f (i + 1) = upd (cutF f i) i (some d) := by
  funext k
  unfold upd
  by_cases e : k = i
  · subst e
    rw [if_pos rfl]
    unfold cutF
    rw [if_pos (by omega), h]
  · rw [if_neg e]
    unfold cutF
    by_cases e2 : k < i
    · rw [if_pos (by omega), if_pos e2]
    · rw [if_neg (by omega), if_neg e2]
structure GrI (w : World) (b g g1 mb r' L c : Nat) (ad : Option Addr) (f : Nat → Option Int) (i : Nat) (S1 : Nat → Prop) (wr : World) : Prop where
  hq : Hq wr g1 S1 r' (cutF f i)
  fresh : ∀ k, S1 k → w.heap.size ≤ k
  only : Only (fun k => k = b) w wr
  row : Row wr b 170 #[ptr g, .int .i64 (r' : Nat), .map (some mb), .slice ad L c]
theorem new_at {r' : Nat} {z : Int} (hz : z = (r' : Nat)) (w : World) (hn : r' ≤ 16777216) : Calls Tryz.prog 88 #[.int .i64 z] w fun e w' => ∃ g, e = .returned (ptr g) ∧ Newed w r' g w' := by
  subst hz
  exact new_in r' w hn
theorem GrI.step {w wr w' : World} {b g g1 mb r' L c : Nat} {ad : Option Addr} {f : Nat → Option Int} {i : Nat} {S1 : Nat → Prop} {f' : Nat → Option Int} (h : GrI w b g g1 mb r' L c ad f i S1 wr) (hb : b < w.heap.size) (hd : Did wr g1 r' S1 f' w') (he : f' = cutF f (i + 1)) : ∃ S2, GrI w b g g1 mb r' L c ad f (i + 1) S2 w' := by
  obtain ⟨S2, q1, q2, q3⟩ := hd
  subst he
  refine ⟨S2, q1, fun k hk => ?_, ?_, h.row.only q3 (fun e => by have := h.fresh _ e; omega)⟩
  · rcases q2 k hk with e | e
    · exact h.fresh k e
    · have := h.only.size; omega
  · exact h.only.trans q3 (fun k hk => .inr (h.fresh k hk))
theorem GrI.below {w wr w' : World} {b g g1 mb r' L c : Nat} {ad : Option Addr} {f : Nat → Option Int} {i : Nat} {S1 : Nat → Prop} (h : GrI w b g g1 mb r' L c ad f i S1 wr) (hb : Below wr.heap.size wr w') : GrI w b g g1 mb r' L c ad f i S1 w' :=
  ⟨h.hq.below hb, h.fresh, h.only.trans (S' := fun _ => False) (Only.of_below _ hb) (fun _ h => h.elim), h.row.under hb h.row.lt⟩
theorem grow_end {f : Nat → Option Int} {room L : Nat} (hL : room ≤ L) (hf : ∀ k d, f k = some d → k < room) : cutF f L = f := by
  funext k
  unfold cutF
  by_cases e : k < L
  · rw [if_pos e]
  · rw [if_neg e]
    cases hk : f k with
    | none => rfl
    | some d => have := hf k d hk; omega
set_option maxRecDepth 100000 in
set_option maxHeartbeats 4000000 in
theorem grow_any {w : World} {b g mb room L c : Nat} {Sg : Nat → Prop} {f : Nat → Option Int} {ad : Option Addr} (hd : Row w b 170 #[ptr g, .int .i64 (room : Nat), .map (some mb), .slice ad L c])
    (hh : Hq w g Sg room f) (hs : ¬ Sg b) (hr : room ≤ 16777216) (hL : room ≤ L) (hL2 : L ≤ 16777217) :
    Calls Tryz.prog 114 #[ptr b] w fun e w' => e = .returned (.tuple #[]) ∧ ∃ g' Sg', Hq w' g' Sg' (min (room * 4) 16777216) f ∧ (∀ k, Sg' k → w.heap.size ≤ k) ∧ Row w' b 170 #[ptr g', .int .i64 (min (room * 4) 16777216 : Nat), .map (some mb), .slice ad L c] ∧ Only (fun k => k = b) w w' := by
  have c1 := hd.cell 1
  have f1 := hd.thaw 1
  have hbl := hd.lt
  simp only [List.getElem?_toArray, List.getElem?_cons_zero, List.getElem?_cons_succ] at c1
  obtain ⟨r', hr'⟩ : ∃ r', r' = min (room * 4) 16777216 := ⟨_, rfl⟩
  have hle : room ≤ r' ∧ r' ≤ 16777216 := by omega
  rw [← hr']
  have HD := Lib.hid (And.intro hd (And.intro hh (And.intro hs (And.intro hr' hle))))
  have HL := Lib.hid hL
  clear hd hh hs
  rcases Nat.lt_or_ge 16777216 (room * 4) with hc | hc
  all_goals
    first
    | (have hcI : (16777216 : Int) < (room : Int) * 4 := (by omega); have HC := Lib.hid (show (16777216 : Int) = (r' : Nat) by omega))
    | (have hcI : (room : Int) * 4 ≤ 16777216 := (by omega); have HC := Lib.hid (show (room : Int) * 4 = (r' : Nat) by omega))
    clear hc hr'
    go_enter Tryz.func114, Tryz.ntmps114
    go_wp2_with (go_at_call 88; refine (new_at HC.out _ HD.out.2.2.2.2.2).mono ?_)
    rintro e w1 ⟨g1, rfl, S1, hq, hs1, hb1⟩
    have hz1 := hb1.size
    have hI : ∀ z : Int, z = (r' : Nat) → Below (w.setCell ⟨b, 1, none⟩ (.int .i64 z)).heap.size (w.setCell ⟨b, 1, none⟩ (.int .i64 z)) w1 → GrI w b g g1 mb r' L c ad f 0 S1 w1 := by
      rintro z rfl hb
      have ho : Only (fun k => k = b) w (w.setCell ⟨b, 1, none⟩ (.int .i64 (r' : Nat))) := (Only.refl (fun k => k = b) w).setCell (p := ⟨b, 1, none⟩) (.inl rfl) _
      have hrow := (HD.out.1.put 1 (.int .i64 (r' : Nat)))
      exact ⟨by rw [cutF_zero]; exact hq, fun k hk => by have := hs1 k hk; simp at this; omega, ho.trans (S' := fun _ => False) (Only.of_below _ hb) (fun _ h => h.elim), hrow.under hb hrow.lt⟩
    have HI := Lib.hid (hI _ HC.out hb1)
    have HG := Lib.hid (grow_end (f := f) HL.out (fun k d => HD.out.2.1.some_lt))
    have c3 := HI.out.row.cell 3
    simp only [List.getElem?_toArray, List.getElem?_cons_zero, List.getElem?_cons_succ] at c3
    clear hI hq hs1 hb1
    have hcc : w1.cell? ⟨b, 3, none⟩ = some (.slice ad (L : Nat) c) := c3
    clear c3 c1 f1 hcI HC
    go_wp2
    go_loopw [25] (fun vi wr => ∃ (i : Nat) (S1 : Nat → Prop), i ≤ L ∧ vi = .int .i64 (i : Nat) ∧ GrI w b g g1 mb r' L c ad f i S1 wr) (fun vi _ => L - (intOf vi).toNat)
    case atStart => exact ⟨0, S1, Nat.zero_le _, rfl, HI.out⟩
    case round =>
      obtain ⟨i, S2, hiL, rfl, hI⟩ := hrel
      have c0 := hI.row.cell 0
      have f0 := hI.row.thaw 0
      simp only [List.getElem?_toArray, List.getElem?_cons_zero, List.getElem?_cons_succ] at c0
      have H2 := Lib.hid hI
      have hbw := Nat.lt_of_lt_of_le hbl hI.only.size
      clear hI
      by_cases hi : i < L
      · cases hf : f i
        all_goals
          have HF := Lib.hid hf
          clear hf
          go_wp2_with (go_at_call 135; refine (key_at (HD.out.2.1.only H2.out.only (fun k hk e => HD.out.2.2.1 (e ▸ hk))) i).mono ?_; rw [HF.out]; unfold keyO keyed; rintro e w2 ⟨rfl, hb2⟩; have H3 := Lib.hid (H2.out.below hb2); clear hb2)
          first
          | (go_wp2_with (go_at_call 89; refine (set_in g1 r' i S2 _ _ _ H3.out.hq (Nat.lt_of_lt_of_le (HD.out.2.1.some_lt HF.out) HD.out.2.2.2.2.1)).mono ?_; rintro e w3 ⟨rfl, hd3⟩; have H4 := Lib.hid (H3.out.step hbl hd3 (cutF_some HF.out).symm); clear hd3)
             skip)
          | skip
        · refine ⟨⟨i + 1, S2, hi, by go_num, ?_⟩, by simp [intOf]; omega⟩
          have h3 := H3.out
          exact ⟨by rw [cutF_none HF.out]; exact h3.hq, h3.fresh, h3.only, h3.row⟩
        · obtain ⟨S3, h4⟩ := H4.out
          exact ⟨⟨i + 1, S3, hi, by go_num, h4⟩, by simp [intOf]; omega⟩
      · have hiE : i = L := by omega
        go_wp2
        go_end0
        have h2 := H2.out
        rw [hiE] at h2
        have hr2 := h2.row.put 0 (ptr g1)
        refine ⟨rfl, g1, S2, ?_, h2.fresh, hr2, h2.only.setCell (.inl rfl) _⟩
        have h3 := h2.hq.only (((Only.refl (fun k => k = b) wr).setCell (p := ⟨b, 0, none⟩) (.inl rfl) (ptr g1))) (fun k hk e => by have := h2.fresh k hk; omega)
        rw [HG.out] at h3
        exact h3
end Go.Proofs.YtdkpdmpghibmmaaGreat

/- left: front.reach. -/
namespace Go.Proofs.YtdkpdmpghibmmaaGreat
open Go.RowKit Go.Maps Hp
theorem infoR : (Tryz.prog.info? 172).map (fun i => (i.zero, i.size, i.bytes)) = some (some (.agg #[.int .i64 0, .int .i64 0]), 2, 16) := by kernel_rfl
/-- It was reached by no more. -/
theorem reach_less {w : World} {b N : Nat} {S : Nat → Prop} {s : Fp} (h : Fq w b S N s) {p d : Int} (hp : 0 ≤ p ∧ p < (N : Int)) {k : Nat} (hk : numOf s.R p = some k) (hd : (s.R.getD k (0, 0)).2 ≤ d) :
    Calls Tryz.prog 76 #[ptr b, .int .i64 p, .int .i64 d] w fun e w' => e = .returned (.tuple #[]) ∧ Below w.heap.size w w' := by
  obtain ⟨g, mb, Sg, rv, h1, hS⟩ := h
  obtain ⟨hkl, hkp⟩ := numOf_some hk
  obtain ⟨rb, c, rfl, _, d0, d1⟩ := h1.own.at_ hkl
  have hd2 : (s.R[k]'hkl).2 ≤ d := by rw [List.getD_eq_getElem?_getD, List.getElem?_eq_getElem hkl] at hd; exact hd
  have hlk := h1.num.look true Tryz.underlying167 (numZ w) (wf_nat hp h1.ok.small)
  rw [hk] at hlk
  dsimp only [valO, eNum] at hlk
  have c2 := h1.hd.cell 2
  have c3 := h1.hd.cell 3
  simp only [List.getElem?_toArray, List.getElem?_cons_zero, List.getElem?_cons_succ] at c2 c3
  have HH := Lib.hid (And.intro h1 hS)
  have HK := Lib.hid hkp
  clear h1 hS hk hd hkp
  go_enter Tryz.func76, Tryz.ntmps76
  go_wp2
  exact bodyPost_ret (v := .tuple #[]) (by simp [results, Tryz.results76, go_sem]) rfl ⟨rfl, Below.refl _ _⟩
theorem RV.set {w : World} {rb L c : Nat} {R : List (Int × Int)} (h : RV w (.slice (some ⟨rb, 0, none⟩) L c) R) {k : Nat} (hk : k < R.length) (z : Int) :
    RV (w.setCell ⟨rb, k * 2 + 1, none⟩ (.int .i64 z)) (.slice (some ⟨rb, 0, none⟩) L c) (R.set k ((R[k]'hk).1, z)) ∧ w.frozen? ⟨rb, k * 2 + 1, none⟩ = false := by
  rcases h.2 with ⟨h0, _⟩ | ⟨g', cap, cur, e1, h1, h2, h3, h4, h5, h6⟩
  · cases h0
  · cases e1
    have hr : Row w rb 172 cur := h2
    refine ⟨?_, hr.thaw _⟩
    unfold RV
    rw [List.length_set, ← rcells_set]
    refine ⟨by rw [List.length_set]; exact h.1, .inr ⟨rb, c, cur.setIfInBounds (k * 2 + 1) (.int .i64 z), rfl, h1, hr.put _ _, h3, h4, by simp [h5], ?_⟩⟩
    rw [← h6, Array.toList_setIfInBounds, List.take_set]
theorem FqAt.stored {w w2 : World} {b g mb N rb L c k : Nat} {Sg : Nat → Prop} {s : Fp} {p d : Int} (h : FqAt w b g mb Sg (.slice (some ⟨rb, 0, none⟩) L c) N s) (hk : k < s.R.length) (hp : (s.R[k]'hk).1 = p)
    (hd : Did (w.setCell ⟨rb, k * 2 + 1, none⟩ (.int .i64 d)) g s.room Sg (upd s.f k (some d)) w2) :
    ∃ Sg', FqAt w2 b g mb Sg' (.slice (some ⟨rb, 0, none⟩) L c) N ⟨s.room, s.R.set k (p, d), upd s.f k (some d)⟩ ∧ (∀ k, Sg' k → Sg k ∨ w.heap.size ≤ k) ∧ Only (FB b mb Sg (.slice (some ⟨rb, 0, none⟩) L c)) w w2 := by
  obtain ⟨S', q1, q2, q3⟩ := hd
  obtain ⟨s1, s2, s3, s4, s5, s6⟩ := h.sep
  have hlt := h.lt
  have l1 := hlt b (.inl rfl)
  have l2 := hlt mb (.inr (.inl rfl))
  have l3 := hlt rb (.inr (.inr (.inr rfl)))
  have hsz : (w.setCell ⟨rb, k * 2 + 1, none⟩ (.int .i64 d)).heap.size = w.heap.size := by simp
  have ho : Only (fun q => q = rb) w (w.setCell ⟨rb, k * 2 + 1, none⟩ (.int .i64 d)) := (Only.refl (fun q => q = rb) w).setCell (p := ⟨rb, k * 2 + 1, none⟩) (.inl rfl) _
  have hO : Only (fun q => q = rb ∨ Sg q) w w2 := (ho.mono fun q hq => .inl (.inl hq)).trans q3 (fun q hq => .inl (.inr hq))
  obtain ⟨hset, _⟩ := h.own.set hk d
  rw [hp] at hset
  have hnb : ¬ (b = rb ∨ Sg b) := by
    rintro (e | e)
    · exact s4 (by rw [e]; rfl)
    · exact s2 e
  have hnm : ¬ (mb = rb ∨ Sg mb) := by
    rintro (e | e)
    · exact s5 (by rw [e]; rfl)
    · exact s3 e
  refine ⟨S', ⟨h.hd.only hO hnb, q1, ?_, hset.only q3 (fun q hq hs => s6 q hs hq), ?_, s1, fun hs => ?_, fun hs => ?_, s4, s5, fun q hs hq => ?_⟩, fun q hq => by rw [← hsz]; exact q2 q hq, hO.mono fun q hq => ?_⟩
  · exact (h.num.only hO hnm).congr fun z => numOf_map (map_set_same hk hp).symm z
  · have hok := h.ok
    refine ⟨by rw [map_set_same hk hp]; exact hok.nod, fun x hx => ?_, hok.small, by rw [List.length_set]; exact hok.len, hok.lo, hok.hi, fun j e hj => ?_⟩
    · rcases List.mem_or_eq_of_mem_set hx with hx | rfl
      · exact hok.rng x hx
      · have hx2 : 0 ≤ (s.R[k]'hk).1 ∧ (s.R[k]'hk).1 < (N : Int) := hok.rng (s.R[k]'hk) (List.getElem_mem hk)
        subst hp
        exact hx2
    · by_cases ej : j = k
      · subst ej
        simp only [upd, if_pos] at hj
        injection hj with hj
        exact ⟨by rw [List.length_set]; exact hk, by simp [hj]⟩
      · simp only [upd, if_neg ej] at hj
        obtain ⟨h1, h2⟩ := hok.key j e hj
        exact ⟨by rw [List.length_set]; exact h1, by simp [List.getElem_set_ne (Ne.symm ej), h2]⟩
  · rcases q2 _ hs with e | e
    · exact s2 e
    · omega
  · rcases q2 _ hs with e | e
    · exact s3 e
    · omega
  · rcases q2 _ hs with e | e
    · exact s6 q e hq
    · have := hlt q (.inr (.inr (.inr hq)))
      omega
  · rcases hq with rfl | hq
    · exact .inl (.inr (.inr (.inr rfl)))
    · exact .inl (.inr (.inr (.inl hq)))
set_option maxRecDepth 100000 in
set_option maxHeartbeats 2000000 in
/-- It was reached by more. -/
theorem reach_more {w : World} {b N : Nat} {S : Nat → Prop} {s : Fp} (h : Fq w b S N s) {p d : Int} (hp : 0 ≤ p ∧ p < (N : Int)) {k : Nat} (hk : numOf s.R p = some k) (hd : ¬ (s.R.getD k (0, 0)).2 ≤ d) :
    Calls Tryz.prog 76 #[ptr b, .int .i64 p, .int .i64 d] w fun e w' => e = .returned (.tuple #[]) ∧ FDid w b N S ⟨s.room, s.R.set k (p, d), upd s.f k (some d)⟩ w' := by
  obtain ⟨g, mb, Sg, rv, h1, hS⟩ := h
  obtain ⟨hkl, hkp⟩ := numOf_some hk
  obtain ⟨rb, c, rfl, _, d0, d1⟩ := h1.own.at_ hkl
  have hd2 : ¬ (s.R[k]'hkl).2 ≤ d := by rw [List.getD_eq_getElem?_getD, List.getElem?_eq_getElem hkl] at hd; exact hd
  have hlk := h1.num.look true Tryz.underlying167 (numZ w) (wf_nat hp h1.ok.small)
  rw [hk] at hlk
  dsimp only [valO, eNum] at hlk
  have c0 := h1.hd.cell 0
  have c1 := h1.hd.cell 1
  have c2 := h1.hd.cell 2
  have c3 := h1.hd.cell 3
  simp only [List.getElem?_toArray, List.getElem?_cons_zero, List.getElem?_cons_succ] at c0 c1 c2 c3
  have hfz := (h1.own.set hkl d).2
  have hrm : ¬ ((s.room : Nat) : Int) ≤ (k : Int) := by have := h1.ok.len; omega
  have hrm2 : ¬ s.room ≤ k := by omega
  obtain ⟨s1, s2, s3, s4, s5, s6⟩ := h1.sep
  have hne : b ≠ rb := fun e => s4 (by rw [e]; rfl)
  have hq : Hq (w.setCell ⟨rb, k * 2 + 1, none⟩ (.int .i64 d)) g Sg s.room s.f := h1.heap.only ((Only.refl (fun q => q = rb) w).setCell (p := ⟨rb, k * 2 + 1, none⟩) (.inl rfl) _) (fun q hq e => s6 q hq (by rw [e]; rfl))
  have HH := Lib.hid (And.intro h1 (And.intro hS hq))
  have HK := Lib.hid (And.intro hkp h1.ok.len)
  have hkd : (s.R[k]'hkl).2 > d := by omega
  clear h1 hS hk hd hkp s1 s2 s3 s4 s5 s6 hq
  go_enter Tryz.func76, Tryz.ntmps76
  go_wp2_with (go_at_call 89; refine (set_in g s.room k Sg s.f d _ HH.out.2.2 (by omega)).mono ?_; rintro e w2 ⟨rfl, hd2⟩; have HD := Lib.hid hd2; clear hd2)
  go_end0
  obtain ⟨Sg', h2, h3, h4⟩ := HH.out.1.stored hkl HK.out.1 HD.out
  refine ⟨rfl, HH.out.1.did HH.out.2.1 h2 (fun q hq => ?_) h4⟩
  rcases hq with e | e | e | e
  · exact .inl (.inl e)
  · exact .inl (.inr (.inl e))
  · exact (h3 q e).imp (fun e => .inr (.inr (.inl e))) id
  · exact .inl (.inr (.inr (.inr e)))
end Go.Proofs.YtdkpdmpghibmmaaGreat

/- left: front.reach of a place that is new: the pieces of the front, turned one by one. -/
namespace Go.Proofs.YtdkpdmpghibmmaaGreat
open Go.RowKit Go.Maps Hp
/-- The front's pieces in the midst of a step, seen from w0. -/
structure Fx (w0 w : World) (S : Nat → Prop) (b g mb : Nat) (Sg : Nat → Prop) (hv rv : Value) (N room : Nat) (F : Int → Option Nat) (f : Nat → Option Int) (R : List (Int × Int)) : Prop where
  hd : Row w b 170 #[ptr g, .int .i64 (room : Nat), .map (some mb), hv]
  heap : Hq w g Sg room f
  num : Mp eNum w mb N F
  own : RV w rv R
  sep : b ≠ mb ∧ ¬ Sg b ∧ ¬ Sg mb ∧ rv.ownBlock ≠ some b ∧ rv.ownBlock ≠ some mb ∧ ∀ k, Sg k → rv.ownBlock ≠ some k
  only : Only S w0 w
  blk : ∀ k, FB b mb Sg rv k → S k ∨ w0.heap.size ≤ k
theorem FqAt.fx {w : World} {b g mb N : Nat} {Sg : Nat → Prop} {rv : Value} {s : Fp} (h : FqAt w b g mb Sg rv N s) {S : Nat → Prop} (hS : ∀ k, S k ↔ FB b mb Sg rv k) : Fx w w S b g mb Sg rv rv N s.room (numOf s.R) s.f s.R :=
  ⟨h.hd, h.heap, h.num, h.own, h.sep, Only.refl _ _, fun k hk => .inl ((hS k).2 hk)⟩
section
variable {w0 w w' : World} {S : Nat → Prop} {b g mb : Nat} {Sg : Nat → Prop} {hv rv : Value} {N room : Nat} {F : Int → Option Nat} {f : Nat → Option Int} {R : List (Int × Int)}
theorem Fx.lt (h : Fx w0 w S b g mb Sg hv rv N room F f R) : ∀ k, FB b mb Sg rv k → k < w.heap.size := by
  rintro k (rfl | rfl | hk | hk)
  · exact h.hd.lt
  · exact h.num.lt
  · exact h.heap.lt k hk
  · exact h.own.lt k hk
theorem Fx.below (h : Fx w0 w S b g mb Sg hv rv N room F f R) (hb : Below w.heap.size w w') : Fx w0 w' S b g mb Sg hv rv N room F f R := by
  have ho := Only.of_below (fun _ => False) hb
  exact ⟨h.hd.only ho (fun h => h), h.heap.below hb, h.num.under hb, h.own.only ho (fun _ _ h => h), h.sep, h.only.trans ho (fun _ h => h.elim), h.blk⟩
theorem Fx.put (h : Fx w0 w S b g mb Sg hv rv N room F f R) {F' : Int → Option Nat} (hm : Mp eNum w' mb N F') (hg : w.grownBy w' (some mb)) : Fx w0 w' S b g mb Sg hv rv N room F' f R := by
  have ho : Only (fun k => k = mb) w w' := (Only.refl _ w).grown hg (fun k hk => .inl (by injection hk with hk; exact hk.symm))
  obtain ⟨s1, s2, s3, s4, s5, s6⟩ := h.sep
  exact ⟨h.hd.only ho s1, h.heap.only ho (fun k hk e => s3 (e ▸ hk)), hm, h.own.only ho (fun k hk e => s5 (e ▸ hk)), h.sep, h.only.trans ho (fun k hk => hk ▸ h.blk mb (.inr (.inl rfl))), h.blk⟩
theorem Fx.sethd (h : Fx w0 w S b g mb Sg hv rv N room F f R) (v : Value) : Fx w0 (w.setCell ⟨b, 3, none⟩ v) S b g mb Sg v rv N room F f R := by
  have ho : Only (fun k => k = b) w (w.setCell ⟨b, 3, none⟩ v) := (Only.refl (fun k => k = b) w).setCell (p := ⟨b, 3, none⟩) (.inl rfl) _
  obtain ⟨s1, s2, s3, s4, s5, s6⟩ := h.sep
  exact ⟨h.hd.put 3 v, h.heap.only ho (fun k hk e => s2 (e ▸ hk)), h.num.only ho (Ne.symm s1), h.own.only ho (fun k hk e => s4 (e ▸ hk)), h.sep, h.only.trans ho (fun k hk => hk ▸ h.blk b (.inl rfl)), h.blk⟩
theorem Fx.app (h : Fx w0 w S b g mb Sg hv rv N room F f R) {rv' : Value} {R' : List (Int × Int)} (hR : RV w' rv' R') (hg : w.grownBy w' rv.ownBlock) (hown : rv'.ownBlock = rv.ownBlock ∨ rv'.ownBlock = some w.heap.size) : Fx w0 w' S b g mb Sg hv rv' N room F f R' := by
  have ho : Only (fun k => rv.ownBlock = some k) w w' := (Only.refl _ w).grown hg (fun k hk => .inl hk)
  obtain ⟨s1, s2, s3, s4, s5, s6⟩ := h.sep
  have hlt := h.lt
  have hno : ∀ k, k < w.heap.size → rv.ownBlock ≠ some k → rv'.ownBlock ≠ some k := fun k hk hn e => by
    rcases hown with e2 | e2
    · exact hn (e2 ▸ e)
    · rw [e2] at e; injection e with e; omega
  refine ⟨h.hd.only ho s4, h.heap.only ho (fun k hk e => s6 k hk e), h.num.only ho s5, hR, ⟨s1, s2, s3, hno b (hlt b (.inl rfl)) s4, hno mb (hlt mb (.inr (.inl rfl))) s5, fun k hk => hno k (hlt k (.inr (.inr (.inl hk)))) (s6 k hk)⟩, h.only.trans ho (fun k hk => h.blk k (.inr (.inr (.inr hk)))), ?_⟩
  rintro k (e | e | e | e)
  · exact h.blk k (.inl e)
  · exact h.blk k (.inr (.inl e))
  · exact h.blk k (.inr (.inr (.inl e)))
  · rcases hown with e2 | e2
    · exact h.blk k (.inr (.inr (.inr (e2 ▸ e))))
    · rw [e2] at e
      injection e with e
      have := h.only.size
      exact .inr (by omega)
theorem Fx.setrow {rb L c : Nat} (h : Fx w0 w S b g mb Sg hv (.slice (some ⟨rb, 0, none⟩) L c) N room F f R) {k : Nat} (hk : k < R.length) (z : Int) (hz : (R[k]'hk).2 = z) :
    Fx w0 (w.setCell ⟨rb, k * 2 + 1, none⟩ (.int .i64 z)) S b g mb Sg hv (.slice (some ⟨rb, 0, none⟩) L c) N room F f R := by
  have ho : Only (fun k => k = rb) w (w.setCell ⟨rb, k * 2 + 1, none⟩ (.int .i64 z)) := (Only.refl (fun k => k = rb) w).setCell (p := ⟨rb, k * 2 + 1, none⟩) (.inl rfl) _
  obtain ⟨s1, s2, s3, s4, s5, s6⟩ := h.sep
  have hs := (h.own.set hk z).1
  rw [← hz, List.set_getElem_self] at hs
  rw [hz] at hs
  exact ⟨h.hd.only ho (fun e => s4 (e ▸ rfl)), h.heap.only ho (fun q hq e => s6 q hq (e ▸ rfl)), h.num.only ho (fun e => s5 (e ▸ rfl)), hs, h.sep, h.only.trans ho (fun k hk => hk ▸ h.blk rb (.inr (.inr (.inr rfl)))), h.blk⟩
theorem Fx.set {f' : Nat → Option Int} (h : Fx w0 w S b g mb Sg hv rv N room F f R) (hd : Did w g room Sg f' w') : ∃ Sg', Fx w0 w' S b g mb Sg' hv rv N room F f' R := by
  obtain ⟨S', q1, q2, q3⟩ := hd
  obtain ⟨s1, s2, s3, s4, s5, s6⟩ := h.sep
  have hlt := h.lt
  have l1 := hlt b (.inl rfl)
  have l2 := hlt mb (.inr (.inl rfl))
  refine ⟨S', h.hd.only q3 s2, q1, h.num.only q3 s3, h.own.only q3 (fun k hk hs => s6 k hs hk), ⟨s1, fun hs => ?_, fun hs => ?_, s4, s5, fun k hs hk => ?_⟩, h.only.trans q3 (fun k hk => h.blk k (.inr (.inr (.inl hk)))), ?_⟩
  · rcases q2 _ hs with e | e
    · exact s2 e
    · omega
  · rcases q2 _ hs with e | e
    · exact s3 e
    · omega
  · rcases q2 _ hs with e | e
    · exact s6 k e hk
    · have := hlt k (.inr (.inr (.inr hk)))
      omega
  · rintro k (e | e | e | e)
    · exact h.blk k (.inl e)
    · exact h.blk k (.inr (.inl e))
    · rcases q2 k e with e | e
      · exact h.blk k (.inr (.inr (.inl e)))
      · have := h.only.size
        exact .inr (by omega)
    · exact h.blk k (.inr (.inr (.inr e)))
/-- The heap is another one, that is new. -/
theorem Fx.grown (h : Fx w0 w S b g mb Sg hv rv N room F f R) {g' room' : Nat} {Sg' : Nat → Prop} (hq : Hq w' g' Sg' room' f) (hf : ∀ k, Sg' k → w.heap.size ≤ k) (hr : Row w' b 170 #[ptr g', .int .i64 (room' : Nat), .map (some mb), hv]) (ho : Only (fun k => k = b) w w') : Fx w0 w' S b g' mb Sg' hv rv N room' F f R := by
  obtain ⟨s1, s2, s3, s4, s5, s6⟩ := h.sep
  have hlt := h.lt
  refine ⟨hr, hq, h.num.only ho (Ne.symm s1), h.own.only ho (fun k hk e => s4 (e ▸ hk)), ⟨s1, fun e => ?_, fun e => ?_, s4, s5, fun k hs hk => ?_⟩, h.only.trans ho (fun k hk => hk ▸ h.blk b (.inl rfl)), ?_⟩
  · have := hf _ e
    have := hlt b (.inl rfl)
    omega
  · have := hf _ e
    have := hlt mb (.inr (.inl rfl))
    omega
  · have := hf _ hs
    have := hlt k (.inr (.inr (.inr hk)))
    omega
  · rintro k (e | e | e | e)
    · exact h.blk k (.inl e)
    · exact h.blk k (.inr (.inl e))
    · have := hf _ e
      have := h.only.size
      exact .inr (by omega)
    · exact h.blk k (.inr (.inr (.inr e)))
/-- All is done. -/
theorem Fx.done {s : Fp} (h : Fx w0 w S b g mb Sg rv rv N s.room (numOf s.R) s.f s.R) (hok : FOk N s) : FDid w0 b N S s w :=
  ⟨FB b mb Sg rv, ⟨g, mb, Sg, rv, ⟨h.hd, h.heap, h.num, h.own, hok, h.sep⟩, fun _ => Iff.rfl⟩, h.blk, h.only⟩
end
set_option maxRecDepth 100000 in
theorem run_appendR {w : World} (ty : TypeId) (v : Value) (t : List (Int × Int)) (b : Nat) (x : Int × Int) (h : RV w v t) (hm : t.length ≤ 16777216) (h0 : w.cell? ⟨b, 0, none⟩ = some (.int .i64 x.1)) (h1 : w.cell? ⟨b, 1, none⟩ = some (.int .i64 x.2)) :
    ∃ v' w', (Builtin.append_ #[168, 168] ty #[v, .slice (some ⟨b, 0, none⟩) 1 1]).run Tryz.prog w = .ok v' w' ∧ RV w' v' (t ++ [x]) ∧ w.grownBy w' v.ownBlock ∧ (v'.ownBlock = v.ownBlock ∨ v'.ownBlock = some w.heap.size) := by
  obtain ⟨inf, hi, hz0, hz1, hz2⟩ := info_partsE infoR
  obtain ⟨v', w', hrun, h2, h3, _, h5⟩ := run_append_own_at (P := Tryz.prog) w 0 168 ty 172 inf (.agg #[.int .i64 0, .int .i64 0]) 2 16 Tryz.underlying168 hi hz0 hz1 hz2 rfl (by omega) v t.length (rcells t) h ⟨b, 0, none⟩ 1 1 [.int .i64 x.1, .int .i64 x.2] rfl (by
      intro j u hu
      match j, hu with
      | 0, hu => injection hu with hu; subst hu; exact h0
      | 1, hu => injection hu with hu; subst hu; exact h1
      | j + 2, hu => simp at hu) (by intro u hu; simp at hu; rcases hu with rfl | rfl <;> rfl) (by simp only [maxLen]; omega) (by omega) (Nat.zero_le _)
  refine ⟨v', w', hrun, ?_, h3, h5⟩
  unfold RV
  rw [List.length_append, rcells_append]
  exact h2
set_option maxRecDepth 100000 in
theorem wpList_appendR {w : World} {ops : Array Oper} {rest : List Oper} {o : Oper} {a : Act} {Q : Exit → Act → World → Prop} {xv : Value} (hgd : o.guard = none) (s x : Operand) (ho : o.op = .call { callee := .builtin .append, args := #[s, x], argTypes := #[168, 168] }) (v : Value) (t : List (Int × Int)) (b : Nat) (y : Int × Int)
    (hs : a.eval s = v) (hx : a.eval x = xv) (hxv : xv = .slice (some ⟨b, 0, none⟩) 1 1) (h : RV w v t) (hm : t.length ≤ 16777216) (h0 : w.cell? ⟨b, 0, none⟩ = some (.int .i64 y.1)) (h1 : w.cell? ⟨b, 1, none⟩ = some (.int .i64 y.2))
    (hK : ∀ v' w', RV w' v' (t ++ [y]) → w.grownBy w' v.ownBlock → (v'.ownBlock = v.ownBlock ∨ v'.ownBlock = some w.heap.size) → wpList Tryz.prog ops Q rest (a.put o.dst v') w') : wpList Tryz.prog ops Q (o :: rest) a w := by
  obtain ⟨v', w', hrun, r1, r2, r3⟩ := run_appendR o.type v t b y h hm h0 h1
  refine wpList_plain hgd fun K' hK' => ?_
  unfold Oper.wp execOp
  simp only [ho, resolve, invoke, builtin, Sem.run_bind, Sem.run_pure, Result.andThen_ok, List.map_toArray, List.map_cons, List.map_nil, hs, hx, hxv, hrun]
  exact hK' _ _ (hK v' w' r1 r2 r3)
end Go.Proofs.YtdkpdmpghibmmaaGreat

/- left: front.reach. -/
namespace Go.Proofs.YtdkpdmpghibmmaaGreat
open Go.RowKit Go.Maps Hp
theorem FOk.app {N : Nat} {s : Fp} (h : FOk N s) {p d : Int} (hp : 0 ≤ p ∧ p < (N : Int)) (hk : numOf s.R p = none) : s.R.length < N ∧ s.R.length < (s.reach p d).room ∧ FOk N (s.reach p d) := by
  have hn : ((s.R ++ [(p, d)]).map (·.1)).Nodup := by
    rw [List.map_append, List.nodup_append]
    refine ⟨h.nod, by simp, fun a ha b hb => ?_⟩
    obtain ⟨x, hx, rfl⟩ := List.mem_map.1 ha
    simp only [List.map_cons, List.map_nil, List.mem_singleton] at hb
    subst hb
    exact numOf_none.1 hk x hx
  have hr : ∀ x ∈ s.R ++ [(p, d)], 0 ≤ x.1 ∧ x.1 < (N : Int) := by
    intro x hx
    rcases List.mem_append.1 hx with hx | hx
    · exact h.rng x hx
    · simp only [List.mem_singleton] at hx
      subst hx
      exact hp
  have hl := nodup_le hn hr
  rw [List.length_append] at hl
  have hl2 : s.R.length + 1 ≤ N := hl
  have hsm := h.small
  have h1 := h.len
  have h2 := h.lo
  have h3 := h.hi
  have e : s.reach p d = ⟨if s.room ≤ s.R.length then min (s.room * 4) 16777216 else s.room, s.R ++ [(p, d)], upd s.f s.R.length (some d)⟩ := by
    unfold Fp.reach
    rw [hk]
  rw [e]
  have hlt : s.R.length < (if s.room ≤ s.R.length then min (s.room * 4) 16777216 else s.room) := by
    split <;> omega
  refine ⟨by omega, hlt, hn, hr, hsm, ?_, ?_, ?_, fun k x hx => ?_⟩
  · rw [List.length_append]
    exact hlt
  · dsimp only
    split <;> omega
  · dsimp only
    split <;> omega
  · by_cases ek : k = s.R.length
    · subst ek
      simp only [upd, if_pos] at hx
      injection hx with hx
      exact ⟨by simp, by simp [hx]⟩
    · simp only [upd, if_neg ek] at hx
      obtain ⟨h4, h5⟩ := h.key k x hx
      exact ⟨by simp; omega, by simp [List.getElem_append_left h4, h5]⟩
set_option maxRecDepth 100000 in
set_option maxHeartbeats 4000000 in
theorem reach_new {w : World} {b N : Nat} {S : Nat → Prop} {s : Fp} (h : Fq w b S N s) {p d : Int} (hp : 0 ≤ p ∧ p < (N : Int)) (hk : numOf s.R p = none) :
    Calls Tryz.prog 76 #[ptr b, .int .i64 p, .int .i64 d] w fun e w' => e = .returned (.tuple #[]) ∧ FDid w b N S (s.reach p d) w' := by
  obtain ⟨g, mb, Sg, rv, h1, hS⟩ := h
  obtain ⟨ad, c, rfl⟩ := h1.own.shape
  have hlk := h1.num.look true Tryz.underlying167 (numZ w) (wf_nat hp h1.ok.small)
  rw [hk] at hlk
  dsimp only [valO, eNum] at hlk
  have c2 := h1.hd.cell 2
  have c3 := h1.hd.cell 3
  simp only [List.getElem?_toArray, List.getElem?_cons_zero, List.getElem?_cons_succ] at c2 c3
  have hlen := h1.ok.le
  have hok := h1.ok
  have HH := Lib.hid (And.intro (h1.fx hS) (And.intro hp (And.intro hk hok)))
  have hsm := hok.small
  have HL := Lib.hid hok.len
  have hlo := hok.lo
  have hhi := hok.hi
  clear h1 hS hk hp hok
  go_enter Tryz.func76, Tryz.ntmps76
  go_wp2_with (first
    | ((with_reducible show wpList _ _ _ (Oper.mk _ (Op.mapUpdate _ _ _ _) _ _ _ _ :: _) _ _); refine wpList_put (E := eNum) rfl _ _ _ 167 _ rfl Tryz.underlying167 rfl HH.out.1.num p HH.out.2.1 HH.out.2.2.2.small s.R.length rfl rfl ?_; intro w1 hm1 hg1; have h1 := HH.out.1.put hm1 hg1; have c3 := h1.hd.cell 3; simp only [List.getElem?_toArray, List.getElem?_cons_zero, List.getElem?_cons_succ] at c3; have H1 := Lib.hid h1; clear hm1 hg1 h1)
    | (at_builtin; go_loud (refine wpList_appendR rfl _ _ rfl (.slice ad s.R.length c) s.R w1.heap.size (p, d) rfl rfl rfl (H1.out.below ((Below.refl _ _).alloc (Nat.le_refl _) _)).own (by omega) ?_ ?_ ?_)))
  intro v2 w2 hv2 hg2 ho2
  have h2 := (H1.out.below ((Below.refl _ _).alloc (Nat.le_refl _) _)).app hv2 hg2 (by simpa using ho2)
  obtain ⟨rb, c', rfl, _, e0, e1⟩ := hv2.at_ (j := s.R.length) (by simp)
  have hLn : (s.R ++ [(p, d)]).length = s.R.length + 1 := by simp
  rw [hLn] at h2 ⊢
  have h3 := h2.sethd (.slice (some ⟨rb, 0, none⟩) (s.R.length + 1) c')
  have h4 := h3.setrow (k := s.R.length) (by simp) d (by simp)
  have f3 := h2.hd.thaw 3
  have c1 := h2.hd.cell 1
  have c0 := h2.hd.cell 0
  have c4 := h2.hd.cell 3
  simp only [List.getElem?_toArray, List.getElem?_cons_zero, List.getElem?_cons_succ] at c0 c1 c4
  have hne : b ≠ rb := fun e => h2.sep.2.2.2.1 (by rw [e]; rfl)
  have fz : w2.frozen? ⟨rb, s.R.length * 2 + 1, none⟩ = false := (h2.own.set (k := s.R.length) (by simp) d).2
  obtain ⟨hN, hro, hok'⟩ := HH.out.2.2.2.app HH.out.2.1 HH.out.2.2.1 (d := d)
  have hre : s.reach p d = ⟨if s.room ≤ s.R.length then min (s.room * 4) 16777216 else s.room, s.R ++ [(p, d)], upd s.f s.R.length (some d)⟩ := by
    unfold Fp.reach
    rw [HH.out.2.2.1]
  have hnum : (fun i => if i = p then some s.R.length else numOf s.R i) = numOf (s.R ++ [(p, d)]) := funext fun q => (numOf_app HH.out.2.2.1 q).symm
  rw [hnum] at h4
  have H4 := Lib.hid h4
  have HO := Lib.hid (And.intro hok' (And.intro hre hro))
  clear hv2 hg2 ho2 h2 h3 h4 e0 hnum hok' hre hro hLn c2
  by_cases hr : s.room ≤ s.R.length
  · have hri : ((s.room : Nat) : Int) ≤ (s.R.length : Nat) := by omega
    have hg := grow_any H4.out.hd H4.out.heap H4.out.sep.2.1 (by omega) (by omega) (by omega)
    have HG := Lib.hid hg
    clear hg
    go_wp2_with (go_at_call 114; refine HG.out.mono ?_; rintro e w5 ⟨rfl, g', Sg', q1, q2, q3, q4⟩; have h5 := H4.out.grown q1 q2 q3 q4; have k0 := q3.cell 0; simp only [List.getElem?_toArray, List.getElem?_cons_zero, List.getElem?_cons_succ] at k0; have H5 := Lib.hid h5; clear q1 q2 q3 q4 h5)
    clear c0 c1 c4 e1 f3 fz
    have hlt2 : s.R.length < min (s.room * 4) 16777216 := by have := HL.out; omega
    go_wp2_with (go_at_call 89; refine (set_in g' (min (s.room * 4) 16777216) s.R.length Sg' s.f d _ H5.out.heap hlt2).mono ?_; rintro e w6 ⟨rfl, hd5⟩; have H6 := Lib.hid (H5.out.set hd5); clear hd5)
    go_end0
    obtain ⟨Sg'', h5⟩ := H6.out
    refine ⟨rfl, ?_⟩
    rw [HO.out.2.1, if_pos hr]
    refine Fx.done (s := ⟨min (s.room * 4) 16777216, s.R ++ [(p, d)], upd s.f s.R.length (some d)⟩) h5 ?_
    have := HO.out.1
    rw [HO.out.2.1, if_pos hr] at this
    exact this
  · have hri : ¬ ((s.room : Nat) : Int) ≤ (s.R.length : Nat) := by omega
    go_wp2_with (go_at_call 89; refine (set_in g s.room s.R.length Sg s.f d _ H4.out.heap (by omega)).mono ?_; rintro e w5 ⟨rfl, hd5⟩; have H5 := Lib.hid (H4.out.set hd5); clear hd5)
    go_end0
    obtain ⟨Sg', h5⟩ := H5.out
    refine ⟨rfl, ?_⟩
    rw [HO.out.2.1, if_neg hr]
    refine Fx.done (s := ⟨s.room, s.R ++ [(p, d)], upd s.f s.R.length (some d)⟩) h5 ?_
    have := HO.out.1
    rw [HO.out.2.1, if_neg hr] at this
    exact this
/-- front.reach. -/
theorem reach_any {w : World} {b N : Nat} {S : Nat → Prop} {s : Fp} (h : Fq w b S N s) {p d : Int} (hp : 0 ≤ p ∧ p < (N : Int)) :
    Calls Tryz.prog 76 #[ptr b, .int .i64 p, .int .i64 d] w fun e w' => e = .returned (.tuple #[]) ∧ FDid w b N S (s.reach p d) w' := by
  cases hk : numOf s.R p with
  | none => exact reach_new h hp hk
  | some k =>
    by_cases hd : (s.R.getD k (0, 0)).2 ≤ d
    · refine (reach_less h hp hk hd).mono fun e w' ⟨h1, h2⟩ => ⟨h1, ?_⟩
      have : s.reach p d = s := by unfold Fp.reach; rw [hk]; exact if_pos hd
      rw [this]
      exact ⟨S, h.under h2, fun _ h => .inl h, Only.of_below _ h2⟩
    · have : s.reach p d = ⟨s.room, s.R.set k (p, d), upd s.f k (some d)⟩ := by unfold Fp.reach; rw [hk]; exact if_neg hd
      rw [this]
      exact reach_more h hp hk hd
end Go.Proofs.YtdkpdmpghibmmaaGreat

