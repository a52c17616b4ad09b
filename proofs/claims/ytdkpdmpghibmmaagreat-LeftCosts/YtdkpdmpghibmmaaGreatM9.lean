import Derived.Test.YtdkpdmpghibmmaaGreatM6
import Derived.Test.YtdkpdmpghibmmaaGreatSep
import Derived.Sort.MapsRangeIn
import Derived.Laws.IdiomRangeMap
import Derived.Test.YtdkpdmpghibmmaaGreatM4
import Derived.Test.YtdkpdmpghibmmaaGreatM5
import Derived.Test.YtdkpdmpghibmmaaGreatRound
import Derived.Test.YtdkpdmpghibmmaaGreatGhBw
/- maps.Keys of a map of ints: an iterator that writes only its own (written by mklha.py). -/
namespace Go.Proofs.YtdkpdmpghibmmaaGreat
open Go.RowKit Go.Maps
attribute [local go_sem] Oper.semAt_some
theorem Mg.apart {α : Type} {R : Rd} {E : Elem α R} {w w' : World} {b r N cnt : Nat} {f : Int → Option α} {L : Int → Bool} {S : Nat → Prop} (h : Mg E w b r N f L cnt) (ho : Only S w w') (hb : ¬ S b) (hr : ¬ S r) : Mg E w' b r N f L cnt := by
  obtain ⟨D, left, h1, h2⟩ := h
  have l1 := h1.owns.lt
  have l2 := h1.lt
  obtain ⟨es, clock, since, seen, c0, hb', F, hs, hD, hr', rest⟩ := h1
  exact ⟨D, left, ⟨es, clock, since, seen, c0, (ho.block b l1 hb).trans hb', F, hs, hD, (ho.block r l2 hr).trans hr', rest⟩, h2⟩
section
variable {α : Type} {R : Rd} {E : Elem α R} {w : World} {b r N cnt : Nat} {f : Int → Option α} {L : Int → Bool} {F : Fence} {n : Nat}
theorem wpListIn_goOver {ops : Array Oper} {rest : List Oper} {o : Oper} {a : Act} {Q : Exit → Act → World → Prop} (hg : o.guard = none) (m : Operand) (t e : TypeId) (hop : o.op = Op.range t m) (ht : Tryz.prog.underlying t = some (.map 3 e))
    (hm : a.eval m = .map (some b)) (h : Mp E w b N f)
    (hK : ∀ w' cnt, Mg E w' b w.heap.size N f (fun z => (f z).isSome) cnt → w.grownBy w' none → w'.heap.size = w.heap.size + 1 → wpListIn F n Tryz.prog ops Q rest (a.put o.dst (.pointer (some ⟨w.heap.size, 0, none⟩))) w') : wpListIn F n Tryz.prog ops Q (o :: rest) a w := by
  obtain ⟨D, h1, h2, h3⟩ := h
  refine wpListIn_range_own _ hg m t hop 3 e intK ht R b _ D hm h1 fun w' hr hgr hs => hK w' _ ⟨D, Maps.has D, hr, ⟨h2, h3⟩, fun z => ?_, fun z hz => hz⟩ hgr hs
  cases hf : f z with
  | none => dsimp only; rw [hf]; exact (h3 z).1 hf
  | some x => dsimp only; rw [hf]; exact ((h3 z).2 x hf).2.1
theorem wpListIn_nextOver {ops : Array Oper} {rest : List Oper} {o : Oper} {a : Act} {Q : Exit → Act → World → Prop} (hg : o.guard = none) (it : Operand) (hop : o.op = Op.next it false) (hit : a.eval it = .pointer (some ⟨r, 0, none⟩)) (h : Mg E w b r N f L cnt)
    (hDone : cnt = 0 → (∀ z, L z = false) → wpListIn F n Tryz.prog ops Q rest (a.put o.dst (.tuple #[.bool false])) w)
    (hMore : ∀ (z : Int) (x : α) (w' : World) (cnt' : Nat), (0 ≤ z ∧ z < (N : Int)) → L z = true → f z = some x → Mg E w' b r N f (fun i => L i && !decide (i = z)) cnt' → cnt' < cnt → w.grownBy w' (some r) → w'.heap.size = w.heap.size →
      (Instr.entry (.pointer (some ⟨r, 0, none⟩))).run Tryz.prog w' = .ok (.tuple #[.int .i64 z, E.val x]) w' → wpListIn F n Tryz.prog ops Q rest (a.put o.dst (.tuple #[.bool true, .int .i64 z, E.val x])) w') : wpListIn F n Tryz.prog ops Q (o :: rest) a w := by
  obtain ⟨D, left, h1, ⟨h2, h3⟩, h4, h5⟩ := h
  refine wpListIn_next_ranges _ hg it hop 3 intK R (Value.int .i64) (fun v : Value => v) (fun key kl hkey => ?_) (fun v y hv => ⟨v, rfl⟩) b r _ D left cnt hit h1 (fun h0 hl => hDone h0 fun z => by rw [← h4]; exact hl _) fun z c kl y w' cnt' hkey hlk hv hat hrg hlt hgr hsz hen => ?_
  · obtain ⟨x, rfl, _⟩ := Maps.keyOf_int_inv Tryz.underlying3 hkey
    exact ⟨x, rfl⟩
  · obtain ⟨z', ez, rfl, _⟩ := Maps.keyOf_int_inv Tryz.underlying3 hkey
    cases ez
    have hL : L z = true := by rw [← h4]; exact hlk
    have hs := h5 z hL
    cases hf : f z with
    | none => rw [hf] at hs; cases hs
    | some x =>
      obtain ⟨hr, _, h6⟩ := (h3 z).2 x hf
      have hy : y.1 = E.dat x := by rw [← hat .nil]; exact h6 .nil
      have hc : c = E.val x := E.inv c x y.2 (by rw [hv, ← hy])
      subst hc
      refine hMore z x w' cnt' hr hL hf ⟨D, _, hrg, ⟨h2, h3⟩, fun i => ?_, fun i hi => ?_⟩ hlt hgr hsz hen
      · rw [h4]
        simp [Lit.sameKey]
      · simp only [Bool.and_eq_true] at hi
        exact h5 i hi.1
end
def KeyR {α : Type} (f : Int → Option α) (pre : List Int) (x : Int) : Prop := (f x).isSome = true ∧ x ∉ pre
def KeyS {α : Type} (f : Int → Option α) (xs : List Int) : Prop := xs.Nodup ∧ ∀ z, z ∈ xs ↔ (f z).isSome = true
/-- While the keys are told. -/
structure KyI {α : Type} {R : Rd} (E : Elem α R) (B b r N : Nat) (f : Int → Option α) (pre : List Int) (T : Foot) (L : Int → Bool) (cnt : Nat) (wr : World) : Prop where
  mg : Mg E wr b r N f L cnt
  eq : ∀ z, L z = ((f z).isSome && !decide (z ∈ pre))
  nod : pre.Nodup
  mem : ∀ z ∈ pre, (f z).isSome = true
  foot : ∀ k, T k → B ≤ k ∧ k < wr.heap.size
  size : B ≤ wr.heap.size
  far : ¬ T r
theorem keysW_sep_start (o : Option Nat) (w : World) : Calls Tryz.prog 81 #[.map o] w fun e w' => e = .returned (.func (.func 117) #[] #[ptr w.heap.size]) ∧ w' = w.alloc (.cells #[.map o] 120) := by
  go_enter Tryz.func81, Tryz.ntmps81
  go_wp2
  go_ret
  exact ⟨by simp, rfl⟩
set_option maxRecDepth 100000 in
set_option maxHeartbeats 4000000 in
theorem keysW_nil (m : Nat) {w : World} {kb : Nat} {f : Int → Option Wy} (Wr : Foot) (hm : 1 ≤ m) (hk : Row w kb 120 #[.map none]) (hf : ∀ z, f z = none) :
    SeqSep Fence.wide m Tryz.prog 117 #[ptr kb] (fun x : Int => #[.int .i64 x]) Wr (KeyR f) (KeyS f) w := by
  intro lb J Jx T0 W hbW hJ hJx hY h0 hT0
  have c0 := (hk.under hbW hk.lt).cell 0
  simp only [List.getElem?_toArray, List.getElem?_cons_zero] at c0
  have hlt := Nat.lt_of_lt_of_le hk.lt hbW.size
  have HB0 := Lib.hid (And.intro h0 (And.intro hT0 (And.intro hJ (And.intro hf hbW))))
  clear hk hbW h0 hT0 hY hJ hJx hf
  have hrg := run_range_nilMap (P := Tryz.prog) W 120 3 47 Tryz.underlying120
  have hnx : ∀ ty, (Instr.next (.pointer (some ⟨W.heap.size, 0, none⟩)) false ty).run Tryz.prog (W.alloc (.mapIter none 0 #[] 0)) = _ := fun ty => run_next_nilMap _ ty 0 0 #[]
  refine callsIn_of_wp Tryz.func117 rfl trivial ?_ rfl
  simp only [Tryz.ntmps117, List.size_toArray, List.length_cons, List.length_nil, Nat.reduceAdd, Nat.reduceSub, Array.replicate_succ, Array.replicate_zero, List.push_toArray, List.append_toArray, List.nil_append, List.cons_append]
  gi_wp2
  gi_loopw [3] (fun _ wr => wr = W.alloc (.mapIter none 0 #[] 0)) (fun _ _ => 0)
  case atStart => rfl
  case round =>
    subst hrel
    gi_wp2
    go_end0
    have hba : Below W.heap.size W (W.alloc (.mapIter none 0 #[] 0)) := (Below.refl _ _).alloc (Nat.le_refl _) _
    refine ⟨⟨_, rfl⟩, T0, fun j h => Nat.lt_of_lt_of_le (HB0.out.2.1 j h).2 hba.size, .inl ⟨[], ⟨List.nodup_nil, fun z => ?_⟩, HB0.out.2.2.1 [] T0 W _ HB0.out.1 (fun j h => (HB0.out.2.1 j h).2) (Only.of_below _ hba)⟩⟩
    rw [HB0.out.2.2.2.1 z]
    simp
set_option maxRecDepth 100000 in
set_option maxHeartbeats 8000000 in
theorem keysW_sep (m : Nat) {w : World} {kb b N : Nat} {f : Int → Option Wy} (Wr : Foot) (hm : 1 ≤ m) (hk : Row w kb 120 #[.map (some b)]) (hM : Mp eWay w b N f) (hWk : ¬ Wr kb) (hWb : ¬ Wr b) (hWl : ∀ k, Wr k → k < w.heap.size) :
    SeqSep Fence.wide m Tryz.prog 117 #[ptr kb] (fun x : Int => #[.int .i64 x]) Wr (KeyR f) (KeyS f) w := by
  intro lb J Jx T0 W hbW hJ hJx hY h0 hT0
  have c0 := (hk.under hbW hk.lt).cell 0
  simp only [List.getElem?_toArray, List.getElem?_cons_zero] at c0
  have hlt := Nat.lt_of_lt_of_le hk.lt hbW.size
  have HB0 := Lib.hid (And.intro h0 (And.intro hT0 (And.intro (hM.under hbW) hbW.size)))
  have HYd := Lib.hid hY
  have HA := Lib.hid (And.intro hJ (And.intro hJx (And.intro hWk (And.intro hWb (And.intro hWl hM.lt)))))
  clear hk hM hWk hWb hWl hbW h0 hT0 hY hJ hJx
  refine callsIn_of_wp Tryz.func117 rfl trivial ?_ rfl
  simp only [Tryz.ntmps117, List.size_toArray, List.length_cons, List.length_nil, Nat.reduceAdd, Nat.reduceSub, Array.replicate_succ, Array.replicate_zero, List.push_toArray, List.append_toArray, List.nil_append, List.cons_append]
  gi_wp2_with (gi_at_range; refine wpListIn_goOver (E := eWay) rfl _ 120 _ rfl Tryz.underlying120 rfl HB0.out.2.2.1 ?_; intro w0 c0 hm0 hg0 hs0)
  (try go_frame)
  have hst : KyI eWay w.heap.size b W.heap.size N f [] T0 (fun z => (f z).isSome) c0 w0 := ⟨hm0, fun z => by simp, List.nodup_nil, fun z hz => by simp at hz, fun k hk => ⟨(HB0.out.2.1 k hk).1, by have := (HB0.out.2.1 k hk).2; omega⟩, by have := HB0.out.2.2.2; omega, fun h => by have := (HB0.out.2.1 _ h).2; omega⟩
  have hj0 : J [] T0 w0 := HA.out.1 [] T0 W w0 HB0.out.1 (fun j h => (HB0.out.2.1 j h).2) (Only.of_below _ ((Below.refl _ _).grown hg0 (Nat.le_refl _) (fun j hj => by cases hj)))
  have HS := Lib.hid (And.intro hst hj0)
  clear hst hj0 hm0 hg0
  gi_loopw [3] (fun _ wr => ∃ pre T L cnt, KyI eWay w.heap.size b W.heap.size N f pre T L cnt wr ∧ J pre T wr) (fun _ wr => wr.rangeLeft b W.heap.size)
  case atStart => exact ⟨_, _, _, _, HS.out⟩
  case round =>
    obtain ⟨pre, T, L, cnt, hI, hJp⟩ := hrel
    have HI := Lib.hid (And.intro hI hJp)
    clear hI hJp
    gi_wp2_with (gi_at_next; refine wpListIn_nextOver (E := eWay) rfl _ rfl rfl HI.out.1.mg ?_ ?_)
    · intro hc0 hl0
      gi_wp2
      go_end0
      refine ⟨⟨_, rfl⟩, T, fun j h => (HI.out.1.foot j h).2, .inl ⟨pre, ⟨HI.out.1.nod, fun z => ⟨HI.out.1.mem z, fun hz => ?_⟩⟩, HI.out.2⟩⟩
      have := HI.out.1.eq z
      rw [hl0 z, hz] at this
      simpa using this.symm
    · intro z xa xb xc w1 c1 hz0 hz1 hLz hFz hm1 hlt1 hg1 hs1 hen
      have hR : KeyR f pre z := by
        have := HI.out.1.eq z
        rw [hLz] at this
        have h2 := this.symm
        simp only [Bool.and_eq_true, Bool.not_eq_true', decide_eq_false_iff_not] at h2
        exact h2
      have hJ1 : J pre T w1 := HA.out.1 pre T wr w1 HI.out.2 (fun j h => (HI.out.1.foot j h).2) ((Only.refl (fun k => w.heap.size ≤ k ∧ ¬ T k) wr).grown hg1 (fun k hk => .inl (by injection hk with hk; subst hk; exact ⟨HB0.out.2.2.2, HI.out.1.far⟩)))
      have hT1 : ∀ j, T j → w.heap.size ≤ j ∧ j < w1.heap.size := fun j h => ⟨(HI.out.1.foot j h).1, by have := (HI.out.1.foot j h).2; omega⟩
      have hsz1 : w.heap.size ≤ w1.heap.size := by have := HI.out.1.size; omega
      obtain ⟨fn, tmps, assign, body, hy, hRR⟩ := HYd.out pre z T w1 hJ1 hR hT1 hsz1
      have HRR := Lib.hid hRR
      have HR := Lib.hid (And.intro hR (And.intro hT1 (And.intro hsz1 (And.intro hm1 hlt1))))
      clear hRR hR hJ1 hT1 hsz1 hm1 hlt1 hg1 hz0 hz1
      dsimp only [eWay] at hen ⊢
      gi_wp2
      refine HRR.out.mono ?_
      rintro e W3 (⟨rfl, T', hJ3, he3⟩ | ⟨rfl, T', hJx3, he3⟩)
      · have hfb : ¬ (Wr b ∨ T' b) := fun h => by
          have hl := HA.out.2.2.2.2.2
          rcases h with h | h
          · exact HA.out.2.2.2.1 h
          · rcases he3.more b h with h | h
            · have := (HR.out.2.1 b h).1; omega
            · have := HR.out.2.2.1; omega
        have hfr : ¬ (Wr W.heap.size ∨ T' W.heap.size) := fun h => by
          rcases h with h | h
          · have := HA.out.2.2.2.2.1 _ h; have := HB0.out.2.2.2; omega
          · rcases he3.more _ h with h | h
            · exact HI.out.1.far h
            · have := HR.out.2.2.2.1.lt; omega
        have hm3 := HR.out.2.2.2.1.apart he3.only hfb hfr
        have hI3 : KyI eWay w.heap.size b W.heap.size N f (pre ++ [z]) T' (fun i => L i && !decide (i = z)) c1 W3 := by
          refine ⟨hm3, fun i => ?_, ?_, fun i hi => ?_, fun k hk => ⟨?_, he3.lt k hk⟩, Nat.le_trans HR.out.2.2.1 he3.only.size, fun h => hfr (.inr h)⟩
          · (try dsimp only)
            rw [HI.out.1.eq i]
            simp only [List.mem_append, List.mem_singleton, Bool.and_assoc, ← Bool.not_or, ← Bool.decide_or]
          · rw [List.nodup_append]
            exact ⟨HI.out.1.nod, by simp, fun a ha c hc => by simp at hc; subst hc; exact fun e => HR.out.1.2 (e ▸ ha)⟩
          · rcases List.mem_append.1 hi with h | h
            · exact HI.out.1.mem i h
            · simp at h; subst h; exact HR.out.1.1
          · rcases he3.more k hk with q | q
            · exact (HR.out.2.1 k q).1
            · exact Nat.le_trans HR.out.2.2.1 q
        have HN := Lib.hid (And.intro hI3 hJ3)
        clear hI3 hJ3 he3 hfb hfr hm3
        gi_wp2
        go_roundw
        case rel => exact ⟨_, _, _, _, HN.out⟩
        case measure => rw [HN.out.1.mg.left_eq, HI.out.1.mg.left_eq]; exact HR.out.2.2.2.2
      · have HN := Lib.hid (And.intro hJx3 he3)
        clear hJx3 he3
        gi_wp2
        refine bodyPost_ret (results_none rfl _ _ _) rfl ?_
        exact ⟨⟨_, rfl⟩, T', HN.out.2.lt, .inr ⟨_, HN.out.1⟩⟩
theorem keysU_sep_start (o : Option Nat) (w : World) : Calls Tryz.prog 83 #[.map o] w fun e w' => e = .returned (.func (.func 118) #[] #[ptr w.heap.size]) ∧ w' = w.alloc (.cells #[.map o] 131) := by
  go_enter Tryz.func83, Tryz.ntmps83
  go_wp2
  go_ret
  exact ⟨by simp, rfl⟩
set_option maxRecDepth 100000 in
set_option maxHeartbeats 4000000 in
theorem keysU_nil (m : Nat) {w : World} {kb : Nat} {f : Int → Option Unit} (Wr : Foot) (hm : 1 ≤ m) (hk : Row w kb 131 #[.map none]) (hf : ∀ z, f z = none) :
    SeqSep Fence.wide m Tryz.prog 118 #[ptr kb] (fun x : Int => #[.int .i64 x]) Wr (KeyR f) (KeyS f) w := by
  intro lb J Jx T0 W hbW hJ hJx hY h0 hT0
  have c0 := (hk.under hbW hk.lt).cell 0
  simp only [List.getElem?_toArray, List.getElem?_cons_zero] at c0
  have hlt := Nat.lt_of_lt_of_le hk.lt hbW.size
  have HB0 := Lib.hid (And.intro h0 (And.intro hT0 (And.intro hJ (And.intro hf hbW))))
  clear hk hbW h0 hT0 hY hJ hJx hf
  have hrg := run_range_nilMap (P := Tryz.prog) W 131 3 136 Tryz.underlying131
  have hnx : ∀ ty, (Instr.next (.pointer (some ⟨W.heap.size, 0, none⟩)) false ty).run Tryz.prog (W.alloc (.mapIter none 0 #[] 0)) = _ := fun ty => run_next_nilMap _ ty 0 0 #[]
  refine callsIn_of_wp Tryz.func118 rfl trivial ?_ rfl
  simp only [Tryz.ntmps118, List.size_toArray, List.length_cons, List.length_nil, Nat.reduceAdd, Nat.reduceSub, Array.replicate_succ, Array.replicate_zero, List.push_toArray, List.append_toArray, List.nil_append, List.cons_append]
  gi_wp2
  gi_loopw [3] (fun _ wr => wr = W.alloc (.mapIter none 0 #[] 0)) (fun _ _ => 0)
  case atStart => rfl
  case round =>
    subst hrel
    gi_wp2
    go_end0
    have hba : Below W.heap.size W (W.alloc (.mapIter none 0 #[] 0)) := (Below.refl _ _).alloc (Nat.le_refl _) _
    refine ⟨⟨_, rfl⟩, T0, fun j h => Nat.lt_of_lt_of_le (HB0.out.2.1 j h).2 hba.size, .inl ⟨[], ⟨List.nodup_nil, fun z => ?_⟩, HB0.out.2.2.1 [] T0 W _ HB0.out.1 (fun j h => (HB0.out.2.1 j h).2) (Only.of_below _ hba)⟩⟩
    rw [HB0.out.2.2.2.1 z]
    simp
set_option maxRecDepth 100000 in
set_option maxHeartbeats 8000000 in
theorem keysU_sep (m : Nat) {w : World} {kb b N : Nat} {f : Int → Option Unit} (Wr : Foot) (hm : 1 ≤ m) (hk : Row w kb 131 #[.map (some b)]) (hM : Mp eUnit w b N f) (hWk : ¬ Wr kb) (hWb : ¬ Wr b) (hWl : ∀ k, Wr k → k < w.heap.size) :
    SeqSep Fence.wide m Tryz.prog 118 #[ptr kb] (fun x : Int => #[.int .i64 x]) Wr (KeyR f) (KeyS f) w := by
  intro lb J Jx T0 W hbW hJ hJx hY h0 hT0
  have c0 := (hk.under hbW hk.lt).cell 0
  simp only [List.getElem?_toArray, List.getElem?_cons_zero] at c0
  have hlt := Nat.lt_of_lt_of_le hk.lt hbW.size
  have HB0 := Lib.hid (And.intro h0 (And.intro hT0 (And.intro (hM.under hbW) hbW.size)))
  have HYd := Lib.hid hY
  have HA := Lib.hid (And.intro hJ (And.intro hJx (And.intro hWk (And.intro hWb (And.intro hWl hM.lt)))))
  clear hk hM hWk hWb hWl hbW h0 hT0 hY hJ hJx
  refine callsIn_of_wp Tryz.func118 rfl trivial ?_ rfl
  simp only [Tryz.ntmps118, List.size_toArray, List.length_cons, List.length_nil, Nat.reduceAdd, Nat.reduceSub, Array.replicate_succ, Array.replicate_zero, List.push_toArray, List.append_toArray, List.nil_append, List.cons_append]
  gi_wp2_with (gi_at_range; refine wpListIn_goOver (E := eUnit) rfl _ 131 _ rfl Tryz.underlying131 rfl HB0.out.2.2.1 ?_; intro w0 c0 hm0 hg0 hs0)
  (try go_frame)
  have hst : KyI eUnit w.heap.size b W.heap.size N f [] T0 (fun z => (f z).isSome) c0 w0 := ⟨hm0, fun z => by simp, List.nodup_nil, fun z hz => by simp at hz, fun k hk => ⟨(HB0.out.2.1 k hk).1, by have := (HB0.out.2.1 k hk).2; omega⟩, by have := HB0.out.2.2.2; omega, fun h => by have := (HB0.out.2.1 _ h).2; omega⟩
  have hj0 : J [] T0 w0 := HA.out.1 [] T0 W w0 HB0.out.1 (fun j h => (HB0.out.2.1 j h).2) (Only.of_below _ ((Below.refl _ _).grown hg0 (Nat.le_refl _) (fun j hj => by cases hj)))
  have HS := Lib.hid (And.intro hst hj0)
  clear hst hj0 hm0 hg0
  gi_loopw [3] (fun _ wr => ∃ pre T L cnt, KyI eUnit w.heap.size b W.heap.size N f pre T L cnt wr ∧ J pre T wr) (fun _ wr => wr.rangeLeft b W.heap.size)
  case atStart => exact ⟨_, _, _, _, HS.out⟩
  case round =>
    obtain ⟨pre, T, L, cnt, hI, hJp⟩ := hrel
    have HI := Lib.hid (And.intro hI hJp)
    clear hI hJp
    gi_wp2_with (gi_at_next; refine wpListIn_nextOver (E := eUnit) rfl _ rfl rfl HI.out.1.mg ?_ ?_)
    · intro hc0 hl0
      gi_wp2
      go_end0
      refine ⟨⟨_, rfl⟩, T, fun j h => (HI.out.1.foot j h).2, .inl ⟨pre, ⟨HI.out.1.nod, fun z => ⟨HI.out.1.mem z, fun hz => ?_⟩⟩, HI.out.2⟩⟩
      have := HI.out.1.eq z
      rw [hl0 z, hz] at this
      simpa using this.symm
    · intro z xa w1 c1 hz0 hz1 hLz hFz hm1 hlt1 hg1 hs1 hen
      have hR : KeyR f pre z := by
        have := HI.out.1.eq z
        rw [hLz] at this
        have h2 := this.symm
        simp only [Bool.and_eq_true, Bool.not_eq_true', decide_eq_false_iff_not] at h2
        exact h2
      have hJ1 : J pre T w1 := HA.out.1 pre T wr w1 HI.out.2 (fun j h => (HI.out.1.foot j h).2) ((Only.refl (fun k => w.heap.size ≤ k ∧ ¬ T k) wr).grown hg1 (fun k hk => .inl (by injection hk with hk; subst hk; exact ⟨HB0.out.2.2.2, HI.out.1.far⟩)))
      have hT1 : ∀ j, T j → w.heap.size ≤ j ∧ j < w1.heap.size := fun j h => ⟨(HI.out.1.foot j h).1, by have := (HI.out.1.foot j h).2; omega⟩
      have hsz1 : w.heap.size ≤ w1.heap.size := by have := HI.out.1.size; omega
      obtain ⟨fn, tmps, assign, body, hy, hRR⟩ := HYd.out pre z T w1 hJ1 hR hT1 hsz1
      have HRR := Lib.hid hRR
      have HR := Lib.hid (And.intro hR (And.intro hT1 (And.intro hsz1 (And.intro hm1 hlt1))))
      clear hRR hR hJ1 hT1 hsz1 hm1 hlt1 hg1 hz0 hz1
      dsimp only [eUnit] at hen ⊢
      gi_wp2
      refine HRR.out.mono ?_
      rintro e W3 (⟨rfl, T', hJ3, he3⟩ | ⟨rfl, T', hJx3, he3⟩)
      · have hfb : ¬ (Wr b ∨ T' b) := fun h => by
          have hl := HA.out.2.2.2.2.2
          rcases h with h | h
          · exact HA.out.2.2.2.1 h
          · rcases he3.more b h with h | h
            · have := (HR.out.2.1 b h).1; omega
            · have := HR.out.2.2.1; omega
        have hfr : ¬ (Wr W.heap.size ∨ T' W.heap.size) := fun h => by
          rcases h with h | h
          · have := HA.out.2.2.2.2.1 _ h; have := HB0.out.2.2.2; omega
          · rcases he3.more _ h with h | h
            · exact HI.out.1.far h
            · have := HR.out.2.2.2.1.lt; omega
        have hm3 := HR.out.2.2.2.1.apart he3.only hfb hfr
        have hI3 : KyI eUnit w.heap.size b W.heap.size N f (pre ++ [z]) T' (fun i => L i && !decide (i = z)) c1 W3 := by
          refine ⟨hm3, fun i => ?_, ?_, fun i hi => ?_, fun k hk => ⟨?_, he3.lt k hk⟩, Nat.le_trans HR.out.2.2.1 he3.only.size, fun h => hfr (.inr h)⟩
          · (try dsimp only)
            rw [HI.out.1.eq i]
            simp only [List.mem_append, List.mem_singleton, Bool.and_assoc, ← Bool.not_or, ← Bool.decide_or]
          · rw [List.nodup_append]
            exact ⟨HI.out.1.nod, by simp, fun a ha c hc => by simp at hc; subst hc; exact fun e => HR.out.1.2 (e ▸ ha)⟩
          · rcases List.mem_append.1 hi with h | h
            · exact HI.out.1.mem i h
            · simp at h; subst h; exact HR.out.1.1
          · rcases he3.more k hk with q | q
            · exact (HR.out.2.1 k q).1
            · exact Nat.le_trans HR.out.2.2.1 q
        have HN := Lib.hid (And.intro hI3 hJ3)
        clear hI3 hJ3 he3 hfb hfr hm3
        gi_wp2
        go_roundw
        case rel => exact ⟨_, _, _, _, HN.out⟩
        case measure => rw [HN.out.1.mg.left_eq, HI.out.1.mg.left_eq]; exact HR.out.2.2.2.2
      · have HN := Lib.hid (And.intro hJx3 he3)
        clear hJx3 he3
        gi_wp2
        refine bodyPost_ret (results_none rfl _ _ _) rfl ?_
        exact ⟨⟨_, rfl⟩, T', HN.out.2.lt, .inr ⟨_, HN.out.1⟩⟩
end Go.Proofs.YtdkpdmpghibmmaaGreat

/- left.Take: the pieces of the object while a place is taken. -/
namespace Go.Proofs.YtdkpdmpghibmmaaGreat
open Go.RowKit Go.Maps
/-- The numbers of lost ones, one more at each of these. -/
def incF (lo : List Int) (p : Int → Bool) : List Int := (List.range lo.length).map fun i => lo.getD i 0 + (if p (i : Nat) then 1 else 0)
theorem incF_length (lo : List Int) (p : Int → Bool) : (incF lo p).length = lo.length := by simp [incF]
theorem incF_get {lo : List Int} {p : Int → Bool} {i : Nat} (h : i < lo.length) : (incF lo p)[i]'(by rw [incF_length]; exact h) = lo[i]'h + (if p (i : Nat) then 1 else 0) := by
  unfold incF
  rw [List.getElem_map, List.getElem_range, List.getD_eq_getElem?_getD, List.getElem?_eq_getElem h]
  rfl
theorem incF_congr {lo : List Int} {p q : Int → Bool} (h : ∀ z, 0 ≤ z → z < (lo.length : Int) → p z = q z) : incF lo p = incF lo q := by
  unfold incF
  refine List.map_congr_left fun i hi => ?_
  have := List.mem_range.1 hi
  rw [h i (by omega) (by omega)]
theorem incF_none (lo : List Int) : incF lo (fun _ => false) = lo := by
  refine List.ext_getElem (incF_length _ _) fun i h1 h2 => ?_
  rw [incF_get h2]
  simp
theorem incF_set {lo : List Int} {p q : Int → Bool} {x : Nat} (hx : x < lo.length) (hp : p (x : Nat) = false) (hq : ∀ z, q z = (p z || decide (z = (x : Nat)))) : (incF lo p).set x (lo[x]'hx + 1) = incF lo q := by
  refine List.ext_getElem (by rw [List.length_set, incF_length, incF_length]) fun i h1 h2 => ?_
  rw [incF_length] at h2
  rw [incF_get h2, hq]
  by_cases e : i = x
  · subst e
    rw [List.getElem_set_self]
    simp
  · rw [List.getElem_set_ne (Ne.symm e), incF_get h2]
    have : ¬ ((i : Nat) : Int) = (x : Nat) := by omega
    simp [this]
/-- The object in pieces. -/
structure TkP (W : World) (l bl bo bi N : Nat) (go gi : Int → Option Nat) (lo : List Int) (F : Int → Int → Option Wy) (G : Int → Int → Option Unit) : Prop where
  hd : Row W l 100 #[.slice (some ⟨bl, 0, none⟩) N N, .map (some bo), .map (some bi)]
  lost : Row W bl 3 (intsV lo)
  len : lo.length = N
  outs : Side eWay W bo N go F
  ins : Side eUnit W bi N gi G
  sep : l ≠ bl ∧ (∀ k, SideB bo go k → k ≠ l ∧ k ≠ bl) ∧ (∀ k, SideB bi gi k → k ≠ l ∧ k ≠ bl) ∧ ∀ k, SideB bo go k → ¬ SideB bi gi k
theorem Lq.pieces {w : World} {l bl bo bi : Nat} {go gi : Int → Option Nat} {s : LSt} (h : Lq w l bl bo bi go gi s) : TkP w l bl bo bi s.lost.length go gi s.lost s.F s.ins := ⟨h.hd, h.lost, rfl, h.outs, h.ins, h.sep⟩
section
variable {W W' : World} {l bl bo bi N : Nat} {go gi go' gi' : Int → Option Nat} {lo : List Int} {F F' : Int → Int → Option Wy} {G G' : Int → Int → Option Unit}
theorem TkP.only {S : Nat → Prop} (h : TkP W l bl bo bi N go gi lo F G) (ho : Only S W W') (hS : ∀ k, LB l bl bo bi go gi k → ¬ S k) : TkP W' l bl bo bi N go gi lo F G :=
  ⟨h.hd.only ho (hS _ (.inl rfl)), h.lost.only ho (hS _ (.inr (.inl rfl))), h.len, h.outs.only ho (fun k hk => hS k (.inr (.inr (.inl hk)))), h.ins.only ho (fun k hk => hS k (.inr (.inr (.inr hk)))), h.sep⟩
theorem TkP.under (h : TkP W l bl bo bi N go gi lo F G) (hb : Below W.heap.size W W') : TkP W' l bl bo bi N go gi lo F G := h.only (Only.of_below (fun _ => False) hb) (fun _ _ h => h)
theorem TkP.lt (h : TkP W l bl bo bi N go gi lo F G) : ∀ k, LB l bl bo bi go gi k → k < W.heap.size := by
  rintro k (rfl | rfl | hk | hk)
  · exact h.hd.lt
  · exact h.lost.lt
  · exact h.outs.lt k hk
  · exact h.ins.lt k hk
theorem TkP.cutIns {S : Nat → Prop} (h : TkP W l bl bo bi N go gi lo F G) (hs : Side eUnit W' bi N gi' G') (hn : ∀ k, SideB bi gi' k → SideB bi gi k) (ho : Only S W W') (hS : ∀ k, S k → SideB bi gi k) : TkP W' l bl bo bi N go gi' lo F G' := by
  obtain ⟨s1, s2, s3, s4⟩ := h.sep
  exact ⟨h.hd.only ho (fun e => (s3 _ (hS _ e)).1 rfl), h.lost.only ho (fun e => (s3 _ (hS _ e)).2 rfl), h.len, h.outs.only ho (fun k hk e => s4 k hk (hS k e)), hs, s1, s2, fun k hk => s3 k (hn k hk), fun k hk hk2 => s4 k hk (hn k hk2)⟩
theorem TkP.cutOuts {S : Nat → Prop} (h : TkP W l bl bo bi N go gi lo F G) (hs : Side eWay W' bo N go' F') (hn : ∀ k, SideB bo go' k → SideB bo go k) (ho : Only S W W') (hS : ∀ k, S k → SideB bo go k) : TkP W' l bl bo bi N go' gi lo F' G := by
  obtain ⟨s1, s2, s3, s4⟩ := h.sep
  exact ⟨h.hd.only ho (fun e => (s2 _ (hS _ e)).1 rfl), h.lost.only ho (fun e => (s2 _ (hS _ e)).2 rfl), h.len, hs, h.ins.only ho (fun k hk e => s4 k (hS k e) hk), s1, fun k hk => s2 k (hn k hk), s3, fun k hk hk2 => s4 k (hn k hk) hk2⟩
theorem TkP.setLost (h : TkP W l bl bo bi N go gi lo F G) (x : Nat) (z : Int) : TkP (W.setCell ⟨bl, x, none⟩ (.int .i64 z)) l bl bo bi N go gi (lo.set x z) F G := by
  obtain ⟨s1, s2, s3, s4⟩ := h.sep
  have ho : Only (fun k => k = bl) W (W.setCell ⟨bl, x, none⟩ (.int .i64 z)) := (Only.refl (fun k => k = bl) W).setCell (p := ⟨bl, x, none⟩) (.inl rfl) _
  have hl := h.lost.put x (.int .i64 z)
  refine ⟨h.hd.only ho s1, ?_, by rw [List.length_set]; exact h.len, h.outs.only ho (fun k hk e => (s2 k hk).2 e), h.ins.only ho (fun k hk e => (s3 k hk).2 e), h.sep⟩
  have e : intsV (lo.set x z) = (intsV lo).setIfInBounds x (.int .i64 z) := by
    unfold intsV
    rw [List.map_set, List.setIfInBounds_toArray]
  rw [e]
  exact hl
theorem TkP.num (h : TkP W l bl bo bi N go gi lo F G) {k : Nat} (hk : k < lo.length) : W.cell? ⟨bl, k, none⟩ = some (.int .i64 (lo[k]'hk)) := by
  rw [h.lost.cell k]
  simp [intsV, hk]
theorem TkP.heads (h : TkP W l bl bo bi N go gi lo F G) : W.cell? ⟨l, 0, none⟩ = some (.slice (some ⟨bl, 0, none⟩) N N) ∧ W.cell? ⟨l, 1, none⟩ = some (.map (some bo)) ∧ W.cell? ⟨l, 2, none⟩ = some (.map (some bi)) := ⟨h.hd.cell 0, h.hd.cell 1, h.hd.cell 2⟩
end
/-- What is left behind a place that is taken. -/
def LSt.take (s : LSt) (v : Int) : LSt := ⟨(incF s.lost fun i => (s.F v i).isSome || (s.F i v).isSome).set v.toNat (-1), fun i j => if i = v ∨ j = v then none else s.F i j⟩
theorem look_o {w : World} {o : Option Nat} {N : Nat} {f : Int → Option Wy} (h : ∀ b, o = some b → Mp eWay w b N f) (hn : o = none → ∀ i, f i = none) {z : Int} (hw : (Lit.int .i64 z).wf = true) : (Instr.lookup 120 (.map o) (.int .i64 z) true).run Tryz.prog w = .ok (wayT (f z)) w := by
  cases o with
  | none =>
    rw [hn rfl z]
    exact Maps.look_nil true intK Tryz.underlying120 (zeroWay w) (key_int hw)
  | some b =>
    have h1 := (h b rfl).look true Tryz.underlying120 (zeroWay w) hw
    cases hF : f z with
    | none => rw [hF] at h1; exact h1
    | some x => rw [hF] at h1; exact h1
theorem incF_two {lo : List Int} {p q : Int → Bool} (h : ∀ z, p z = true → q z = false) : incF (incF lo p) q = incF lo (fun i => p i || q i) := by
  refine List.ext_getElem (by simp [incF_length]) fun i h1 h2 => ?_
  rw [incF_length, incF_length] at h1
  rw [incF_get (by rw [incF_length]; exact h1), incF_get h1, incF_get h1]
  cases hp : p (i : Nat) with
  | true => simp [h _ hp]
  | false => simp
/-- The pieces are the object again. -/
theorem TkP.lq {w : World} {l bl bo bi N : Nat} {go gi : Int → Option Nat} {lo : List Int} {F : Int → Int → Option Wy} {G : Int → Int → Option Unit} {s : LSt} (h : TkP w l bl bo bi N go gi lo F G) (hl : lo = s.lost) (hF : ∀ i j, F i j = s.F i j) (hG : ∀ i j, G i j = s.ins i j) (hN : N ≤ 16777216) (hlow : ∀ x ∈ lo, -1 ≤ x ∧ x ≤ 1099511627776) : Lq w l bl bo bi go gi s := by
  have e := h.len
  subst e
  subst hl
  exact ⟨h.hd, h.lost, h.outs.congr hF, h.ins.congr hG, hN, hlow, h.sep⟩
theorem LSt.take_F (s : LSt) {v : Int} {ys : List Int} (hy : KeyS (s.ins v) ys) (i j : Int) : (if i = v then none else if i ∈ ys ∧ j = v then none else s.F i j) = (s.take v).F i j := by
  show _ = if i = v ∨ j = v then none else s.F i j
  by_cases e : i = v
  · rw [if_pos e]
    exact (if_pos (.inl e)).symm
  · rw [if_neg e]
    by_cases e2 : j = v
    · refine Eq.trans ?_ (if_pos (.inr e2)).symm
      subst e2
      by_cases e3 : i ∈ ys
      · exact if_pos ⟨e3, rfl⟩
      · rw [if_neg (fun h => e3 h.1)]
        cases hF : s.F i j with
        | none => rfl
        | some y => exact absurd ((hy.2 i).2 (by unfold LSt.ins; rw [hF]; rfl)) e3
    · exact Eq.trans (if_neg (fun h => e2 h.2)) (if_neg (fun h => h.elim e e2)).symm
theorem LSt.take_G (s : LSt) {v : Int} (i j : Int) : (if i = v then none else if (s.F v i).isSome = true ∧ j = v then none else s.ins i j) = (s.take v).ins i j := by
  show _ = (if j = v ∨ i = v then none else s.F j i).map fun _ => ()
  by_cases e : i = v
  · have h : (if j = v ∨ i = v then none else s.F j i) = none := if_pos (.inr e)
    rw [if_pos e, h]
    rfl
  · rw [if_neg e]
    by_cases e2 : j = v
    · have h : (if j = v ∨ i = v then none else s.F j i) = none := if_pos (.inl e2)
      rw [h]
      subst e2
      unfold LSt.ins
      cases hF : s.F j i with
      | none => simp
      | some y => simp
    · have h : (if j = v ∨ i = v then none else s.F j i) = s.F j i := if_neg (fun h => h.elim e2 e)
      rw [h]
      exact if_neg (fun h => e2 h.2)
theorem LSt.take_lost (s : LSt) {v : Int} {ys : List Int} (hy : KeyS (s.ins v) ys) : incF (incF s.lost fun i => (s.F v i).isSome) (fun i => decide (i ∈ ys) && !(s.F v i).isSome) = incF s.lost fun i => (s.F v i).isSome || (s.F i v).isSome := by
  rw [incF_two (fun z hz => by simp [hz])]
  refine incF_congr fun z _ _ => ?_
  have h1 : decide (z ∈ ys) = (s.F z v).isSome := by
    have h2 := hy.2 z
    unfold LSt.ins at h2
    rw [Option.isSome_map] at h2
    cases h3 : (s.F z v).isSome
    · rw [h3] at h2; simpa using h2
    · rw [h3] at h2; simpa using h2
  rw [h1]
  cases (s.F v z).isSome <;> simp
theorem LSt.take_low {s : LSt} {v : Int} (h : ∀ x ∈ s.lost, -1 ≤ x ∧ x < 1099511627776) : ∀ x ∈ (s.take v).lost, -1 ≤ x ∧ x ≤ 1099511627776 := by
  intro x hx
  unfold LSt.take at hx
  dsimp only at hx
  rcases List.mem_or_eq_of_mem_set hx with hx | hx
  · obtain ⟨i, hi, rfl⟩ := List.getElem_of_mem hx
    have hi2 : i < s.lost.length := by rw [incF_length] at hi; exact hi
    rw [incF_get hi2]
    have := h _ (List.getElem_mem hi2)
    split <;> omega
  · subst hx
    exact ⟨by decide, by decide⟩
/-- The iterator of a map's keys, whichever. -/
theorem keysW_o (m : Nat) {w : World} {kb N : Nat} {o : Option Nat} {f : Int → Option Wy} (Wr : Foot) (hm : 1 ≤ m) (hk : Row w kb 120 #[.map o]) (h : ∀ b, o = some b → Mp eWay w b N f ∧ ¬ Wr b) (hn : o = none → ∀ z, f z = none) (hWk : ¬ Wr kb) (hWl : ∀ k, Wr k → k < w.heap.size) :
    SeqSep Fence.wide m Tryz.prog 117 #[ptr kb] (fun x : Int => #[.int .i64 x]) Wr (KeyR f) (KeyS f) w := by
  cases o with
  | none => exact keysW_nil m Wr hm hk (hn rfl)
  | some b => exact keysW_sep m Wr hm hk (h b rfl).1 hWk (h b rfl).2 hWl
theorem keysU_o (m : Nat) {w : World} {kb N : Nat} {o : Option Nat} {f : Int → Option Unit} (Wr : Foot) (hm : 1 ≤ m) (hk : Row w kb 131 #[.map o]) (h : ∀ b, o = some b → Mp eUnit w b N f ∧ ¬ Wr b) (hn : o = none → ∀ z, f z = none) (hWk : ¬ Wr kb) (hWl : ∀ k, Wr k → k < w.heap.size) :
    SeqSep Fence.wide m Tryz.prog 118 #[ptr kb] (fun x : Int => #[.int .i64 x]) Wr (KeyR f) (KeyS f) w := by
  cases o with
  | none => exact keysU_nil m Wr hm hk (hn rfl)
  | some b => exact keysU_sep m Wr hm hk (h b rfl).1 hWk (h b rfl).2 hWl
/-- The first loop of Take, seen from wB: these places (reached from v) were told. -/
structure TkA (wB : World) (l bl bo bi N : Nat) (go gi : Int → Option Nat) (lo : List Int) (F : Int → Int → Option Wy) (G : Int → Int → Option Unit) (v : Int) (pre : List Int) (W : World) : Prop where
  ex : ∃ gi', TkP W l bl bo bi N go gi' (incF lo fun i => decide (i ∈ pre)) F (fun i j => if i ∈ pre ∧ j = v then none else G i j) ∧ (∀ k, SideB bi gi' k → SideB bi gi k) ∧ (∀ i, i ∉ pre → gi' i = gi i)
  only : Only (fun k => k = bl ∨ SideB bi gi k) wB W
theorem TkA.start {wB : World} {l bl bo bi N : Nat} {go gi : Int → Option Nat} {lo : List Int} {F : Int → Int → Option Wy} {G : Int → Int → Option Unit} {v : Int} (h : TkP wB l bl bo bi N go gi lo F G) : TkA wB l bl bo bi N go gi lo F G v [] wB := by
  refine ⟨⟨gi, ?_, fun k hk => hk, fun i _ => rfl⟩, Only.refl _ _⟩
  have e : (incF lo fun i => decide (i ∈ ([] : List Int))) = lo := by
    have : (fun i : Int => decide (i ∈ ([] : List Int))) = fun _ => false := funext fun i => by simp
    rw [this, incF_none]
  rw [e]
  exact ⟨h.hd, h.lost, h.len, h.outs, h.ins.congr (fun i j => by simp), h.sep⟩
theorem TkA.abide {wB : World} {l bl bo bi N : Nat} {go gi : Int → Option Nat} {lo : List Int} {F : Int → Int → Option Wy} {G : Int → Int → Option Unit} {v : Int} (hlt : ∀ k, LB l bl bo bi go gi k → k < wB.heap.size) : Abide wB.heap.size (fun pre (_ : Foot) W => TkA wB l bl bo bi N go gi lo F G v pre W) := by
  rintro pre T A A' ⟨⟨gi', h1, h2, h3⟩, h4⟩ _ ho
  have hn : ∀ k, LB l bl bo bi go gi' k → LB l bl bo bi go gi k := by
    rintro k (e | e | e | e)
    · exact .inl e
    · exact .inr (.inl e)
    · exact .inr (.inr (.inl e))
    · exact .inr (.inr (.inr (h2 k e)))
  exact ⟨⟨gi', h1.only ho (fun k hk e => by have := hlt k (hn k hk); omega), h2, h3⟩, h4.trans ho (fun k hk => .inr hk.1)⟩
theorem Side.rng {α : Type} {R : Rd} {E : Elem α R} {w : World} {b N : Nat} {g : Int → Option Nat} {F : Int → Int → Option α} (h : Side E w b N g F) {u x : Int} {y : α} (hF : F u x = some y) : 0 ≤ x ∧ x < (N : Int) := by
  cases hg : g u with
  | none => rw [h.none_ u hg x] at hF; cases hF
  | some c =>
    obtain ⟨D, _, _, h3⟩ := h.sub u c hg
    exact ((h3 x).2 y hF).1
/-- Behind a round of the first loop. -/
theorem TkA.next {wB W' : World} {l bl bo bi N : Nat} {go gi gi' gi2 : Int → Option Nat} {lo : List Int} {F : Int → Int → Option Wy} {G : Int → Int → Option Unit} {v : Int} {pre : List Int} {x : Nat} (hx : x < lo.length) (hn : ((x : Nat) : Int) ∉ pre)
    (hP : TkP W' l bl bo bi N go gi2 (incF lo fun i => decide (i ∈ pre)) F (fun i j => if i = (x : Nat) ∧ j = v then none else if i ∈ pre ∧ j = v then none else G i j))
    (h2 : ∀ k, SideB bi gi' k → SideB bi gi k) (h3 : ∀ i, i ∉ pre → gi' i = gi i) (q2 : ∀ k, SideB bi gi2 k → SideB bi gi' k) (q3 : ∀ i : Int, i ≠ ((x : Nat) : Int) → gi2 i = gi' i) (ho : Only (fun k => k = bl ∨ SideB bi gi k) wB W') :
    TkA wB l bl bo bi N go gi lo F G v (pre ++ [((x : Nat) : Int)]) (W'.setCell ⟨bl, x, none⟩ (.int .i64 (lo[x]'hx + 1))) := by
  have hP2 := hP.setLost x (lo[x]'hx + 1)
  refine ⟨⟨gi2, ?_, fun k hk => h2 k (q2 k hk), fun i hi => ?_⟩, ho.setCell (.inl (.inl rfl)) _⟩
  · rw [incF_set hx (q := fun i => decide (i ∈ pre ++ [((x : Nat) : Int)])) (by simpa using hn) (fun z => by simp [Bool.decide_or])] at hP2
    refine ⟨hP2.hd, hP2.lost, hP2.len, hP2.outs, hP2.ins.congr fun i j => ?_, hP2.sep⟩
    by_cases e1 : i = (x : Nat) ∧ j = v
    · rw [if_pos e1, if_pos ⟨by simp [e1.1], e1.2⟩]
    · rw [if_neg e1]
      by_cases e2 : i ∈ pre ∧ j = v
      · rw [if_pos e2, if_pos ⟨List.mem_append_left _ e2.1, e2.2⟩]
      · rw [if_neg e2, if_neg]
        rintro ⟨e3, e4⟩
        rcases List.mem_append.1 e3 with e5 | e5
        · exact e2 ⟨e5, e4⟩
        · exact e1 ⟨by simpa using e5, e4⟩
  · rw [q3 i (fun e => hi (by simp [e]))]
    exact h3 i (fun e => hi (List.mem_append_left _ e))
/-- The second loop of Take, seen from wB: these places (that lead to v) were told; p: where no more is counted. -/
structure TkB (wB : World) (l bl bo bi N : Nat) (go gi : Int → Option Nat) (lo : List Int) (F : Int → Int → Option Wy) (G : Int → Int → Option Unit) (v : Int) (p : Int → Bool) (pre : List Int) (W : World) : Prop where
  ex : ∃ go', TkP W l bl bo bi N go' gi (incF lo fun i => decide (i ∈ pre) && !p i) (fun i j => if i ∈ pre ∧ j = v then none else F i j) G ∧ (∀ k, SideB bo go' k → SideB bo go k) ∧ (∀ i, i ∉ pre → go' i = go i)
  only : Only (fun k => k = bl ∨ SideB bo go k) wB W
  mem : ∀ i ∈ pre, i ≠ v
theorem TkB.start {wB : World} {l bl bo bi N : Nat} {go gi : Int → Option Nat} {lo : List Int} {F : Int → Int → Option Wy} {G : Int → Int → Option Unit} {v : Int} {p : Int → Bool} (h : TkP wB l bl bo bi N go gi lo F G) : TkB wB l bl bo bi N go gi lo F G v p [] wB := by
  refine ⟨⟨go, ?_, fun k hk => hk, fun i _ => rfl⟩, Only.refl _ _, fun i hi => by simp at hi⟩
  have e : (incF lo fun i => decide (i ∈ ([] : List Int)) && !p i) = lo := by
    have : (fun i : Int => decide (i ∈ ([] : List Int)) && !p i) = fun _ => false := funext fun i => by simp
    rw [this, incF_none]
  rw [e]
  exact ⟨h.hd, h.lost, h.len, h.outs.congr (fun i j => by simp), h.ins, h.sep⟩
theorem TkB.abide {wB : World} {l bl bo bi N : Nat} {go gi : Int → Option Nat} {lo : List Int} {F : Int → Int → Option Wy} {G : Int → Int → Option Unit} {v : Int} {p : Int → Bool} (hlt : ∀ k, LB l bl bo bi go gi k → k < wB.heap.size) : Abide wB.heap.size (fun pre (_ : Foot) W => TkB wB l bl bo bi N go gi lo F G v p pre W) := by
  rintro pre T A A' ⟨⟨go', h1, h2, h3⟩, h4, h5⟩ _ ho
  have hn : ∀ k, LB l bl bo bi go' gi k → LB l bl bo bi go gi k := by
    rintro k (e | e | e | e)
    · exact .inl e
    · exact .inr (.inl e)
    · exact .inr (.inr (.inl (h2 k e)))
    · exact .inr (.inr (.inr e))
  exact ⟨⟨go', h1.only ho (fun k hk e => by have := hlt k (hn k hk); omega), h2, h3⟩, h4.trans ho (fun k hk => .inr hk.1), h5⟩
theorem cut_next {β : Type} {F : Int → Int → Option β} {v x : Int} {pre : List Int} (i j : Int) : (if i = x ∧ j = v then none else if i ∈ pre ∧ j = v then none else F i j) = if i ∈ pre ++ [x] ∧ j = v then none else F i j := by
  by_cases e1 : i = x ∧ j = v
  · rw [if_pos e1, if_pos ⟨by simp [e1.1], e1.2⟩]
  · rw [if_neg e1]
    by_cases e2 : i ∈ pre ∧ j = v
    · rw [if_pos e2, if_pos ⟨List.mem_append_left _ e2.1, e2.2⟩]
    · rw [if_neg e2, if_neg]
      rintro ⟨e3, e4⟩
      rcases List.mem_append.1 e3 with e5 | e5
      · exact e2 ⟨e5, e4⟩
      · exact e1 ⟨by simpa using e5, e4⟩
theorem TkB.below {wB W W' : World} {l bl bo bi N : Nat} {go gi : Int → Option Nat} {lo : List Int} {F : Int → Int → Option Wy} {G : Int → Int → Option Unit} {v : Int} {p : Int → Bool} {pre : List Int} (h : TkB wB l bl bo bi N go gi lo F G v p pre W) (hb : Below W.heap.size W W') : TkB wB l bl bo bi N go gi lo F G v p pre W' := by
  obtain ⟨⟨go', h1, h2, h3⟩, h4, h5⟩ := h
  exact ⟨⟨go', h1.under hb, h2, h3⟩, h4.trans (S' := fun _ => False) (Only.of_below _ hb) (fun _ h => h.elim), h5⟩
/-- Behind a round of the second loop that counts. -/
theorem TkB.next {wB W' : World} {l bl bo bi N : Nat} {go gi go' go2 : Int → Option Nat} {lo : List Int} {F : Int → Int → Option Wy} {G : Int → Int → Option Unit} {v : Int} {p : Int → Bool} {pre : List Int} {x : Nat} (hx : x < lo.length) (hn : ((x : Nat) : Int) ∉ pre) (hxv : ((x : Nat) : Int) ≠ v) (hm : ∀ i ∈ pre, i ≠ v) (hp : p (x : Nat) = false)
    (hP : TkP W' l bl bo bi N go2 gi (incF lo fun i => decide (i ∈ pre) && !p i) (fun i j => if i = ((x : Nat) : Int) ∧ j = v then none else if i ∈ pre ∧ j = v then none else F i j) G)
    (h2 : ∀ k, SideB bo go' k → SideB bo go k) (h3 : ∀ i, i ∉ pre → go' i = go i) (q2 : ∀ k, SideB bo go2 k → SideB bo go' k) (q3 : ∀ i : Int, i ≠ ((x : Nat) : Int) → go2 i = go' i) (ho : Only (fun k => k = bl ∨ SideB bo go k) wB W') :
    TkB wB l bl bo bi N go gi lo F G v p (pre ++ [((x : Nat) : Int)]) (W'.setCell ⟨bl, x, none⟩ (.int .i64 (lo[x]'hx + 1))) := by
  have hP2 := hP.setLost x (lo[x]'hx + 1)
  refine ⟨⟨go2, ?_, fun k hk => h2 k (q2 k hk), fun i hi => ?_⟩, ho.setCell (.inl (.inl rfl)) _, fun i hi => by rcases List.mem_append.1 hi with e | e; exact hm i e; (have : i = ((x : Nat) : Int) := by simpa using e); rw [this]; exact hxv⟩
  · rw [incF_set hx (q := fun i => decide (i ∈ pre ++ [((x : Nat) : Int)]) && !p i) (by simp [hn]) (fun z => by
      by_cases e : z = ((x : Nat) : Int)
      · subst e; simp [hp]
      · simp [e])] at hP2
    exact ⟨hP2.hd, hP2.lost, hP2.len, hP2.outs.congr fun i j => cut_next i j, hP2.ins, hP2.sep⟩
  · rw [q3 i (fun e => hi (by simp [e]))]
    exact h3 i (fun e => hi (List.mem_append_left _ e))
/-- Behind a round of the second loop that does not count. -/
theorem TkB.pass {wB W' : World} {l bl bo bi N : Nat} {go gi go' go2 : Int → Option Nat} {lo : List Int} {F : Int → Int → Option Wy} {G : Int → Int → Option Unit} {v : Int} {p : Int → Bool} {pre : List Int} {x : Nat} (hxv : ((x : Nat) : Int) ≠ v) (hm : ∀ i ∈ pre, i ≠ v) (hp : p (x : Nat) = true)
    (hP : TkP W' l bl bo bi N go2 gi (incF lo fun i => decide (i ∈ pre) && !p i) (fun i j => if i = ((x : Nat) : Int) ∧ j = v then none else if i ∈ pre ∧ j = v then none else F i j) G)
    (h2 : ∀ k, SideB bo go' k → SideB bo go k) (h3 : ∀ i, i ∉ pre → go' i = go i) (q2 : ∀ k, SideB bo go2 k → SideB bo go' k) (q3 : ∀ i : Int, i ≠ ((x : Nat) : Int) → go2 i = go' i) (ho : Only (fun k => k = bl ∨ SideB bo go k) wB W') :
    TkB wB l bl bo bi N go gi lo F G v p (pre ++ [((x : Nat) : Int)]) W' := by
  refine ⟨⟨go2, ?_, fun k hk => h2 k (q2 k hk), fun i hi => ?_⟩, ho, fun i hi => by rcases List.mem_append.1 hi with e | e; exact hm i e; (have : i = ((x : Nat) : Int) := by simpa using e); rw [this]; exact hxv⟩
  · rw [incF_congr (q := fun i => decide (i ∈ pre ++ [((x : Nat) : Int)]) && !p i) (fun z _ _ => by
      by_cases e : z = ((x : Nat) : Int)
      · subst e; simp [hp]
      · simp [e])] at hP
    exact ⟨hP.hd, hP.lost, hP.len, hP.outs.congr fun i j => cut_next i j, hP.ins, hP.sep⟩
  · rw [q3 i (fun e => hi (by simp [e]))]
    exact h3 i (fun e => hi (List.mem_append_left _ e))
/-- A place's whole map is taken out. -/
theorem Side.del {α : Type} {R : Rd} {E : Elem α R} {w w' : World} {b N : Nat} {g : Int → Option Nat} {F : Int → Int → Option α} {u : Int} (h : Side E w b N g F) (hm : Mp eRef w' b N (fun i => if i = u then none else g i)) (hg : w.grownBy w' (some b)) :
    Side E w' b N (fun i => if i = u then none else g i) (fun i j => if i = u then none else F i j) := by
  have ho : Only (fun k => k = b) w w' := ⟨hg.os, hg.tape, hg.output, hg.size, fun k hk hn => hg.block k hk (by intro e; injection e with e; exact hn e)⟩
  refine ⟨hm, fun i d hd => ?_, fun i hi j => ?_, fun i i' d hd hd' => ?_, fun i d hd => ?_⟩
  · split at hd
    · cases hd
    · rename_i e
      have := (h.sub i d hd).only ho (h.ne i d hd)
      exact this.congr (fun j => by rw [if_neg e])
  · split at hi
    · rename_i e; rw [if_pos e]
    · rename_i e; rw [if_neg e]; exact h.none_ i hi j
  · split at hd
    · cases hd
    · split at hd'
      · cases hd'
      · exact h.inj i i' d hd hd'
  · split at hd
    · cases hd
    · exact h.ne i d hd
end Go.Proofs.YtdkpdmpghibmmaaGreat

/- left.Take (written by mklhc.py). -/
namespace Go.Proofs.YtdkpdmpghibmmaaGreat
open Go.RowKit Go.Maps
attribute [local go_sem] Oper.semAt_some
theorem take_not {w : World} {l bl bo bi : Nat} {go gi : Int → Option Nat} {s : LSt} (h : Lq w l bl bo bi go gi s) {v : Int} (hwv : (Lit.int .i64 v).wf = true) (hh : s.holds v = false) :
    Calls Tryz.prog 31 #[ptr l, .int .i64 v] w fun e w' => e = .returned (.bool false) ∧ Below w.heap.size w w' := by
  have hb : Below w.heap.size w ((w.alloc (.cells #[ptr l] 29)).alloc (.cells #[.int .i64 v] 3)) := ((Below.refl _ _).alloc (Nat.le_refl _) _).alloc (by simp) _
  have hl := h.under hb
  have H := Lib.hid (And.intro hl (And.intro hwv (And.intro hh hb)))
  clear h hwv hh hb hl
  go_enter Tryz.func31, Tryz.ntmps31
  go_wp2_with (go_at_call 74; refine (holds_any H.out.1 H.out.2.1).mono ?_; rw [H.out.2.2.1]; rintro e w1 ⟨rfl, rfl⟩)
  go_ret
  exact ⟨rfl, H.out.2.2.2⟩
set_option maxRecDepth 100000 in
set_option maxHeartbeats 8000000 in
theorem take_yes {w : World} {l bl bo bi : Nat} {go gi : Int → Option Nat} {s : LSt} (h : Lq w l bl bo bi go gi s) {v : Nat} (hv : s.holds (v : Nat) = true) (hdiag : s.F (v : Nat) (v : Nat) = none) (hlow : ∀ x ∈ s.lost, x < 1099511627776) :
    Calls Tryz.prog 31 #[ptr l, .int .i64 (v : Nat)] w fun e w' => e = .returned (.bool true) ∧ ∃ go' gi', Lq w' l bl bo bi go' gi' (s.take (v : Nat)) ∧ (∀ k, LB l bl bo bi go' gi' k → LB l bl bo bi go gi k) ∧ Only (LB l bl bo bi go gi) w w' := by
  have hvN : v < s.lost.length := by have := (LSt.holds_in hv).2; omega
  have hwv : (Lit.int .i64 (v : Nat)).wf = true := wf_nat ⟨by omega, by omega⟩ h.small
  obtain ⟨w2, hw2⟩ : ∃ w2, w2 = (w.alloc (.cells #[ptr l] 29)).alloc (.cells #[.int .i64 (v : Nat)] 3) := ⟨_, rfl⟩
  have hb2 : Below w.heap.size w w2 := by rw [hw2]; exact ((Below.refl _ _).alloc (Nat.le_refl _) _).alloc (by simp) _
  have hz2 : w2.heap.size = w.heap.size + 2 := by rw [hw2]; simp
  have hr3 : Row w2 (w.heap.size + 1) 3 #[.int .i64 (v : Nat)] := by
    rw [hw2]
    have := Row.fresh (w.alloc (.cells #[ptr l] 29)) 3 #[.int .i64 (v : Nat)]
    rw [World.size_alloc] at this
    exact this
  have hr2 : Row w2 w.heap.size 29 #[ptr l] := by
    rw [hw2]
    exact (Row.fresh w 29 #[ptr l]).under ((Below.refl _ _).alloc (Nat.le_refl _) _) (by simp)
  have hl2 := h.under hb2
  have hgen : ∀ W, Below w2.heap.size w2 W → W.cell? ⟨w.heap.size, 0, none⟩ = some (ptr l) ∧ W.cell? ⟨w.heap.size + 1, 0, none⟩ = some (.int .i64 (v : Nat)) ∧ W.cell? ⟨l, 1, none⟩ = some (.map (some bo)) ∧ W.cell? ⟨l, 2, none⟩ = some (.map (some bi)) ∧ (Instr.lookup 97 (.map (some bo)) (.int .i64 (v : Nat)) false).run Tryz.prog W = .ok (.map (go (v : Nat))) W ∧ (Instr.lookup 98 (.map (some bi)) (.int .i64 (v : Nat)) false).run Tryz.prog W = .ok (.map (gi (v : Nat))) W := fun W hW => by
    have q := hl2.under hW
    obtain ⟨_, r1, r2⟩ := q.heads
    exact ⟨(hr2.under hW hr2.lt).cell 0, (hr3.under hW hr3.lt).cell 0, r1, r2, q.outs.look Tryz.underlying97 (zeroRefW W) hwv, q.ins.look Tryz.underlying98 (zeroRefU W) hwv⟩
  have hb5 : ∀ x, Below w2.heap.size w2 ((w2.alloc (.cells #[x] 120)).drew) := fun x => ((Below.refl _ _).alloc (Nat.le_refl _) _).drew
  have HA := Lib.hid hgen
  have HB5 := Lib.hid hb5
  have H := Lib.hid (And.intro h (And.intro hl2 (And.intro hb2 (And.intro hr2 (And.intro hr3 (And.intro hwv (And.intro hv (And.intro hdiag hlow))))))))
  have HW2 := Lib.hid hw2
  have hsm := h.small
  clear h hl2 hb2 hr2 hr3 hwv hv hdiag hlow hgen hb5 hw2
  refine (callsIn_wide (n := 6)).1 ?_
  refine callsIn_of_wp_marks Tryz.func31 rfl trivial ?_ rfl
  simp only [Tryz.ntmps31, List.size_toArray, List.length_cons, List.length_nil, Nat.reduceAdd, Nat.reduceSub, Array.replicate_succ, Array.replicate_zero, List.push_toArray, List.append_toArray, List.nil_append, List.cons_append]
  refine wpIn_mono ?_ noP_le
  rw [wpIn_wide]
  go_wp2_with (go_at_call 74; rw [← HW2.out]; refine (holds_any H.out.2.1 H.out.2.2.2.2.2.1).mono ?_; rw [H.out.2.2.2.2.2.2.1]; rintro e w1 ⟨rfl, e1⟩; rw [e1]; clear e1)
  refine wp_region_held_drew (S := fun W => W.cell? ⟨w.heap.size, 0, none⟩ = some (ptr l) ∧ W.cell? ⟨w.heap.size + 1, 0, none⟩ = some (.int .i64 (v : Nat)) ∧ W.cell? ⟨l, 1, none⟩ = some (.map (some bo)) ∧ W.cell? ⟨l, 2, none⟩ = some (.map (some bi)) ∧ (Instr.lookup 97 (.map (some bo)) (.int .i64 (v : Nat)) false).run Tryz.prog W = .ok (.map (go (v : Nat))) W ∧ (Instr.lookup 98 (.map (some bi)) (.int .i64 (v : Nat)) false).run Tryz.prog W = .ok (.map (gi (v : Nat))) W) (by kernel_rfl) (HA.out _ (Below.refl _ _).drew) (fun hHeld => ?_)
  refine wpAnyH_take (i := 0) (oi := ⟨some 15, _, _, _, _, _⟩) (v := ?_) rfl (by kernel_rfl) (by kernel_rfl) (by kernel_rfl) (fun _ _ _ h => h) (Or.inl ⟨by rfl, ?_⟩) hHeld ?_
  rotate_left
  · intro W hSw
    obtain ⟨s0, s1, s2, s3, s4, s5⟩ := hSw
    go_simp
    with_reducible rfl
  simp only [Act.put, List.setIfInBounds_toArray, List.set_cons_zero, List.set_cons_succ]
  refine wpAnyH_take (i := 1) (oi := ⟨some 16, _, _, _, _, _⟩) (v := ?_) rfl (by kernel_rfl) (by kernel_rfl) (by kernel_rfl) (fun _ _ _ h => h) (Or.inl ⟨by rfl, ?_⟩) hHeld ?_
  rotate_left
  · intro W hSw
    obtain ⟨s0, s1, s2, s3, s4, s5⟩ := hSw
    go_simp
    with_reducible rfl
  simp only [Act.put, List.setIfInBounds_toArray, List.set_cons_zero, List.set_cons_succ]
  refine wpAnyH_take (i := 2) (oi := ⟨some 17, _, _, _, _, _⟩) (v := ?_) rfl (by kernel_rfl) (by kernel_rfl) (by kernel_rfl) (fun _ _ _ h => h) (Or.inl ⟨by rfl, ?_⟩) hHeld ?_
  rotate_left
  · intro W hSw
    obtain ⟨s0, s1, s2, s3, s4, s5⟩ := hSw
    go_simp
    with_reducible rfl
  simp only [Act.put, List.setIfInBounds_toArray, List.set_cons_zero, List.set_cons_succ]
  refine wpAnyH_take (i := 3) (oi := ⟨some 18, _, _, _, _, _⟩) (v := ?_) rfl (by kernel_rfl) (by kernel_rfl) (by kernel_rfl) (fun _ _ _ h => h) (Or.inl ⟨by rfl, ?_⟩) hHeld ?_
  rotate_left
  · intro W hSw
    obtain ⟨s0, s1, s2, s3, s4, s5⟩ := hSw
    go_simp
    with_reducible rfl
  simp only [Act.put, List.setIfInBounds_toArray, List.set_cons_zero, List.set_cons_succ]
  refine wpAnyH_take (i := 4) (oi := ⟨some 19, _, _, _, _, _⟩) (v := ?_) rfl (by kernel_rfl) (by kernel_rfl) (by kernel_rfl) (fun _ _ _ h => h) (Or.inl ⟨by rfl, ?_⟩) hHeld ?_
  rotate_left
  · intro W hSw
    obtain ⟨s0, s1, s2, s3, s4, s5⟩ := hSw
    go_simp
    with_reducible rfl
  simp only [Act.put, List.setIfInBounds_toArray, List.set_cons_zero, List.set_cons_succ]
  refine wpAnyH_take (i := 5) (oi := ⟨some 20, _, _, _, _, _⟩) (v := ?_) rfl (by kernel_rfl) (by kernel_rfl) (by kernel_rfl) (fun _ _ _ h => h) (Or.inl ⟨by rfl, ?_⟩) hHeld ?_
  rotate_left
  · intro W hSw
    obtain ⟨s0, s1, s2, s3, s4, s5⟩ := hSw
    go_simp
    with_reducible rfl
  simp only [Act.put, List.setIfInBounds_toArray, List.set_cons_zero, List.set_cons_succ]
  refine wpAnyH_take (i := 6) (oi := ⟨some 21, _, _, _, _, _⟩) (v := ?_) rfl (by kernel_rfl) (by kernel_rfl) (by kernel_rfl) (fun _ _ _ h => h) (Or.inl ⟨by rfl, ?_⟩) hHeld ?_
  rotate_left
  · intro W hSw
    obtain ⟨s0, s1, s2, s3, s4, s5⟩ := hSw
    go_simp
    with_reducible rfl
  simp only [Act.put, List.setIfInBounds_toArray, List.set_cons_zero, List.set_cons_succ]
  refine wpAnyH_take (i := 7) (oi := ⟨some 22, _, _, _, _, _⟩) (v := ?_) rfl (by kernel_rfl) (by kernel_rfl) (by kernel_rfl) (fun _ _ _ h => h) (Or.inl ⟨by rfl, ?_⟩) hHeld ?_
  rotate_left
  · intro W hSw
    obtain ⟨s0, s1, s2, s3, s4, s5⟩ := hSw
    go_simp
    with_reducible rfl
  simp only [Act.put, List.setIfInBounds_toArray, List.set_cons_zero, List.set_cons_succ]
  refine wpAnyH_take (i := 8) (oi := ⟨some 23, _, _, _, _, _⟩) (v := ?_) rfl (by kernel_rfl) (by kernel_rfl) (by kernel_rfl) (fun _ _ _ h => h) (Or.inl ⟨by rfl, ?_⟩) hHeld ?_
  rotate_left
  · intro W hSw
    obtain ⟨s0, s1, s2, s3, s4, s5⟩ := hSw
    go_simp
    with_reducible rfl
  simp only [Act.put, List.setIfInBounds_toArray, List.set_cons_zero, List.set_cons_succ]
  refine wpAnyH_take (i := 9) (oi := ⟨some 24, _, _, _, _, _⟩) (v := ?_) rfl (by kernel_rfl) (by kernel_rfl) (by kernel_rfl) (fun _ _ _ h => h) (Or.inl ⟨by rfl, ?_⟩) hHeld ?_
  rotate_left
  · intro W hSw
    obtain ⟨s0, s1, s2, s3, s4, s5⟩ := hSw
    go_simp
    with_reducible rfl
  simp only [Act.put, List.setIfInBounds_toArray, List.set_cons_zero, List.set_cons_succ]
  refine wpAnyH_take (i := 10) (oi := ⟨some 25, _, _, _, _, _⟩) (v := ?_) rfl (by kernel_rfl) (by kernel_rfl) (by kernel_rfl) (fun _ _ _ h => h) (Or.inl ⟨by rfl, ?_⟩) hHeld ?_
  rotate_left
  · intro W hSw
    obtain ⟨s0, s1, s2, s3, s4, s5⟩ := hSw
    go_simp
    with_reducible rfl
  simp only [Act.put, List.setIfInBounds_toArray, List.set_cons_zero, List.set_cons_succ]
  refine wpAnyH_take (i := 11) (oi := ⟨some 26, _, _, _, _, _⟩) (v := ?_) rfl (by kernel_rfl) (by kernel_rfl) (by kernel_rfl) (fun _ _ _ h => h) (Or.inl ⟨by rfl, ?_⟩) hHeld ?_
  rotate_left
  · intro W hSw
    obtain ⟨s0, s1, s2, s3, s4, s5⟩ := hSw
    go_simp
    with_reducible rfl
  simp only [Act.put, List.setIfInBounds_toArray, List.set_cons_zero, List.set_cons_succ]
  refine wpAnyH_ready (rs := [12]) (by kernel_rfl) (by simp) ?_
  refine (AllReadyH.cons (o := ⟨some 5, _, _, _, _, _⟩) rfl (fun K hK => ?_) AllReadyH.nil)
  go_simp
  refine hK.out _ _ (HA.out _ (((Below.refl _ _).drew).alloc (Nat.le_refl _) _)) (fun hHeld2 => ?_)
  clear hK hHeld
  have hHeld := hHeld2
  clear hHeld2
  refine wpAnyH_ready (rs := [13]) (by kernel_rfl) (by simp) ?_
  refine (AllReadyH.cons (o := ⟨none, _, _, _, _, _⟩) rfl (fun K hK => ?_) AllReadyH.nil)
  go_simp
  refine hK.out _ _ (HA.out _ (HB5.out _)) (fun hHeld2 => ?_)
  clear hK hHeld
  have hHeld := hHeld2
  clear hHeld2
  refine wpAnyH_take (i := 14) (oi := ⟨some 6, _, _, _, _, _⟩) (v := ?_) rfl (by kernel_rfl) (by kernel_rfl) (by kernel_rfl) (fun _ _ _ h => h) (Or.inl ⟨by rfl, ?_⟩) hHeld ?_
  rotate_left
  · intro W hSw
    obtain ⟨s0, s1, s2, s3, s4, s5⟩ := hSw
    go_simp
    with_reducible rfl
  simp only [Act.put, List.setIfInBounds_toArray, List.set_cons_zero, List.set_cons_succ]
  refine wpAnyH_done (by kernel_rfl) ?_ _
  obtain ⟨w5, hw5⟩ : ∃ w5, w5 = (w2.alloc (.cells #[.map (go (v : Nat))] 120)).drew := ⟨_, rfl⟩
  have hb25 : Below w2.heap.size w2 w5 := by rw [hw5]; exact HB5.out _
  have hr5 : Row w5 w2.heap.size 120 #[.map (go (v : Nat))] := by rw [hw5]; exact Row.fresh w2 _ _
  have hz5 : w5.heap.size = w2.heap.size + 1 := by rw [hw5]; simp
  have H5 := Lib.hid (And.intro hb25 (And.intro hr5 hz5))
  have HW5 := Lib.hid hw5
  clear hb25 hr5 hw5
  rw [← HW5.out]
  have c5 := H5.out.2.1.cell 0
  simp only [List.getElem?_toArray, List.getElem?_cons_zero, hz2] at c5
  go_wp2_with (go_at_call 81; refine (keysW_sep_start _ w5).mono ?_; rintro e w6 ⟨rfl, hw6⟩; have HW6 := Lib.hid hw6; clear hw6)
  have hb56 : Below w5.heap.size w5 w6 := by rw [HW6.out]; exact (Below.refl _ _).alloc (Nat.le_refl _) _
  have hrk : Row w6 w5.heap.size 120 #[.map (go (v : Nat))] := by rw [HW6.out]; exact Row.fresh w5 _ _
  have hz6 : w6.heap.size = w5.heap.size + 1 := by rw [HW6.out]; simp
  rw [hz5, hz2] at hrk
  have H6 := Lib.hid (And.intro hb56 (And.intro hrk hz6))
  clear hb56 hrk c5
  have hp6 : TkP w6 l bl bo bi s.lost.length go gi s.lost s.F s.ins := (H.out.2.1.under (H5.out.1.trans (H6.out.1.mono H5.out.1.size))).pieces
  have hlt0 : ∀ k, LB l bl bo bi go gi k → k < w.heap.size := H.out.1.lt
  have hWl : ∀ k, (k = bl ∨ SideB bi gi k) → k < w.heap.size := fun k hk => hlt0 k (hk.elim (fun e => .inr (.inl e)) (fun e => .inr (.inr (.inr e))))
  have hseq := keysW_o (6 - 1) (fun k => k = bl ∨ SideB bi gi k) (by omega) H6.out.2.1 (N := s.lost.length) (f := s.F (v : Nat)) (fun b hb => ⟨hp6.outs.sub _ b hb, fun e => by
    obtain ⟨_, s2, _, s4⟩ := hp6.sep
    rcases e with e | e
    · exact (s2 b (.inr ⟨_, hb⟩)).2 e
    · exact s4 b (.inr ⟨_, hb⟩) e⟩) (fun hb z => hp6.outs.none_ _ hb z) (fun e => by have := hWl _ e; omega) (fun k hk => by have := hWl k hk; have := H6.out.2.2; omega)
  have H0 := Lib.hid (And.intro (TkA.start (v := (v : Nat)) hp6) (And.intro hp6 (And.intro hlt0 hWl)))
  have hz6 := H6.out.2.2
  have hb26 : Below w2.heap.size w2 w6 := H5.out.1.trans (H6.out.1.mono H5.out.1.size)
  have hS : ∀ V, Only (fun k => k = bl ∨ SideB bi gi k) w6 V → V.cell? ⟨w.heap.size, 0, none⟩ = some (ptr l) ∧ V.cell? ⟨w.heap.size + 1, 0, none⟩ = some (.int .i64 (v : Nat)) ∧ V.cell? ⟨l, 2, none⟩ = some (.map (some bi)) ∧ V.cell? ⟨l, 0, none⟩ = some (.slice (some ⟨bl, 0, none⟩) s.lost.length s.lost.length) := fun V hV => by
    obtain ⟨s1, s2, s3, s4⟩ := hp6.sep
    have hnl : ¬ (l = bl ∨ SideB bi gi l) := by
      rintro (e | e)
      · exact s1 e
      · exact (s3 _ e).1 rfl
    exact ⟨((H.out.2.2.2.1.under hb26 H.out.2.2.2.1.lt).only hV (fun e => by have := hWl _ e; omega)).cell 0, ((H.out.2.2.2.2.1.under hb26 H.out.2.2.2.2.1.lt).only hV (fun e => by have := hWl _ e; omega)).cell 0, (hp6.hd.only hV hnl).cell 2, (hp6.hd.only hV hnl).cell 0⟩
  have HS := Lib.hid hS
  clear hp6 hlt0 hWl hS hb26
  refine (wpIn_wide (n := 6)).1 ?_
  refine wpIn_rangeFunc_sep1 (F := Fence.wide) rfl (by omega) (gf := 117) (lb := #[ptr (w.heap.size + 2 + 1)]) rfl trivial (enters_of Tryz.func117 (by kernel_rfl) rfl) hseq (fun k hk => by have := H0.out.2.2.2 k hk; omega) (fun _ => rfl)
    (fun pre _ W => TkA w6 l bl bo bi s.lost.length go gi s.lost s.F s.ins (v : Nat) pre W) (fun _ _ _ _ => False) (TkA.abide (fun k hk => by have := H0.out.2.2.1 k hk; omega)) (fun _ _ _ _ _ h _ _ => h.elim) H0.out.1 (mk := ?mk) ?assign ?body ?done ?stop
  case assign =>
    intro lp x W K hK
    gi_wp2
    exact hK
  case body =>
    rintro lp pre x T W hI hR hT hW
    obtain ⟨y, hy⟩ := Option.isSome_iff_exists.1 hR.1
    obtain ⟨hx0, hx1⟩ := H0.out.2.1.outs.rng hy
    obtain ⟨xn, rfl⟩ : ∃ xn : Nat, x = (xn : Int) := ⟨x.toNat, by omega⟩
    obtain ⟨⟨gi1, hP, hn1, hg1⟩, hO⟩ := hI
    have hxN : xn < s.lost.length := by omega
    have hwx : (Lit.int .i64 (xn : Nat)).wf = true := wf_nat ⟨hx0, hx1⟩ hsm
    have HX := Lib.hid (And.intro hP (And.intro hn1 (And.intro hg1 (And.intro hO (And.intro hR (And.intro hT (And.intro hW hwx)))))))
    clear hP hn1 hg1 hO hR hT hW hwx hy hx0 hx1
    gi_wp2
    refine wpIn_region_held_round (S := fun V => V.cell? ⟨w.heap.size, 0, none⟩ = some (ptr l) ∧ V.cell? ⟨w.heap.size + 1, 0, none⟩ = some (.int .i64 (v : Nat)) ∧ V.cell? ⟨l, 2, none⟩ = some (.map (some bi)) ∧ V.cell? ⟨l, 0, none⟩ = some (.slice (some ⟨bl, 0, none⟩) s.lost.length s.lost.length)) (by kernel_rfl) (by rintro ⟨a, w, h⟩; exact h) (by kernel_rfl) (HS.out _ HX.out.2.2.2.1.drew) (fun hHeld => ?_)
    refine wpAnyH_take (i := 0) (oi := ⟨some 30, _, _, _, _, _⟩) (v := ?_) rfl (by kernel_rfl) (by kernel_rfl) (by kernel_rfl) (fun _ _ _ h => h) (Or.inl ⟨by rfl, ?_⟩) hHeld ?_
    rotate_left
    · intro W hSw
      obtain ⟨s0, s1, s2, s3⟩ := hSw
      go_simp
      with_reducible rfl
    simp only [Act.put, List.setIfInBounds_toArray, List.set_cons_zero, List.set_cons_succ]
    refine wpAnyH_take (i := 1) (oi := ⟨some 31, _, _, _, _, _⟩) (v := ?_) rfl (by kernel_rfl) (by kernel_rfl) (by kernel_rfl) (fun _ _ _ h => h) (Or.inl ⟨by rfl, ?_⟩) hHeld ?_
    rotate_left
    · intro W hSw
      obtain ⟨s0, s1, s2, s3⟩ := hSw
      go_simp
      with_reducible rfl
    simp only [Act.put, List.setIfInBounds_toArray, List.set_cons_zero, List.set_cons_succ]
    refine wpAnyH_take (i := 2) (oi := ⟨some 32, _, _, _, _, _⟩) (v := ?_) rfl (by kernel_rfl) (by kernel_rfl) (by kernel_rfl) (fun _ _ _ h => h) (Or.inl ⟨by rfl, ?_⟩) hHeld ?_
    rotate_left
    · intro W hSw
      obtain ⟨s0, s1, s2, s3⟩ := hSw
      go_simp
      with_reducible rfl
    simp only [Act.put, List.setIfInBounds_toArray, List.set_cons_zero, List.set_cons_succ]
    refine wpAnyH_take (i := 3) (oi := ⟨some 33, _, _, _, _, _⟩) (v := ?_) rfl (by kernel_rfl) (by kernel_rfl) (by kernel_rfl) (fun _ _ _ h => h) (Or.inl ⟨by rfl, ?_⟩) hHeld ?_
    rotate_left
    · intro W hSw
      obtain ⟨s0, s1, s2, s3⟩ := hSw
      go_simp
      with_reducible rfl
    simp only [Act.put, List.setIfInBounds_toArray, List.set_cons_zero, List.set_cons_succ]
    refine wpAnyH_take (i := 4) (oi := ⟨some 34, _, _, _, _, _⟩) (v := ?_) rfl (by kernel_rfl) (by kernel_rfl) (by kernel_rfl) (fun _ _ _ h => h) (Or.inl ⟨by rfl, ?_⟩) hHeld ?_
    rotate_left
    · intro W hSw
      obtain ⟨s0, s1, s2, s3⟩ := hSw
      go_simp
      with_reducible rfl
    simp only [Act.put, List.setIfInBounds_toArray, List.set_cons_zero, List.set_cons_succ]
    refine wpAnyH_take (i := 5) (oi := ⟨some 35, _, _, _, _, _⟩) (v := ?_) rfl (by kernel_rfl) (by kernel_rfl) (by kernel_rfl) (fun _ _ _ h => h) (Or.inl ⟨by rfl, ?_⟩) hHeld ?_
    rotate_left
    · intro W hSw
      obtain ⟨s0, s1, s2, s3⟩ := hSw
      go_simp
      with_reducible rfl
    simp only [Act.put, List.setIfInBounds_toArray, List.set_cons_zero, List.set_cons_succ]
    refine wpAnyH_ready (rs := [6]) (by kernel_rfl) (by simp) ?_
    refine (AllReadyH.cons (o := ⟨some 36, _, _, _, _, _⟩) rfl (fun K hK => ?_) AllReadyH.nil)
    go_simp
    refine (cut_unit (HX.out.1.under (Below.refl _ _).drew).ins (u := (xn : Nat)) (v := (v : Nat)) HX.out.2.2.2.2.2.2.2 H.out.2.2.2.2.2.1).mono ?_
    rintro e W7 ⟨rfl, gi2, q1, q2, q3, q4⟩
    have hO7 : Only (fun k => k = bl ∨ SideB bi gi k) w6 W7 := HX.out.2.2.2.1.drew.trans q4 (fun k hk => .inl (.inr (HX.out.2.1 k (hk.elim (fun e => .inl e) (fun e => .inr ⟨_, e⟩)))))
    have hP7 := (HX.out.1.under (Below.refl _ _).drew).cutIns q1 q2 q4 (fun k hk => hk.elim (fun e => .inl e) (fun e => .inr ⟨_, e⟩))
    have hOW : Only (fun k => k = bl ∨ SideB bi gi k) W W7 := (Only.refl (fun k => k = bl ∨ SideB bi gi k) W).drew.trans q4 (fun k hk => .inl (.inr (HX.out.2.1 k (hk.elim (fun e => .inl e) (fun e => .inr ⟨_, e⟩)))))
    have HC7 := Lib.hid (And.intro hP7 (And.intro q2 (And.intro q3 (And.intro hO7 hOW))))
    clear q1 q2 q3 q4 hP7 hOW
    refine hK.out _ _ (HS.out _ hO7) (fun hHeld2 => ?_)
    clear hK hHeld
    have hHeld := hHeld2
    clear hHeld2
    refine wpAnyH_done (by kernel_rfl) ?_ _
    obtain ⟨s0, s1, s2, s3⟩ := hHeld
    have hnx : ((xn : Nat) : Int) ∉ pre := HX.out.2.2.2.2.1.2
    have hcx : W7.cell? ⟨bl, xn, none⟩ = some (.int .i64 (s.lost[xn]'hxN)) := by
      have := HC7.out.1.num (k := xn) (by rw [incF_length]; exact hxN)
      rw [incF_get hxN, if_neg (by simpa using hnx), Int.add_zero] at this
      exact this
    have hfx := HC7.out.1.lost.thaw xn
    have hb1 := H.out.1.low _ (List.getElem_mem hxN)
    have hb2 := H.out.2.2.2.2.2.2.2.2 _ (List.getElem_mem hxN)
    have hxi : ((xn : Nat) : Int) < (s.lost.length : Int) := by omega
    have HN := Lib.hid (HC7.out.1)
    have HNx := Lib.hid hnx
    clear hnx hO7
    gi_wp2
    have hOs := HC7.out.2.2.2.2.setCell (p := ⟨bl, xn, none⟩) (.inl (.inl rfl)) (.int .i64 (s.lost[xn]'hxN + 1))
    exact ⟨T, TkA.next hxN HNx.out HN.out HX.out.2.1 HX.out.2.2.1 HC7.out.2.1 HC7.out.2.2.1 HC7.out.2.2.2.1, fun k h => h, fun k h => .inl h, fun k h => Nat.lt_of_lt_of_le (HX.out.2.2.2.2.2.1 k h).2 hOs.size, hOs.mono fun k hk => .inl (.inl hk)⟩
  case done =>
    rintro D xs T w8 hD hxs ⟨⟨gi1, hP, hn1, hg1⟩, hO⟩ hT hK
    have hvx : ((v : Nat) : Int) ∉ xs := fun e => by
      have := (hxs.2 _).1 e
      rw [H.out.2.2.2.2.2.2.2.1] at this
      cases this
    have hgv : gi1 (v : Nat) = gi (v : Nat) := hg1 _ hvx
    obtain ⟨lo1, hlo1⟩ : ∃ lo1, lo1 = incF s.lost fun i => (s.F (v : Nat) i).isSome := ⟨_, rfl⟩
    have hll : lo1.length = s.lost.length := by rw [hlo1, incF_length]
    rw [incF_congr (q := fun i => (s.F (v : Nat) i).isSome) (fun z _ _ => by
      cases hz : (s.F (v : Nat) z).isSome
      · simp [hxs.2, hz]
      · simp [hxs.2, hz]), ← hlo1] at hP
    have hP8 : TkP w8 l bl bo bi s.lost.length go gi1 lo1 s.F (fun i j => if (s.F (v : Nat) i).isSome = true ∧ j = (v : Nat) then none else s.ins i j) :=
      ⟨hP.hd, hP.lost, hP.len, hP.outs, hP.ins.congr (fun i j => by simp only [hxs.2]), hP.sep⟩
    have H8 := Lib.hid (And.intro hP8 (And.intro hn1 (And.intro hgv (And.intro hO (And.intro hT (And.intro hK hD))))))
    have HL1 := Lib.hid (And.intro hlo1 hll)
    clear hP hP8 hn1 hg1 hO hT hK hxs hvx hlo1 hll hgv
    go_wp2_with (go_at_call 83; refine (keysU_sep_start _ w8).mono ?_; rintro e w9 ⟨rfl, hw9⟩; have HW9 := Lib.hid hw9; clear hw9)
    have hb89 : Below w8.heap.size w8 w9 := by rw [HW9.out]; exact (Below.refl _ _).alloc (Nat.le_refl _) _
    have hrk2 : Row w9 w8.heap.size 131 #[.map (gi (v : Nat))] := by rw [HW9.out]; exact Row.fresh w8 _ _
    have hz9 : w9.heap.size = w8.heap.size + 1 := by rw [HW9.out]; simp
    have hz68 := H8.out.2.2.2.1.size
    have hlt0 : ∀ k, LB l bl bo bi go gi k → k < w.heap.size := H0.out.2.2.1
    have hP9 := H8.out.1.under hb89
    have hWl2 : ∀ k, (k = bl ∨ SideB bo go k) → k < w.heap.size := fun k hk => hlt0 k (hk.elim (fun e => .inr (.inl e)) (fun e => .inr (.inr (.inl e))))
    have hGv : ∀ z, (fun z => if (s.F (v : Nat) (v : Nat)).isSome = true ∧ z = ((v : Nat) : Int) then none else s.ins (v : Nat) z) z = s.ins (v : Nat) z := fun z => by simp [H.out.2.2.2.2.2.2.2.1]
    have hseq2 := keysU_o (6 - 1) (fun k => k = bl ∨ SideB bo go k) (by omega) hrk2 (N := s.lost.length) (f := s.ins (v : Nat)) (fun b hb => ⟨(hP9.ins.sub _ b (H8.out.2.2.1.trans hb)).congr hGv, fun e => by
      obtain ⟨_, _, s3, s4⟩ := hP9.sep
      have hbS : SideB bi gi1 b := .inr ⟨_, H8.out.2.2.1.trans hb⟩
      rcases e with e | e
      · exact (s3 b hbS).2 e
      · exact s4 b e hbS⟩) (fun hb z => by rw [← hGv z]; exact hP9.ins.none_ _ (H8.out.2.2.1.trans hb) z) (fun e => by have := hWl2 _ e; omega) (fun k hk => by have := hWl2 k hk; omega)
    have hb2 : ∀ {g : Nat} {t : TypeId} {cs : Array Value}, Row w6 g t cs → w.heap.size ≤ g → Row w9 g t cs := fun {g t cs} hr hg => (hr.only H8.out.2.2.2.1 (fun e => by have := H0.out.2.2.2 _ e; omega)).under hb89 (Nat.lt_of_lt_of_le hr.lt hz68)
    have hb26 : Below w2.heap.size w2 w6 := H5.out.1.trans (H6.out.1.mono H5.out.1.size)
    have hr2 := hb2 (H.out.2.2.2.1.under hb26 H.out.2.2.2.1.lt) (Nat.le_refl _)
    have hr3 := hb2 (H.out.2.2.2.2.1.under hb26 H.out.2.2.2.2.1.lt) (by omega)
    have hr5 := hb2 (H5.out.2.1.under H6.out.1 H5.out.2.1.lt) (by omega)
    have hS2 : ∀ V, Only (fun k => k = bl ∨ SideB bo go k) w9 V → V.cell? ⟨w.heap.size, 0, none⟩ = some (ptr l) ∧ V.cell? ⟨w.heap.size + 1, 0, none⟩ = some (.int .i64 (v : Nat)) ∧ V.cell? ⟨l, 1, none⟩ = some (.map (some bo)) ∧ V.cell? ⟨l, 0, none⟩ = some (.slice (some ⟨bl, 0, none⟩) s.lost.length s.lost.length) ∧ V.cell? ⟨w.heap.size + 2, 0, none⟩ = some (.map (go (v : Nat))) := fun V hV => by
      obtain ⟨s1, s2, s3, s4⟩ := hP9.sep
      have hnl : ¬ (l = bl ∨ SideB bo go l) := by
        rintro (e | e)
        · exact s1 e
        · exact (s2 _ e).1 rfl
      refine ⟨(hr2.only hV (fun e => by have := hWl2 _ e; omega)).cell 0, (hr3.only hV (fun e => by have := hWl2 _ e; omega)).cell 0, (hP9.hd.only hV hnl).cell 1, (hP9.hd.only hV hnl).cell 0, ?_⟩
      have h5 := (hr5.only hV (fun e => by have := hWl2 _ e; omega)).cell 0
      rw [hz2] at h5
      exact h5
    have HS2 := Lib.hid hS2
    have H9 := Lib.hid (And.intro (TkB.start (v := (v : Nat)) (p := fun i => (s.F (v : Nat) i).isSome) hP9) (And.intro hP9 (And.intro hlt0 (And.intro hWl2 (And.intro hb89 (And.intro hr2 hr3))))))
    have hz0 : w.heap.size ≤ w8.heap.size := by omega
    clear hb89 hrk2 hlt0 hP9 hWl2 hGv hb2 hb26 hr2 hr3 hr5 hS2
    refine (wpIn_wide (n := 6)).1 ?_
    refine wpIn_rangeFunc_sep1 (F := Fence.wide) rfl (by omega) (gf := 118) (lb := #[ptr w8.heap.size]) rfl trivial (enters_of Tryz.func118 (by kernel_rfl) rfl) hseq2 (fun k hk => by have := H9.out.2.2.2.1 k hk; omega) (fun _ => rfl)
      (fun pre _ W => TkB w9 l bl bo bi s.lost.length go gi1 lo1 s.F (fun i j => if (s.F (v : Nat) i).isSome = true ∧ j = ((v : Nat) : Int) then none else s.ins i j) (v : Nat) (fun i => (s.F (v : Nat) i).isSome) pre W) (fun _ _ _ _ => False) (TkB.abide (fun k hk => by have := H9.out.2.1.lt k hk; omega)) (fun _ _ _ _ _ h _ _ => h.elim) H9.out.1 (mk := ?mk2) ?assign2 ?body2 ?done2 ?stop2
    case assign2 =>
      intro lp x W K hK
      gi_wp2
      exact hK
    case body2 =>
      rintro lp pre x T W hI hR hT hW
      obtain ⟨y, hy⟩ := Option.isSome_iff_exists.1 hR.1
      have hyF : ∃ y2, s.F x (v : Nat) = some y2 := by
        have hy2 : (s.F x (v : Nat)).map (fun _ => ()) = some y := hy
        cases hz : s.F x (v : Nat) with
        | none => rw [hz] at hy2; cases hy2
        | some y2 => exact ⟨y2, rfl⟩
      obtain ⟨hx0, hx1⟩ := H.out.1.ins.rng hy
      obtain ⟨xn, rfl⟩ : ∃ xn : Nat, x = (xn : Int) := ⟨x.toNat, by omega⟩
      obtain ⟨⟨go1, hP, hn1, hg1⟩, hO, hmem⟩ := hI
      have hxN : xn < s.lost.length := by omega
      have hwx : (Lit.int .i64 (xn : Nat)).wf = true := wf_nat ⟨hx0, hx1⟩ hsm
      have hvp : ((v : Nat) : Int) ∉ pre ∧ ((xn : Nat) : Int) ≠ (v : Nat) ∧ ∀ i ∈ pre, i ≠ ((v : Nat) : Int) := by
        refine ⟨fun e => hmem _ e rfl, fun e => ?_, hmem⟩
        obtain ⟨y2, hy2⟩ := hyF
        rw [e, H.out.2.2.2.2.2.2.2.1] at hy2
        cases hy2
      have HX := Lib.hid (And.intro hP (And.intro hn1 (And.intro hg1 (And.intro hO (And.intro hR (And.intro hT (And.intro hW (And.intro hwx hvp))))))))
      clear hP hn1 hg1 hO hR hT hW hwx hy hx0 hx1 hvp hyF hmem
      gi_wp2
      refine wpIn_region_held_round (S := fun V => V.cell? ⟨w.heap.size, 0, none⟩ = some (ptr l) ∧ V.cell? ⟨w.heap.size + 1, 0, none⟩ = some (.int .i64 (v : Nat)) ∧ V.cell? ⟨l, 1, none⟩ = some (.map (some bo)) ∧ V.cell? ⟨l, 0, none⟩ = some (.slice (some ⟨bl, 0, none⟩) s.lost.length s.lost.length) ∧ V.cell? ⟨w.heap.size + 2, 0, none⟩ = some (.map (go (v : Nat)))) (by kernel_rfl) (by rintro ⟨a, w, h⟩; exact h) (by kernel_rfl) (HS2.out _ HX.out.2.2.2.1.drew) (fun hHeld => ?_)
      refine wpAnyH_take (i := 0) (oi := ⟨some 49, _, _, _, _, _⟩) (v := ?_) rfl (by kernel_rfl) (by kernel_rfl) (by kernel_rfl) (fun _ _ _ h => h) (Or.inl ⟨by rfl, ?_⟩) hHeld ?_
      rotate_left
      · intro W hSw
        obtain ⟨s0, s1, s2, s3, s4⟩ := hSw
        go_simp
        with_reducible rfl
      simp only [Act.put, List.setIfInBounds_toArray, List.set_cons_zero, List.set_cons_succ]
      refine wpAnyH_take (i := 1) (oi := ⟨some 50, _, _, _, _, _⟩) (v := ?_) rfl (by kernel_rfl) (by kernel_rfl) (by kernel_rfl) (fun _ _ _ h => h) (Or.inl ⟨by rfl, ?_⟩) hHeld ?_
      rotate_left
      · intro W hSw
        obtain ⟨s0, s1, s2, s3, s4⟩ := hSw
        go_simp
        with_reducible rfl
      simp only [Act.put, List.setIfInBounds_toArray, List.set_cons_zero, List.set_cons_succ]
      refine wpAnyH_take (i := 2) (oi := ⟨some 51, _, _, _, _, _⟩) (v := ?_) rfl (by kernel_rfl) (by kernel_rfl) (by kernel_rfl) (fun _ _ _ h => h) (Or.inl ⟨by rfl, ?_⟩) hHeld ?_
      rotate_left
      · intro W hSw
        obtain ⟨s0, s1, s2, s3, s4⟩ := hSw
        go_simp
        with_reducible rfl
      simp only [Act.put, List.setIfInBounds_toArray, List.set_cons_zero, List.set_cons_succ]
      refine wpAnyH_take (i := 3) (oi := ⟨some 52, _, _, _, _, _⟩) (v := ?_) rfl (by kernel_rfl) (by kernel_rfl) (by kernel_rfl) (fun _ _ _ h => h) (Or.inl ⟨by rfl, ?_⟩) hHeld ?_
      rotate_left
      · intro W hSw
        obtain ⟨s0, s1, s2, s3, s4⟩ := hSw
        go_simp
        with_reducible rfl
      simp only [Act.put, List.setIfInBounds_toArray, List.set_cons_zero, List.set_cons_succ]
      refine wpAnyH_take (i := 4) (oi := ⟨some 53, _, _, _, _, _⟩) (v := ?_) rfl (by kernel_rfl) (by kernel_rfl) (by kernel_rfl) (fun _ _ _ h => h) (Or.inl ⟨by rfl, ?_⟩) hHeld ?_
      rotate_left
      · intro W hSw
        obtain ⟨s0, s1, s2, s3, s4⟩ := hSw
        go_simp
        with_reducible rfl
      simp only [Act.put, List.setIfInBounds_toArray, List.set_cons_zero, List.set_cons_succ]
      refine wpAnyH_take (i := 5) (oi := ⟨some 54, _, _, _, _, _⟩) (v := ?_) rfl (by kernel_rfl) (by kernel_rfl) (by kernel_rfl) (fun _ _ _ h => h) (Or.inl ⟨by rfl, ?_⟩) hHeld ?_
      rotate_left
      · intro W hSw
        obtain ⟨s0, s1, s2, s3, s4⟩ := hSw
        go_simp
        with_reducible rfl
      simp only [Act.put, List.setIfInBounds_toArray, List.set_cons_zero, List.set_cons_succ]
      refine wpAnyH_ready (rs := [6]) (by kernel_rfl) (by simp) ?_
      refine (AllReadyH.cons (o := ⟨some 55, _, _, _, _, _⟩) rfl (fun K hK => ?_) AllReadyH.nil)
      go_simp
      refine (cut_way (HX.out.1.under (Below.refl _ _).drew).outs (u := (xn : Nat)) (v := (v : Nat)) HX.out.2.2.2.2.2.2.2.1 H.out.2.2.2.2.2.1).mono ?_
      rintro e W7 ⟨rfl, go2, q1, q2, q3, q4⟩
      have hO7 : Only (fun k => k = bl ∨ SideB bo go k) w9 W7 := HX.out.2.2.2.1.drew.trans q4 (fun k hk => .inl (.inr (HX.out.2.1 k (hk.elim (fun e => .inl e) (fun e => .inr ⟨_, e⟩)))))
      have hP7 := (HX.out.1.under (Below.refl _ _).drew).cutOuts q1 q2 q4 (fun k hk => hk.elim (fun e => .inl e) (fun e => .inr ⟨_, e⟩))
      have hOW : Only (fun k => k = bl ∨ SideB bo go k) W W7 := (Only.refl (fun k => k = bl ∨ SideB bo go k) W).drew.trans q4 (fun k hk => .inl (.inr (HX.out.2.1 k (hk.elim (fun e => .inl e) (fun e => .inr ⟨_, e⟩)))))
      have HC7 := Lib.hid (And.intro hP7 (And.intro q2 (And.intro q3 (And.intro hO7 hOW))))
      clear q1 q2 q3 q4 hP7 hOW
      refine hK.out _ _ (HS2.out _ hO7) (fun hHeld2 => ?_)
      clear hK hHeld
      have hHeld := hHeld2
      clear hHeld2
      refine wpAnyH_done (by kernel_rfl) ?_ _
      obtain ⟨s0, s1, s2, s3, s4⟩ := hHeld
      obtain ⟨hv1, hv2, hv3⟩ := HX.out.2.2.2.2.2.2.2.2
      have hg2 : go2 (v : Nat) = go (v : Nat) := (HC7.out.2.2.1 _ (Ne.symm hv2)).trans (HX.out.2.2.1 _ hv1)
      have hlk := look_o (w := W7) (o := go (v : Nat)) (N := s.lost.length) (f := s.F (v : Nat)) (fun b hb => (HC7.out.1.outs.sub _ b (hg2.trans hb)).congr (fun j => by rw [if_neg (fun e => hv2 e.1.symm), if_neg (fun e => hv1 e.1)])) (fun hb z => by
        have := HC7.out.1.outs.none_ _ (hg2.trans hb) z
        rw [if_neg (fun e => hv2 e.1.symm), if_neg (fun e => hv1 e.1)] at this
        exact this) HX.out.2.2.2.2.2.2.2.1
      have HV := Lib.hid (And.intro hv1 (And.intro hv2 hv3))
      have hlt2 : w.heap.size + 2 < W7.heap.size := by have := HC7.out.2.2.2.1.size; omega
      have hlt3 : w.heap.size < W7.heap.size := by omega
      clear hg2 hv1 hv2 hv3
      cases hF : s.F (v : Nat) (xn : Nat) with
      | some y =>
        rw [hF] at hlk
        have HF := Lib.hid hF
        clear hF
        unfold wayT at hlk
        gi_wp2
        have hP := fun O : Obj => HC7.out.1.under ((Below.refl W7.heap.size W7).alloc (Nat.le_refl _) O)
        have hO := fun O : Obj => HC7.out.2.2.2.1.alloc O
        have hOs := fun O : Obj => HC7.out.2.2.2.2.alloc O
        exact ⟨T, TkB.pass HV.out.2.1 HV.out.2.2 (by rw [HF.out]; rfl) (hP _) HX.out.2.1 HX.out.2.2.1 HC7.out.2.1 HC7.out.2.2.1 (hO _), fun k h => h, fun k h => .inl h, fun k h => Nat.lt_of_lt_of_le (HX.out.2.2.2.2.2.1 k h).2 (hOs _).size, (hOs _).mono fun k hk => .inl (.inl hk)⟩
      | none =>
        rw [hF] at hlk
        have HF := Lib.hid hF
        clear hF
        unfold wayT w0V at hlk
        have hcx : W7.cell? ⟨bl, xn, none⟩ = some (.int .i64 (s.lost[xn]'hxN)) := by
          have hl1 : xn < lo1.length := by rw [HL1.out.2]; exact hxN
          have := HC7.out.1.num (k := xn) (by rw [incF_length]; exact hl1)
          rw [incF_get hl1] at this
          have h2 : lo1[xn]'hl1 = s.lost[xn]'hxN := by
            have := incF_get (lo := s.lost) (p := fun i => (s.F (v : Nat) i).isSome) hxN
            simp only [HL1.out.1]
            rw [this, HF.out]
            simp
          rw [h2] at this
          have hnx := HX.out.2.2.2.2.1.2
          simpa [hnx] using this
        have hfx := HC7.out.1.lost.thaw xn
        have hb1 := H.out.1.low _ (List.getElem_mem hxN)
        have hb2 := H.out.2.2.2.2.2.2.2.2 _ (List.getElem_mem hxN)
        have hxi : ((xn : Nat) : Int) < (s.lost.length : Int) := by omega
        have hbl7 : bl < W7.heap.size := HC7.out.1.lost.lt
        have hll7 : l < W7.heap.size := HC7.out.1.hd.lt
        gi_wp2
        have hOs := fun O : Obj => (HC7.out.2.2.2.2.setCell (p := ⟨bl, xn, none⟩) (.inl (.inl rfl)) (.int .i64 (s.lost[xn]'hxN + 1))).alloc O
        have hl1 : xn < lo1.length := by rw [HL1.out.2]; exact hxN
        have h2 : lo1[xn]'hl1 = s.lost[xn]'hxN := by
          have := incF_get (lo := s.lost) (p := fun i => (s.F (v : Nat) i).isSome) hxN
          simp only [HL1.out.1]
          rw [this, HF.out]
          simp
        have hNx := TkB.next (p := fun i => (s.F (v : Nat) i).isSome) hl1 HX.out.2.2.2.2.1.2 HV.out.2.1 HV.out.2.2 (by rw [HF.out]; rfl) HC7.out.1 HX.out.2.1 HX.out.2.2.1 HC7.out.2.1 HC7.out.2.2.1 HC7.out.2.2.2.1
        rw [h2] at hNx
        exact ⟨T, hNx.below ((Below.refl _ _).alloc (Nat.le_refl _) _), fun k h => h, fun k h => .inl h, fun k h => Nat.lt_of_lt_of_le (HX.out.2.2.2.2.2.1 k h).2 (hOs _).size, (hOs _).mono fun k hk => .inl (.inl hk)⟩
    case done2 =>
      rintro D2 ys T2 wC hD2 hys ⟨⟨go1, hP, hn2, hg2⟩, hO2, hmem⟩ hT2 hK2
      have hvy : ((v : Nat) : Int) ∉ ys := fun e => hmem _ e rfl
      have hltC := hP.lt
      have hS3 : ∀ V, Only (fun k => k = bl ∨ SideB bo go k ∨ SideB bi gi1 k) wC V → V.cell? ⟨w.heap.size, 0, none⟩ = some (ptr l) ∧ V.cell? ⟨w.heap.size + 1, 0, none⟩ = some (.int .i64 (v : Nat)) ∧ V.cell? ⟨l, 1, none⟩ = some (.map (some bo)) ∧ V.cell? ⟨l, 2, none⟩ = some (.map (some bi)) ∧ V.cell? ⟨l, 0, none⟩ = some (.slice (some ⟨bl, 0, none⟩) s.lost.length s.lost.length) := fun V hV => by
        obtain ⟨s1, s2, s3, s4⟩ := H9.out.2.1.sep
        have hOV := hO2.trans (S' := fun k => k = bl ∨ SideB bo go k ∨ SideB bi gi1 k) hV
        have hO9 : Only (fun k => k = bl ∨ SideB bo go k ∨ SideB bi gi1 k) w9 V := (hO2.mono (fun k hk => .inl (hk.elim .inl (fun e => .inr (.inl e))))).trans hV (fun k hk => .inl hk)
        have hnl : ¬ (l = bl ∨ SideB bo go l ∨ SideB bi gi1 l) := by
          rintro (e | e | e)
          · exact s1 e
          · exact (s2 _ e).1 rfl
          · exact (s3 _ e).1 rfl
        have hnb : ∀ k, (k = bl ∨ SideB bo go k ∨ SideB bi gi1 k) → k < w.heap.size := fun k hk => by
          rcases hk with e | e | e
          · exact H9.out.2.2.1 k (.inr (.inl e))
          · exact H9.out.2.2.1 k (.inr (.inr (.inl e)))
          · exact H9.out.2.2.1 k (.inr (.inr (.inr (H8.out.2.1 k e))))
        exact ⟨(H9.out.2.2.2.2.2.1.only hO9 (fun e => by have := hnb _ e; omega)).cell 0, (H9.out.2.2.2.2.2.2.only hO9 (fun e => by have := hnb _ e; omega)).cell 0, (H9.out.2.1.hd.only hO9 hnl).cell 1, (H9.out.2.1.hd.only hO9 hnl).cell 2, (H9.out.2.1.hd.only hO9 hnl).cell 0⟩
      have hPd := hP.under (Below.refl wC.heap.size wC).drew
      obtain ⟨w11, hrun1, hm1, hgr1⟩ := hPd.outs.top.drop Tryz.underlying97 H.out.2.2.2.2.2.1 0
      have hOa : Only (fun k => k = bo) wC w11 := (Only.refl (fun k => k = bo) wC).drew.grown hgr1 (fun k hk => .inl (by injection hk with hk; exact hk.symm))
      have hP11 := hPd.cutOuts (hPd.outs.del hm1 hgr1) (fun k hk => goneB hk) ((Only.refl (fun k => k = bo) wC.drew).grown hgr1 (fun k hk => .inl (by injection hk with hk; exact hk.symm))) (fun k hk => .inl hk)
      have hPe := hP11.under (Below.refl w11.heap.size w11).drew
      obtain ⟨w12, hrun2, hm2, hgr2⟩ := hPe.ins.top.drop Tryz.underlying98 H.out.2.2.2.2.2.1 0
      have hOb : Only (fun k => k = bi) w11 w12 := (Only.refl (fun k => k = bi) w11).drew.grown hgr2 (fun k hk => .inl (by injection hk with hk; exact hk.symm))
      have hP12 := hPe.cutIns (hPe.ins.del hm2 hgr2) (fun k hk => goneB hk) ((Only.refl (fun k => k = bi) w11.drew).grown hgr2 (fun k hk => .inl (by injection hk with hk; exact hk.symm))) (fun k hk => .inl hk)
      have hOc : Only (fun k => k = bl ∨ SideB bo go k ∨ SideB bi gi1 k) wC w11 := hOa.mono fun k hk => .inl (.inr (.inl (.inl hk)))
      have hOd : Only (fun k => k = bl ∨ SideB bo go k ∨ SideB bi gi1 k) wC w12 := hOc.trans hOb fun k hk => .inl (.inr (.inr (.inl hk)))
      have HZ := Lib.hid (And.intro hP12 (And.intro hn2 (And.intro hO2 (And.intro hT2 (And.intro hK2 (And.intro hD2 (And.intro hOd (And.intro hys (And.intro hvy hg2)))))))))
      have HS3 := Lib.hid hS3
      have HR1 := Lib.hid (And.intro hrun1 (And.intro hOc hrun2))
      clear hP hn2 hg2 hO2 hmem hT2 hK2 hvy hS3 hPd hm1 hgr1 hOa hP11 hPe hm2 hgr2 hOb hP12 hOc hOd hltC hys hrun1 hrun2
      go_wp2_with fail
      refine wp_region_held_drew (S := fun W => W.cell? ⟨w.heap.size, 0, none⟩ = some (ptr l) ∧ W.cell? ⟨w.heap.size + 1, 0, none⟩ = some (.int .i64 (v : Nat)) ∧ W.cell? ⟨l, 1, none⟩ = some (.map (some bo)) ∧ W.cell? ⟨l, 2, none⟩ = some (.map (some bi)) ∧ W.cell? ⟨l, 0, none⟩ = some (.slice (some ⟨bl, 0, none⟩) s.lost.length s.lost.length)) (by kernel_rfl) (HS3.out _ (Only.refl _ _).drew) (fun hHeld => ?_)
      refine wpAnyH_take (i := 0) (oi := ⟨some 73, _, _, _, _, _⟩) (v := ?_) rfl (by kernel_rfl) (by kernel_rfl) (by kernel_rfl) (fun _ _ _ h => h) (Or.inl ⟨by rfl, ?_⟩) hHeld ?_
      rotate_left
      · intro W hSw
        obtain ⟨s0, s1, s2, s3, s4⟩ := hSw
        go_simp
        with_reducible rfl
      simp only [Act.put, List.setIfInBounds_toArray, List.set_cons_zero, List.set_cons_succ]
      refine wpAnyH_take (i := 1) (oi := ⟨some 74, _, _, _, _, _⟩) (v := ?_) rfl (by kernel_rfl) (by kernel_rfl) (by kernel_rfl) (fun _ _ _ h => h) (Or.inl ⟨by rfl, ?_⟩) hHeld ?_
      rotate_left
      · intro W hSw
        obtain ⟨s0, s1, s2, s3, s4⟩ := hSw
        go_simp
        with_reducible rfl
      simp only [Act.put, List.setIfInBounds_toArray, List.set_cons_zero, List.set_cons_succ]
      refine wpAnyH_take (i := 2) (oi := ⟨some 75, _, _, _, _, _⟩) (v := ?_) rfl (by kernel_rfl) (by kernel_rfl) (by kernel_rfl) (fun _ _ _ h => h) (Or.inl ⟨by rfl, ?_⟩) hHeld ?_
      rotate_left
      · intro W hSw
        obtain ⟨s0, s1, s2, s3, s4⟩ := hSw
        go_simp
        with_reducible rfl
      simp only [Act.put, List.setIfInBounds_toArray, List.set_cons_zero, List.set_cons_succ]
      refine wpAnyH_take (i := 3) (oi := ⟨some 76, _, _, _, _, _⟩) (v := ?_) rfl (by kernel_rfl) (by kernel_rfl) (by kernel_rfl) (fun _ _ _ h => h) (Or.inl ⟨by rfl, ?_⟩) hHeld ?_
      rotate_left
      · intro W hSw
        obtain ⟨s0, s1, s2, s3, s4⟩ := hSw
        go_simp
        with_reducible rfl
      simp only [Act.put, List.setIfInBounds_toArray, List.set_cons_zero, List.set_cons_succ]
      refine wpAnyH_take (i := 4) (oi := ⟨some 77, _, _, _, _, _⟩) (v := ?_) rfl (by kernel_rfl) (by kernel_rfl) (by kernel_rfl) (fun _ _ _ h => h) (Or.inl ⟨by rfl, ?_⟩) hHeld ?_
      rotate_left
      · intro W hSw
        obtain ⟨s0, s1, s2, s3, s4⟩ := hSw
        go_simp
        with_reducible rfl
      simp only [Act.put, List.setIfInBounds_toArray, List.set_cons_zero, List.set_cons_succ]
      refine wpAnyH_ready (rs := [5]) (by kernel_rfl) (by simp) ?_
      refine (AllReadyH.cons (o := ⟨none, _, _, _, _, _⟩) rfl (fun K hK => ?_) AllReadyH.nil)
      have hrun1 := HR1.out.1
      go_simp
      refine hK.out _ _ (HS3.out _ HR1.out.2.1) (fun hHeld2 => ?_)
      clear hK hHeld
      have hHeld := hHeld2
      clear hHeld2
      refine wpAnyH_done (by kernel_rfl) ?_ _
      go_wp2_with fail
      refine wp_region_held_drew (S := fun W => W.cell? ⟨w.heap.size, 0, none⟩ = some (ptr l) ∧ W.cell? ⟨w.heap.size + 1, 0, none⟩ = some (.int .i64 (v : Nat)) ∧ W.cell? ⟨l, 1, none⟩ = some (.map (some bo)) ∧ W.cell? ⟨l, 2, none⟩ = some (.map (some bi)) ∧ W.cell? ⟨l, 0, none⟩ = some (.slice (some ⟨bl, 0, none⟩) s.lost.length s.lost.length)) (by kernel_rfl) (HS3.out _ HR1.out.2.1.drew) (fun hHeld => ?_)
      refine wpAnyH_take (i := 0) (oi := ⟨some 78, _, _, _, _, _⟩) (v := ?_) rfl (by kernel_rfl) (by kernel_rfl) (by kernel_rfl) (fun _ _ _ h => h) (Or.inl ⟨by rfl, ?_⟩) hHeld ?_
      rotate_left
      · intro W hSw
        obtain ⟨s0, s1, s2, s3, s4⟩ := hSw
        go_simp
        with_reducible rfl
      simp only [Act.put, List.setIfInBounds_toArray, List.set_cons_zero, List.set_cons_succ]
      refine wpAnyH_take (i := 1) (oi := ⟨some 79, _, _, _, _, _⟩) (v := ?_) rfl (by kernel_rfl) (by kernel_rfl) (by kernel_rfl) (fun _ _ _ h => h) (Or.inl ⟨by rfl, ?_⟩) hHeld ?_
      rotate_left
      · intro W hSw
        obtain ⟨s0, s1, s2, s3, s4⟩ := hSw
        go_simp
        with_reducible rfl
      simp only [Act.put, List.setIfInBounds_toArray, List.set_cons_zero, List.set_cons_succ]
      refine wpAnyH_take (i := 2) (oi := ⟨some 80, _, _, _, _, _⟩) (v := ?_) rfl (by kernel_rfl) (by kernel_rfl) (by kernel_rfl) (fun _ _ _ h => h) (Or.inl ⟨by rfl, ?_⟩) hHeld ?_
      rotate_left
      · intro W hSw
        obtain ⟨s0, s1, s2, s3, s4⟩ := hSw
        go_simp
        with_reducible rfl
      simp only [Act.put, List.setIfInBounds_toArray, List.set_cons_zero, List.set_cons_succ]
      refine wpAnyH_take (i := 3) (oi := ⟨some 81, _, _, _, _, _⟩) (v := ?_) rfl (by kernel_rfl) (by kernel_rfl) (by kernel_rfl) (fun _ _ _ h => h) (Or.inl ⟨by rfl, ?_⟩) hHeld ?_
      rotate_left
      · intro W hSw
        obtain ⟨s0, s1, s2, s3, s4⟩ := hSw
        go_simp
        with_reducible rfl
      simp only [Act.put, List.setIfInBounds_toArray, List.set_cons_zero, List.set_cons_succ]
      refine wpAnyH_take (i := 4) (oi := ⟨some 82, _, _, _, _, _⟩) (v := ?_) rfl (by kernel_rfl) (by kernel_rfl) (by kernel_rfl) (fun _ _ _ h => h) (Or.inl ⟨by rfl, ?_⟩) hHeld ?_
      rotate_left
      · intro W hSw
        obtain ⟨s0, s1, s2, s3, s4⟩ := hSw
        go_simp
        with_reducible rfl
      simp only [Act.put, List.setIfInBounds_toArray, List.set_cons_zero, List.set_cons_succ]
      refine wpAnyH_ready (rs := [5]) (by kernel_rfl) (by simp) ?_
      refine (AllReadyH.cons (o := ⟨none, _, _, _, _, _⟩) rfl (fun K hK => ?_) AllReadyH.nil)
      have hrun2 := HR1.out.2.2
      go_simp
      refine hK.out _ _ (HS3.out _ HZ.out.2.2.2.2.2.2.1) (fun hHeld2 => ?_)
      clear hK hHeld
      have hHeld := hHeld2
      clear hHeld2
      refine wpAnyH_done (by kernel_rfl) ?_ _
      have hvi : ((v : Nat) : Int) < (s.lost.length : Int) := by omega
      obtain ⟨lo2, hlo2⟩ : ∃ lo2, lo2 = incF lo1 fun i => decide (i ∈ ys) && !(s.F (v : Nat) i).isSome := ⟨_, rfl⟩
      have hl2 : lo2.length = s.lost.length := by rw [hlo2, incF_length]; exact HL1.out.2
      have hPf := HZ.out.1
      rw [← hlo2] at hPf
      obtain ⟨cl, hcl⟩ : ∃ cl, cl = lo2[v]'(by omega) := ⟨_, rfl⟩
      have hcell : w12.cell? ⟨bl, v, none⟩ = some (.int .i64 cl) := by rw [hcl]; exact hPf.num (by omega)
      have hfz := hPf.lost.thaw v
      have HS16 : Hid (w12.drew.cell? ⟨bl, v, none⟩ = some (.int .i64 cl) ∧ w12.drew.frozen? ⟨bl, v, none⟩ = false) := Lib.hid ⟨hcell, hfz⟩
      obtain ⟨w13, hw13⟩ : ∃ w13, w13 = (w12.setCell ⟨bl, v, none⟩ (.int .i64 (-1))).drew := ⟨_, rfl⟩
      have hO13 : Only (fun k => k = bl ∨ SideB bo go k ∨ SideB bi gi1 k) wC w13 := by rw [hw13]; exact (HZ.out.2.2.2.2.2.2.1.setCell (p := ⟨bl, v, none⟩) (.inl (.inl rfl)) _).drew
      have hP13 := (hPf.setLost v (-1)).under (Below.refl _ _).drew
      rw [← hw13] at hP13
      have HQ := Lib.hid (And.intro hP13 (And.intro hO13 (And.intro hlo2 hl2)))
      have HW13 := Lib.hid hw13
      clear hcell hfz hP13 hPf hlo2 hcl hw13 hO13 hl2
      go_wp2_with fail
      refine wp_region_held_drew (S := fun W => W.cell? ⟨w.heap.size, 0, none⟩ = some (ptr l) ∧ W.cell? ⟨w.heap.size + 1, 0, none⟩ = some (.int .i64 (v : Nat)) ∧ W.cell? ⟨l, 1, none⟩ = some (.map (some bo)) ∧ W.cell? ⟨l, 2, none⟩ = some (.map (some bi)) ∧ W.cell? ⟨l, 0, none⟩ = some (.slice (some ⟨bl, 0, none⟩) s.lost.length s.lost.length)) (by kernel_rfl) (HS3.out _ HZ.out.2.2.2.2.2.2.1.drew) (fun hHeld => ?_)
      refine wpAnyH_take (i := 0) (oi := ⟨some 83, _, _, _, _, _⟩) (v := ?_) rfl (by kernel_rfl) (by kernel_rfl) (by kernel_rfl) (fun _ _ _ h => h) (Or.inl ⟨by rfl, ?_⟩) hHeld ?_
      rotate_left
      · intro W hSw
        obtain ⟨s0, s1, s2, s3, s4⟩ := hSw
        go_simp
        with_reducible rfl
      simp only [Act.put, List.setIfInBounds_toArray, List.set_cons_zero, List.set_cons_succ]
      refine wpAnyH_take (i := 1) (oi := ⟨some 84, _, _, _, _, _⟩) (v := ?_) rfl (by kernel_rfl) (by kernel_rfl) (by kernel_rfl) (fun _ _ _ h => h) (Or.inl ⟨by rfl, ?_⟩) hHeld ?_
      rotate_left
      · intro W hSw
        obtain ⟨s0, s1, s2, s3, s4⟩ := hSw
        go_simp
        with_reducible rfl
      simp only [Act.put, List.setIfInBounds_toArray, List.set_cons_zero, List.set_cons_succ]
      refine wpAnyH_take (i := 2) (oi := ⟨some 85, _, _, _, _, _⟩) (v := ?_) rfl (by kernel_rfl) (by kernel_rfl) (by kernel_rfl) (fun _ _ _ h => h) (Or.inl ⟨by rfl, ?_⟩) hHeld ?_
      rotate_left
      · intro W hSw
        obtain ⟨s0, s1, s2, s3, s4⟩ := hSw
        go_simp
        with_reducible rfl
      simp only [Act.put, List.setIfInBounds_toArray, List.set_cons_zero, List.set_cons_succ]
      refine wpAnyH_take (i := 3) (oi := ⟨some 86, _, _, _, _, _⟩) (v := ?_) rfl (by kernel_rfl) (by kernel_rfl) (by kernel_rfl) (fun _ _ _ h => h) (Or.inl ⟨by rfl, ?_⟩) hHeld ?_
      rotate_left
      · intro W hSw
        obtain ⟨s0, s1, s2, s3, s4⟩ := hSw
        go_simp
        with_reducible rfl
      simp only [Act.put, List.setIfInBounds_toArray, List.set_cons_zero, List.set_cons_succ]
      refine wpAnyH_take (i := 4) (oi := ⟨some 87, _, _, _, _, _⟩) (v := ?_) rfl (by kernel_rfl) (by kernel_rfl) (by kernel_rfl) (fun _ _ _ h => h) (Or.inl ⟨by rfl, ?_⟩) hHeld ?_
      rotate_left
      · intro W hSw
        obtain ⟨s0, s1, s2, s3, s4⟩ := hSw
        go_simp
        with_reducible rfl
      simp only [Act.put, List.setIfInBounds_toArray, List.set_cons_zero, List.set_cons_succ]
      refine wpAnyH_take (i := 5) (oi := ⟨some 88, _, _, _, _, _⟩) (v := ?_) rfl (by kernel_rfl) (by kernel_rfl) (by kernel_rfl) (fun _ _ _ h => h) (Or.inl ⟨by rfl, ?_⟩) hHeld ?_
      rotate_left
      · intro W hSw
        obtain ⟨s0, s1, s2, s3, s4⟩ := hSw
        go_simp
        with_reducible rfl
      simp only [Act.put, List.setIfInBounds_toArray, List.set_cons_zero, List.set_cons_succ]
      refine wpAnyH_ready (rs := [6]) (by kernel_rfl) (by simp) ?_
      refine (AllReadyH.cons (o := ⟨none, _, _, _, _, _⟩) rfl (fun K hK => ?_) AllReadyH.nil)
      obtain ⟨g0, g1⟩ := HS16.out
      go_simp
      rw [← HW13.out]
      refine hK.out _ _ (HS3.out _ HQ.out.2.1) (fun hHeld2 => ?_)
      clear hK hHeld
      have hHeld := hHeld2
      clear hHeld2
      refine wpAnyH_done (by kernel_rfl) ?_ _
      go_wp2
      refine noP_ret ?_
      have hnb : ∀ k, (k = bl ∨ SideB bo go k ∨ SideB bi gi1 k) → k < w.heap.size := fun k hk => by
        rcases hk with e | e | e
        · exact H9.out.2.2.1 k (.inr (.inl e))
        · exact H9.out.2.2.1 k (.inr (.inr (.inl e)))
        · exact H9.out.2.2.1 k (.inr (.inr (.inr (H8.out.2.1 k e))))
      obtain ⟨_, hn2, hO2, hT2, hK2, hD2, _, hys, hvy, hg2⟩ := HZ.out
      obtain ⟨_, hn1, _, hO8, hT8, hK8, hD8⟩ := H8.out
      have hO13 := HQ.out.2.1
      have lD2 : D2 < wC.heap.size := (Array.getElem?_eq_some_iff.1 hK2).1
      have lD : D < w8.heap.size := (Array.getElem?_eq_some_iff.1 hK8).1
      have k2 : w13.heap[D2]? = some (.deferred (some [])) := (hO13.block D2 lD2 (fun e => by have := hnb _ e; omega)).trans hK2
      have lD9 : D < w9.heap.size := by omega
      have lDC : D < wC.heap.size := Nat.lt_of_lt_of_le lD9 hO2.size
      have k1 : w13.heap[D]? = some (.deferred (some [])) := (hO13.block D lDC (fun e => by have := hnb _ e; omega)).trans ((hO2.block D lD9 (fun e => by have := hnb D (e.elim .inl (fun e => .inr (.inl e))); omega)).trans ((H9.out.2.2.2.2.1.block D lD).trans hK8))
      have k1' : (w13.putObj D2 (.deferred none)).heap[D]? = some (.deferred (some [])) := (World.putObj_heap_other (by omega)).trans k1
      have hOf : Only (fun k => k = D2 ∨ k = D) w13 ((w13.putObj D2 (.deferred none)).putObj D (.deferred none)) := (Only.putObj (S := fun k => k = D2 ∨ k = D) (.deferred none) (.inl rfl)).trans (Only.putObj (S := fun k => k = D2 ∨ k = D) (.deferred none) (.inr rfl)) (fun k hk => .inl hk)
      have hLB : ∀ k, LB l bl bo bi (fun i => if i = ((v : Nat) : Int) then none else go1 i) (fun i => if i = ((v : Nat) : Int) then none else gi1 i) k → LB l bl bo bi go gi k := by
        rintro k (e | e | e | e)
        · exact .inl e
        · exact .inr (.inl e)
        · exact .inr (.inr (.inl (hn2 k (goneB e))))
        · exact .inr (.inr (.inr (hn1 k (goneB e))))
      have hLk := H9.out.2.2.1
      refine ⟨by simp, .inl ⟨_, _, rfl, run_takeDeferred k2, ⟨by simp, .inl ⟨_, _, rfl, run_takeDeferred k1', ?_⟩⟩⟩⟩
      refine ⟨.bool true, by simp [results, Tryz.results31, go_sem], rfl, fun i => if i = ((v : Nat) : Int) then none else go1 i, fun i => if i = ((v : Nat) : Int) then none else gi1 i, ?_, ?_, ?_⟩
      · have hq := HQ.out.1.only hOf (fun k hk e => by have := hLk k (hLB k hk); omega)
        exact hq.lq (by rw [HQ.out.2.2.1, HL1.out.1, LSt.take_lost s hys]; rfl) (fun i j => s.take_F hys i j) (fun i j => s.take_G i j) hsm (by
          rw [HQ.out.2.2.1, HL1.out.1, LSt.take_lost s hys]
          exact LSt.take_low (fun x hx => ⟨(H.out.1.low x hx).1, H.out.2.2.2.2.2.2.2.2 x hx⟩))
      · exact hLB
      · have o1 : Only (LB l bl bo bi go gi) w w6 := Only.of_below _ (H.out.2.2.1.trans ((H5.out.1.trans (H6.out.1.mono H5.out.1.size)).mono H.out.2.2.1.size))
        have o2 := o1.trans hO8 (fun k hk => .inl (hk.elim (fun e => .inr (.inl e)) (fun e => .inr (.inr (.inr e)))))
        have o3 := o2.trans (Only.of_below (fun _ => False) H9.out.2.2.2.2.1) (fun _ h => h.elim)
        have o4 := o3.trans hO2 (fun k hk => .inl (hk.elim (fun e => .inr (.inl e)) (fun e => .inr (.inr (.inl e)))))
        have o5 := o4.trans hO13 (fun k hk => .inl (by
          rcases hk with e | e | e
          · exact .inr (.inl e)
          · exact .inr (.inr (.inl e))
          · exact .inr (.inr (.inr (hn1 k e)))))
        exact o5.trans hOf (fun k hk => .inr (by omega))
    case stop2 =>
      rintro D c pre T W _ h
      exact h.elim
  case stop =>
    rintro D c pre T W _ h
    exact h.elim
end Go.Proofs.YtdkpdmpghibmmaaGreat

