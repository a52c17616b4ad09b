/- What a heap in memory is: an object of its own blocks, by what is in it. -/
import Derived.Test.YthpfhimdgmckgaaHeapI
namespace Go.Proofs.Ythpfhimdgmckgaa
open Go.RowKit Hp

/-- How many of the first n are in. -/
def cnt (n : Nat) (f : Nat → Option Int) : Nat := ((List.range n).filter (fun i => (f i).isSome)).length

/-- The heap in block g, of the blocks S: of n, with f in it. -/
def Hq (w : World) (g : Nat) (S : Nat → Prop) (n : Nat) (f : Nat → Option Int) : Prop :=
  ∃ (key : Nat → Int) (a : Nat → Nat) (m sb : Nat) (p : Nat → Nat) (e : Nat → Int × Nat) (tv : Value),
    (∀ i k, f i = some k ↔ Mem a m i ∧ k = key i) ∧ Hol key a n m m e p ∧ Heap key a m ∧ n ≤ 16777216 ∧ Row w g 58 #[tv, .slice (some ⟨sb, 0, none⟩) n n] ∧ TreeV w tv m e ∧ Spots w sb n p ∧
    g ≠ sb ∧ tv.ownBlock ≠ some g ∧ tv.ownBlock ≠ some sb ∧ (∀ k, S k ↔ k = g ∨ tv.ownBlock = some k ∨ k = sb)
/-- Behind a step: f' is in, only own blocks turned. -/
def Did (w : World) (g n : Nat) (S : Nat → Prop) (f' : Nat → Option Int) (w' : World) : Prop := ∃ S', Hq w' g S' n f' ∧ (∀ k, S' k → S k ∨ w.heap.size ≤ k) ∧ Only S w w'

theorem cnt_of {key : Nat → Int} {a : Nat → Nat} {n m : Nat} {e : Nat → Int × Nat} {p : Nat → Nat} {f : Nat → Option Int} (h : Hol key a n m m e p) (hf : ∀ i k, f i = some k ↔ Mem a m i ∧ k = key i) : cnt n f = m := by
  have h1 : ((List.range m).map a).Nodup := by
    rw [List.Nodup, List.pairwise_map]
    exact List.Pairwise.imp_of_mem (fun {x y} hx hy hxy he => hxy (h.inj x y (List.mem_range.1 hx) (List.mem_range.1 hy) he)) List.nodup_range
  have h2 : ((List.range n).filter (fun i => (f i).isSome)).Nodup := List.nodup_range.filter _
  have hp : ((List.range m).map a).Perm ((List.range n).filter (fun i => (f i).isSome)) := by
    rw [List.perm_ext_iff_of_nodup h1 h2]
    intro i
    simp only [List.mem_map, List.mem_range, List.mem_filter]
    constructor
    · rintro ⟨j, hj, rfl⟩
      exact ⟨h.low j hj, by rw [(hf (a j) (key (a j))).2 ⟨⟨j, hj, rfl⟩, rfl⟩]; rfl⟩
    · rintro ⟨_, hi⟩
      obtain ⟨k, hk⟩ := Option.isSome_iff_exists.1 hi
      obtain ⟨⟨j, hj, e⟩, _⟩ := (hf i k).1 hk
      exact ⟨j, hj, e⟩
  have := hp.length_eq
  simp at this
  unfold cnt
  omega
theorem cnt_le (n : Nat) (f : Nat → Option Int) : cnt n f ≤ n := by
  have := List.length_filter_le (fun i => (f i).isSome) (List.range n)
  simpa [cnt] using this
theorem TreeV.lt {w : World} {tv : Value} {m : Nat} {e : Nat → Int × Nat} (h : TreeV w tv m e) (k : Nat) (hk : tv.ownBlock = some k) : k < w.heap.size := (h.owns.lt k hk).2
theorem TreeV.only {S : Nat → Prop} {w w' : World} {tv : Value} {m : Nat} {e : Nat → Int × Nat} (h : TreeV w tv m e) (ho : Only S w w') (hs : ∀ k, tv.ownBlock = some k → ¬ S k) : TreeV w' tv m e := by
  rcases h with h | ⟨tb, c, rfl, h⟩
  · exact .inl h
  · exact .inr ⟨tb, c, rfl, h.only ho (hs tb rfl)⟩
theorem Hq.lt {w : World} {g : Nat} {S : Nat → Prop} {n : Nat} {f : Nat → Option Int} (h : Hq w g S n f) (k : Nat) (hk : S k) : k < w.heap.size := by
  obtain ⟨key, a, m, sb, p, e, tv, _, _, _, _, hr, ht, ⟨_, hs, _⟩, _, _, _, hS⟩ := h
  rcases (hS k).1 hk with rfl | hk | rfl
  · exact hr.lt
  · exact ht.lt k hk
  · exact hs.lt
theorem Hq.own {w : World} {g : Nat} {S : Nat → Prop} {n : Nat} {f : Nat → Option Int} (h : Hq w g S n f) : S g := by
  obtain ⟨key, a, m, sb, p, e, tv, _, _, _, _, hr, ht, hs, _, _, _, hS⟩ := h
  exact (hS g).2 (.inl rfl)
theorem Hq.only {w w' : World} {g : Nat} {S S' : Nat → Prop} {n : Nat} {f : Nat → Option Int} (h : Hq w g S n f) (ho : Only S' w w') (hd : ∀ k, S k → ¬ S' k) : Hq w' g S n f := by
  obtain ⟨key, a, m, sb, p, e, tv, h1, h2, h3, h4, hr, ht, hs, h5, h6, h7, hS⟩ := h
  exact ⟨key, a, m, sb, p, e, tv, h1, h2, h3, h4, hr.only ho (hd g ((hS g).2 (.inl rfl))), ht.only ho (fun k hk => hd k ((hS k).2 (.inr (.inl hk)))), hs.only ho (hd sb ((hS sb).2 (.inr (.inr rfl)))), h5, h6, h7, hS⟩
theorem Hq.below {w w' : World} {g : Nat} {S : Nat → Prop} {n : Nat} {f : Nat → Option Int} (h : Hq w g S n f) (hb : Below w.heap.size w w') : Hq w' g S n f := h.only (Only.of_below (fun _ => False) hb) (fun _ _ f => f)
theorem Hq.some_lt {w : World} {g : Nat} {S : Nat → Prop} {n : Nat} {f : Nat → Option Int} (h : Hq w g S n f) {i : Nat} {k : Int} (hi : f i = some k) : i < n := by
  obtain ⟨key, a, m, sb, p, e, tv, h1, h2, _⟩ := h
  obtain ⟨⟨j, hj, rfl⟩, _⟩ := (h1 i k).1 hi
  exact h2.low j hj
theorem Hq.congr {w : World} {g : Nat} {S : Nat → Prop} {n : Nat} {f f' : Nat → Option Int} (h : Hq w g S n f) (he : ∀ i, f' i = f i) : Hq w g S n f' := by
  have : f' = f := funext he
  rw [this]; exact h
theorem Did.refl {w : World} {g : Nat} {S : Nat → Prop} {n : Nat} {f : Nat → Option Int} (h : Hq w g S n f) {w' : World} (hb : Below w.heap.size w w') : Did w g n S f w' := ⟨S, h.below hb, fun _ h => .inl h, Only.of_below _ hb⟩
theorem Did.trans {w w1 w2 : World} {g : Nat} {S : Nat → Prop} {n : Nat} {f1 f2 : Nat → Option Int} (h1 : Did w g n S f1 w1) (h2 : ∀ S1, Hq w1 g S1 n f1 → Did w1 g n S1 f2 w2) : Did w g n S f2 w2 := by
  obtain ⟨S1, q1, s1, o1⟩ := h1
  obtain ⟨S2, q2, s2, o2⟩ := h2 S1 q1
  refine ⟨S2, q2, fun k hk => ?_, o1.trans o2 s1⟩
  rcases s2 k hk with h | h
  · exact s1 k h
  · have := o1.size; exact .inr (by omega)
/-- With one in, the list is there. -/
theorem TreeV.some {w : World} {tv : Value} {m : Nat} {e : Nat → Int × Nat} (h : TreeV w tv m e) (hm : 0 < m) : ∃ tb c, tv = .slice (some ⟨tb, 0, none⟩) m c ∧ Tree w tb c m e := by
  rcases h with ⟨_, h⟩ | h
  · omega
  · exact h

theorem set_nil (z k : Int) (w : World) : Calls Try.prog 12 #[.pointer none, .int .i64 z, .int .i64 k] w fun e w' => e = .returned (.bool false) ∧ w' = w := by
  go_enter Try.func12, Try.ntmps12
  go_wp2
  go_ret
  exact ⟨rfl, rfl⟩
theorem set_out (g n : Nat) (S : Nat → Prop) (f : Nat → Option Int) (z k : Int) (w : World) (h : Hq w g S n f) (hz : z < 0 ∨ (n : Int) ≤ z) : Calls Try.prog 12 #[ptr g, .int .i64 z, .int .i64 k] w fun e w' => e = .returned (.bool false) ∧ w' = w := by
  obtain ⟨key, a, m, sb, p, e, tv, h1, h2, h3, h4, hr, ht, hs, h5, h6, h7, hS⟩ := h
  have HC := Lib.hid (knows_out g sb n z tv w hr hz)
  clear h1 h2 h3 h4 hr ht hs h5 h6 h7 hS hz
  go_enter Try.func12, Try.ntmps12
  go_wp2_with fail
  refine HC.out.mono ?_
  rintro e w1 ⟨rfl, rfl⟩
  go_wp2
  go_ret
  exact ⟨rfl, rfl⟩
/-- What put leaves. -/
theorem put_any (g n i : Nat) (S : Nat → Prop) (f : Nat → Option Int) (k : Int) (w : World) (h : Hq w g S n f) (hi : i < n) : Calls Try.prog 24 #[ptr g, ent k i] w fun e' w' => e' = .returned (.tuple #[]) ∧ Did w g n S (upd f i (some k)) w' := by
  obtain ⟨key, a, m, sb, p, e, tv, h1, h2, h3, h4, hr, ht, hs, h5, h6, h7, hS⟩ := h
  have hmn : m ≤ n := by rw [← cnt_of h2 h1]; exact cnt_le n f
  by_cases hm : Mem a m i
  · obtain ⟨j, hj, haj⟩ := hm
    obtain ⟨tb, c, rfl, hT⟩ := ht.some (by omega)
    have e6 : g ≠ tb := fun e => h6 (by rw [e]; rfl)
    have e7 : tb ≠ sb := fun e => h7 (by rw [e]; rfl)
    refine (put_in g tb sb c n m i j k e p w ⟨hr, hT, hs, e6, h5, e7, h4, hmn⟩ hi hj key a h2 h3 haj).mono ?_
    rintro e' w' ⟨rfl, ⟨a', e1, p1, q1, q2, q3, q4⟩, q5⟩
    refine ⟨rfl, S, ⟨upd key i k, a', m, sb, p1, e1, .slice (some ⟨tb, 0, none⟩) m c, fun l kl => ?_, q2, q3, h4, q1.1, .inr ⟨tb, c, rfl, q1.2.1⟩, q1.2.2.1, h5, h6, h7, hS⟩, fun k hk => .inl hk, q5.mono (fun x hx => .inl ((hS x).2 (.inr ?_)))⟩
    · rw [q4 l]
      by_cases el : l = i
      · subst el
        rw [upd_same, upd_same]
        exact ⟨fun e => ⟨⟨j, hj, haj⟩, by injection e with e; exact e.symm⟩, fun e => by rw [e.2]⟩
      · rw [upd_other _ _ _ _ el, upd_other _ _ _ _ el]
        exact h1 l kl
    · rcases hx with rfl | rfl
      · exact .inl rfl
      · exact .inr rfl
  · have hp : p i = 0 := h2.out i hi (fun j hj e => hm ⟨j, hj, e⟩)
    have hlt : m < n := by
      have hm2 := h2.more (k := k) hm hi
      have := cnt_of (f := upd f i (some k)) hm2 (fun l kl => by
        rw [mem_more l]
        by_cases el : l = i
        · subst el
          rw [upd_same, upd_same]
          exact ⟨fun e => ⟨.inr rfl, by injection e with e; exact e.symm⟩, fun e => by rw [e.2]⟩
        · rw [upd_other _ _ _ _ el, upd_other _ _ _ _ el, h1 l kl]
          exact ⟨fun ⟨x, y⟩ => ⟨.inl x, y⟩, fun ⟨x, y⟩ => ⟨x.resolve_right el, y⟩⟩)
      have h8 := cnt_le n (upd f i (some k))
      omega
    refine (put_new g sb n m i k tv e p w hr ht hs h5 h6 h7 hi hp hlt h4 key a h2 h3 hm).mono ?_
    rintro e' w' ⟨rfl, ⟨tb, c, a', e1, p1, q1, q2, q3, q4, q6⟩, q5⟩
    have el : tb ≠ g := fun e => q1.2.2.2.1 e.symm
    refine ⟨rfl, fun x => x = g ∨ tb = x ∨ x = sb, ⟨upd key i k, a', m + 1, sb, p1, e1, .slice (some ⟨tb, 0, none⟩) (m + 1) c, fun l kl => ?_, q2, q3, h4, q1.1, .inr ⟨tb, c, rfl, q1.2.1⟩, q1.2.2.1, h5, ?_, ?_, fun x => by simp [Value.ownBlock]⟩, fun x hx => ?_, q5.mono (fun x hx => .inl ((hS x).2 hx))⟩
    · rw [q4 l]
      by_cases el : l = i
      · subst el
        rw [upd_same, upd_same]
        exact ⟨fun e => ⟨.inr rfl, by injection e with e; exact e.symm⟩, fun e => by rw [e.2]⟩
      · rw [upd_other _ _ _ _ el, upd_other _ _ _ _ el, h1 l kl]
        exact ⟨fun ⟨x, y⟩ => ⟨.inl x, y⟩, fun ⟨x, y⟩ => ⟨x.resolve_right el, y⟩⟩
    · intro e; injection e with e; exact el e
    · intro e; injection e with e; exact q1.2.2.2.2.2.1 e
    · rcases hx with rfl | rfl | rfl
      · exact .inl ((hS _).2 (.inl rfl))
      · rcases q6 with q | q
        · exact .inl ((hS _).2 (.inr (.inl q)))
        · exact .inr q
      · exact .inl ((hS _).2 (.inr (.inr rfl)))
theorem set_in (g n i : Nat) (S : Nat → Prop) (f : Nat → Option Int) (k : Int) (w : World) (h : Hq w g S n f) (hi : i < n) : Calls Try.prog 12 #[ptr g, .int .i64 i, .int .i64 k] w fun e w' => e = .returned (.bool true) ∧ Did w g n S (upd f i (some k)) w' := by
  have HP := Lib.hid (put_any g n i S f k w h hi)
  obtain ⟨key, a, m, sb, p, e, tv, h1, h2, h3, h4, hr, ht, hs, h5, h6, h7, hS⟩ := h
  have HC := Lib.hid (knows_in g sb n i tv w hr hi)
  clear h1 h2 h3 h4 hr ht hs h5 h6 h7 hS
  go_enter Try.func12, Try.ntmps12
  go_wp2_with fail
  refine HC.out.mono ?_
  rintro e w1 ⟨rfl, rfl⟩
  go_wp2_with fail
  refine HP.out.mono ?_
  rintro e w2 ⟨rfl, hd⟩
  have HD := Lib.hid hd
  clear hd
  go_wp2
  go_ret
  exact ⟨rfl, HD.out⟩
end Go.Proofs.Ythpfhimdgmckgaa
