import Derived.Test.YthljgkaigjokjaaGhMath2
import Derived.Test.YthljgkaigjokjaaGhX
import Derived.Test.YthljgkaigjokjaaGhZ
import Derived.Test.YthljgkaigjokjaaM3
/- dist: how far it is, and the order in which places are told: pure. -/
namespace Go.Proofs.Ythljgkaigjokjaa
open Lay
/-- A walk from s by the edges E, and how long it is. -/
inductive Wk (E : Nat → List Ed) (s : Nat) : Nat → Int → Prop
  | nil : Wk E s s 0
  | snoc {u v : Nat} {d : Int} {e : Ed} : Wk E s u d → e ∈ E u → e.1 = (v : Int) → Wk E s v (d + e.2.1)
/-- How far it is. -/
def IsD (E : Nat → List Ed) (s v : Nat) (d : Int) : Prop := Wk E s v d ∧ ∀ d', Wk E s v d' → d ≤ d'
/-- What edges may be: ends are places, lengths from 0 to B. -/
structure Eds (E : Nat → List Ed) (n : Nat) (B : Int) : Prop where
  dst : ∀ u e, e ∈ E u → ∃ v : Nat, e.1 = v ∧ v < n
  pos : ∀ u e, e ∈ E u → 0 ≤ e.2.1
  le : ∀ u e, e ∈ E u → e.2.1 ≤ B
theorem IsD.uniq {E : Nat → List Ed} {s v : Nat} {d d' : Int} (h : IsD E s v d) (h' : IsD E s v d') : d = d' := by
  have := h.2 _ h'.1
  have := h'.2 _ h.1
  omega
theorem Wk.lt {E : Nat → List Ed} {n : Nat} {B : Int} (hE : Eds E n B) {s v : Nat} {d : Int} (hs : s < n) (h : Wk E s v d) : v < n := by
  cases h with
  | nil => exact hs
  | snoc _ he hv =>
    obtain ⟨u, hu, hlt⟩ := hE.dst _ _ he
    rw [hv] at hu
    omega
theorem Wk.nonneg {E : Nat → List Ed} {n : Nat} {B : Int} (hE : Eds E n B) {s v : Nat} {d : Int} (h : Wk E s v d) : 0 ≤ d := by
  induction h with
  | nil => omega
  | snoc _ he _ ih =>
    have := hE.pos _ _ he
    omega
/-- It is told. -/
def In1 (pre : List (Nat × Int)) (v : Nat) : Prop := v ∈ pre.map Prod.fst
instance (pre : List (Nat × Int)) (v : Nat) : Decidable (In1 pre v) := inferInstanceAs (Decidable (v ∈ pre.map Prod.fst))
theorem In1.snoc {pre : List (Nat × Int)} {x : Nat × Int} {v : Nat} : In1 (pre ++ [x]) v ↔ In1 pre v ∨ v = x.1 := by
  simp [In1]
/-- What has been told, and what lies in the heap; of the place v, told at k, only the edges in l have been looked at. -/
structure Dij (E : Nat → List Ed) (n : Nat) (B : Int) (s : Nat) (pre : List (Nat × Int)) (f : Nat → Option Int) (open_ : Option (Nat × Int × List Ed)) : Prop where
  right : ∀ x ∈ pre, IsD E s x.1 x.2
  nodup : (pre.map Prod.fst).Nodup
  lt : ∀ v, In1 pre v → v < n
  heap : ∀ v k, f v = some k → ¬ In1 pre v ∧ Wk E s v k
  small : ∀ v k, f v = some k → k ≤ (pre.length : Int) * B
  done : ∀ x ∈ pre, (∀ o, open_ = some o → o.1 ≠ x.1) → ∀ e ∈ E x.1, ∀ v : Nat, e.1 = v → ¬ In1 pre v → ∃ k, f v = some k ∧ k ≤ x.2 + e.2.1
  part : ∀ v k l, open_ = some (v, k, l) → (v, k) ∈ pre ∧ ∀ e ∈ l, ∀ u : Nat, e.1 = u → ¬ In1 pre u → ∃ q, f u = some q ∧ q ≤ k + e.2.1
  first : In1 pre s ∨ ∃ k, f s = some k ∧ k ≤ 0
theorem Dij.start {E : Nat → List Ed} {n : Nat} {B : Int} {s : Nat} {f : Nat → Option Int} (h : ∀ v, f v = if v = s then some 0 else none) : Dij E n B s [] f none := by
  refine ⟨by simp, by simp, by simp [In1], fun v k hv => ?_, fun v k hv => ?_, by simp, (fun _ _ _ h => by cases h), .inr ⟨0, by simp [h], Int.le_refl _⟩⟩
  · rw [h] at hv
    split at hv
    · rename_i e
      injection hv with hv
      subst hv
      subst e
      exact ⟨by simp [In1], .nil⟩
    · cases hv
  · rw [h] at hv
    split at hv
    · injection hv with hv
      subst hv
      simp
    · cases hv
/-- A walk to a place that is not told comes by one in the heap. -/
theorem Dij.cut {E : Nat → List Ed} {n : Nat} {B : Int} {s : Nat} {pre : List (Nat × Int)} {f : Nat → Option Int} (hE : Eds E n B) (h : Dij E n B s pre f none) {v : Nat} {d : Int} (hw : Wk E s v d) : In1 pre v ∨ ∃ x k, f x = some k ∧ k ≤ d := by
  induction hw with
  | nil =>
    rcases h.first with h | ⟨k, h, hk⟩
    · exact .inl h
    · exact .inr ⟨s, k, h, hk⟩
  | snoc hw he hv ih =>
    rename_i u v d e
    have hp := hE.pos _ _ he
    rcases ih with hu | ⟨x, k, hx, hk⟩
    · by_cases hv1 : In1 pre v
      · exact .inl hv1
      · unfold In1 at hu
        obtain ⟨x, hx, rfl⟩ := List.mem_map.1 hu
        obtain ⟨k, hk, hle⟩ := h.done x hx (fun _ h => by cases h) e he v hv hv1
        have := (h.right x hx).2 _ hw
        exact .inr ⟨v, k, hk, by omega⟩
    · exact .inr ⟨x, k, hx, by omega⟩
/-- What comes first out of the heap. -/
theorem Dij.next {E : Nat → List Ed} {n : Nat} {B : Int} {s : Nat} {pre : List (Nat × Int)} {f : Nat → Option Int} (hE : Eds E n B) (h : Dij E n B s pre f none) {v : Nat} {k : Int} (hv : f v = some k) (hm : ∀ u q, f u = some q → k ≤ q) :
    IsD E s v k ∧ ¬ In1 pre v ∧ ∀ u d, ¬ In1 pre u → IsD E s u d → k ≤ d := by
  obtain ⟨h1, h2⟩ := h.heap v k hv
  refine ⟨⟨h2, fun d' hw => ?_⟩, h1, fun u d hu hd => ?_⟩
  · rcases h.cut hE hw with h | ⟨x, q, hx, hq⟩
    · exact absurd h h1
    · have := hm x q hx
      omega
  · rcases h.cut hE hd.1 with h | ⟨x, q, hx, hq⟩
    · exact absurd h hu
    · have := hm x q hx
      omega
theorem Dij.last {E : Nat → List Ed} {n : Nat} {B : Int} {s : Nat} {pre : List (Nat × Int)} {f : Nat → Option Int} (hE : Eds E n B) (h : Dij E n B s pre f none) (hf : ∀ i, f i = none) {v : Nat} {d : Int} (hw : Wk E s v d) : In1 pre v := by
  rcases h.cut hE hw with h | ⟨x, q, hx, _⟩
  · exact h
  · rw [hf] at hx
    cases hx
/-- One is told: none of its edges has been looked at. -/
theorem Dij.tell {E : Nat → List Ed} {n : Nat} {B : Int} {s : Nat} {pre : List (Nat × Int)} {f f' : Nat → Option Int} (hE : Eds E n B) (hB : 0 ≤ B) (hs : s < n) (h : Dij E n B s pre f none) {v : Nat} {k : Int} (hv : f v = some k) (hm : ∀ u q, f u = some q → k ≤ q) (hf : ∀ i, f' i = if i = v then none else f i) :
    Dij E n B s (pre ++ [(v, k)]) f' (some (v, k, [])) := by
  obtain ⟨hd, hn, _⟩ := h.next hE hv hm
  refine ⟨fun x hx => ?_, ?_, fun u hu => ?_, fun u q hq => ?_, fun u q hq => ?_, fun x hx ho e he u hu hnu => ?_, fun a b l hl => ?_, ?_⟩
  · rcases List.mem_append.1 hx with hx | hx
    · exact h.right x hx
    · rw [List.mem_singleton] at hx
      subst hx
      exact hd
  · rw [List.map_append, List.nodup_append]
    refine ⟨h.nodup, by simp, fun a ha b hb => ?_⟩
    simp only [List.map_cons, List.map_nil, List.mem_singleton] at hb
    subst hb
    intro e
    exact hn (by unfold In1; rw [← e]; exact ha)
  · rcases In1.snoc.1 hu with hu | rfl
    · exact h.lt u hu
    · exact hd.1.lt hE hs
  · rw [hf] at hq
    split at hq
    · cases hq
    · rename_i hne
      obtain ⟨h1, h2⟩ := h.heap u q hq
      exact ⟨fun hi => (In1.snoc.1 hi).elim h1 hne, h2⟩
  · rw [hf] at hq
    split at hq
    · cases hq
    · have := h.small u q hq
      rw [List.length_append, List.length_singleton]
      rw [show ((pre.length + 1 : Nat) : Int) = (pre.length : Int) + 1 by omega, Int.add_mul]
      omega
  · have hnu' : ¬ In1 pre u ∧ u ≠ v := ⟨fun q => hnu (In1.snoc.2 (.inl q)), fun q => hnu (In1.snoc.2 (.inr q))⟩
    rcases List.mem_append.1 hx with hx | hx
    · obtain ⟨q, hq, hle⟩ := h.done x hx (fun _ h => by cases h) e he u hu hnu'.1
      exact ⟨q, by rw [hf, if_neg hnu'.2]; exact hq, hle⟩
    · rw [List.mem_singleton] at hx
      subst hx
      exact absurd rfl (ho _ rfl)
  · injection hl with hl
    injection hl with e1 e2
    injection e2 with e2 e3
    subst e1 e2 e3
    exact ⟨by simp, by simp⟩
  · by_cases hsv : s = v
    · exact .inl (In1.snoc.2 (.inr hsv))
    · rcases h.first with h | ⟨q, hq, hle⟩
      · exact .inl (In1.snoc.2 (.inl h))
      · exact .inr ⟨q, by rw [hf, if_neg hsv]; exact hq, hle⟩
/-- An edge to a place that is told is passed by. -/
theorem Dij.pass {E : Nat → List Ed} {n : Nat} {B : Int} {s : Nat} {pre : List (Nat × Int)} {f : Nat → Option Int} {v u : Nat} {k : Int} {l : List Ed} {e : Ed} (h : Dij E n B s pre f (some (v, k, l))) (hu : e.1 = (u : Int)) (hi : In1 pre u) : Dij E n B s pre f (some (v, k, l ++ [e])) := by
  refine ⟨h.right, h.nodup, h.lt, h.heap, h.small, fun x hx ho => h.done x hx (fun o eo => ?_), fun a b m hm => ?_, h.first⟩
  · injection eo with eo
    subst eo
    exact (ho (v, k, l ++ [e]) rfl)
  · injection hm with hm
    injection hm with e1 e2
    injection e2 with e2 e3
    subst e1 e2 e3
    obtain ⟨h1, h2⟩ := h.part _ _ _ rfl
    refine ⟨h1, fun e' he' u' hu' hn => ?_⟩
    rcases List.mem_append.1 he' with he' | he'
    · exact h2 e' he' u' hu' hn
    · rw [List.mem_singleton] at he'
      subst he'
      rw [hu] at hu'
      obtain rfl : u = u' := by omega
      exact absurd hi hn
/-- What shorten leaves in the heap. -/
def shorten (f : Nat → Option Int) (u : Nat) (d : Int) : Nat → Option Int := fun i => if i = u then some (match f u with | none => d | some k => if d < k then d else k) else f i
theorem shorten_at (f : Nat → Option Int) (u : Nat) (d : Int) : ∃ q, shorten f u d u = some q ∧ q ≤ d ∧ (q = d ∨ f u = some q) ∧ ∀ k, f u = some k → q ≤ k := by
  refine ⟨_, by unfold shorten; rw [if_pos rfl], ?_, ?_, ?_⟩
  all_goals
    cases f u with
    | none => simp
    | some k =>
      by_cases hd : d < k
      · simp [hd]
        try omega
      · simp [hd]
        try omega
theorem shorten_le (f : Nat → Option Int) (u : Nat) (d : Int) {i : Nat} {k : Int} (h : f i = some k) : ∃ q, shorten f u d i = some q ∧ q ≤ k := by
  by_cases hi : i = u
  · subst hi
    obtain ⟨q, h1, _, _, h4⟩ := shorten_at f i d
    exact ⟨q, h1, h4 k h⟩
  · exact ⟨k, by unfold shorten; rw [if_neg hi]; exact h, Int.le_refl _⟩
/-- An edge to a place that is not told. -/
theorem Dij.look {E : Nat → List Ed} {n : Nat} {B : Int} {s : Nat} {pre : List (Nat × Int)} {f : Nat → Option Int} {v u : Nat} {k : Int} {l : List Ed} {e : Ed} (hE : Eds E n B) (h : Dij E n B s pre f (some (v, k, l))) (he : e ∈ E v) (hu : e.1 = (u : Int)) (hi : ¬ In1 pre u) (hk : k + B ≤ (pre.length : Int) * B) : Dij E n B s pre (shorten f u (k + e.2.1)) (some (v, k, l ++ [e])) := by
  obtain ⟨h1, h2⟩ := h.part _ _ _ rfl
  obtain ⟨q, hq, hle, hor, _⟩ := shorten_at f u (k + e.2.1)
  have hfo : ∀ i, i ≠ u → shorten f u (k + e.2.1) i = f i := fun i hi => by unfold shorten; rw [if_neg hi]
  refine ⟨h.right, h.nodup, h.lt, fun a b hab => ?_, fun a b hab => ?_, fun x hx ho e' he' a ha hna => ?_, fun a b m hm => ?_, ?_⟩
  · by_cases hau : a = u
    · subst hau
      rw [hq] at hab
      injection hab with hab
      subst hab
      refine ⟨hi, ?_⟩
      rcases hor with rfl | hor
      · exact .snoc (h.right _ h1).1 he hu
      · exact (h.heap _ _ hor).2
    · rw [hfo a hau] at hab
      exact h.heap a b hab
  · by_cases hau : a = u
    · subst hau
      rw [hq] at hab
      injection hab with hab
      have := hE.le _ _ he
      omega
    · rw [hfo a hau] at hab
      exact h.small a b hab
  · obtain ⟨b, hb, hl⟩ := h.done x hx (fun o eo => by injection eo with eo; subst eo; exact (ho (v, k, l ++ [e]) rfl)) e' he' a ha hna
    obtain ⟨b', hb', hl'⟩ := shorten_le f u (k + e.2.1) hb
    exact ⟨b', hb', by omega⟩
  · injection hm with hm
    injection hm with e1 e2
    injection e2 with e2 e3
    subst e1 e2 e3
    refine ⟨h1, fun e' he' u' hu' hn => ?_⟩
    rcases List.mem_append.1 he' with he' | he'
    · obtain ⟨b, hb, hl⟩ := h2 e' he' u' hu' hn
      obtain ⟨b', hb', hl'⟩ := shorten_le f u (k + e.2.1) hb
      exact ⟨b', hb', by omega⟩
    · rw [List.mem_singleton] at he'
      subst he'
      rw [hu] at hu'
      obtain rfl : u = u' := by omega
      exact ⟨q, hq, hle⟩
  · rcases h.first with h | ⟨b, hb, hl⟩
    · exact .inl h
    · obtain ⟨b', hb', hl'⟩ := shorten_le f u (k + e.2.1) hb
      exact .inr ⟨b', hb', by omega⟩
/-- All its edges have been looked at. -/
theorem Dij.shut {E : Nat → List Ed} {n : Nat} {B : Int} {s : Nat} {pre : List (Nat × Int)} {f : Nat → Option Int} {v : Nat} {k : Int} (h : Dij E n B s pre f (some (v, k, E v))) : Dij E n B s pre f none := by
  obtain ⟨h1, h2⟩ := h.part _ _ _ rfl
  refine ⟨h.right, h.nodup, h.lt, h.heap, h.small, fun x hx _ e he u hu hn => ?_, (fun _ _ _ h => by cases h), h.first⟩
  by_cases hxv : x.1 = v
  · have hx2 : x.2 = k := by
      have a := h.right x hx
      have b := h.right _ h1
      rw [hxv] at a
      exact a.uniq b
    rw [hxv] at he
    obtain ⟨q, hq, hl⟩ := h2 e he u hu hn
    exact ⟨q, hq, by omega⟩
  · exact h.done x hx (fun o e => by injection e with e; subst e; exact fun e => hxv e.symm) e he u hu hn
theorem nodup_short : ∀ (n : Nat) (l : List Nat), l.Nodup → (∀ v ∈ l, v < n) → l.length ≤ n := by
  intro n
  induction n with
  | zero =>
    intro l _ h
    cases l with
    | nil => simp
    | cons a t => exact absurd (h a (by simp)) (by omega)
  | succ n ih =>
    intro l hn h
    have h1 := ih (l.erase n) (hn.erase n) (fun v hv => by
      have hv' := (List.Nodup.mem_erase_iff hn).1 hv
      have := h v hv'.2
      have := hv'.1
      omega)
    have h2 : l.length ≤ (l.erase n).length + 1 := by rw [List.length_erase]; split <;> omega
    omega
theorem Dij.short {E : Nat → List Ed} {n : Nat} {B : Int} {s : Nat} {pre : List (Nat × Int)} {f : Nat → Option Int} {o : Option (Nat × Int × List Ed)} (h : Dij E n B s pre f o) : pre.length ≤ n := by
  have := nodup_short n (pre.map Prod.fst) h.nodup h.lt
  rwa [List.length_map] at this
end Go.Proofs.Ythljgkaigjokjaa

/- dist: shorten, isPlace. -/
namespace Go.Proofs.Ythljgkaigjokjaa
open Go.RowKit Go.Shelf Grm Lay

theorem isplace_any (n v : Int) (w : World) : Calls Try.prog 61 #[.int .i64 n, .int .i64 v] w fun e w' => e = .returned (.bool (decide (0 ≤ v ∧ v < n))) ∧ w' = w := by
  obtain ⟨R, hR⟩ : ∃ R, R = decide (0 ≤ v ∧ v < n) := ⟨_, rfl⟩
  rw [← hR]
  by_cases h0 : 0 ≤ v
  · have e : R = decide (v < n) := by rw [hR]; simp [h0]
    subst e
    clear hR
    go_enter Try.func61, Try.ntmps61
    go_wp2
    go_ret
    exact ⟨rfl, rfl⟩
  · have e : R = false := by rw [hR]; simp; omega
    subst e
    have h0' : decide (v ≥ 0) = false := by simp; omega
    clear hR
    go_enter Try.func61, Try.ntmps61
    go_wp2
    go_ret
    exact ⟨rfl, rfl⟩
theorem Hp.Did.to {w : World} {g n : Nat} {S : Nat → Prop} {f f' : Nat → Option Int} {w' : World} (h : Hp.Did w g n S f w') (e : ∀ i, f' i = f i) : Hp.Did w g n S f' w' := by
  obtain ⟨S', h1, h2, h3⟩ := h
  exact ⟨S', h1.congr e, h2, h3⟩
theorem shorten_put {f : Nat → Option Int} {u : Nat} {d k : Int} (hf : f u = some k) (hd : d < k) (i : Nat) : shorten f u d i = Hp.upd f u (some d) i := by
  unfold shorten Hp.upd
  rw [hf]
  simp only [if_pos hd]
theorem shorten_keep {f : Nat → Option Int} {u : Nat} {d k : Int} (hf : f u = some k) (hd : ¬ d < k) (i : Nat) : shorten f u d i = f i := by
  unfold shorten
  rw [hf]
  simp only [if_neg hd]
  split
  · rename_i e
    rw [e, hf]
  · rfl
theorem shorten_any (g n u : Nat) (S : Nat → Prop) (f : Nat → Option Int) (d : Int) (w : World) (h : Hp.Hq w g S n f) (hu : u < n) : Calls Try.prog 78 #[ptr g, .int .i64 u, .int .i64 d] w fun e w' => e = .returned (.tuple #[]) ∧ Hp.Did w g n S (shorten f u d) w' := by
  have HH := Lib.hid (And.intro h hu)
  clear h hu
  cases hf : f u with
  | none =>
    have HF := Lib.hid hf
    clear hf
    go_enter Try.func78, Try.ntmps78
    go_wp2_with fail
    refine (Hp.key_no g n u S f w HH.out.1 HH.out.2 HF.out).mono ?_
    rintro e w1 ⟨rfl, rfl⟩
    unfold Hp.keyed
    go_wp2_with fail
    refine (Hp.set_in g n u S f d w1 HH.out.1 HH.out.2).mono ?_
    rintro e w2 ⟨rfl, hd⟩
    have HD := Lib.hid hd
    clear hd
    go_wp2
    go_end0
    exact ⟨rfl, HD.out.to fun i => by unfold shorten Hp.upd; rw [HF.out]⟩
  | some k =>
    have HF := Lib.hid hf
    by_cases hd : d < k
    · have HL := Lib.hid (shorten_put hf hd)
      clear hf
      go_enter Try.func78, Try.ntmps78
      go_wp2_with fail
      refine (Hp.key_yes g n u S f k w HH.out.1 HF.out).mono ?_
      rintro e w1 ⟨rfl, hb⟩
      have HB := Lib.hid hb
      clear hb
      unfold Hp.keyed
      go_wp2_with fail
      refine (Hp.set_in g n u S f d w1 (HH.out.1.below HB.out) HH.out.2).mono ?_
      rintro e w2 ⟨rfl, hd⟩
      have HD := Lib.hid hd
      clear hd
      go_wp2
      go_end0
      exact ⟨rfl, (HD.out.after HB.out).to HL.out⟩
    · have HL := Lib.hid (shorten_keep hf hd)
      clear hf
      go_enter Try.func78, Try.ntmps78
      go_wp2_with fail
      refine (Hp.key_yes g n u S f k w HH.out.1 HF.out).mono ?_
      rintro e w1 ⟨rfl, hb⟩
      have HB := Lib.hid hb
      clear hb
      unfold Hp.keyed
      go_wp2
      go_end0
      exact ⟨rfl, (Hp.Did.refl HH.out.1 HB.out).to HL.out⟩
end Go.Proofs.Ythljgkaigjokjaa

/- dist: what the iterator of nearest holds, and what each of its steps does to that. -/
namespace Go.Proofs.Ythljgkaigjokjaa
open Go.RowKit Go.Shelf Grm Lay

theorem infoBo : (Try.prog.info? 4).map (fun i => (i.zero, i.size, i.bytes)) = some (some (.bool false), 1, 1) := by kernel_rfl
abbrev bsV (l : List Bool) : Array Value := (l.map Value.bool).toArray
theorem run_makeBo (w : World) (z : Int) (n : Nat) (hz : z = (n : Int)) (hn : n ≤ 10000000000) :
    (Instr.makeSlice 113 (.int .i64 z) (.int .i64 z)).run Try.prog w = .ok (.slice (some ⟨w.heap.size, 0, none⟩) n n) (w.alloc (.cells (bsV (List.replicate n false)) 4)) := by
  obtain ⟨i, hi, hz0, hz1, hz2⟩ := info_parts infoBo
  have hr := run_make (P := Try.prog) w 113 4 i (.bool false) Try.underlying113 hi hz0 .i64 .i64 z z (by omega) (by omega) (by rw [hz2]; omega) (by omega)
  subst hz
  have e : (madeCells (Value.bool false).cells ((n : Int).toNat * i.size)) = bsV (List.replicate n false) := by
    rw [hz1]
    apply Array.toList_inj.1
    have e1 : (Value.bool false).cells = #[Value.bool false] := rfl
    rw [e1, toList_madeCells_one]
    simp
  rw [e] at hr
  exact hr
set_option maxRecDepth 100000 in
theorem step_makeBo {ops : Array Oper} {o : Oper} {a : Act} {w : World} {K : Act → World → Prop} {Q : Exit → Act → World → Prop} {E : Prop} (hgd : o.guard = none) (x y : Operand) (ho : o.op = .makeSlice 113 x y)
    (z : Int) (n : Nat) (hx : a.eval x = .int .i64 z) (hy : a.eval y = .int .i64 z) (hz : z = (n : Int)) (hn : n ≤ 10000000000) (h : K (a.put o.dst (.slice (some ⟨w.heap.size, 0, none⟩) n n)) (w.alloc (.cells (bsV (List.replicate n false)) 4))) :
    if Region.wanted o (yielded ops a.tmps) = true then Oper.wp Try.prog o a w K Q else E := by
  have hw : Region.wanted o (yielded ops a.tmps) = true := by simp [Region.wanted, hgd]
  rw [if_pos hw]
  have hr := run_makeBo w z n hz hn
  unfold Oper.wp execOp
  simp only [ho, hx, hy, Sem.run_bind, hr, Result.andThen_ok, Sem.run_pure]
  exact h
/-- What is told, place by place. -/
def toldL (n : Nat) (pre : List (Nat × Int)) : List Bool := (List.range n).map fun v => decide (v ∈ pre.map Prod.fst)
theorem toldL_nil (n : Nat) : toldL n [] = List.replicate n false := by
  apply List.ext_getElem?
  intro i
  by_cases hi : i < n
  · simp [toldL, hi]
  · simp [toldL, hi]
theorem toldL_at {n v : Nat} {pre : List (Nat × Int)} (h : v < n) : (bsV (toldL n pre))[v]? = some (.bool (decide (In1 pre v))) := by
  rw [show bsV (toldL n pre) = ((toldL n pre).map Value.bool).toArray from rfl]
  simp only [toldL, List.getElem?_toArray, List.getElem?_map, List.getElem?_range h, Option.map_some]
  rfl
theorem toldL_tell {n v : Nat} {pre : List (Nat × Int)} {k : Int} : (bsV (toldL n pre)).setIfInBounds v (.bool true) = bsV (toldL n (pre ++ [(v, k)])) := by
  apply Array.ext_getElem?
  intro i
  by_cases hi : i < n
  · by_cases hv : v = i
    · subst hv
      simp [bsV, toldL, hi]
    · have hv' : ¬ i = v := fun e => hv e.symm
      rw [Array.getElem?_setIfInBounds_ne hv]
      simp [bsV, toldL, hi, hv']
  · rw [Array.getElem?_eq_none (by simp [bsV, toldL]; omega), Array.getElem?_eq_none (by simp [bsV, toldL]; omega)]
/-- The iterator between two steps: its heap (blocks S), the row of what is told (sb), the round's own blocks T; all else that it may not turn is as it was. -/
structure Nst (Wr : Foot) (w : World) (hb sb : Nat) (T S : Foot) (n : Nat) (f : Nat → Option Int) (pre : List (Nat × Int)) (wr : World) : Prop where
  heap : Hp.Hq wr hb S n f
  own : ∀ k, S k → w.heap.size ≤ k
  free : ∀ k, S k → ¬ T k
  row : Row wr sb 4 (bsV (toldL n pre))
  rown : w.heap.size ≤ sb
  rfree : ¬ T sb
  rapart : ¬ S sb
  tlt : ∀ k, T k → w.heap.size ≤ k ∧ k < wr.heap.size
  only : Only (fun k => Wr k ∨ w.heap.size ≤ k) w wr
/-- The heap is at work. -/
theorem Nst.did2 {Wr : Foot} {w : World} {hb sb : Nat} {T S : Foot} {n : Nat} {f f' : Nat → Option Int} {pre : List (Nat × Int)} {wr w' : World} (h : Nst Wr w hb sb T S n f pre wr) (hd : Hp.Did wr hb n S f' w') :
    ∃ S', Nst Wr w hb sb T S' n f' pre w' ∧ Only (fun k => w.heap.size ≤ k ∧ ¬ T k) wr w' ∧ (∀ k, S' k → S k ∨ wr.heap.size ≤ k) ∧ Only S wr w' := by
  obtain ⟨S', h1, h2, h3⟩ := hd
  have hz := h.only.size
  refine ⟨S', ⟨h1, fun k hk => ?_, fun k hk ht => ?_, h.row.only h3 h.rapart, h.rown, h.rfree, fun hk => ?_, fun k hk => ⟨(h.tlt k hk).1, Nat.lt_of_lt_of_le (h.tlt k hk).2 h3.size⟩, h.only.trans h3 (fun i hi => .inl (.inr (h.own i hi)))⟩, h3.mono (fun k hk => .inl ⟨h.own k hk, h.free k hk⟩), h2, h3⟩
  · rcases h2 k hk with h' | h'
    · exact h.own k h'
    · omega
  · rcases h2 k hk with h' | h'
    · exact h.free k h' ht
    · have := (h.tlt k ht).2
      omega
  · rcases h2 sb hk with h' | h'
    · exact h.rapart h'
    · have := h.row.lt
      omega
theorem Nst.did {Wr : Foot} {w : World} {hb sb : Nat} {T S : Foot} {n : Nat} {f f' : Nat → Option Int} {pre : List (Nat × Int)} {wr w' : World} (h : Nst Wr w hb sb T S n f pre wr) (hd : Hp.Did wr hb n S f' w') :
    ∃ S', Nst Wr w hb sb T S' n f' pre w' ∧ Only (fun k => w.heap.size ≤ k ∧ ¬ T k) wr w' := by
  obtain ⟨S', h1, h2, _⟩ := h.did2 hd
  exact ⟨S', h1, h2⟩
/-- New memory alone. -/
theorem Nst.below {Wr : Foot} {w : World} {hb sb : Nat} {T S : Foot} {n : Nat} {f : Nat → Option Int} {pre : List (Nat × Int)} {wr w' : World} (h : Nst Wr w hb sb T S n f pre wr) (hB : Below wr.heap.size wr w') :
    Nst Wr w hb sb T S n f pre w' ∧ Only (fun k => w.heap.size ≤ k ∧ ¬ T k) wr w' :=
  ⟨⟨h.heap.below hB, h.own, h.free, h.row.under hB h.row.lt, h.rown, h.rfree, h.rapart, fun k hk => ⟨(h.tlt k hk).1, Nat.lt_of_lt_of_le (h.tlt k hk).2 hB.size⟩, h.only.trans (Only.of_below (fun _ => False) hB) (fun _ h => h.elim)⟩, Only.of_below _ hB⟩
/-- A place is told: its mark is set. -/
theorem Nst.mark {Wr : Foot} {w : World} {hb sb : Nat} {T S : Foot} {n : Nat} {f : Nat → Option Int} {pre : List (Nat × Int)} {wr : World} (h : Nst Wr w hb sb T S n f pre wr) (v : Nat) (k : Int) :
    Nst Wr w hb sb T S n f (pre ++ [(v, k)]) (wr.setCell ⟨sb, v, none⟩ (.bool true)) ∧ Only (fun k => w.heap.size ≤ k ∧ ¬ T k) wr (wr.setCell ⟨sb, v, none⟩ (.bool true)) := by
  have ho : Only (fun k => k = sb) wr (wr.setCell ⟨sb, v, none⟩ (.bool true)) := (Only.refl (fun k => k = sb) wr).setCell (p := ⟨sb, v, none⟩) (.inl rfl) _
  have hr := h.row.put v (.bool true)
  rw [toldL_tell (k := k)] at hr
  refine ⟨⟨h.heap.only ho (fun k hk e => h.rapart (e ▸ hk)), h.own, h.free, hr, h.rown, h.rfree, h.rapart, fun k hk => ⟨(h.tlt k hk).1, Nat.lt_of_lt_of_le (h.tlt k hk).2 ho.size⟩, h.only.trans ho (fun i hi => .inl (.inr (by have := h.rown; omega)))⟩, ho.mono fun k hk => .inl ⟨by have := h.rown; omega, fun ht => h.rfree (hk ▸ ht)⟩⟩
/-- The round has run. -/
theorem Nst.yield {Wr : Foot} {w : World} {hb sb : Nat} {T T' S : Foot} {n : Nat} {f : Nat → Option Int} {pre : List (Nat × Int)} {wr w' : World} (h : Nst Wr w hb sb T S n f pre wr) (hWr : ∀ k, Wr k → k < w.heap.size) (he : Ext w.heap.size Wr T T' wr w') :
    Nst Wr w hb sb T' S n f pre w' := by
  have hz := h.only.size
  have hfar : ∀ k, w.heap.size ≤ k → k < wr.heap.size → ¬ T k → ¬ (Wr k ∨ T' k) := fun k h1 h2 h3 h4 => by
    rcases h4 with h4 | h4
    · have := hWr k h4
      omega
    · rcases he.more k h4 with h5 | h5
      · exact h3 h5
      · omega
  have hSf : ∀ k, S k → ¬ (Wr k ∨ T' k) := fun k hk => hfar k (h.own k hk) (h.heap.lt k hk) (h.free k hk)
  have hrf := hfar sb h.rown h.row.lt h.rfree
  refine ⟨h.heap.only he.only hSf, h.own, fun k hk ht => hSf k hk (.inr ht), h.row.only he.only hrf, h.rown, fun ht => hrf (.inr ht), h.rapart, fun k hk => ⟨?_, he.lt k hk⟩, h.only.trans he.only (fun i hi => ?_)⟩
  · rcases he.more k hk with h5 | h5
    · exact (h.tlt k h5).1
    · omega
  · rcases hi with hi | hi
    · exact .inl (.inl hi)
    · rcases he.more i hi with h5 | h5
      · exact .inl (.inr (h.tlt i h5).1)
      · exact .inl (.inr (by omega))
end Go.Proofs.Ythljgkaigjokjaa

