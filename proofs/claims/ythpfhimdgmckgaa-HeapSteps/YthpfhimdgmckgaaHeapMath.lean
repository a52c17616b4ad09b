/- Plain mathematics of a binary heap: who stands where, ordered by key and then by number; going up, going down; what comes first. Nothing of the program. -/
import Derived.WalkKit
namespace Go.Proofs.Ythpfhimdgmckgaa.Hp

/-- x comes ahead of y: a lesser key, or the same and a lesser number. -/
def lt (key : Nat → Int) (x y : Nat) : Prop := key x < key y ∨ (key x = key y ∧ x < y)
instance (key : Nat → Int) (x y : Nat) : Decidable (lt key x y) := by unfold lt; infer_instance
theorem lt_irrefl (key : Nat → Int) (x : Nat) : ¬ lt key x x := by unfold lt; omega
theorem lt_asymm {key : Nat → Int} {x y : Nat} (h : lt key x y) : ¬ lt key y x := by unfold lt at *; omega
theorem lt_trans {key : Nat → Int} {x y z : Nat} (h : lt key x y) (h' : lt key y z) : lt key x z := by unfold lt at *; omega
theorem le_trans {key : Nat → Int} {x y z : Nat} (h : ¬ lt key y x) (h' : ¬ lt key z y) : ¬ lt key z x := by unfold lt at *; omega
theorem le_of_lt {key : Nat → Int} {x y z : Nat} (h : lt key x y) (h' : ¬ lt key z y) : ¬ lt key z x := by unfold lt at *; omega
theorem eq_of {key : Nat → Int} {x y : Nat} (h : ¬ lt key x y) (h' : ¬ lt key y x) : x = y := by unfold lt at *; omega
theorem lt_congr {key key' : Nat → Int} {x y : Nat} (hx : key' x = key x) (hy : key' y = key y) : lt key' x y ↔ lt key x y := by unfold lt; rw [hx, hy]

/-- Who stands at which place: a; how many: n; the place above i is (i - 1) / 2. -/
def Heap (key : Nat → Int) (a : Nat → Nat) (n : Nat) : Prop := ∀ j, 0 < j → j < n → ¬ lt key (a j) (a ((j - 1) / 2))
/-- All is in order but at place i, whose neighbours are in order around it. -/
def Mid (key : Nat → Int) (a : Nat → Nat) (n i : Nat) : Prop :=
  (∀ j, 0 < j → j < n → j ≠ i → (j - 1) / 2 ≠ i → ¬ lt key (a j) (a ((j - 1) / 2))) ∧ (∀ j, 0 < j → j < n → (j - 1) / 2 = i → 0 < i → ¬ lt key (a j) (a ((i - 1) / 2)))
/-- .. and it is not behind those below it. -/
def Up (key : Nat → Int) (a : Nat → Nat) (n i : Nat) : Prop :=
  (∀ j, 0 < j → j < n → j ≠ i → ¬ lt key (a j) (a ((j - 1) / 2))) ∧ (∀ j, 0 < j → j < n → (j - 1) / 2 = i → 0 < i → ¬ lt key (a j) (a ((i - 1) / 2)))
/-- .. and it is not ahead of the one above it. -/
def Down (key : Nat → Int) (a : Nat → Nat) (n i : Nat) : Prop :=
  (∀ j, 0 < j → j < n → (j - 1) / 2 ≠ i → ¬ lt key (a j) (a ((j - 1) / 2))) ∧ (∀ j, 0 < j → j < n → (j - 1) / 2 = i → 0 < i → ¬ lt key (a j) (a ((i - 1) / 2)))
def swap (a : Nat → Nat) (i j : Nat) : Nat → Nat := fun k => if k = i then a j else if k = j then a i else a k
def put (a : Nat → Nat) (i x : Nat) : Nat → Nat := fun k => if k = i then x else a k
theorem swap_left (a : Nat → Nat) (i j : Nat) : swap a i j i = a j := by simp [swap]
theorem swap_right (a : Nat → Nat) (i j : Nat) : swap a i j j = a i := by unfold swap; split <;> simp_all
theorem swap_other (a : Nat → Nat) (i j k : Nat) (h : k ≠ i) (h' : k ≠ j) : swap a i j k = a k := by simp [swap, h, h']
theorem put_same (a : Nat → Nat) (i x : Nat) : put a i x i = x := by simp [put]
theorem put_other (a : Nat → Nat) (i x k : Nat) (h : k ≠ i) : put a i x k = a k := by simp [put, h]

section
variable {key : Nat → Int} {a : Nat → Nat} {n i : Nat}

theorem Heap.mid (h : Heap key a n) (i : Nat) (hi : i < n) : Mid key a n i := by
  refine ⟨fun j h0 hj _ _ => h j h0 hj, fun j h0 hj hp hi0 => ?_⟩
  have h1 := h j h0 hj
  rw [hp] at h1
  exact le_trans (h i hi0 hi) h1
theorem Heap.up (h : Heap key a n) (i : Nat) (hi : i < n) : Up key a n i := ⟨fun j h0 hj _ => h j h0 hj, (h.mid i hi).2⟩
theorem Heap.down (h : Heap key a n) (i : Nat) (hi : i < n) : Down key a n i := ⟨fun j h0 hj _ => h j h0 hj, (h.mid i hi).2⟩
theorem Up.done (h : Up key a n i) (hd : i = 0 ∨ ¬ lt key (a i) (a ((i - 1) / 2))) : Heap key a n := by
  intro j h0 hj
  by_cases e : j = i
  · subst e
    rcases hd with hd | hd
    · omega
    · exact hd
  · exact h.1 j h0 hj e
theorem Down.done (h : Down key a n i) (hd : ∀ c, 0 < c → c < n → (c - 1) / 2 = i → ¬ lt key (a c) (a i)) : Heap key a n := by
  intro j h0 hj
  by_cases e : (j - 1) / 2 = i
  · rw [e]
    exact hd j h0 hj e
  · exact h.1 j h0 hj e
/-- It is ahead of the one above it: up. -/
theorem Mid.up (h : Mid key a n i) (h0 : 0 < i) (hl : lt key (a i) (a ((i - 1) / 2))) : Up key a n i := by
  refine ⟨fun j hj0 hj hne => ?_, h.2⟩
  by_cases e : (j - 1) / 2 = i
  · rw [e]
    exact le_of_lt hl (h.2 j hj0 hj e h0)
  · exact h.1 j hj0 hj hne e
/-- It is not: down. -/
theorem Mid.down (h : Mid key a n i) (hd : i = 0 ∨ ¬ lt key (a i) (a ((i - 1) / 2))) : Down key a n i := by
  refine ⟨fun j hj0 hj hne => ?_, h.2⟩
  by_cases e : j = i
  · subst e
    rcases hd with hd | hd
    · omega
    · exact hd
  · exact h.1 j hj0 hj e hne
theorem Up.mid (h : Up key a n i) : Mid key a n i := ⟨fun j h0 hj hne _ => h.1 j h0 hj hne, h.2⟩
theorem Mid.up_top (h : Mid key a n i) (hd : ∀ c, 0 < c → c < n → (c - 1) / 2 = i → ¬ lt key (a c) (a i)) : Up key a n i := by
  refine ⟨fun j hj0 hj hne => ?_, h.2⟩
  by_cases e : (j - 1) / 2 = i
  · rw [e]
    exact hd j hj0 hj e
  · exact h.1 j hj0 hj hne e
theorem Up.step (h : Up key a n i) (h0 : 0 < i) (hi : i < n) (hl : lt key (a i) (a ((i - 1) / 2))) : Up key (swap a i ((i - 1) / 2)) n ((i - 1) / 2) := by
  have hpi : (i - 1) / 2 < i := by omega
  refine ⟨fun j hj0 hj hne => ?_, fun j hj0 hj hp hp0 => ?_⟩
  · by_cases e : j = i
    · subst e
      rw [swap_left, swap_right]
      exact lt_asymm hl
    · rw [swap_other a _ _ j e hne]
      by_cases e2 : (j - 1) / 2 = i
      · rw [e2, swap_left]
        exact h.2 j hj0 hj e2 h0
      · by_cases e3 : (j - 1) / 2 = (i - 1) / 2
        · rw [e3, swap_right]
          have h1 := h.1 j hj0 hj e
          rw [e3] at h1
          exact le_of_lt hl h1
        · rw [swap_other a _ _ _ e2 e3]
          exact h.1 j hj0 hj e
  · have hgp : ((i - 1) / 2 - 1) / 2 ≠ i := by omega
    have hgp2 : ((i - 1) / 2 - 1) / 2 ≠ (i - 1) / 2 := by omega
    rw [swap_other a _ _ _ hgp hgp2]
    have hpar := h.1 ((i - 1) / 2) hp0 (by omega) (by omega)
    by_cases e : j = i
    · subst e
      rw [swap_left]
      exact hpar
    · rw [swap_other a _ _ j e (by omega)]
      have h1 := h.1 j hj0 hj e
      rw [hp] at h1
      exact le_trans hpar h1
theorem Down.step (h : Down key a n i) {c : Nat} (hc0 : 0 < c) (hc : c < n) (hp : (c - 1) / 2 = i) (hl : lt key (a c) (a i)) (hmin : ∀ d, 0 < d → d < n → (d - 1) / 2 = i → ¬ lt key (a d) (a c)) : Down key (swap a i c) n c := by
  have hic : i < c := by omega
  refine ⟨fun j hj0 hj hne => ?_, fun j hj0 hj hpj _ => ?_⟩
  · by_cases e : j = c
    · subst e
      rw [swap_right, hp, swap_left]
      exact lt_asymm hl
    · by_cases e2 : j = i
      · subst e2
        rw [swap_left, swap_other a _ _ _ (by omega) hne]
        exact h.2 c hc0 hc hp hj0
      · rw [swap_other a _ _ j e2 e]
        by_cases e3 : (j - 1) / 2 = i
        · rw [e3, swap_left]
          exact hmin j hj0 hj e3
        · rw [swap_other a _ _ _ e3 hne]
          exact h.1 j hj0 hj e3
  · rw [hp, swap_left, swap_other a _ _ j (by omega) (by omega)]
    have h1 := h.1 j hj0 hj (by omega)
    rw [hpj] at h1
    exact h1
/-- The first place has what comes first. -/
theorem Heap.first (h : Heap key a n) : ∀ j, j < n → ¬ lt key (a j) (a 0) := by
  intro j
  induction j using Nat.strongRecOn with
  | _ j ih =>
    intro hj
    by_cases e : j = 0
    · subst e
      exact lt_irrefl key _
    · exact le_trans (ih ((j - 1) / 2) (by omega) (by omega)) (h j (by omega) hj)
theorem Heap.less (h : Heap key a (n + 1)) : Heap key a n := fun j h0 hj => h j h0 (by omega)
theorem Heap.none (key : Nat → Int) (a : Nat → Nat) : Heap key a 0 := fun j _ hj => by omega
/-- One more at the end. -/
theorem Heap.more (h : Heap key a n) (x : Nat) : Up key (put a n x) (n + 1) n := by
  refine ⟨fun j h0 hj hne => ?_, fun j h0 hj hp _ => by omega⟩
  rw [put_other a _ _ _ hne, put_other a _ _ _ (by omega)]
  exact h j h0 (by omega)
/-- Another one's key at place i. -/
theorem Heap.turned (h : Heap key a n) (hi : i < n) {key' : Nat → Int} (hk : ∀ j, j < n → j ≠ i → key' (a j) = key (a j)) : Mid key' a n i := by
  have hm := h.mid i hi
  refine ⟨fun j h0 hj hne hp => ?_, fun j h0 hj hp hi0 => ?_⟩
  · rw [lt_congr (hk j hj hne) (hk _ (by omega) hp)]
    exact hm.1 j h0 hj hne hp
  · rw [lt_congr (hk j hj (by omega)) (hk _ (by omega) (by omega))]
    exact hm.2 j h0 hj hp hi0
/-- The last one instead of the one at place i. -/
theorem Heap.moved (h : Heap key a (n + 1)) (hi : i < n) : Mid key (put a i (a n)) n i := by
  have hm := h.mid i (by omega)
  refine ⟨fun j h0 hj hne hp => ?_, fun j h0 hj hp hi0 => ?_⟩
  · rw [put_other a _ _ _ hne, put_other a _ _ _ hp]
    exact hm.1 j h0 (by omega) hne hp
  · rw [put_other a _ _ j (by omega), put_other a _ _ _ (by omega)]
    exact hm.2 j h0 (by omega) hp hi0
theorem Heap.congr {a' : Nat → Nat} (h : Heap key a n) (e : ∀ j, j < n → a' j = a j) : Heap key a' n := by
  intro j h0 hj
  rw [e j hj, e _ (by omega)]
  exact h j h0 hj
theorem Mid.congr {a' : Nat → Nat} (h : Mid key a n i) (hi : i < n) (e : ∀ j, j < n → a' j = a j) : Mid key a' n i := by
  refine ⟨fun j h0 hj hne hp => ?_, fun j h0 hj hp hi0 => ?_⟩
  · rw [e j hj, e _ (by omega)]
    exact h.1 j h0 hj hne hp
  · rw [e j hj, e _ (by omega)]
    exact h.2 j h0 hj hp hi0
end
end Go.Proofs.Ythpfhimdgmckgaa.Hp
