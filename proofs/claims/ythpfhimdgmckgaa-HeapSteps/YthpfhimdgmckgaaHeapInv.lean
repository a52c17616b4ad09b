/- Plain mathematics: who stands where in the tree, and what the two lists say of it, but for one place. Nothing of the program. -/
import Derived.Test.YthpfhimdgmckgaaHeapMath
import Derived.Test.YthpfhimdgmckgaaHeapA
namespace Go.Proofs.Ythpfhimdgmckgaa
open Hp

/-- The lists e (entries) and p (spots) tell who stands where (a), but for place s. -/
structure Hol (key : Nat → Int) (a : Nat → Nat) (n m s : Nat) (e : Nat → Int × Nat) (p : Nat → Nat) : Prop where
  ent : ∀ j, j < m → j ≠ s → e j = (key (a j), a j)
  low : ∀ j, j < m → a j < n
  inj : ∀ i j, i < m → j < m → a i = a j → i = j
  pos : ∀ j, j < m → j ≠ s → p (a j) = j + 1
  out : ∀ i, i < n → (∀ j, j < m → a j ≠ i) → p i = 0
def Mem (a : Nat → Nat) (m i : Nat) : Prop := ∃ j, j < m ∧ a j = i

theorem upd_same {α : Type} (f : Nat → α) (i : Nat) (x : α) : upd f i x i = x := by simp [upd]
theorem upd_other {α : Type} (f : Nat → α) (i j : Nat) (x : α) (h : j ≠ i) : upd f i x j = f j := by simp [upd, h]

theorem Hol.move {key : Nat → Int} {a : Nat → Nat} {n m s t : Nat} {e : Nat → Int × Nat} {p : Nat → Nat} (h : Hol key a n m s e p) (hs : s < m) (ht : t < m) (hst : s ≠ t) :
    Hol key (swap a s t) n m t (upd e s (key (a t), a t)) (upd p (a t) (s + 1)) := by
  have hcase : ∀ j, (j = s ∧ swap a s t j = a t) ∨ (j = t ∧ swap a s t j = a s) ∨ (j ≠ s ∧ j ≠ t ∧ swap a s t j = a j) := by
    intro j
    by_cases h1 : j = s
    · subst h1; exact .inl ⟨rfl, swap_left _ _ _⟩
    · by_cases h2 : j = t
      · subst h2; exact .inr (.inl ⟨rfl, swap_right _ _ _⟩)
      · exact .inr (.inr ⟨h1, h2, swap_other _ _ _ _ h1 h2⟩)
  refine ⟨fun j hj hne => ?_, fun j hj => ?_, fun i j hi hj he => ?_, fun j hj hne => ?_, fun i hi hn => ?_⟩
  · rcases hcase j with ⟨rfl, e1⟩ | ⟨rfl, e1⟩ | ⟨h1, h2, e1⟩
    · rw [e1, upd_same]
    · exact absurd rfl hne
    · rw [e1, upd_other _ _ _ _ h1]; exact h.ent j hj h1
  · rcases hcase j with ⟨rfl, e1⟩ | ⟨rfl, e1⟩ | ⟨h1, h2, e1⟩ <;> rw [e1]
    · exact h.low t ht
    · exact h.low s hs
    · exact h.low j hj
  · rcases hcase i with ⟨i1, e1⟩ | ⟨i1, e1⟩ | ⟨h1, h2, e1⟩ <;> rcases hcase j with ⟨j1, e2⟩ | ⟨j1, e2⟩ | ⟨g1, g2, e2⟩ <;> rw [e1, e2] at he
    · omega
    · have := h.inj _ _ ht hs he; omega
    · have := h.inj _ _ ht hj he; omega
    · have := h.inj _ _ hs ht he; omega
    · omega
    · have := h.inj _ _ hs hj he; omega
    · have := h.inj _ _ hi ht he; omega
    · have := h.inj _ _ hi hs he; omega
    · exact h.inj _ _ hi hj he
  · rcases hcase j with ⟨rfl, e1⟩ | ⟨rfl, e1⟩ | ⟨h1, h2, e1⟩
    · rw [e1, upd_same]
    · exact absurd rfl hne
    · rw [e1, upd_other _ _ _ _ (fun e2 => h2 (h.inj _ _ hj ht e2))]; exact h.pos j hj h1
  · have h0 : ∀ j, j < m → a j ≠ i := by
      intro j hj e1
      rcases hcase j with ⟨rfl, e2⟩ | ⟨rfl, e2⟩ | ⟨h1, h2, e2⟩
      · exact hn t ht ((swap_right a j t).trans e1)
      · exact hn s hs ((swap_left a s j).trans e1)
      · exact hn j hj (e2.trans e1)
    rw [upd_other _ _ _ _ (fun e1 => h0 t ht e1.symm)]
    exact h.out i hi h0
theorem mem_swap {a : Nat → Nat} {m s t : Nat} (hs : s < m) (ht : t < m) (i : Nat) : Mem (swap a s t) m i ↔ Mem a m i := by
  constructor
  · rintro ⟨j, hj, e⟩
    by_cases h1 : j = s
    · subst h1; exact ⟨t, ht, by rw [← e, swap_left]⟩
    · by_cases h2 : j = t
      · subst h2; exact ⟨s, hs, by rw [← e, swap_right]⟩
      · exact ⟨j, hj, by rw [← e, swap_other _ _ _ _ h1 h2]⟩
  · rintro ⟨j, hj, e⟩
    by_cases h1 : j = s
    · subst h1; exact ⟨t, ht, by rw [← e, swap_right]⟩
    · by_cases h2 : j = t
      · subst h2; exact ⟨s, hs, by rw [← e, swap_left]⟩
      · exact ⟨j, hj, by rw [← e, swap_other _ _ _ _ h1 h2]⟩
theorem Hol.fill {key : Nat → Int} {a : Nat → Nat} {n m s : Nat} {e : Nat → Int × Nat} {p : Nat → Nat} (h : Hol key a n m s e p) (hs : s < m) : Hol key a n m m (upd e s (key (a s), a s)) (upd p (a s) (s + 1)) := by
  refine ⟨fun j hj _ => ?_, h.low, h.inj, fun j hj _ => ?_, fun i hi hn => ?_⟩
  · by_cases e1 : j = s
    · subst e1; exact upd_same _ _ _
    · rw [upd_other _ _ _ _ e1]; exact h.ent j hj e1
  · by_cases e1 : j = s
    · subst e1; exact upd_same _ _ _
    · rw [upd_other _ _ _ _ (fun e2 => e1 (h.inj _ _ hj hs e2))]; exact h.pos j hj e1
  · rw [upd_other _ _ _ _ (fun e1 => hn s hs e1.symm)]; exact h.out i hi hn
theorem Hol.hole {key : Nat → Int} {a : Nat → Nat} {n m : Nat} {e : Nat → Int × Nat} {p : Nat → Nat} (h : Hol key a n m m e p) (s : Nat) : Hol key a n m s e p :=
  ⟨fun j hj _ => h.ent j hj (by omega), h.low, h.inj, fun j hj _ => h.pos j hj (by omega), h.out⟩
theorem ahead_lt (key : Nat → Int) (x y : Nat) : ahead (key x) x (key y) y = decide (lt key x y) := by unfold ahead lt; rfl
end Go.Proofs.Ythpfhimdgmckgaa
