/- Plain mathematics: one more in the tree; another key; one less. Nothing of the program. -/
import Derived.Test.YthpfhimdgmckgaaHeapInv
namespace Go.Proofs.Ythpfhimdgmckgaa
open Hp

section
variable {key : Nat → Int} {a : Nat → Nat} {n m i j : Nat} {k : Int} {e : Nat → Int × Nat} {p : Nat → Nat}
theorem upd_key (hn : ∀ l, l < m → a l ≠ i) : ∀ l, l < m → upd key i k (a l) = key (a l) := fun l hl => upd_other _ _ _ _ (hn l hl)
theorem Hol.more (h : Hol key a n m m e p) (hm : ¬ Mem a m i) (hi : i < n) : Hol (upd key i k) (put a m i) n (m + 1) (m + 1) (upd e m (k, i)) (upd p i (m + 1)) := by
  have hn : ∀ l, l < m → a l ≠ i := fun l hl e => hm ⟨l, hl, e⟩
  refine ⟨fun l hl _ => ?_, fun l hl => ?_, fun l r hl hr he => ?_, fun l hl _ => ?_, fun l hl hx => ?_⟩
  · by_cases e1 : l = m
    · subst e1; rw [upd_same, put_same, upd_same]
    · rw [upd_other _ _ _ _ e1, put_other _ _ _ _ e1, upd_key hn l (by omega)]; exact h.ent l (by omega) e1
  · by_cases e1 : l = m
    · subst e1; rw [put_same]; exact hi
    · rw [put_other _ _ _ _ e1]; exact h.low l (by omega)
  · by_cases e1 : l = m <;> by_cases e2 : r = m
    · omega
    · subst e1; rw [put_same, put_other _ _ _ _ e2] at he; exact absurd he.symm (hn r (by omega))
    · subst e2; rw [put_same, put_other _ _ _ _ e1] at he; exact absurd he (hn l (by omega))
    · rw [put_other _ _ _ _ e1, put_other _ _ _ _ e2] at he; exact h.inj l r (by omega) (by omega) he
  · by_cases e1 : l = m
    · subst e1; rw [put_same, upd_same]
    · rw [put_other _ _ _ _ e1, upd_other _ _ _ _ (hn l (by omega))]; exact h.pos l (by omega) e1
  · have h1 : l ≠ i := fun e1 => hx m (by omega) (by rw [put_same, e1])
    rw [upd_other _ _ _ _ h1]
    exact h.out l hl (fun r hr e1 => hx r (by omega) (by rw [put_other _ _ _ _ (by omega)]; exact e1))
theorem Heap.keyed (h : Heap key a m) (hn : ∀ l, l < m → a l ≠ i) : Heap (upd key i k) a m := by
  intro l h0 hl
  rw [lt_congr (upd_key hn l hl) (upd_key hn _ (by omega))]
  exact h l h0 hl
theorem Heap.more_mid (h : Heap key a m) (hm : ¬ Mem a m i) : Mid (upd key i k) (put a m i) (m + 1) m :=
  ((Heap.keyed (k := k) h (fun l hl e => hm ⟨l, hl, e⟩)).more i).mid
theorem mem_more (l : Nat) : Mem (put a m i) (m + 1) l ↔ Mem a m l ∨ l = i := by
  constructor
  · rintro ⟨r, hr, e1⟩
    by_cases e2 : r = m
    · subst e2; rw [put_same] at e1; exact .inr e1.symm
    · rw [put_other _ _ _ _ e2] at e1; exact .inl ⟨r, by omega, e1⟩
  · rintro (⟨r, hr, e1⟩ | rfl)
    · exact ⟨r, by omega, by rw [put_other _ _ _ _ (by omega)]; exact e1⟩
    · exact ⟨m, by omega, put_same _ _ _⟩
theorem Hol.turned (h : Hol key a n m m e p) (hj : j < m) (hi : a j = i) : Hol (upd key i k) a n m j e p := by
  refine ⟨fun l hl hne => ?_, h.low, h.inj, fun l hl _ => h.pos l hl (by omega), h.out⟩
  rw [upd_other _ _ _ _ (fun e1 => hne (h.inj l j hl hj (e1.trans hi.symm)))]
  exact h.ent l hl (by omega)
theorem Hol.turned_mid (h : Hol key a n m m e p) (ho : Heap key a m) (hj : j < m) (hi : a j = i) : Mid (upd key i k) a m j :=
  ho.turned hj (fun l hl hne => upd_other _ _ _ _ (fun e1 => hne (h.inj l j hl hj (e1.trans hi.symm))))
/-- The last one fills the gap. -/
theorem Hol.moved (h : Hol key a n (m + 1) (m + 1) e p) (hj : j < m) (hi : a j = i) : Hol key (put a j (a m)) n m j e (upd p i 0) := by
  have hne : ∀ l, l < m → l ≠ j → a l ≠ i := fun l hl hlj e1 => hlj (h.inj l j (by omega) (by omega) (e1.trans hi.symm))
  refine ⟨fun l hl hlj => ?_, fun l hl => ?_, fun l r hl hr he => ?_, fun l hl hlj => ?_, fun l hl hx => ?_⟩
  · rw [put_other _ _ _ _ hlj]; exact h.ent l (by omega) (by omega)
  · by_cases e1 : l = j
    · subst e1; rw [put_same]; exact h.low m (by omega)
    · rw [put_other _ _ _ _ e1]; exact h.low l (by omega)
  · by_cases e1 : l = j <;> by_cases e2 : r = j
    · omega
    · rw [e1, put_same, put_other _ _ _ _ e2] at he; have := h.inj m r (by omega) (by omega) he; omega
    · rw [e2, put_same, put_other _ _ _ _ e1] at he; have := h.inj l m (by omega) (by omega) he; omega
    · rw [put_other _ _ _ _ e1, put_other _ _ _ _ e2] at he; exact h.inj l r (by omega) (by omega) he
  · rw [put_other _ _ _ _ hlj, upd_other _ _ _ _ (hne l hl hlj)]; exact h.pos l (by omega) (by omega)
  · by_cases e1 : l = i
    · rw [e1, upd_same]
    · rw [upd_other _ _ _ _ e1]
      refine h.out l hl (fun r hr e2 => ?_)
      by_cases e3 : r = m
      · exact hx j hj (by rw [put_same, ← e3]; exact e2)
      · by_cases e4 : r = j
        · exact e1 (e2.symm.trans (by rw [e4]; exact hi))
        · exact hx r (by omega) (by rw [put_other _ _ _ _ e4]; exact e2)
theorem mem_moved (h : Hol key a n (m + 1) (m + 1) e p) (hj : j < m) (hi : a j = i) (l : Nat) : Mem (put a j (a m)) m l ↔ Mem a (m + 1) l ∧ l ≠ i := by
  constructor
  · rintro ⟨r, hr, e1⟩
    by_cases e2 : r = j
    · rw [e2, put_same] at e1
      exact ⟨⟨m, by omega, e1⟩, fun e3 => by have := h.inj m j (by omega) (by omega) (e1.trans (e3.trans hi.symm)); omega⟩
    · rw [put_other _ _ _ _ e2] at e1
      exact ⟨⟨r, by omega, e1⟩, fun e3 => e2 (h.inj r j (by omega) (by omega) (e1.trans (e3.trans hi.symm)))⟩
  · rintro ⟨⟨r, hr, e1⟩, hne⟩
    by_cases e3 : r = m
    · exact ⟨j, hj, by rw [put_same, ← e3]; exact e1⟩
    · refine ⟨r, by omega, ?_⟩
      rw [put_other _ _ _ _ (fun e4 => hne (by rw [← e1, e4, hi]))]
      exact e1
/-- The last one itself goes. -/
theorem Hol.less (h : Hol key a n (m + 1) (m + 1) e p) (hi : a m = i) : Hol key a n m m e (upd p i 0) := by
  have hne : ∀ l, l < m → a l ≠ i := fun l hl e1 => by have := h.inj l m (by omega) (by omega) (e1.trans hi.symm); omega
  refine ⟨fun l hl _ => h.ent l (by omega) (by omega), fun l hl => h.low l (by omega), fun l r hl hr => h.inj l r (by omega) (by omega), fun l hl _ => ?_, fun l hl hx => ?_⟩
  · rw [upd_other _ _ _ _ (hne l hl)]; exact h.pos l (by omega) (by omega)
  · by_cases e1 : l = i
    · rw [e1, upd_same]
    · rw [upd_other _ _ _ _ e1]
      refine h.out l hl (fun r hr e2 => ?_)
      by_cases e3 : r = m
      · exact e1 (by rw [← e2, e3, hi])
      · exact hx r (by omega) e2
theorem mem_less (h : Hol key a n (m + 1) (m + 1) e p) (hi : a m = i) (l : Nat) : Mem a m l ↔ Mem a (m + 1) l ∧ l ≠ i := by
  constructor
  · rintro ⟨r, hr, e1⟩
    exact ⟨⟨r, by omega, e1⟩, fun e3 => by have := h.inj r m (by omega) (by omega) (e1.trans (e3.trans hi.symm)); omega⟩
  · rintro ⟨⟨r, hr, e1⟩, hne⟩
    by_cases e3 : r = m
    · exact absurd (by rw [← e1, e3, hi]) hne
    · exact ⟨r, by omega, e1⟩
end
end Go.Proofs.Ythpfhimdgmckgaa
