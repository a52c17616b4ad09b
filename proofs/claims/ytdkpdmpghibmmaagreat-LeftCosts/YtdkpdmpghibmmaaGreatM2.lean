import Derived.WalkKit
import Derived.Test.YtdkpdmpghibmmaaGreatProg
import Derived.Test.YtdkpdmpghibmmaaGreatM1
import Derived.Lib.Hide
import Derived.StillTailTactics
import Derived.BigQuiet
import Derived.Deep.QuietTactic
import Derived.Deep.Quiet
import Derived.Deep.RegionHeld3
import Derived.WalkMore
import Derived.Maps.AppendAt
/- Plain mathematics of a binary heap: who stands where, ordered by key and then by number; going up, going down; what comes first. Nothing of the program. -/
namespace Go.Proofs.YtdkpdmpghibmmaaGreat.Hp

/-- x comes ahead of y: a lesser key, or the same and a lesser number. -/
def lt (key : Nat → Int) (x y : Nat) : Prop := key x < key y ∨ (key x = key y ∧ x < y)
instance (key : Nat → Int) (x y : Nat) : Decidable (lt key x y) := by unfold lt; infer_instance
theorem lt_irrefl (key : Nat → Int) (x : Nat) : ¬ lt key x x := by unfold lt; omega
theorem lt_asymm {key : Nat → Int} {x y : Nat} (h : lt key x y) : ¬ lt key y x := by unfold lt at *; omega
theorem lt_trans {key : Nat → Int} {x y z : Nat} (h : lt key x y) (h' : lt key y z) : lt key x z := by unfold lt at *; omega
theorem le_trans {key : Nat → Int} {x y z : Nat} (h : ¬ lt key y x) (h' : ¬ lt key z y) : ¬ lt key z x := by unfold lt at *; omega
theorem le_of_lt {key : Nat → Int} {x y z : Nat} (h : lt key x y) (h' : ¬ lt key z y) : ¬ lt key z x := by unfold lt at *; omega
theorem eq_of {key : Nat → Int} {x y : Nat} (h : ¬ lt key x y) (h' : ¬ lt key y x) : x = y := by unfold lt at *; omega
theorem lt_congr {key key' : Nat → Int} {x y : Nat} (hx : key' x = key x) (hy : key' y = key y) : lt key' x y ↔ lt key x y := by unfold lt; rw [hx, hy]

/-- Who stands at which place: a; how many: n; the place above i is (i - 1) / 2. -/
def Heap (key : Nat → Int) (a : Nat → Nat) (n : Nat) : Prop := ∀ j, 0 < j → j < n → ¬ lt key (a j) (a ((j - 1) / 2))
/-- All is in order but at place i, whose neighbours are in order around it. -/
def Mid (key : Nat → Int) (a : Nat → Nat) (n i : Nat) : Prop :=
  (∀ j, 0 < j → j < n → j ≠ i → (j - 1) / 2 ≠ i → ¬ lt key (a j) (a ((j - 1) / 2))) ∧ (∀ j, 0 < j → j < n → (j - 1) / 2 = i → 0 < i → ¬ lt key (a j) (a ((i - 1) / 2)))
/-- .. and it is not behind those below it. -/
def Up (key : Nat → Int) (a : Nat → Nat) (n i : Nat) : Prop :=
  (∀ j, 0 < j → j < n → j ≠ i → ¬ lt key (a j) (a ((j - 1) / 2))) ∧ (∀ j, 0 < j → j < n → (j - 1) / 2 = i → 0 < i → ¬ lt key (a j) (a ((i - 1) / 2)))
/-- .. and it is not ahead of the one above it. -/
def Down (key : Nat → Int) (a : Nat → Nat) (n i : Nat) : Prop :=
  (∀ j, 0 < j → j < n → (j - 1) / 2 ≠ i → ¬ lt key (a j) (a ((j - 1) / 2))) ∧ (∀ j, 0 < j → j < n → (j - 1) / 2 = i → 0 < i → ¬ lt key (a j) (a ((i - 1) / 2)))
def swap (a : Nat → Nat) (i j : Nat) : Nat → Nat := fun k => if k = i then a j else if k = j then a i else a k
def put (a : Nat → Nat) (i x : Nat) : Nat → Nat := fun k => if k = i then x else a k
theorem swap_left (a : Nat → Nat) (i j : Nat) : swap a i j i = a j := by simp [swap]
theorem swap_right (a : Nat → Nat) (i j : Nat) : swap a i j j = a i := by unfold swap; split <;> simp_all
theorem swap_other (a : Nat → Nat) (i j k : Nat) (h : k ≠ i) (h' : k ≠ j) : swap a i j k = a k := by simp [swap, h, h']
theorem put_same (a : Nat → Nat) (i x : Nat) : put a i x i = x := by simp [put]
theorem put_other (a : Nat → Nat) (i x k : Nat) (h : k ≠ i) : put a i x k = a k := by simp [put, h]

section
variable {key : Nat → Int} {a : Nat → Nat} {n i : Nat}

theorem Heap.mid (h : Heap key a n) (i : Nat) (hi : i < n) : Mid key a n i := by
  refine ⟨fun j h0 hj _ _ => h j h0 hj, fun j h0 hj hp hi0 => ?_⟩
  have h1 := h j h0 hj
  rw [hp] at h1
  exact le_trans (h i hi0 hi) h1
theorem Heap.up (h : Heap key a n) (i : Nat) (hi : i < n) : Up key a n i := ⟨fun j h0 hj _ => h j h0 hj, (h.mid i hi).2⟩
theorem Heap.down (h : Heap key a n) (i : Nat) (hi : i < n) : Down key a n i := ⟨fun j h0 hj _ => h j h0 hj, (h.mid i hi).2⟩
theorem Up.done (h : Up key a n i) (hd : i = 0 ∨ ¬ lt key (a i) (a ((i - 1) / 2))) : Heap key a n := by
  intro j h0 hj
  by_cases e : j = i
  · subst e
    rcases hd with hd | hd
    · omega
    · exact hd
  · exact h.1 j h0 hj e
theorem Down.done (h : Down key a n i) (hd : ∀ c, 0 < c → c < n → (c - 1) / 2 = i → ¬ lt key (a c) (a i)) : Heap key a n := by
  intro j h0 hj
  by_cases e : (j - 1) / 2 = i
  · rw [e]
    exact hd j h0 hj e
  · exact h.1 j h0 hj e
/-- It is ahead of the one above it: up. -/
theorem Mid.up (h : Mid key a n i) (h0 : 0 < i) (hl : lt key (a i) (a ((i - 1) / 2))) : Up key a n i := by
  refine ⟨fun j hj0 hj hne => ?_, h.2⟩
  by_cases e : (j - 1) / 2 = i
  · rw [e]
    exact le_of_lt hl (h.2 j hj0 hj e h0)
  · exact h.1 j hj0 hj hne e
/-- It is not: down. -/
theorem Mid.down (h : Mid key a n i) (hd : i = 0 ∨ ¬ lt key (a i) (a ((i - 1) / 2))) : Down key a n i := by
  refine ⟨fun j hj0 hj hne => ?_, h.2⟩
  by_cases e : j = i
  · subst e
    rcases hd with hd | hd
    · omega
    · exact hd
  · exact h.1 j hj0 hj e hne
theorem Up.mid (h : Up key a n i) : Mid key a n i := ⟨fun j h0 hj hne _ => h.1 j h0 hj hne, h.2⟩
theorem Mid.up_top (h : Mid key a n i) (hd : ∀ c, 0 < c → c < n → (c - 1) / 2 = i → ¬ lt key (a c) (a i)) : Up key a n i := by
  refine ⟨fun j hj0 hj hne => ?_, h.2⟩
  by_cases e : (j - 1) / 2 = i
  · rw [e]
    exact hd j hj0 hj e
  · exact h.1 j hj0 hj hne e
theorem Up.step (h : Up key a n i) (h0 : 0 < i) (hi : i < n) (hl : lt key (a i) (a ((i - 1) / 2))) : Up key (swap a i ((i - 1) / 2)) n ((i - 1) / 2) := by
  have hpi : (i - 1) / 2 < i := by omega
  refine ⟨fun j hj0 hj hne => ?_, fun j hj0 hj hp hp0 => ?_⟩
  · by_cases e : j = i
    · subst e
      rw [swap_left, swap_right]
      exact lt_asymm hl
    · rw [swap_other a _ _ j e hne]
      by_cases e2 : (j - 1) / 2 = i
      · rw [e2, swap_left]
        exact h.2 j hj0 hj e2 h0
      · by_cases e3 : (j - 1) / 2 = (i - 1) / 2
        · rw [e3, swap_right]
          have h1 := h.1 j hj0 hj e
          rw [e3] at h1
          exact le_of_lt hl h1
        · rw [swap_other a _ _ _ e2 e3]
          exact h.1 j hj0 hj e
  · have hgp : ((i - 1) / 2 - 1) / 2 ≠ i := by omega
    have hgp2 : ((i - 1) / 2 - 1) / 2 ≠ (i - 1) / 2 := by omega
    rw [swap_other a _ _ _ hgp hgp2]
    have hpar := h.1 ((i - 1) / 2) hp0 (by omega) (by omega)
    by_cases e : j = i
    · subst e
      rw [swap_left]
      exact hpar
    · rw [swap_other a _ _ j e (by omega)]
      have h1 := h.1 j hj0 hj e
      rw [hp] at h1
      exact le_trans hpar h1
theorem Down.step (h : Down key a n i) {c : Nat} (hc0 : 0 < c) (hc : c < n) (hp : (c - 1) / 2 = i) (hl : lt key (a c) (a i)) (hmin : ∀ d, 0 < d → d < n → (d - 1) / 2 = i → ¬ lt key (a d) (a c)) : Down key (swap a i c) n c := by
  have hic : i < c := by omega
  refine ⟨fun j hj0 hj hne => ?_, fun j hj0 hj hpj _ => ?_⟩
  · by_cases e : j = c
    · subst e
      rw [swap_right, hp, swap_left]
      exact lt_asymm hl
    · by_cases e2 : j = i
      · subst e2
        rw [swap_left, swap_other a _ _ _ (by omega) hne]
        exact h.2 c hc0 hc hp hj0
      · rw [swap_other a _ _ j e2 e]
        by_cases e3 : (j - 1) / 2 = i
        · rw [e3, swap_left]
          exact hmin j hj0 hj e3
        · rw [swap_other a _ _ _ e3 hne]
          exact h.1 j hj0 hj e3
  · rw [hp, swap_left, swap_other a _ _ j (by omega) (by omega)]
    have h1 := h.1 j hj0 hj (by omega)
    rw [hpj] at h1
    exact h1
/-- The first place has what comes first. -/
theorem Heap.first (h : Heap key a n) : ∀ j, j < n → ¬ lt key (a j) (a 0) := by
  intro j
  induction j using Nat.strongRecOn with
  | _ j ih =>
    intro hj
    by_cases e : j = 0
    · subst e
      exact lt_irrefl key _
    · exact le_trans (ih ((j - 1) / 2) (by omega) (by omega)) (h j (by omega) hj)
theorem Heap.less (h : Heap key a (n + 1)) : Heap key a n := fun j h0 hj => h j h0 (by omega)
theorem Heap.none (key : Nat → Int) (a : Nat → Nat) : Heap key a 0 := fun j _ hj => by omega
/-- One more at the end. -/
theorem Heap.more (h : Heap key a n) (x : Nat) : Up key (put a n x) (n + 1) n := by
  refine ⟨fun j h0 hj hne => ?_, fun j h0 hj hp _ => by omega⟩
  rw [put_other a _ _ _ hne, put_other a _ _ _ (by omega)]
  exact h j h0 (by omega)
/-- Another one's key at place i. -/
theorem Heap.turned (h : Heap key a n) (hi : i < n) {key' : Nat → Int} (hk : ∀ j, j < n → j ≠ i → key' (a j) = key (a j)) : Mid key' a n i := by
  have hm := h.mid i hi
  refine ⟨fun j h0 hj hne hp => ?_, fun j h0 hj hp hi0 => ?_⟩
  · rw [lt_congr (hk j hj hne) (hk _ (by omega) hp)]
    exact hm.1 j h0 hj hne hp
  · rw [lt_congr (hk j hj (by omega)) (hk _ (by omega) (by omega))]
    exact hm.2 j h0 hj hp hi0
/-- The last one instead of the one at place i. -/
theorem Heap.moved (h : Heap key a (n + 1)) (hi : i < n) : Mid key (put a i (a n)) n i := by
  have hm := h.mid i (by omega)
  refine ⟨fun j h0 hj hne hp => ?_, fun j h0 hj hp hi0 => ?_⟩
  · rw [put_other a _ _ _ hne, put_other a _ _ _ hp]
    exact hm.1 j h0 (by omega) hne hp
  · rw [put_other a _ _ j (by omega), put_other a _ _ _ (by omega)]
    exact hm.2 j h0 (by omega) hp hi0
theorem Heap.congr {a' : Nat → Nat} (h : Heap key a n) (e : ∀ j, j < n → a' j = a j) : Heap key a' n := by
  intro j h0 hj
  rw [e j hj, e _ (by omega)]
  exact h j h0 hj
theorem Mid.congr {a' : Nat → Nat} (h : Mid key a n i) (hi : i < n) (e : ∀ j, j < n → a' j = a j) : Mid key a' n i := by
  refine ⟨fun j h0 hj hne hp => ?_, fun j h0 hj hp hi0 => ?_⟩
  · rw [e j hj, e _ (by omega)]
    exact h.1 j h0 hj hne hp
  · rw [e j hj, e _ (by omega)]
    exact h.2 j h0 hj hp hi0
end
end Go.Proofs.YtdkpdmpghibmmaaGreat.Hp

/- Walks: the heap's small functions: before, knows, size. What lies in memory: the tree and the spots. -/
namespace Go.Proofs.YtdkpdmpghibmmaaGreat.Hp
open Go.RowKit

/-- The cells of an entry. -/
abbrev ent (k : Int) (i : Nat) : Value := .agg #[.int .i64 k, .int .i64 i]

def ahead (k : Int) (i : Nat) (k' : Int) (i' : Nat) : Bool := decide (k < k' ∨ (k = k' ∧ i < i'))

theorem before_any (k k' : Int) (i i' : Nat) (w : World) :
    Calls Tryz.prog 176 #[ent k i, ent k' i'] w fun e w' => e = .returned (.bool (ahead k i k' i')) ∧ Below w.heap.size w w' := by
  have hb : Below w.heap.size w ((w.alloc (.cells #[.int .i64 k, .int .i64 i] 182)).alloc (.cells #[.int .i64 k', .int .i64 i'] 182)) := ((Below.refl w.heap.size w).alloc (Nat.le_refl _) _).alloc (by simp) _
  have HB := Lib.hid hb
  clear hb
  rcases Int.lt_trichotomy k k' with h | h | h
  · have e : ahead k i k' i' = true := decide_eq_true (.inl h)
    rw [e]
    have hd : decide (k < k') = true := decide_eq_true h
    go_enter Tryz.func176, Tryz.ntmps176
    go_wp2
    go_ret
    exact ⟨rfl, HB.out⟩
  · subst h
    by_cases h2 : i < i'
    · have e : ahead k i k i' = true := decide_eq_true (.inr ⟨rfl, h2⟩)
      rw [e]
      have h3 : (i : Int) < (i' : Int) := by omega
      go_enter Tryz.func176, Tryz.ntmps176
      go_wp2
      go_ret
      exact ⟨rfl, HB.out⟩
    · have e : ahead k i k i' = false := decide_eq_false (by omega)
      rw [e]
      have h3 : ¬ (i : Int) < (i' : Int) := by omega
      go_enter Tryz.func176, Tryz.ntmps176
      go_wp2
      go_ret
      exact ⟨rfl, HB.out⟩
  · have e : ahead k i k' i' = false := decide_eq_false (by omega)
    rw [e]
    have hd : decide (k < k') = false := decide_eq_false (by omega)
    have hd2 : (k == k') = false := by simp; omega
    go_enter Tryz.func176, Tryz.ntmps176
    go_wp2
    go_ret
    exact ⟨rfl, HB.out⟩

/-- The tree's list: block tb holds (room for c) m entries. -/
def Tree (w : World) (tb c m : Nat) (e : Nat → Int × Nat) : Prop :=
  ∃ cs, Row w tb 182 cs ∧ cs.size = c * 2 ∧ m ≤ c ∧ c ≤ maxLen ∧ ∀ j, j < m → cs[j * 2]? = some (.int .i64 (e j).1) ∧ cs[j * 2 + 1]? = some (.int .i64 (e j).2)
/-- The spots: block sb holds n numbers. -/
def Spots (w : World) (sb n : Nat) (p : Nat → Nat) : Prop :=
  ∃ cs, Row w sb 3 cs ∧ cs.size = n ∧ ∀ i, i < n → cs[i]? = some (.int .i64 (p i))
/-- The queue in block g. -/
def Qs (w : World) (g tb sb c m n : Nat) (e : Nat → Int × Nat) (p : Nat → Nat) : Prop :=
  Row w g 179 #[.slice (some ⟨tb, 0, none⟩) m c, .slice (some ⟨sb, 0, none⟩) n n] ∧ Tree w tb c m e ∧ Spots w sb n p ∧ g ≠ tb ∧ g ≠ sb ∧ tb ≠ sb ∧ n ≤ 16777216 ∧ m ≤ n

def upd {α : Type} (f : Nat → α) (i : Nat) (x : α) : Nat → α := fun j => if j = i then x else f j

theorem Tree.put {w : World} {tb c m j : Nat} {e : Nat → Int × Nat} (h : Tree w tb c m e) (hj : j < m) (k : Int) (i : Nat) :
    Tree ((w.setCell ⟨tb, j * 2, none⟩ (.int .i64 k)).setCell ⟨tb, j * 2 + 1, none⟩ (.int .i64 i)) tb c m (upd e j (k, i)) := by
  obtain ⟨cs, hr, hs, hm, hx, hc⟩ := h
  refine ⟨_, (hr.put _ _).put _ _, by simpa using hs, hm, hx, fun l hl => ?_⟩
  simp only [Array.getElem?_setIfInBounds, Array.size_setIfInBounds]
  obtain ⟨h1, h2⟩ := hc l hl
  by_cases e1 : l = j
  · subst e1
    simp [upd]
    omega
  · simp only [upd, if_neg e1]
    rw [if_neg (by omega), if_neg (by omega), if_neg (by omega), if_neg (by omega)]
    exact ⟨h1, h2⟩
theorem Spots.put {w : World} {sb n i : Nat} {p : Nat → Nat} (h : Spots w sb n p) (x : Nat) : Spots (w.setCell ⟨sb, i, none⟩ (.int .i64 x)) sb n (upd p i x) := by
  obtain ⟨cs, hr, hs, hc⟩ := h
  refine ⟨_, hr.put _ _, by simpa using hs, fun l hl => ?_⟩
  rw [Array.getElem?_setIfInBounds]
  by_cases e1 : i = l
  · subst e1
    simp [upd]
    omega
  · rw [if_neg e1, hc l hl]
    simp only [upd]
    rw [if_neg (by omega)]
theorem Tree.only {S : Nat → Prop} {w w' : World} {tb c m : Nat} {e : Nat → Int × Nat} (h : Tree w tb c m e) (ho : Only S w w') (hs : ¬ S tb) : Tree w' tb c m e := by
  obtain ⟨cs, hr, h⟩ := h
  exact ⟨cs, hr.only ho hs, h⟩
theorem Spots.only {S : Nat → Prop} {w w' : World} {sb n : Nat} {p : Nat → Nat} (h : Spots w sb n p) (ho : Only S w w') (hs : ¬ S sb) : Spots w' sb n p := by
  obtain ⟨cs, hr, h⟩ := h
  exact ⟨cs, hr.only ho hs, h⟩
theorem Qs.only {S : Nat → Prop} {w w' : World} {g tb sb c m n : Nat} {e : Nat → Int × Nat} {p : Nat → Nat} (h : Qs w g tb sb c m n e p) (ho : Only S w w') (h1 : ¬ S g) (h2 : ¬ S tb) (h3 : ¬ S sb) : Qs w' g tb sb c m n e p :=
  ⟨h.1.only ho h1, h.2.1.only ho h2, h.2.2.1.only ho h3, h.2.2.2⟩
theorem Tree.cell {w : World} {tb c m j : Nat} {e : Nat → Int × Nat} (h : Tree w tb c m e) (hj : j < m) : w.cell? ⟨tb, j * 2, none⟩ = some (.int .i64 (e j).1) ∧ w.cell? ⟨tb, j * 2 + 1, none⟩ = some (.int .i64 (e j).2) ∧ tb < w.heap.size ∧ w.frozen? ⟨tb, j * 2, none⟩ = false ∧ w.frozen? ⟨tb, j * 2 + 1, none⟩ = false := by
  obtain ⟨cs, hr, _, _, _, hc⟩ := h
  exact ⟨(hr.cell _).trans (hc j hj).1, (hr.cell _).trans (hc j hj).2, hr.lt, hr.thaw _, hr.thaw _⟩
theorem Spots.cell {w : World} {sb n i : Nat} {p : Nat → Nat} (h : Spots w sb n p) (hi : i < n) : w.cell? ⟨sb, i, none⟩ = some (.int .i64 (p i)) ∧ sb < w.heap.size ∧ w.frozen? ⟨sb, i, none⟩ = false := by
  obtain ⟨cs, hr, _, hc⟩ := h
  exact ⟨(hr.cell _).trans (hc i hi), hr.lt, hr.thaw _⟩
theorem Qs.lts {w : World} {g tb sb c m n : Nat} {e : Nat → Int × Nat} {p : Nat → Nat} (h : Qs w g tb sb c m n e p) : g < w.heap.size ∧ tb < w.heap.size ∧ sb < w.heap.size := by
  obtain ⟨h1, ⟨_, h2, _⟩, ⟨_, h3, _⟩, _⟩ := h
  exact ⟨h1.lt, h2.lt, h3.lt⟩

theorem knows_in (g sb n i : Nat) (tv : Value) (w : World) (h : Row w g 179 #[tv, .slice (some ⟨sb, 0, none⟩) n n]) (hi : i < n) :
    Calls Tryz.prog 120 #[ptr g, .int .i64 i] w fun e w' => e = .returned (.bool true) ∧ w' = w := by
  have k1 : w.cell? ⟨g, 1, none⟩ = some (.slice (some ⟨sb, 0, none⟩) n n) := h.cell 1
  have hi' : (i : Int) < (n : Int) := by omega
  clear h
  go_enter Tryz.func120, Tryz.ntmps120
  go_wp2
  go_ret
  exact ⟨rfl, rfl⟩
theorem knows_out (g sb n : Nat) (z : Int) (tv : Value) (w : World) (h : Row w g 179 #[tv, .slice (some ⟨sb, 0, none⟩) n n]) (hz : z < 0 ∨ (n : Int) ≤ z) :
    Calls Tryz.prog 120 #[ptr g, .int .i64 z] w fun e w' => e = .returned (.bool false) ∧ w' = w := by
  have k1 : w.cell? ⟨g, 1, none⟩ = some (.slice (some ⟨sb, 0, none⟩) n n) := h.cell 1
  clear h
  by_cases h0 : z < 0
  · clear hz
    go_enter Tryz.func120, Tryz.ntmps120
    go_wp2
    go_ret
    exact ⟨rfl, rfl⟩
  · have h1 : ¬ z < (n : Int) := by omega
    have h2 : (0 : Int) ≤ z := by omega
    clear hz h0
    go_enter Tryz.func120, Tryz.ntmps120
    go_wp2
    go_ret
    exact ⟨rfl, rfl⟩
theorem size_any (g m c : Nat) (a : Option Addr) (sv : Value) (w : World) (h : Row w g 179 #[.slice a m c, sv]) :
    Calls Tryz.prog 140 #[ptr g] w fun e w' => e = .returned (.int .i64 m) ∧ w' = w := by
  have k1 : w.cell? ⟨g, 0, none⟩ = some (.slice a m c) := h.cell 0
  clear h
  go_enter Tryz.func140, Tryz.ntmps140
  go_wp2
  go_ret
  exact ⟨rfl, rfl⟩
theorem holds_out (g sb n : Nat) (z : Int) (tv : Value) (w : World) (h : Row w g 179 #[tv, .slice (some ⟨sb, 0, none⟩) n n]) (hz : z < 0 ∨ (n : Int) ≤ z) :
    Calls Tryz.prog 137 #[ptr g, .int .i64 z] w fun e w' => e = .returned (.bool false) ∧ w' = w := by
  have HC := Lib.hid (knows_out g sb n z tv w h hz)
  clear h hz
  go_enter Tryz.func137, Tryz.ntmps137
  go_wp2_with fail
  refine HC.out.mono ?_
  rintro e w1 ⟨rfl, rfl⟩
  go_wp2
  go_ret
  exact ⟨rfl, rfl⟩
theorem holds_yes (g sb n i j : Nat) (tv : Value) (p : Nat → Nat) (w : World) (h : Row w g 179 #[tv, .slice (some ⟨sb, 0, none⟩) n n]) (hs : Spots w sb n p) (hi : i < n) (hp : p i = j + 1) :
    Calls Tryz.prog 137 #[ptr g, .int .i64 i] w fun e w' => e = .returned (.bool true) ∧ w' = w := by
  have HC := Lib.hid (knows_in g sb n i tv w h hi)
  have k1 : w.cell? ⟨g, 1, none⟩ = some (.slice (some ⟨sb, 0, none⟩) n n) := h.cell 1
  obtain ⟨k2, hl, hf⟩ := hs.cell hi
  rw [hp] at k2
  have hi' : (i : Int) < (n : Int) := by omega
  have hne : (((j + 1 : Nat) : Int) != 0) = true := by simp; omega
  have hne2 : (((j : Int) + 1) != 0) = true := by simp; omega
  clear h hs hp
  go_enter Tryz.func137, Tryz.ntmps137
  go_wp2_with fail
  refine HC.out.mono ?_
  rintro e w1 ⟨rfl, rfl⟩
  go_wp2
  go_ret
  exact ⟨rfl, rfl⟩
theorem holds_no (g sb n i : Nat) (tv : Value) (p : Nat → Nat) (w : World) (h : Row w g 179 #[tv, .slice (some ⟨sb, 0, none⟩) n n]) (hs : Spots w sb n p) (hi : i < n) (hp : p i = 0) :
    Calls Tryz.prog 137 #[ptr g, .int .i64 i] w fun e w' => e = .returned (.bool false) ∧ w' = w := by
  have HC := Lib.hid (knows_in g sb n i tv w h hi)
  have k1 : w.cell? ⟨g, 1, none⟩ = some (.slice (some ⟨sb, 0, none⟩) n n) := h.cell 1
  obtain ⟨k2, hl, hf⟩ := hs.cell hi
  rw [hp] at k2
  have hi' : (i : Int) < (n : Int) := by omega
  clear h hs hp
  go_enter Tryz.func137, Tryz.ntmps137
  go_wp2_with fail
  refine HC.out.mono ?_
  rintro e w1 ⟨rfl, rfl⟩
  go_wp2
  go_ret
  exact ⟨rfl, rfl⟩
theorem spot_in (g sb n i : Nat) (tv : Value) (p : Nat → Nat) (w : World) (h : Row w g 179 #[tv, .slice (some ⟨sb, 0, none⟩) n n]) (hs : Spots w sb n p) (hi : i < n) (j : Nat) (hp : p i = j + 1) (hj : j ≤ 16777216) :
    Calls Tryz.prog 139 #[ptr g, .int .i64 i] w fun e w' => e = .returned (.int .i64 j) ∧ w' = w := by
  have k1 : w.cell? ⟨g, 1, none⟩ = some (.slice (some ⟨sb, 0, none⟩) n n) := h.cell 1
  obtain ⟨k2, hl, hf⟩ := hs.cell hi
  rw [hp] at k2
  have hi' : (i : Int) < (n : Int) := by omega
  have hw : wrap64 (j : Int) = (j : Int) := by unfold wrap64; omega
  clear h hs
  go_enter Tryz.func139, Tryz.ntmps139
  go_wp2
  go_ret
  exact ⟨rfl, rfl⟩
theorem at_in (g tb c m j : Nat) (sv : Value) (e : Nat → Int × Nat) (w : World) (h : Row w g 179 #[.slice (some ⟨tb, 0, none⟩) m c, sv]) (hs : Tree w tb c m e) (hj : j < m) :
    Calls Tryz.prog 141 #[ptr g, .int .i64 j] w fun e' w' => e' = .returned (ent (e j).1 (e j).2) ∧ Below w.heap.size w w' := by
  have k1 : w.cell? ⟨g, 0, none⟩ = some (.slice (some ⟨tb, 0, none⟩) m c) := h.cell 0
  obtain ⟨k2, k3, hl, hf, hf'⟩ := hs.cell hj
  have hj' : (j : Int) < (m : Int) := by omega
  have hgl := h.lt
  clear h hs
  generalize (e j).1 = k at *
  generalize (e j).2 = i at *
  go_enter Tryz.func141, Tryz.ntmps141
  go_wp2
  exact bodyPost_ret (v := ent k i) (by simp [results, Tryz.results141, go_sem]) rfl ⟨rfl, (Below.refl _ _).alloc (Nat.le_refl _) _⟩
end Go.Proofs.YtdkpdmpghibmmaaGreat.Hp

/- Walks: the heap's lay. -/
namespace Go.Proofs.YtdkpdmpghibmmaaGreat.Hp
open Go.RowKit

theorem Tree.past {w : World} {tb c m : Nat} {e : Nat → Int × Nat} (h : Tree w tb c m e) (o : Obj) : Tree (w.alloc o) tb c m e := by
  obtain ⟨cs, hr, h⟩ := h
  exact ⟨cs, hr.past o, h⟩
theorem Spots.past {w : World} {sb n : Nat} {p : Nat → Nat} (h : Spots w sb n p) (o : Obj) : Spots (w.alloc o) sb n p := by
  obtain ⟨cs, hr, h⟩ := h
  exact ⟨cs, hr.past o, h⟩
theorem Tree.away {w : World} {tb c m : Nat} {e : Nat → Int × Nat} (h : Tree w tb c m e) {a : Addr} (ha : tb ≠ a.block) (v : Value) : Tree (w.setCell a v) tb c m e := by
  obtain ⟨cs, hr, h⟩ := h
  exact ⟨cs, hr.away ha v, h⟩
theorem Spots.away {w : World} {sb n : Nat} {p : Nat → Nat} (h : Spots w sb n p) {a : Addr} (ha : sb ≠ a.block) (v : Value) : Spots (w.setCell a v) sb n p := by
  obtain ⟨cs, hr, h⟩ := h
  exact ⟨cs, hr.away ha v, h⟩
theorem Tree.drew {w : World} {tb c m : Nat} {e : Nat → Int × Nat} (h : Tree w tb c m e) : Tree w.drew tb c m e := h
theorem Spots.drew {w : World} {sb n : Nat} {p : Nat → Nat} (h : Spots w sb n p) : Spots w.drew sb n p := h

/-- A statement of open order whose last operations come last in any order. -/
theorem region_tail {P : Program} {id : Nat} {Q : Exit → Act → World → Prop} {a : Act} {w : World} {l : List Oper} (n : Nat) (hm : P.follows .mixedOrders = true) (hB : Region.lexTailB .any l.toArray n = true)
    (h : wpStill P l.toArray w.drew (fun a' => wpList P l.toArray Q (l.drop n) a' w.drew) (l.take n) a) : (Code.region id l.toArray true).wp P Q a w := wp_region_still_tail n hm hB h

set_option maxRecDepth 100000 in
theorem lay_any (g tb sb c m n j i : Nat) (k : Int) (e : Nat → Int × Nat) (p : Nat → Nat) (w : World) (h : Qs w g tb sb c m n e p) (hj : j < m) (hi : i < n) :
    Calls Tryz.prog 167 #[ptr g, .int .i64 j, ent k i] w fun e' w' => e' = .returned (.tuple #[]) ∧ Qs w' g tb sb c m n (upd e j (k, i)) (upd p i (j + 1)) ∧ Only (fun x => x = tb ∨ x = sb) w w' := by
  obtain ⟨hr, ht, hs, h1, h2, h3, hn, hmn⟩ := h
  have k0 : w.cell? ⟨g, 0, none⟩ = some (.slice (some ⟨tb, 0, none⟩) m c) := hr.cell 0
  have k1 : w.cell? ⟨g, 1, none⟩ = some (.slice (some ⟨sb, 0, none⟩) n n) := hr.cell 1
  have hg := hr.lt
  obtain ⟨t0, t1, htl, tf0, tf1⟩ := ht.cell hj
  obtain ⟨s0, hsl, sf0⟩ := hs.cell hi
  have hj' : (j : Int) < (m : Int) := by omega
  have hi' : (i : Int) < (n : Int) := by omega
  have hw : IntKind.i64.wrap ((j : Int) + 1) = ((j + 1 : Nat) : Int) := by rw [IntKind.wrap_i64]; omega
  have HR := Lib.hid hr
  have HT := Lib.hid ht
  have HS := Lib.hid hs
  have HM := Lib.hid (And.intro h1 (And.intro h2 (And.intro h3 (And.intro hn hmn))))
  clear hr ht hs
  go_enter Tryz.func167, Tryz.ntmps167
  go_wp2
  refine region_tail 7 (by kernel_rfl) (by kernel_rfl) ?_
  simp only [List.take_succ_cons, List.take_zero, List.drop_succ_cons, List.drop_zero]
  repeat still_step
  refine wpStill_nil ?_
  go_wp2
  refine region_tail 9 (by kernel_rfl) (by kernel_rfl) ?_
  simp only [List.take_succ_cons, List.take_zero, List.drop_succ_cons, List.drop_zero]
  repeat still_step
  refine wpStill_nil ?_
  go_wp2
  go_end0
  have hT := (((HT.out.put hj k i).away (a := ⟨sb, i, none⟩) h3 (.int .i64 ((j + 1 : Nat) : Int))).past (.cells #[.int .i64 k, .int .i64 i] 182))
  have hS := ((((HS.out.away (a := ⟨tb, j * 2, none⟩) (Ne.symm h3) (.int .i64 k)).away (a := ⟨tb, j * 2 + 1, none⟩) (Ne.symm h3) (.int .i64 i)).put (i := i) (j + 1)).past (.cells #[.int .i64 k, .int .i64 i] 182))
  have hR := ((((HR.out.away (a := ⟨tb, j * 2, none⟩) h1 (.int .i64 k)).away (a := ⟨tb, j * 2 + 1, none⟩) h1 (.int .i64 i)).away (a := ⟨sb, i, none⟩) h2 (.int .i64 ((j + 1 : Nat) : Int))).past (.cells #[.int .i64 k, .int .i64 i] 182))
  exact ⟨rfl, ⟨hR, hT, hS, HM.out⟩, (((((Only.refl _ w).setCell (.inl (.inl rfl)) _).setCell (.inl (.inl rfl)) _).setCell (.inl (.inr rfl)) _).alloc _).drew.drew⟩
end Go.Proofs.YtdkpdmpghibmmaaGreat.Hp

/- Plain mathematics: who stands where in the tree, and what the two lists say of it, but for one place. Nothing of the program. -/
namespace Go.Proofs.YtdkpdmpghibmmaaGreat.Hp
open Hp

/-- The lists e (entries) and p (spots) tell who stands where (a), but for place s. -/
structure Hol (key : Nat → Int) (a : Nat → Nat) (n m s : Nat) (e : Nat → Int × Nat) (p : Nat → Nat) : Prop where
  ent : ∀ j, j < m → j ≠ s → e j = (key (a j), a j)
  low : ∀ j, j < m → a j < n
  inj : ∀ i j, i < m → j < m → a i = a j → i = j
  pos : ∀ j, j < m → j ≠ s → p (a j) = j + 1
  out : ∀ i, i < n → (∀ j, j < m → a j ≠ i) → p i = 0
def Mem (a : Nat → Nat) (m i : Nat) : Prop := ∃ j, j < m ∧ a j = i

theorem upd_same {α : Type} (f : Nat → α) (i : Nat) (x : α) : upd f i x i = x := by simp [upd]
theorem upd_other {α : Type} (f : Nat → α) (i j : Nat) (x : α) (h : j ≠ i) : upd f i x j = f j := by simp [upd, h]

theorem Hol.move {key : Nat → Int} {a : Nat → Nat} {n m s t : Nat} {e : Nat → Int × Nat} {p : Nat → Nat} (h : Hol key a n m s e p) (hs : s < m) (ht : t < m) (hst : s ≠ t) :
    Hol key (swap a s t) n m t (upd e s (key (a t), a t)) (upd p (a t) (s + 1)) := by
  have hcase : ∀ j, (j = s ∧ swap a s t j = a t) ∨ (j = t ∧ swap a s t j = a s) ∨ (j ≠ s ∧ j ≠ t ∧ swap a s t j = a j) := by
    intro j
    by_cases h1 : j = s
    · subst h1; exact .inl ⟨rfl, swap_left _ _ _⟩
    · by_cases h2 : j = t
      · subst h2; exact .inr (.inl ⟨rfl, swap_right _ _ _⟩)
      · exact .inr (.inr ⟨h1, h2, swap_other _ _ _ _ h1 h2⟩)
  refine ⟨fun j hj hne => ?_, fun j hj => ?_, fun i j hi hj he => ?_, fun j hj hne => ?_, fun i hi hn => ?_⟩
  · rcases hcase j with ⟨rfl, e1⟩ | ⟨rfl, e1⟩ | ⟨h1, h2, e1⟩
    · rw [e1, upd_same]
    · exact absurd rfl hne
    · rw [e1, upd_other _ _ _ _ h1]; exact h.ent j hj h1
  · rcases hcase j with ⟨rfl, e1⟩ | ⟨rfl, e1⟩ | ⟨h1, h2, e1⟩ <;> rw [e1]
    · exact h.low t ht
    · exact h.low s hs
    · exact h.low j hj
  · rcases hcase i with ⟨i1, e1⟩ | ⟨i1, e1⟩ | ⟨h1, h2, e1⟩ <;> rcases hcase j with ⟨j1, e2⟩ | ⟨j1, e2⟩ | ⟨g1, g2, e2⟩ <;> rw [e1, e2] at he
    · omega
    · have := h.inj _ _ ht hs he; omega
    · have := h.inj _ _ ht hj he; omega
    · have := h.inj _ _ hs ht he; omega
    · omega
    · have := h.inj _ _ hs hj he; omega
    · have := h.inj _ _ hi ht he; omega
    · have := h.inj _ _ hi hs he; omega
    · exact h.inj _ _ hi hj he
  · rcases hcase j with ⟨rfl, e1⟩ | ⟨rfl, e1⟩ | ⟨h1, h2, e1⟩
    · rw [e1, upd_same]
    · exact absurd rfl hne
    · rw [e1, upd_other _ _ _ _ (fun e2 => h2 (h.inj _ _ hj ht e2))]; exact h.pos j hj h1
  · have h0 : ∀ j, j < m → a j ≠ i := by
      intro j hj e1
      rcases hcase j with ⟨rfl, e2⟩ | ⟨rfl, e2⟩ | ⟨h1, h2, e2⟩
      · exact hn t ht ((swap_right a j t).trans e1)
      · exact hn s hs ((swap_left a s j).trans e1)
      · exact hn j hj (e2.trans e1)
    rw [upd_other _ _ _ _ (fun e1 => h0 t ht e1.symm)]
    exact h.out i hi h0
theorem mem_swap {a : Nat → Nat} {m s t : Nat} (hs : s < m) (ht : t < m) (i : Nat) : Mem (swap a s t) m i ↔ Mem a m i := by
  constructor
  · rintro ⟨j, hj, e⟩
    by_cases h1 : j = s
    · subst h1; exact ⟨t, ht, by rw [← e, swap_left]⟩
    · by_cases h2 : j = t
      · subst h2; exact ⟨s, hs, by rw [← e, swap_right]⟩
      · exact ⟨j, hj, by rw [← e, swap_other _ _ _ _ h1 h2]⟩
  · rintro ⟨j, hj, e⟩
    by_cases h1 : j = s
    · subst h1; exact ⟨t, ht, by rw [← e, swap_right]⟩
    · by_cases h2 : j = t
      · subst h2; exact ⟨s, hs, by rw [← e, swap_left]⟩
      · exact ⟨j, hj, by rw [← e, swap_other _ _ _ _ h1 h2]⟩
theorem Hol.fill {key : Nat → Int} {a : Nat → Nat} {n m s : Nat} {e : Nat → Int × Nat} {p : Nat → Nat} (h : Hol key a n m s e p) (hs : s < m) : Hol key a n m m (upd e s (key (a s), a s)) (upd p (a s) (s + 1)) := by
  refine ⟨fun j hj _ => ?_, h.low, h.inj, fun j hj _ => ?_, fun i hi hn => ?_⟩
  · by_cases e1 : j = s
    · subst e1; exact upd_same _ _ _
    · rw [upd_other _ _ _ _ e1]; exact h.ent j hj e1
  · by_cases e1 : j = s
    · subst e1; exact upd_same _ _ _
    · rw [upd_other _ _ _ _ (fun e2 => e1 (h.inj _ _ hj hs e2))]; exact h.pos j hj e1
  · rw [upd_other _ _ _ _ (fun e1 => hn s hs e1.symm)]; exact h.out i hi hn
theorem Hol.hole {key : Nat → Int} {a : Nat → Nat} {n m : Nat} {e : Nat → Int × Nat} {p : Nat → Nat} (h : Hol key a n m m e p) (s : Nat) : Hol key a n m s e p :=
  ⟨fun j hj _ => h.ent j hj (by omega), h.low, h.inj, fun j hj _ => h.pos j hj (by omega), h.out⟩
theorem ahead_lt (key : Nat → Int) (x y : Nat) : ahead (key x) x (key y) y = decide (lt key x y) := by unfold ahead lt; rfl
end Go.Proofs.YtdkpdmpghibmmaaGreat.Hp

/- A statement of open order, walked once in the order of its text, in whatever worlds of a class: operations that yield one value in all of them; calls that hand back one value and stay in the class. -/
namespace Go.Proofs.YtdkpdmpghibmmaaGreat
open Go.RowKit

section
variable {P : Program} {ops : Array Oper} {C : World → Prop} {Q : Act → Prop} {o : Oper} {rest : List Oper} {a : Act}

theorem region_in {id : Nat} {R : Exit → Act → World → Prop} {w : World} {l : List Oper} (C : World → Prop) (hm : P.follows .mixedOrders = true) (hB : Region.lexB .any l.toArray = true) (hC : C w.drew)
    (h : wpQuiet P l.toArray C (fun a' => ∀ w', C w' → R .normal a' w') l a) : (Code.region id l.toArray true).wp P R a w :=
  wp_region_quiet (C := C) hm hB hC (by simpa using h)
theorem in_pure (hw : Region.wanted o (yielded ops a.tmps) = true) (v : Value) (hv : ∀ W, C W → (execOp a.eval o).run P W = .ok (.value v) W) (h : wpQuiet P ops C Q rest (a.put o.dst v)) : wpQuiet P ops C Q (o :: rest) a := by
  refine wpQuiet_step fun K hK => ?_
  rw [if_pos hw]
  refine ⟨v, fun W hW => ?_, hK _ h⟩
  unfold Oper.quietAt
  rw [hv W hW]
  exact ⟨rfl, rfl⟩
theorem in_call (hw : Region.wanted o (yielded ops a.tmps) = true) (f : FuncId) (args : Array Value) (v : Value) (he : ∀ W, C W → (execOp a.eval o).run P W = .ok (.enter f args) W)
    (hc : ∀ W, C W → Calls P f args W fun e w' => e = .returned v ∧ C w') (h : wpQuiet P ops C Q rest (a.put o.dst v)) : wpQuiet P ops C Q (o :: rest) a := by
  refine wpQuiet_step fun K hK => ?_
  rw [if_pos hw]
  refine ⟨v, fun W hW => ?_, hK _ h⟩
  unfold Oper.quietAt
  rw [he W hW]
  exact ⟨rfl, hc W hW⟩
theorem in_idle (hw : Region.wanted o (yielded ops a.tmps) = false) (h : wpQuiet P ops C Q rest (a.put o.dst undef)) : wpQuiet P ops C Q (o :: rest) a := by
  refine wpQuiet_step fun K hK => ?_
  rw [if_neg (by rw [hw]; decide)]
  exact hK _ h
end

/-- The worlds in which all that was there is as it was. -/
def Above (w W : World) : Prop := Below w.heap.size w W
theorem Above.start (w : World) : Above w w.drew := (Below.refl _ _).drew
theorem Above.call {w W w' : World} (h : Above w W) (hb : Below W.heap.size W w') : Above w w' := h.trans (hb.mono h.size)
end Go.Proofs.YtdkpdmpghibmmaaGreat

/- Walks: the heap's wayUp. -/
namespace Go.Proofs.YtdkpdmpghibmmaaGreat.Hp
open Go.RowKit Hp

theorem wrap_nat (x : Nat) (h : x ≤ 100000000) : wrap64 (x : Int) = (x : Int) := by unfold wrap64; omega
/-- What wayUp keeps: the hole is at s, the one on the way is x, who stood in the tree stands there. -/
def UpRel (w : World) (g tb sb c m n x : Nat) (key : Nat → Int) (a0 : Nat → Nat) (s : Nat) (wr : World) : Prop :=
  ∃ a e p, Qs wr g tb sb c m n e p ∧ Row wr w.heap.size 182 #[.int .i64 (key x), .int .i64 x] ∧ Only (fun i => i = tb ∨ i = sb) w wr ∧ Hol key a n m s e p ∧ a s = x ∧ Mid key a m s ∧ s < m ∧ ∀ i, Mem a m i ↔ Mem a0 m i

set_option maxHeartbeats 1000000 in
theorem wayUp_any (g tb sb c m n s x : Nat) (key : Nat → Int) (a : Nat → Nat) (e : Nat → Int × Nat) (p : Nat → Nat) (w : World) (h : Qs w g tb sb c m n e p) (hh : Hol key a n m s e p) (hx : a s = x) (hm : Mid key a m s) (hs : s < m) :
    Calls Tryz.prog 165 #[ptr g, .int .i64 s, ent (key x) x] w fun e' w' => ∃ (s' : Nat) (a' : Nat → Nat) (e1 : Nat → Int × Nat) (p1 : Nat → Nat), e' = .returned (.int .i64 s') ∧ s' < m ∧ Qs w' g tb sb c m n e1 p1 ∧ Hol key a' n m s' e1 p1 ∧ a' s' = x ∧ Down key a' m s' ∧ (∀ i, Mem a' m i ↔ Mem a m i) ∧ Only (fun i => i = tb ∨ i = sb) w w' := by
  obtain ⟨lg, lt, ls⟩ := h.lts
  have HU := Lib.hid (show UpRel w g tb sb c m n x key a s (w.alloc (.cells #[.int .i64 (key x), .int .i64 x] 182)) from ⟨a, e, p, h.only (S := fun _ => False) (((Only.refl _ w).alloc _)) (fun f => f) (fun f => f) (fun f => f), Row.fresh w _ _, (Only.refl _ w).alloc _, hh, hx, hm, hs, fun _ => Iff.rfl⟩)
  clear h hh hx hm hs
  generalize hk : key x = k
  have HK := Lib.hid hk.symm
  clear hk
  go_enter Tryz.func165, Tryz.ntmps165
  go_wp2
  go_loopw [1] (fun sp wr => ∃ s : Nat, sp = .int .i64 s ∧ UpRel w g tb sb c m n x key a s wr) (fun sp _ => (intOf sp).toNat)
  case atStart =>
    have h := HU.out
    rw [← HK.out] at h
    exact ⟨s, rfl, h⟩
  case round =>
    obtain ⟨s1, rfl, a1, e1, p1, hQ, hB, hO, hH, hax, hM, hsm, hmem⟩ := hrel
    clear HU
    cases s1 with
    | zero =>
      have HX := Lib.hid (show ∃ s' a' e1 p1, (Value.int .i64 (0 : Nat)) = .int .i64 (s' : Nat) ∧ s' < m ∧ Qs wr g tb sb c m n e1 p1 ∧ Hol key a' n m s' e1 p1 ∧ a' s' = x ∧ Down key a' m s' ∧ (∀ i, Mem a' m i ↔ Mem a m i) ∧ Only (fun i => i = tb ∨ i = sb) w wr from ⟨0, a1, e1, p1, rfl, hsm, hQ, hH, hax, hM.down (.inl rfl), hmem, hO⟩)
      clear hQ hB hO hH hax hM hsm hmem
      go_wp2
      go_ret
      obtain ⟨s', a', e1, p1, h0, hrest⟩ := HX.out
      exact ⟨s', a', e1, p1, by rw [← h0]; rfl, hrest⟩
    | succ r =>
      have hbig : m ≤ 16777216 := Nat.le_trans hQ.2.2.2.2.2.2.2 hQ.2.2.2.2.2.2.1
      obtain ⟨q, hq⟩ : ∃ q, q = r / 2 := ⟨_, rfl⟩
      have hqm : q < m := by omega
      have hqm' : (q : Int) < (m : Int) := by omega
      have hqr : q < r + 1 := by omega
      have HQ2 := Lib.hid (show (r + 1 - 1) / 2 = q by omega)
      have HLT := Lib.hid hqr
      have hr1 : r ≤ 100000000 := by omega
      have hr2 : q ≤ 100000000 := by omega
      have hr3 : ((r : Int) / 2) = (q : Int) := by omega
      have hwr : wrap64 (r : Int) = (r : Int) := wrap_nat r hr1
      have hwq : wrap64 ((r : Int) / 2) = (q : Int) := by rw [hr3]; exact wrap_nat q hr2
      clear hbig hr1 hr2 hr3 hqr
      have hlx := hQ.lts
      obtain ⟨k2, hk2⟩ : ∃ k2, k2 = (e1 q).1 := ⟨_, rfl⟩
      obtain ⟨x2, hx2⟩ : ∃ x2, x2 = (e1 q).2 := ⟨_, rfl⟩
      have HF := Lib.hid (show ∀ W, Above wr W → W.cell? ⟨w.heap.size, 0, none⟩ = some (.int .i64 k) ∧ W.cell? ⟨w.heap.size, 1, none⟩ = some (.int .i64 x) ∧ W.cell? ⟨g, 0, none⟩ = some (.slice (some ⟨tb, 0, none⟩) m c) ∧ W.cell? ⟨tb, q * 2, none⟩ = some (.int .i64 k2) ∧ W.cell? ⟨tb, q * 2 + 1, none⟩ = some (.int .i64 x2) from fun W hW => by
        have hb2 := hB.under hW hB.lt
        have hr2 := hQ.1.under hW hQ.1.lt
        obtain ⟨t0, t1, tl, _, _⟩ := hQ.2.1.cell hqm
        refine ⟨by rw [HK.out]; exact hb2.cell 0, hb2.cell 1, hr2.cell 0, ?_, ?_⟩
        · rw [hk2, ← t0]; exact hW.cell (p := ⟨tb, _, none⟩) tl
        · rw [hx2, ← t1]; exact hW.cell (p := ⟨tb, _, none⟩) tl)
      have HQ := Lib.hid hQ
      have HB := Lib.hid hB
      have HO := Lib.hid hO
      have HH := Lib.hid hH
      have HA := Lib.hid hax
      have HM := Lib.hid hM
      have HE := Lib.hid hmem
      have HK2 := Lib.hid hk2
      have HX2 := Lib.hid hx2
      have HQq := Lib.hid hq
      clear hQ hB hO hH hax hM hmem hk2 hx2 hq
      go_wp2
      refine region_in (Above wr) (by kernel_rfl) (by kernel_rfl) (Above.start wr) ?_
      refine in_pure (o := ⟨some 13, _, _, _, _, _⟩) rfl ?_ (fun W hW => by obtain ⟨f0, f1, f2, f3, f4⟩ := HF.out W hW; go_simp; with_reducible rfl) ?_
      simp only [Act.put, List.setIfInBounds_toArray, List.set_cons_zero, List.set_cons_succ]
      refine in_pure (o := ⟨some 14, _, _, _, _, _⟩) rfl ?_ (fun W hW => by obtain ⟨f0, f1, f2, f3, f4⟩ := HF.out W hW; go_simp; with_reducible rfl) ?_
      simp only [Act.put, List.setIfInBounds_toArray, List.set_cons_zero, List.set_cons_succ]
      refine in_pure (o := ⟨some 15, _, _, _, _, _⟩) rfl ?_ (fun W hW => by obtain ⟨f0, f1, f2, f3, f4⟩ := HF.out W hW; go_simp; with_reducible rfl) ?_
      simp only [Act.put, List.setIfInBounds_toArray, List.set_cons_zero, List.set_cons_succ]
      refine in_pure (o := ⟨some 16, _, _, _, _, _⟩) rfl ?_ (fun W hW => by obtain ⟨f0, f1, f2, f3, f4⟩ := HF.out W hW; go_simp; with_reducible rfl) ?_
      simp only [Act.put, List.setIfInBounds_toArray, List.set_cons_zero, List.set_cons_succ]
      refine in_pure (o := ⟨some 17, _, _, _, _, _⟩) rfl ?_ (fun W hW => by obtain ⟨f0, f1, f2, f3, f4⟩ := HF.out W hW; go_simp; with_reducible rfl) ?_
      simp only [Act.put, List.setIfInBounds_toArray, List.set_cons_zero, List.set_cons_succ]
      refine in_pure (o := ⟨some 18, _, _, _, _, _⟩) rfl ?_ (fun W hW => by obtain ⟨f0, f1, f2, f3, f4⟩ := HF.out W hW; go_simp; with_reducible rfl) ?_
      simp only [Act.put, List.setIfInBounds_toArray, List.set_cons_zero, List.set_cons_succ]
      refine in_pure (o := ⟨some 19, _, _, _, _, _⟩) rfl ?_ (fun W hW => by obtain ⟨f0, f1, f2, f3, f4⟩ := HF.out W hW; go_simp; with_reducible rfl) ?_
      simp only [Act.put, List.setIfInBounds_toArray, List.set_cons_zero, List.set_cons_succ]
      refine in_pure (o := ⟨some 20, _, _, _, _, _⟩) rfl ?_ (fun W hW => by obtain ⟨f0, f1, f2, f3, f4⟩ := HF.out W hW; go_simp; with_reducible rfl) ?_
      simp only [Act.put, List.setIfInBounds_toArray, List.set_cons_zero, List.set_cons_succ]
      refine in_call (o := ⟨some 21, _, _, _, _, _⟩) rfl 176 _ (.bool (ahead k x k2 x2)) (fun W hW => by go_simp) (fun W hW => (before_any k k2 x x2 W).mono (fun e w' ⟨he, hb⟩ => ⟨he, Above.call hW hb⟩)) ?_
      simp only [Act.put, List.setIfInBounds_toArray, List.set_cons_zero, List.set_cons_succ]
      refine in_pure (o := ⟨some 22, _, _, _, _, _⟩) rfl ?_ (fun W hW => by obtain ⟨f0, f1, f2, f3, f4⟩ := HF.out W hW; go_simp; with_reducible rfl) ?_
      simp only [Act.put, List.setIfInBounds_toArray, List.set_cons_zero, List.set_cons_succ]
      refine wpQuiet_nil fun w5 hb5 => ?_
      have hQ5 : Qs w5 g tb sb c m n e1 p1 := HQ.out.only (S := fun _ => False) (Only.of_below _ hb5) (fun f => f) (fun f => f) (fun f => f)
      have hB5 := HB.out.under hb5 HB.out.lt
      have hO5 : Only (fun i => i = tb ∨ i = sb) w w5 := HO.out.trans (S' := fun _ => False) (Only.of_below _ hb5) (fun _ f => f.elim)
      obtain ⟨_, _, f2, f3, f4⟩ := HF.out w5 hb5
      have HQ5 := Lib.hid hQ5
      have HB5 := Lib.hid hB5
      have HO5 := Lib.hid hO5
      have hent : e1 q = (key (a1 q), a1 q) := HH.out.ent q hqm (Nat.ne_of_lt HLT.out)
      have hx2 : x2 = a1 q := by rw [HX2.out, hent]
      have hk2 : k2 = key x2 := by rw [HK2.out, hent, hx2]
      have hla : ahead k x k2 x2 = decide (Hp.lt key (a1 (r + 1)) (a1 ((r + 1 - 1) / 2))) := by rw [HK.out, hk2, ahead_lt, hx2, HA.out, HQ2.out]
      have HX3 := Lib.hid hx2
      have HK3 := Lib.hid hk2
      clear hQ5 hB5 hO5 hb5 HQ HB HO HF hent hx2 hk2 HK2 HX2
      by_cases hl : Hp.lt key (a1 (r + 1)) (a1 ((r + 1 - 1) / 2))
      · have hav : ahead k x k2 x2 = true := by rw [hla]; exact decide_eq_true hl
        have HL := Lib.hid hl
        rw [hav, Bool.not_true]
        clear hla hl hav
        go_wp2_with fail
        refine (lay_any g tb sb c m n (r + 1) x2 k2 e1 p1 w5 HQ5.out hsm (by rw [HX3.out]; exact HH.out.low q hqm)).mono ?_
        rintro e w6 ⟨rfl, hQ6, hO6⟩
        have hR6 : UpRel w g tb sb c m n x key a q w6 := by
          refine ⟨swap a1 (r + 1) q, _, _, hQ6, HB5.out.only hO6 (fun e => e.elim (Nat.ne_of_gt lt) (Nat.ne_of_gt ls)), HO5.out.trans hO6 (fun i hi => .inl hi), ?_, by rw [swap_right]; exact HA.out, ?_, hqm, fun i => (mem_swap hsm hqm i).trans (HE.out i)⟩
          · have := HH.out.move (t := q) hsm hqm (Nat.ne_of_gt HLT.out)
            rw [HK3.out, HX3.out]
            exact this
          · have h1 := (HM.out.up (Nat.succ_pos r) HL.out).step (Nat.succ_pos r) hsm HL.out
            rw [HQ2.out] at h1
            exact h1.mid
        have HR6 := Lib.hid hR6
        clear hQ6 hO6 hR6 HQ5 HB5 HO5 f2 f3 f4
        go_wp2
        go_roundw
        case rel => exact ⟨q, rfl, HR6.out⟩
        case measure => exact HLT.out
      · have hav : ahead k x k2 x2 = false := by rw [hla]; exact decide_eq_false hl
        have HX := Lib.hid (show ∃ (s' : Nat) (a' : Nat → Nat) (e1 : Nat → Int × Nat) (p1 : Nat → Nat), (Value.int .i64 ((r + 1 : Nat) : Int)) = .int .i64 (s' : Nat) ∧ s' < m ∧ Qs w5 g tb sb c m n e1 p1 ∧ Hol key a' n m s' e1 p1 ∧ a' s' = x ∧ Down key a' m s' ∧ (∀ i, Mem a' m i ↔ Mem a m i) ∧ Only (fun i => i = tb ∨ i = sb) w w5 from ⟨r + 1, a1, e1, p1, rfl, hsm, HQ5.out, HH.out, HA.out, HM.out.down (.inr hl), HE.out, HO5.out⟩)
        rw [hav, Bool.not_false]
        clear hla hl hav
        go_wp2
        go_ret
        obtain ⟨s', a', e1, p1, h0, hrest⟩ := HX.out
        exact ⟨s', a', e1, p1, by rw [← h0]; rfl, hrest⟩
end Go.Proofs.YtdkpdmpghibmmaaGreat.Hp

/- Walks: the heap's wayDown. -/
namespace Go.Proofs.YtdkpdmpghibmmaaGreat.Hp
open Go.RowKit Hp

/-- What wayDown keeps. -/
def DnRel (w : World) (g tb sb c m n x : Nat) (key : Nat → Int) (a0 : Nat → Nat) (s : Nat) (wr : World) : Prop :=
  ∃ a e p, Qs wr g tb sb c m n e p ∧ Row wr w.heap.size 182 #[.int .i64 (key x), .int .i64 x] ∧ Only (fun i => i = tb ∨ i = sb) w wr ∧ Hol key a n m s e p ∧ a s = x ∧ Down key a m s ∧ s < m ∧ ∀ i, Mem a m i ↔ Mem a0 m i
/-- What wayDown leaves. -/
def DnPost (w : World) (g tb sb c m n x : Nat) (key : Nat → Int) (a : Nat → Nat) (s' : Nat) (w' : World) : Prop :=
  ∃ (a' : Nat → Nat) (e1 : Nat → Int × Nat) (p1 : Nat → Nat), s' < m ∧ Qs w' g tb sb c m n e1 p1 ∧ Hol key a' n m s' e1 p1 ∧ a' s' = x ∧ Heap key a' m ∧ (∀ i, Mem a' m i ↔ Mem a m i) ∧ Only (fun i => i = tb ∨ i = sb) w w'

theorem wrap_i (x : Nat) (h : x ≤ 100000000) : IntKind.i64.wrap (x : Int) = (x : Int) := by rw [IntKind.wrap_i64]; omega
theorem le_lt {key : Nat → Int} {x y : Nat} (h : Hp.lt key x y) : Hp.lt key x y := h
set_option maxHeartbeats 4000000 in
set_option maxRecDepth 100000 in
theorem wayDown_any (g tb sb c m n s x : Nat) (key : Nat → Int) (a : Nat → Nat) (e : Nat → Int × Nat) (p : Nat → Nat) (w : World) (h : Qs w g tb sb c m n e p) (hh : Hol key a n m s e p) (hx : a s = x) (hm : Down key a m s) (hs : s < m) :
    Calls Tryz.prog 166 #[ptr g, .int .i64 s, ent (key x) x] w fun e' w' => ∃ s' : Nat, e' = .returned (.int .i64 s') ∧ DnPost w g tb sb c m n x key a s' w' := by
  obtain ⟨lg, lt, ls⟩ := h.lts
  have HU := Lib.hid (show DnRel w g tb sb c m n x key a s (w.alloc (.cells #[.int .i64 (key x), .int .i64 x] 182)) from ⟨a, e, p, h.only (S := fun _ => False) (((Only.refl _ w).alloc _)) (fun f => f) (fun f => f) (fun f => f), Row.fresh w _ _, (Only.refl _ w).alloc _, hh, hx, hm, hs, fun _ => Iff.rfl⟩)
  clear h hh hx hm hs
  generalize hk : key x = k
  have HK := Lib.hid hk.symm
  clear hk
  go_enter Tryz.func166, Tryz.ntmps166
  go_wp2
  go_step3
  go_wp2
  go_step3
  go_wp2
  go_loopw [1] (fun sp wr => ∃ s : Nat, sp = .int .i64 s ∧ DnRel w g tb sb c m n x key a s wr) (fun sp _ => m - (intOf sp).toNat)
  case atStart =>
    have h := HU.out
    rw [← HK.out] at h
    exact ⟨s, rfl, h⟩
  case round =>
    obtain ⟨s1, rfl, a1, e1, p1, hQ, hB, hO, hH, hax, hM, hsm, hmem⟩ := hrel
    clear HU
    obtain ⟨l, hl⟩ : ∃ l, l = 2 * s1 + 1 := ⟨_, rfl⟩
    have hbig : m ≤ 16777216 := Nat.le_trans hQ.2.2.2.2.2.2.2 hQ.2.2.2.2.2.2.1
    have k0 : wr.cell? ⟨g, 0, none⟩ = some (.slice (some ⟨tb, 0, none⟩) m c) := hQ.1.cell 0
    by_cases hlm : m ≤ l
    · have HX := Lib.hid (show DnPost w g tb sb c m n x key a s1 wr from ⟨a1, e1, p1, hsm, hQ, hH, hax, hM.done (fun d h0 hd hp => by omega), hmem, hO⟩)
      have hlm' : (m : Int) ≤ 2 * (s1 : Int) + 1 := by omega
      clear hQ hB hO hH hax hM hmem hl hlm
      go_wp2
      rw [Exit.noGoto_ret]
      go_ret
      exact ⟨s1, rfl, HX.out⟩
    · have hlm' : (l : Int) < (m : Int) := by omega
      have hl' : 2 * (s1 : Int) + 1 = (l : Int) := by omega
      obtain ⟨k2, hk2⟩ : ∃ k2, k2 = (e1 l).1 := ⟨_, rfl⟩
      obtain ⟨x2, hx2⟩ : ∃ x2, x2 = (e1 l).2 := ⟨_, rfl⟩
      have hlm0 : l < m := by omega
      have hs1 : s1 < l := by omega
      have hent2 : e1 l = (key (a1 l), a1 l) := hH.ent l hlm0 (by omega)
      have HKX2 := Lib.hid (show k2 = key x2 ∧ x2 = a1 l from ⟨by rw [hk2, hx2, hent2], by rw [hx2, hent2]⟩)
      have HD2 := Lib.hid (show l < m ∧ 0 < l ∧ (l - 1) / 2 = s1 ∧ s1 < l from ⟨hlm0, by omega, by omega, hs1⟩)
      have HQ := Lib.hid hQ
      have HB := Lib.hid hB
      have HO := Lib.hid hO
      have HH := Lib.hid hH
      have HA := Lib.hid hax
      have HM := Lib.hid hM
      have HE := Lib.hid hmem
      have HLE := Lib.hid hl
      have HC2 := Lib.hid (show ∀ W, Above wr W → W.cell? ⟨w.heap.size, 0, none⟩ = some (.int .i64 k) ∧ W.cell? ⟨w.heap.size, 1, none⟩ = some (.int .i64 x) ∧ W.cell? ⟨g, 0, none⟩ = some (.slice (some ⟨tb, 0, none⟩) m c) ∧ W.cell? ⟨tb, l * 2, none⟩ = some (.int .i64 k2) ∧ W.cell? ⟨tb, l * 2 + 1, none⟩ = some (.int .i64 x2) from fun W hW => by
        have hb2 := hB.under hW hB.lt
        have hr2 := hQ.1.under hW hQ.1.lt
        obtain ⟨t0, t1, tl, _, _⟩ := hQ.2.1.cell hlm0
        refine ⟨by rw [HK.out]; exact hb2.cell 0, hb2.cell 1, hr2.cell 0, ?_, ?_⟩
        · rw [hk2, ← t0]; exact hW.cell (p := ⟨tb, _, none⟩) tl
        · rw [hx2, ← t1]; exact hW.cell (p := ⟨tb, _, none⟩) tl)
      obtain ⟨l1, hl1⟩ : ∃ l1, l1 = l + 1 := ⟨_, rfl⟩
      have hl1' : (l : Int) + 1 = (l1 : Int) := by omega
      by_cases hl1m : l1 < m
      · have hl1m' : (l1 : Int) < (m : Int) := by omega
        obtain ⟨k3, hk3⟩ : ∃ k3, k3 = (e1 l1).1 := ⟨_, rfl⟩
        obtain ⟨x3, hx3⟩ : ∃ x3, x3 = (e1 l1).2 := ⟨_, rfl⟩
        have hent3 : e1 l1 = (key (a1 l1), a1 l1) := hH.ent l1 hl1m (by omega)
        have hkx3 : k3 = key x3 ∧ x3 = a1 l1 := ⟨by rw [hk3, hx3, hent3], by rw [hx3, hent3]⟩
        have HKX3 := Lib.hid hkx3
        have HD3 := Lib.hid (show l1 < m ∧ 0 < l1 ∧ (l1 - 1) / 2 = s1 ∧ s1 < l1 from ⟨hl1m, by omega, by omega, by omega⟩)
        have HF := Lib.hid (show ∀ W, Above wr W → W.cell? ⟨w.heap.size, 0, none⟩ = some (.int .i64 k) ∧ W.cell? ⟨w.heap.size, 1, none⟩ = some (.int .i64 x) ∧ W.cell? ⟨g, 0, none⟩ = some (.slice (some ⟨tb, 0, none⟩) m c) ∧ W.cell? ⟨tb, l * 2, none⟩ = some (.int .i64 k2) ∧ W.cell? ⟨tb, l * 2 + 1, none⟩ = some (.int .i64 x2) ∧ W.cell? ⟨tb, l1 * 2, none⟩ = some (.int .i64 k3) ∧ W.cell? ⟨tb, l1 * 2 + 1, none⟩ = some (.int .i64 x3) from fun W hW => by
          obtain ⟨c0, c1, c2, c3, c4⟩ := HC2.out W hW
          obtain ⟨t0, t1, tl, _, _⟩ := hQ.2.1.cell hl1m
          refine ⟨c0, c1, c2, c3, c4, ?_, ?_⟩
          · rw [hk3, ← t0]; exact hW.cell (p := ⟨tb, _, none⟩) tl
          · rw [hx3, ← t1]; exact hW.cell (p := ⟨tb, _, none⟩) tl)
        have hla3 : ahead k3 x3 k2 x2 = decide (Hp.lt key (a1 l1) (a1 l)) := by rw [HKX2.out.1, hkx3.1, ahead_lt, hkx3.2, HKX2.out.2]
        have HLA3 := Lib.hid hla3
        clear hla3
        have HT := Lib.hid (show ∀ d', 0 < d' → d' < m → (d' - 1) / 2 = s1 → d' = l ∨ d' = l1 from fun d' h0 h1 h2 => by omega)
        have HLL := Lib.hid hl1
        have hwl1 : IntKind.i64.wrap (l1 : Int) = (l1 : Int) := wrap_i l1 (by omega)
        clear hQ hB hO hH hax hM hmem hl hlm hk2 hx2 hk3 hx3 hent2 hent3 hkx3 hl1 hs1 HC2
        go_wp2
        refine region_in (Above wr) (by kernel_rfl) (by kernel_rfl) (Above.start wr) ?_
        refine in_pure (o := ⟨some 20, _, _, _, _, _⟩) rfl ?_ (fun W hW => by obtain ⟨f0, f1, f2, f3, f4, f5, f6⟩ := HF.out W hW; go_simp; with_reducible rfl) ?_
        simp only [Act.put, List.setIfInBounds_toArray, List.set_cons_zero, List.set_cons_succ]
        refine in_pure (o := ⟨some 21, _, _, _, _, _⟩) rfl ?_ (fun W hW => by obtain ⟨f0, f1, f2, f3, f4, f5, f6⟩ := HF.out W hW; go_simp; with_reducible rfl) ?_
        simp only [Act.put, List.setIfInBounds_toArray, List.set_cons_zero, List.set_cons_succ]
        refine in_pure (o := ⟨some 22, _, _, _, _, _⟩) rfl ?_ (fun W hW => by obtain ⟨f0, f1, f2, f3, f4, f5, f6⟩ := HF.out W hW; go_simp; with_reducible rfl) ?_
        simp only [Act.put, List.setIfInBounds_toArray, List.set_cons_zero, List.set_cons_succ]
        refine in_pure (o := ⟨some 23, _, _, _, _, _⟩) rfl ?_ (fun W hW => by obtain ⟨f0, f1, f2, f3, f4, f5, f6⟩ := HF.out W hW; go_simp; with_reducible rfl) ?_
        simp only [Act.put, List.setIfInBounds_toArray, List.set_cons_zero, List.set_cons_succ]
        refine in_pure (o := ⟨some 24, _, _, _, _, _⟩) rfl ?_ (fun W hW => by obtain ⟨f0, f1, f2, f3, f4, f5, f6⟩ := HF.out W hW; go_simp; with_reducible rfl) ?_
        simp only [Act.put, List.setIfInBounds_toArray, List.set_cons_zero, List.set_cons_succ]
        refine in_pure (o := ⟨some 25, _, _, _, _, _⟩) rfl ?_ (fun W hW => by obtain ⟨f0, f1, f2, f3, f4, f5, f6⟩ := HF.out W hW; go_simp; with_reducible rfl) ?_
        simp only [Act.put, List.setIfInBounds_toArray, List.set_cons_zero, List.set_cons_succ]
        refine in_pure (o := ⟨some 26, _, _, _, _, _⟩) rfl ?_ (fun W hW => by obtain ⟨f0, f1, f2, f3, f4, f5, f6⟩ := HF.out W hW; go_simp; with_reducible rfl) ?_
        simp only [Act.put, List.setIfInBounds_toArray, List.set_cons_zero, List.set_cons_succ]
        refine in_pure (o := ⟨some 27, _, _, _, _, _⟩) rfl (.bool true) (fun W hW => by obtain ⟨f0, f1, f2, f3, f4, f5, f6⟩ := HF.out W hW; go_simp; first | done | simp only [hl1m, hl1m', decide_true, decide_false] | trace_state) ?_
        simp only [Act.put, List.setIfInBounds_toArray, List.set_cons_zero, List.set_cons_succ]
        refine in_pure (o := ⟨some 28, _, _, _, _, _⟩) rfl ?_ (fun W hW => by obtain ⟨f0, f1, f2, f3, f4, f5, f6⟩ := HF.out W hW; go_simp; with_reducible rfl) ?_
        simp only [Act.put, List.setIfInBounds_toArray, List.set_cons_zero, List.set_cons_succ]
        refine in_pure (o := ⟨some 29, _, _, _, _, _⟩) rfl ?_ (fun W hW => by obtain ⟨f0, f1, f2, f3, f4, f5, f6⟩ := HF.out W hW; go_simp; with_reducible rfl) ?_
        simp only [Act.put, List.setIfInBounds_toArray, List.set_cons_zero, List.set_cons_succ]
        refine in_pure (o := ⟨some 30, _, _, _, _, _⟩) rfl ?_ (fun W hW => by obtain ⟨f0, f1, f2, f3, f4, f5, f6⟩ := HF.out W hW; go_simp; with_reducible rfl) ?_
        simp only [Act.put, List.setIfInBounds_toArray, List.set_cons_zero, List.set_cons_succ]
        refine in_pure (o := ⟨some 31, _, _, _, _, _⟩) rfl ?_ (fun W hW => by obtain ⟨f0, f1, f2, f3, f4, f5, f6⟩ := HF.out W hW; go_simp; with_reducible rfl) ?_
        simp only [Act.put, List.setIfInBounds_toArray, List.set_cons_zero, List.set_cons_succ]
        refine in_pure (o := ⟨some 32, _, _, _, _, _⟩) rfl ?_ (fun W hW => by obtain ⟨f0, f1, f2, f3, f4, f5, f6⟩ := HF.out W hW; go_simp; with_reducible rfl) ?_
        simp only [Act.put, List.setIfInBounds_toArray, List.set_cons_zero, List.set_cons_succ]
        refine in_pure (o := ⟨some 33, _, _, _, _, _⟩) rfl ?_ (fun W hW => by obtain ⟨f0, f1, f2, f3, f4, f5, f6⟩ := HF.out W hW; go_simp; with_reducible rfl) ?_
        simp only [Act.put, List.setIfInBounds_toArray, List.set_cons_zero, List.set_cons_succ]
        refine in_pure (o := ⟨some 34, _, _, _, _, _⟩) rfl ?_ (fun W hW => by obtain ⟨f0, f1, f2, f3, f4, f5, f6⟩ := HF.out W hW; go_simp; with_reducible rfl) ?_
        simp only [Act.put, List.setIfInBounds_toArray, List.set_cons_zero, List.set_cons_succ]
        refine in_pure (o := ⟨some 35, _, _, _, _, _⟩) rfl ?_ (fun W hW => by obtain ⟨f0, f1, f2, f3, f4, f5, f6⟩ := HF.out W hW; go_simp; with_reducible rfl) ?_
        simp only [Act.put, List.setIfInBounds_toArray, List.set_cons_zero, List.set_cons_succ]
        refine in_pure (o := ⟨some 36, _, _, _, _, _⟩) rfl ?_ (fun W hW => by obtain ⟨f0, f1, f2, f3, f4, f5, f6⟩ := HF.out W hW; go_simp; with_reducible rfl) ?_
        simp only [Act.put, List.setIfInBounds_toArray, List.set_cons_zero, List.set_cons_succ]
        refine in_pure (o := ⟨some 37, _, _, _, _, _⟩) rfl ?_ (fun W hW => by obtain ⟨f0, f1, f2, f3, f4, f5, f6⟩ := HF.out W hW; go_simp; with_reducible rfl) ?_
        simp only [Act.put, List.setIfInBounds_toArray, List.set_cons_zero, List.set_cons_succ]
        refine in_pure (o := ⟨some 38, _, _, _, _, _⟩) rfl ?_ (fun W hW => by obtain ⟨f0, f1, f2, f3, f4, f5, f6⟩ := HF.out W hW; go_simp; with_reducible rfl) ?_
        simp only [Act.put, List.setIfInBounds_toArray, List.set_cons_zero, List.set_cons_succ]
        refine in_pure (o := ⟨some 39, _, _, _, _, _⟩) rfl ?_ (fun W hW => by obtain ⟨f0, f1, f2, f3, f4, f5, f6⟩ := HF.out W hW; go_simp; with_reducible rfl) ?_
        simp only [Act.put, List.setIfInBounds_toArray, List.set_cons_zero, List.set_cons_succ]
        refine in_pure (o := ⟨some 40, _, _, _, _, _⟩) rfl ?_ (fun W hW => by obtain ⟨f0, f1, f2, f3, f4, f5, f6⟩ := HF.out W hW; go_simp; with_reducible rfl) ?_
        simp only [Act.put, List.setIfInBounds_toArray, List.set_cons_zero, List.set_cons_succ]
        refine in_pure (o := ⟨some 41, _, _, _, _, _⟩) rfl ?_ (fun W hW => by obtain ⟨f0, f1, f2, f3, f4, f5, f6⟩ := HF.out W hW; go_simp; with_reducible rfl) ?_
        simp only [Act.put, List.setIfInBounds_toArray, List.set_cons_zero, List.set_cons_succ]
        refine in_pure (o := ⟨some 42, _, _, _, _, _⟩) rfl ?_ (fun W hW => by obtain ⟨f0, f1, f2, f3, f4, f5, f6⟩ := HF.out W hW; go_simp; with_reducible rfl) ?_
        simp only [Act.put, List.setIfInBounds_toArray, List.set_cons_zero, List.set_cons_succ]
        refine in_pure (o := ⟨some 43, _, _, _, _, _⟩) rfl ?_ (fun W hW => by obtain ⟨f0, f1, f2, f3, f4, f5, f6⟩ := HF.out W hW; go_simp; with_reducible rfl) ?_
        simp only [Act.put, List.setIfInBounds_toArray, List.set_cons_zero, List.set_cons_succ]
        refine in_call (o := ⟨some 44, _, _, _, _, _⟩) rfl 176 _ (.bool (ahead k3 x3 k2 x2)) (fun W hW => by go_simp) (fun W hW => (before_any k3 k2 x3 x2 W).mono (fun e w' ⟨he, hb⟩ => ⟨he, Above.call hW hb⟩)) ?_
        simp only [Act.put, List.setIfInBounds_toArray, List.set_cons_zero, List.set_cons_succ]
        refine in_pure (o := ⟨some 45, _, _, _, _, _⟩) rfl ?_ (fun W hW => by obtain ⟨f0, f1, f2, f3, f4, f5, f6⟩ := HF.out W hW; go_simp; with_reducible rfl) ?_
        simp only [Act.put, List.setIfInBounds_toArray, List.set_cons_zero, List.set_cons_succ]
        refine in_pure (o := ⟨some 19, _, _, _, _, _⟩) rfl ?_ (fun W hW => by obtain ⟨f0, f1, f2, f3, f4, f5, f6⟩ := HF.out W hW; go_simp; with_reducible rfl) ?_
        simp only [Act.put, List.setIfInBounds_toArray, List.set_cons_zero, List.set_cons_succ]
        by_cases hb1 : Hp.lt key (a1 l1) (a1 l)
        · have HMIN := Lib.hid (show ∀ d', 0 < d' → d' < m → (d' - 1) / 2 = s1 → ¬ Hp.lt key (a1 d') (a1 l1) from fun d' h0 h1 h2 => by
            rcases HT.out d' h0 h1 h2 with e | e <;> rw [e]
            · exact lt_asymm hb1
            · exact lt_irrefl key _)
          have hav3 : ahead k3 x3 k2 x2 = true := by rw [HLA3.out]; exact decide_eq_true hb1
          rw [hav3]
          have HKX := HKX3
          have HD := HD3
          clear hav3 HLA3 hb1 HKX2 HKX3 HD2 HD3 HT HLL
          refine wpQuiet_nil fun w5 hb5 => ?_
          have hQ5 : Qs w5 g tb sb c m n e1 p1 := HQ.out.only (S := fun _ => False) (Only.of_below _ hb5) (fun f => f) (fun f => f) (fun f => f)
          have hB5 := HB.out.under hb5 HB.out.lt
          have hO5 : Only (fun i => i = tb ∨ i = sb) w w5 := HO.out.trans (S' := fun _ => False) (Only.of_below _ hb5) (fun _ f => f.elim)
          have HF' := Lib.hid (show ∀ W, Above w5 W → _ from fun W hW => HF.out W (Above.call hb5 hW))
          have HQ5 := Lib.hid hQ5
          have HB5 := Lib.hid hB5
          have HO5 := Lib.hid hO5
          clear hQ5 hB5 hO5 hb5 HQ HB HO HF k0
          have HF := HF'
          clear HF'
          go_wp2
          refine region_in (Above w5) (by kernel_rfl) (by kernel_rfl) (Above.start w5) ?_
          refine in_pure (o := ⟨some 48, _, _, _, _, _⟩) rfl ?_ (fun W hW => by obtain ⟨f0, f1, f2, f3, f4, f5, f6⟩ := HF.out W hW; go_simp; with_reducible rfl) ?_
          simp only [Act.put, List.setIfInBounds_toArray, List.set_cons_zero, List.set_cons_succ]
          refine in_pure (o := ⟨some 49, _, _, _, _, _⟩) rfl ?_ (fun W hW => by obtain ⟨f0, f1, f2, f3, f4, f5, f6⟩ := HF.out W hW; go_simp; with_reducible rfl) ?_
          simp only [Act.put, List.setIfInBounds_toArray, List.set_cons_zero, List.set_cons_succ]
          refine in_pure (o := ⟨some 50, _, _, _, _, _⟩) rfl ?_ (fun W hW => by obtain ⟨f0, f1, f2, f3, f4, f5, f6⟩ := HF.out W hW; go_simp; with_reducible rfl) ?_
          simp only [Act.put, List.setIfInBounds_toArray, List.set_cons_zero, List.set_cons_succ]
          refine in_pure (o := ⟨some 51, _, _, _, _, _⟩) rfl ?_ (fun W hW => by obtain ⟨f0, f1, f2, f3, f4, f5, f6⟩ := HF.out W hW; go_simp; with_reducible rfl) ?_
          simp only [Act.put, List.setIfInBounds_toArray, List.set_cons_zero, List.set_cons_succ]
          refine in_pure (o := ⟨some 52, _, _, _, _, _⟩) rfl ?_ (fun W hW => by obtain ⟨f0, f1, f2, f3, f4, f5, f6⟩ := HF.out W hW; go_simp; with_reducible rfl) ?_
          simp only [Act.put, List.setIfInBounds_toArray, List.set_cons_zero, List.set_cons_succ]
          refine in_pure (o := ⟨some 53, _, _, _, _, _⟩) rfl ?_ (fun W hW => by obtain ⟨f0, f1, f2, f3, f4, f5, f6⟩ := HF.out W hW; go_simp; with_reducible rfl) ?_
          simp only [Act.put, List.setIfInBounds_toArray, List.set_cons_zero, List.set_cons_succ]
          refine in_pure (o := ⟨some 54, _, _, _, _, _⟩) rfl ?_ (fun W hW => by obtain ⟨f0, f1, f2, f3, f4, f5, f6⟩ := HF.out W hW; go_simp; with_reducible rfl) ?_
          simp only [Act.put, List.setIfInBounds_toArray, List.set_cons_zero, List.set_cons_succ]
          refine in_pure (o := ⟨some 55, _, _, _, _, _⟩) rfl ?_ (fun W hW => by obtain ⟨f0, f1, f2, f3, f4, f5, f6⟩ := HF.out W hW; go_simp; with_reducible rfl) ?_
          simp only [Act.put, List.setIfInBounds_toArray, List.set_cons_zero, List.set_cons_succ]
          refine in_call (o := ⟨some 56, _, _, _, _, _⟩) rfl 176 _ (.bool (ahead k3 x3 k x)) (fun W hW => by go_simp) (fun W hW => (before_any k3 k x3 x W).mono (fun e w' ⟨he, hb⟩ => ⟨he, Above.call hW hb⟩)) ?_
          simp only [Act.put, List.setIfInBounds_toArray, List.set_cons_zero, List.set_cons_succ]
          refine in_pure (o := ⟨some 57, _, _, _, _, _⟩) rfl ?_ (fun W hW => by obtain ⟨f0, f1, f2, f3, f4, f5, f6⟩ := HF.out W hW; go_simp; with_reducible rfl) ?_
          simp only [Act.put, List.setIfInBounds_toArray, List.set_cons_zero, List.set_cons_succ]
          refine wpQuiet_nil fun w6 hb6 => ?_
          have hQ6 : Qs w6 g tb sb c m n e1 p1 := HQ5.out.only (S := fun _ => False) (Only.of_below _ hb6) (fun f => f) (fun f => f) (fun f => f)
          have hB6 := HB5.out.under hb6 HB5.out.lt
          have hO6 : Only (fun i => i = tb ∨ i = sb) w w6 := HO5.out.trans (S' := fun _ => False) (Only.of_below _ hb6) (fun _ f => f.elim)
          obtain ⟨f0, f1, f2, f3, f4, f5, f6⟩ := HF.out w6 hb6
          have HQ6 := Lib.hid hQ6
          have HB6 := Lib.hid hB6
          have HO6 := Lib.hid hO6
          have hla : ahead k3 x3 k x = decide (Hp.lt key (a1 l1) (a1 s1)) := by rw [HK.out, HKX.out.1, ahead_lt, HKX.out.2, HA.out]
          clear hQ6 hB6 hO6 hb6 HQ5 HB5 HO5 HF
          by_cases hl : Hp.lt key (a1 l1) (a1 s1)
          · have hav : ahead k3 x3 k x = true := by rw [hla]; exact decide_eq_true hl
            have HL := Lib.hid hl
            rw [hav, Bool.not_true]
            clear hla hl hav
            go_wp2_with fail
            refine (lay_any g tb sb c m n s1 x3 k3 e1 p1 w6 HQ6.out hsm (by rw [HKX.out.2]; exact HH.out.low l1 HD.out.1)).mono ?_
            rintro e w7 ⟨rfl, hQ7, hO7⟩
            have hR7 : DnRel w g tb sb c m n x key a l1 w7 := by
              refine ⟨swap a1 s1 l1, _, _, hQ7, HB6.out.only hO7 (fun e => e.elim (Nat.ne_of_gt lt) (Nat.ne_of_gt ls)), HO6.out.trans hO7 (fun i hi => .inl hi), ?_, by rw [swap_right]; exact HA.out, HM.out.step HD.out.2.1 HD.out.1 HD.out.2.2.1 HL.out HMIN.out, HD.out.1, fun i => (mem_swap hsm HD.out.1 i).trans (HE.out i)⟩
              have := HH.out.move (t := l1) hsm HD.out.1 (Nat.ne_of_lt HD.out.2.2.2)
              rw [HKX.out.1, HKX.out.2]
              exact this
            have HR7 := Lib.hid hR7
            have HDM := Lib.hid (show m - l1 < m - s1 from Nat.sub_lt_sub_left hsm HD.out.2.2.2)
            clear hQ7 hO7 hR7 HQ6 HB6 HO6 f0 f1 f2 f3 f4 f5 f6
            go_wp2
            go_roundw
            case rel => exact ⟨l1, rfl, HR7.out⟩
            case measure => exact HDM.out
          · have hav : ahead k3 x3 k x = false := by rw [hla]; exact decide_eq_false hl
            have HX := Lib.hid (show DnPost w g tb sb c m n x key a s1 w6 from ⟨a1, e1, p1, hsm, HQ6.out, HH.out, HA.out, HM.out.done (fun c' h0 hc hp => le_trans (fun hh => hl (le_lt hh)) (HMIN.out c' h0 hc hp)), HE.out, HO6.out⟩)
            rw [hav, Bool.not_false]
            clear hla hl hav
            go_wp2
            rw [Exit.noGoto_ret]
            go_ret
            exact ⟨s1, rfl, HX.out⟩
        · have HMIN := Lib.hid (show ∀ d', 0 < d' → d' < m → (d' - 1) / 2 = s1 → ¬ Hp.lt key (a1 d') (a1 l) from fun d' h0 h1 h2 => by
            rcases HT.out d' h0 h1 h2 with e | e <;> rw [e]
            · exact lt_irrefl key _
            · exact hb1)
          have hav3 : ahead k3 x3 k2 x2 = false := by rw [HLA3.out]; exact decide_eq_false hb1
          rw [hav3]
          have HKX := HKX2
          have HD := HD2
          clear hav3 HLA3 hb1 HKX2 HKX3 HD2 HD3 HT HLL
          refine wpQuiet_nil fun w5 hb5 => ?_
          have hQ5 : Qs w5 g tb sb c m n e1 p1 := HQ.out.only (S := fun _ => False) (Only.of_below _ hb5) (fun f => f) (fun f => f) (fun f => f)
          have hB5 := HB.out.under hb5 HB.out.lt
          have hO5 : Only (fun i => i = tb ∨ i = sb) w w5 := HO.out.trans (S' := fun _ => False) (Only.of_below _ hb5) (fun _ f => f.elim)
          have HF' := Lib.hid (show ∀ W, Above w5 W → _ from fun W hW => HF.out W (Above.call hb5 hW))
          have HQ5 := Lib.hid hQ5
          have HB5 := Lib.hid hB5
          have HO5 := Lib.hid hO5
          clear hQ5 hB5 hO5 hb5 HQ HB HO HF k0
          have HF := HF'
          clear HF'
          go_wp2
          refine region_in (Above w5) (by kernel_rfl) (by kernel_rfl) (Above.start w5) ?_
          refine in_pure (o := ⟨some 48, _, _, _, _, _⟩) rfl ?_ (fun W hW => by obtain ⟨f0, f1, f2, f3, f4, f5, f6⟩ := HF.out W hW; go_simp; with_reducible rfl) ?_
          simp only [Act.put, List.setIfInBounds_toArray, List.set_cons_zero, List.set_cons_succ]
          refine in_pure (o := ⟨some 49, _, _, _, _, _⟩) rfl ?_ (fun W hW => by obtain ⟨f0, f1, f2, f3, f4, f5, f6⟩ := HF.out W hW; go_simp; with_reducible rfl) ?_
          simp only [Act.put, List.setIfInBounds_toArray, List.set_cons_zero, List.set_cons_succ]
          refine in_pure (o := ⟨some 50, _, _, _, _, _⟩) rfl ?_ (fun W hW => by obtain ⟨f0, f1, f2, f3, f4, f5, f6⟩ := HF.out W hW; go_simp; with_reducible rfl) ?_
          simp only [Act.put, List.setIfInBounds_toArray, List.set_cons_zero, List.set_cons_succ]
          refine in_pure (o := ⟨some 51, _, _, _, _, _⟩) rfl ?_ (fun W hW => by obtain ⟨f0, f1, f2, f3, f4, f5, f6⟩ := HF.out W hW; go_simp; with_reducible rfl) ?_
          simp only [Act.put, List.setIfInBounds_toArray, List.set_cons_zero, List.set_cons_succ]
          refine in_pure (o := ⟨some 52, _, _, _, _, _⟩) rfl ?_ (fun W hW => by obtain ⟨f0, f1, f2, f3, f4, f5, f6⟩ := HF.out W hW; go_simp; with_reducible rfl) ?_
          simp only [Act.put, List.setIfInBounds_toArray, List.set_cons_zero, List.set_cons_succ]
          refine in_pure (o := ⟨some 53, _, _, _, _, _⟩) rfl ?_ (fun W hW => by obtain ⟨f0, f1, f2, f3, f4, f5, f6⟩ := HF.out W hW; go_simp; with_reducible rfl) ?_
          simp only [Act.put, List.setIfInBounds_toArray, List.set_cons_zero, List.set_cons_succ]
          refine in_pure (o := ⟨some 54, _, _, _, _, _⟩) rfl ?_ (fun W hW => by obtain ⟨f0, f1, f2, f3, f4, f5, f6⟩ := HF.out W hW; go_simp; with_reducible rfl) ?_
          simp only [Act.put, List.setIfInBounds_toArray, List.set_cons_zero, List.set_cons_succ]
          refine in_pure (o := ⟨some 55, _, _, _, _, _⟩) rfl ?_ (fun W hW => by obtain ⟨f0, f1, f2, f3, f4, f5, f6⟩ := HF.out W hW; go_simp; with_reducible rfl) ?_
          simp only [Act.put, List.setIfInBounds_toArray, List.set_cons_zero, List.set_cons_succ]
          refine in_call (o := ⟨some 56, _, _, _, _, _⟩) rfl 176 _ (.bool (ahead k2 x2 k x)) (fun W hW => by go_simp) (fun W hW => (before_any k2 k x2 x W).mono (fun e w' ⟨he, hb⟩ => ⟨he, Above.call hW hb⟩)) ?_
          simp only [Act.put, List.setIfInBounds_toArray, List.set_cons_zero, List.set_cons_succ]
          refine in_pure (o := ⟨some 57, _, _, _, _, _⟩) rfl ?_ (fun W hW => by obtain ⟨f0, f1, f2, f3, f4, f5, f6⟩ := HF.out W hW; go_simp; with_reducible rfl) ?_
          simp only [Act.put, List.setIfInBounds_toArray, List.set_cons_zero, List.set_cons_succ]
          refine wpQuiet_nil fun w6 hb6 => ?_
          have hQ6 : Qs w6 g tb sb c m n e1 p1 := HQ5.out.only (S := fun _ => False) (Only.of_below _ hb6) (fun f => f) (fun f => f) (fun f => f)
          have hB6 := HB5.out.under hb6 HB5.out.lt
          have hO6 : Only (fun i => i = tb ∨ i = sb) w w6 := HO5.out.trans (S' := fun _ => False) (Only.of_below _ hb6) (fun _ f => f.elim)
          obtain ⟨f0, f1, f2, f3, f4, f5, f6⟩ := HF.out w6 hb6
          have HQ6 := Lib.hid hQ6
          have HB6 := Lib.hid hB6
          have HO6 := Lib.hid hO6
          have hla : ahead k2 x2 k x = decide (Hp.lt key (a1 l) (a1 s1)) := by rw [HK.out, HKX.out.1, ahead_lt, HKX.out.2, HA.out]
          clear hQ6 hB6 hO6 hb6 HQ5 HB5 HO5 HF
          by_cases hl : Hp.lt key (a1 l) (a1 s1)
          · have hav : ahead k2 x2 k x = true := by rw [hla]; exact decide_eq_true hl
            have HL := Lib.hid hl
            rw [hav, Bool.not_true]
            clear hla hl hav
            go_wp2_with fail
            refine (lay_any g tb sb c m n s1 x2 k2 e1 p1 w6 HQ6.out hsm (by rw [HKX.out.2]; exact HH.out.low l HD.out.1)).mono ?_
            rintro e w7 ⟨rfl, hQ7, hO7⟩
            have hR7 : DnRel w g tb sb c m n x key a l w7 := by
              refine ⟨swap a1 s1 l, _, _, hQ7, HB6.out.only hO7 (fun e => e.elim (Nat.ne_of_gt lt) (Nat.ne_of_gt ls)), HO6.out.trans hO7 (fun i hi => .inl hi), ?_, by rw [swap_right]; exact HA.out, HM.out.step HD.out.2.1 HD.out.1 HD.out.2.2.1 HL.out HMIN.out, HD.out.1, fun i => (mem_swap hsm HD.out.1 i).trans (HE.out i)⟩
              have := HH.out.move (t := l) hsm HD.out.1 (Nat.ne_of_lt HD.out.2.2.2)
              rw [HKX.out.1, HKX.out.2]
              exact this
            have HR7 := Lib.hid hR7
            have HDM := Lib.hid (show m - l < m - s1 from Nat.sub_lt_sub_left hsm HD.out.2.2.2)
            clear hQ7 hO7 hR7 HQ6 HB6 HO6 f0 f1 f2 f3 f4 f5 f6
            go_wp2
            go_roundw
            case rel => exact ⟨l, rfl, HR7.out⟩
            case measure => exact HDM.out
          · have hav : ahead k2 x2 k x = false := by rw [hla]; exact decide_eq_false hl
            have HX := Lib.hid (show DnPost w g tb sb c m n x key a s1 w6 from ⟨a1, e1, p1, hsm, HQ6.out, HH.out, HA.out, HM.out.done (fun c' h0 hc hp => le_trans (fun hh => hl (le_lt hh)) (HMIN.out c' h0 hc hp)), HE.out, HO6.out⟩)
            rw [hav, Bool.not_false]
            clear hla hl hav
            go_wp2
            rw [Exit.noGoto_ret]
            go_ret
            exact ⟨s1, rfl, HX.out⟩
      · have hl1m' : ¬ (l1 : Int) < (m : Int) := by omega
        have hdd : decide (l1 < m) = false := decide_eq_false hl1m
        have hdd' : decide ((l1 : Int) < (m : Int)) = false := decide_eq_false hl1m'
        have HMIN := Lib.hid (show ∀ d', 0 < d' → d' < m → (d' - 1) / 2 = s1 → ¬ Hp.lt key (a1 d') (a1 l) from fun d' h0 h1 h2 => by
          have e : d' = l := by omega
          rw [e]
          exact lt_irrefl key _)
        have HF := HC2
        have HKX := HKX2
        have HD := HD2
        have hwl1 : IntKind.i64.wrap (l1 : Int) = (l1 : Int) := wrap_i l1 (by omega)
        clear hQ hB hO hH hax hM hmem hl hlm hk2 hx2 hent2 hl1 hs1 HC2 HKX2 HD2
        go_wp2
        go_quiet (fail)
        obtain ⟨w5, hw5⟩ : ∃ w5, w5 = wr.drewN nq := ⟨_, rfl⟩
        rw [← hw5]
        have hb5 : Above wr w5 := by rw [hw5]; exact ⟨rfl, rfl, rfl, Nat.le_refl _, fun _ _ => rfl⟩
        clear hw5
        have hQ5 : Qs w5 g tb sb c m n e1 p1 := HQ.out.only (S := fun _ => False) (Only.of_below _ hb5) (fun f => f) (fun f => f) (fun f => f)
        have hB5 := HB.out.under hb5 HB.out.lt
        have hO5 : Only (fun i => i = tb ∨ i = sb) w w5 := HO.out.trans (S' := fun _ => False) (Only.of_below _ hb5) (fun _ f => f.elim)
        have HF' := Lib.hid (show ∀ W, Above w5 W → _ from fun W hW => HF.out W (Above.call hb5 hW))
        have HQ5 := Lib.hid hQ5
        have HB5 := Lib.hid hB5
        have HO5 := Lib.hid hO5
        clear hQ5 hB5 hO5 hb5 HQ HB HO HF k0
        have HF := HF'
        clear HF'
        go_wp2
        refine region_in (Above w5) (by kernel_rfl) (by kernel_rfl) (Above.start w5) ?_
        refine in_pure (o := ⟨some 48, _, _, _, _, _⟩) rfl ?_ (fun W hW => by obtain ⟨f0, f1, f2, f3, f4⟩ := HF.out W hW; go_simp; with_reducible rfl) ?_
        simp only [Act.put, List.setIfInBounds_toArray, List.set_cons_zero, List.set_cons_succ]
        refine in_pure (o := ⟨some 49, _, _, _, _, _⟩) rfl ?_ (fun W hW => by obtain ⟨f0, f1, f2, f3, f4⟩ := HF.out W hW; go_simp; with_reducible rfl) ?_
        simp only [Act.put, List.setIfInBounds_toArray, List.set_cons_zero, List.set_cons_succ]
        refine in_pure (o := ⟨some 50, _, _, _, _, _⟩) rfl ?_ (fun W hW => by obtain ⟨f0, f1, f2, f3, f4⟩ := HF.out W hW; go_simp; with_reducible rfl) ?_
        simp only [Act.put, List.setIfInBounds_toArray, List.set_cons_zero, List.set_cons_succ]
        refine in_pure (o := ⟨some 51, _, _, _, _, _⟩) rfl ?_ (fun W hW => by obtain ⟨f0, f1, f2, f3, f4⟩ := HF.out W hW; go_simp; with_reducible rfl) ?_
        simp only [Act.put, List.setIfInBounds_toArray, List.set_cons_zero, List.set_cons_succ]
        refine in_pure (o := ⟨some 52, _, _, _, _, _⟩) rfl ?_ (fun W hW => by obtain ⟨f0, f1, f2, f3, f4⟩ := HF.out W hW; go_simp; with_reducible rfl) ?_
        simp only [Act.put, List.setIfInBounds_toArray, List.set_cons_zero, List.set_cons_succ]
        refine in_pure (o := ⟨some 53, _, _, _, _, _⟩) rfl ?_ (fun W hW => by obtain ⟨f0, f1, f2, f3, f4⟩ := HF.out W hW; go_simp; with_reducible rfl) ?_
        simp only [Act.put, List.setIfInBounds_toArray, List.set_cons_zero, List.set_cons_succ]
        refine in_pure (o := ⟨some 54, _, _, _, _, _⟩) rfl ?_ (fun W hW => by obtain ⟨f0, f1, f2, f3, f4⟩ := HF.out W hW; go_simp; with_reducible rfl) ?_
        simp only [Act.put, List.setIfInBounds_toArray, List.set_cons_zero, List.set_cons_succ]
        refine in_pure (o := ⟨some 55, _, _, _, _, _⟩) rfl ?_ (fun W hW => by obtain ⟨f0, f1, f2, f3, f4⟩ := HF.out W hW; go_simp; with_reducible rfl) ?_
        simp only [Act.put, List.setIfInBounds_toArray, List.set_cons_zero, List.set_cons_succ]
        refine in_call (o := ⟨some 56, _, _, _, _, _⟩) rfl 176 _ (.bool (ahead k2 x2 k x)) (fun W hW => by go_simp) (fun W hW => (before_any k2 k x2 x W).mono (fun e w' ⟨he, hb⟩ => ⟨he, Above.call hW hb⟩)) ?_
        simp only [Act.put, List.setIfInBounds_toArray, List.set_cons_zero, List.set_cons_succ]
        refine in_pure (o := ⟨some 57, _, _, _, _, _⟩) rfl ?_ (fun W hW => by obtain ⟨f0, f1, f2, f3, f4⟩ := HF.out W hW; go_simp; with_reducible rfl) ?_
        simp only [Act.put, List.setIfInBounds_toArray, List.set_cons_zero, List.set_cons_succ]
        refine wpQuiet_nil fun w6 hb6 => ?_
        have hQ6 : Qs w6 g tb sb c m n e1 p1 := HQ5.out.only (S := fun _ => False) (Only.of_below _ hb6) (fun f => f) (fun f => f) (fun f => f)
        have hB6 := HB5.out.under hb6 HB5.out.lt
        have hO6 : Only (fun i => i = tb ∨ i = sb) w w6 := HO5.out.trans (S' := fun _ => False) (Only.of_below _ hb6) (fun _ f => f.elim)
        obtain ⟨f0, f1, f2, f3, f4⟩ := HF.out w6 hb6
        have HQ6 := Lib.hid hQ6
        have HB6 := Lib.hid hB6
        have HO6 := Lib.hid hO6
        have hla : ahead k2 x2 k x = decide (Hp.lt key (a1 l) (a1 s1)) := by rw [HK.out, HKX.out.1, ahead_lt, HKX.out.2, HA.out]
        clear hQ6 hB6 hO6 hb6 HQ5 HB5 HO5 HF
        by_cases hl : Hp.lt key (a1 l) (a1 s1)
        · have hav : ahead k2 x2 k x = true := by rw [hla]; exact decide_eq_true hl
          have HL := Lib.hid hl
          rw [hav, Bool.not_true]
          clear hla hl hav
          go_wp2_with fail
          refine (lay_any g tb sb c m n s1 x2 k2 e1 p1 w6 HQ6.out hsm (by rw [HKX.out.2]; exact HH.out.low l HD.out.1)).mono ?_
          rintro e w7 ⟨rfl, hQ7, hO7⟩
          have hR7 : DnRel w g tb sb c m n x key a l w7 := by
            refine ⟨swap a1 s1 l, _, _, hQ7, HB6.out.only hO7 (fun e => e.elim (Nat.ne_of_gt lt) (Nat.ne_of_gt ls)), HO6.out.trans hO7 (fun i hi => .inl hi), ?_, by rw [swap_right]; exact HA.out, HM.out.step HD.out.2.1 HD.out.1 HD.out.2.2.1 HL.out HMIN.out, HD.out.1, fun i => (mem_swap hsm HD.out.1 i).trans (HE.out i)⟩
            have := HH.out.move (t := l) hsm HD.out.1 (Nat.ne_of_lt HD.out.2.2.2)
            rw [HKX.out.1, HKX.out.2]
            exact this
          have HR7 := Lib.hid hR7
          have HDM := Lib.hid (show m - l < m - s1 from Nat.sub_lt_sub_left hsm HD.out.2.2.2)
          clear hQ7 hO7 hR7 HQ6 HB6 HO6 f0 f1 f2 f3 f4
          go_wp2
          go_roundw
          case rel => exact ⟨l, rfl, HR7.out⟩
          case measure => exact HDM.out
        · have hav : ahead k2 x2 k x = false := by rw [hla]; exact decide_eq_false hl
          have HX := Lib.hid (show DnPost w g tb sb c m n x key a s1 w6 from ⟨a1, e1, p1, hsm, HQ6.out, HH.out, HA.out, HM.out.done (fun c' h0 hc hp => le_trans (fun hh => hl (le_lt hh)) (HMIN.out c' h0 hc hp)), HE.out, HO6.out⟩)
          rw [hav, Bool.not_false]
          clear hla hl hav
          go_wp2
          rw [Exit.noGoto_ret]
          go_ret
          exact ⟨s1, rfl, HX.out⟩
end Go.Proofs.YtdkpdmpghibmmaaGreat.Hp

/- Walks: the heap's settle. -/
namespace Go.Proofs.YtdkpdmpghibmmaaGreat.Hp
open Go.RowKit Hp

theorem settle_any (g tb sb c m n s x : Nat) (k : Int) (key : Nat → Int) (a : Nat → Nat) (e : Nat → Int × Nat) (p : Nat → Nat) (w : World) (h : Qs w g tb sb c m n e p) (hh : Hol key a n m s e p) (hx : a s = x) (hk : key x = k) (hm : Mid key a m s) (hs : s < m) :
    Calls Tryz.prog 138 #[ptr g, .int .i64 s, ent k x] w fun e' w' => e' = .returned (.tuple #[]) ∧ (∃ a' e1 p1, Qs w' g tb sb c m n e1 p1 ∧ Hol key a' n m m e1 p1 ∧ Heap key a' m ∧ (∀ i, Mem a' m i ↔ Mem a m i)) ∧ Only (fun i => i = tb ∨ i = sb) w w' := by
  subst hk
  obtain ⟨lg, lt, ls⟩ := h.lts
  have hne : ¬ (w.heap.size = tb ∨ w.heap.size = sb) := by omega
  have hQ0 : Qs (w.alloc (.cells #[.int .i64 (key x), .int .i64 x] 182)) g tb sb c m n e p := h.only (S := fun _ => False) (((Only.refl _ w).alloc _)) (fun f => f) (fun f => f) (fun f => f)
  have HQ := Lib.hid hQ0
  have HH := Lib.hid hh
  have HX := Lib.hid hx
  have HM := Lib.hid hm
  have HN := Lib.hid hne
  clear h hh hx hm hQ0 hne
  go_enter Tryz.func138, Tryz.ntmps138
  go_wp2_with fail
  refine (wayUp_any g tb sb c m n s x key a e p _ HQ.out HH.out HX.out HM.out hs).mono ?_
  rintro e' w1 ⟨s1, a1, e1, p1, rfl, hs1, hQ1, hH1, hx1, hd1, hm1, ho1⟩
  have hr1 : Row w1 w.heap.size 182 #[.int .i64 (key x), .int .i64 x] := (Row.fresh w _ _).only ho1 HN.out
  have b0 : w1.cell? ⟨w.heap.size, 0, none⟩ = some (.int .i64 (key x)) := hr1.cell 0
  have b1 : w1.cell? ⟨w.heap.size, 1, none⟩ = some (.int .i64 x) := hr1.cell 1
  have HR1 := Lib.hid hr1
  have HQ1 := Lib.hid hQ1
  have HH1 := Lib.hid hH1
  have HX1 := Lib.hid hx1
  have HD1 := Lib.hid hd1
  have HM1 := Lib.hid hm1
  have HO1 := Lib.hid (show Only (fun i => i = tb ∨ i = sb) w w1 from ((Only.refl _ w).alloc _).trans ho1 (fun i hi => .inl hi))
  clear hr1 hQ1 hH1 hx1 hd1 hm1 ho1 HQ HH HM
  go_wp2_with fail
  refine (wayDown_any g tb sb c m n s1 x key a1 e1 p1 w1 HQ1.out HH1.out HX1.out HD1.out hs1).mono ?_
  rintro e' w2 ⟨s2, rfl, a2, e2, p2, hs2, hQ2, hH2, hx2, hp2, hm2, ho2⟩
  have hr2 := HR1.out.only ho2 HN.out
  have b0' : w2.cell? ⟨w.heap.size, 0, none⟩ = some (.int .i64 (key x)) := hr2.cell 0
  have b1' : w2.cell? ⟨w.heap.size, 1, none⟩ = some (.int .i64 x) := hr2.cell 1
  have HQ2 := Lib.hid hQ2
  have HH2 := Lib.hid hH2
  have HX2 := Lib.hid hx2
  have HP2 := Lib.hid hp2
  have HM2 := Lib.hid hm2
  have HO2 := Lib.hid (show Only (fun i => i = tb ∨ i = sb) w w2 from HO1.out.trans ho2 (fun i hi => .inl hi))
  clear hr2 hQ2 hH2 hx2 hp2 hm2 ho2 HR1 b0 b1 HO1 HQ1 HH1
  go_wp2_with fail
  refine (lay_any g tb sb c m n s2 x (key x) e2 p2 w2 HQ2.out hs2 (by rw [← HX2.out]; exact HH2.out.low s2 hs2)).mono ?_
  rintro e' w3 ⟨rfl, hQ3, ho3⟩
  have HR := Lib.hid (show (∃ a' e1 p1, Qs w3 g tb sb c m n e1 p1 ∧ Hol key a' n m m e1 p1 ∧ Heap key a' m ∧ (∀ i, Mem a' m i ↔ Mem a m i)) ∧ Only (fun i => i = tb ∨ i = sb) w w3 from ⟨⟨a2, _, _, hQ3, by have := HH2.out.fill hs2; rw [HX2.out] at this; exact this, HP2.out, fun i => (HM2.out i).trans (HM1.out i)⟩, HO2.out.trans ho3 (fun i hi => .inl hi)⟩)
  clear hQ3 ho3 b0' b1'
  go_wp2
  go_end0
  exact ⟨rfl, HR.out⟩
end Go.Proofs.YtdkpdmpghibmmaaGreat.Hp

/- The tree's list, appended to. -/
namespace Go.Proofs.YtdkpdmpghibmmaaGreat.Hp
set_option maxRecDepth 100000
open Go.RowKit Hp

/-- The cells of m entries. -/
def elist : Nat → (Nat → Int × Nat) → List Value
  | 0, _ => []
  | m + 1, e => elist m e ++ [.int .i64 (e m).1, .int .i64 (e m).2]
theorem elist_length (m : Nat) (e : Nat → Int × Nat) : (elist m e).length = m * 2 := by
  induction m with
  | zero => rfl
  | succ m ih => simp [elist, ih]; omega
theorem elist_get (m : Nat) (e : Nat → Int × Nat) (j : Nat) (h : j < m) : (elist m e)[j * 2]? = some (.int .i64 (e j).1) ∧ (elist m e)[j * 2 + 1]? = some (.int .i64 (e j).2) := by
  induction m with
  | zero => omega
  | succ m ih =>
    have hl := elist_length m e
    by_cases e1 : j = m
    · subst e1
      simp only [elist]
      rw [List.getElem?_append_right (by omega), List.getElem?_append_right (by omega), hl]
      simp
    · simp only [elist]
      rw [List.getElem?_append_left (by omega), List.getElem?_append_left (by omega)]
      exact ih (by omega)
theorem elist_congr (m : Nat) (e e' : Nat → Int × Nat) (h : ∀ j, j < m → e' j = e j) : elist m e' = elist m e := by
  induction m with
  | zero => rfl
  | succ m ih => simp only [elist]; rw [ih (fun j hj => h j (by omega)), h m (by omega)]
theorem elist_more (m : Nat) (e : Nat → Int × Nat) (k : Int) (i : Nat) : elist (m + 1) (upd e m (k, i)) = elist m e ++ [.int .i64 k, .int .i64 i] := by
  simp only [elist, upd, if_true]
  rw [elist_congr m e]
  intro j hj
  exact upd_other _ _ _ _ (by omega)
theorem take_elist (cs : List Value) (m : Nat) (e : Nat → Int × Nat) (h : ∀ j, j < m → cs[j * 2]? = some (.int .i64 (e j).1) ∧ cs[j * 2 + 1]? = some (.int .i64 (e j).2)) : cs.take (m * 2) = elist m e := by
  induction m with
  | zero => simp [elist]
  | succ m ih =>
    obtain ⟨h1, h2⟩ := h m (by omega)
    have l2 := (List.getElem?_eq_some_iff.1 h2).1
    rw [show (m + 1) * 2 = m * 2 + 1 + 1 by omega, List.take_add_one, List.take_add_one, ih (fun j hj => h j (by omega)), h1, h2]
    simp [elist]

/-- The value of a tree's list: none yet, or a row. -/
def TreeV (w : World) (tv : Value) (m : Nat) (e : Nat → Int × Nat) : Prop := (tv = .slice none 0 0 ∧ m = 0) ∨ ∃ tb c, tv = .slice (some ⟨tb, 0, none⟩) m c ∧ Tree w tb c m e
theorem TreeV.owns {w : World} {tv : Value} {m : Nat} {e : Nat → Int × Nat} (h : TreeV w tv m e) : w.ownsRow 0 182 2 tv m (elist m e) := by
  refine ⟨elist_length m e, ?_⟩
  rcases h with ⟨rfl, rfl⟩ | ⟨tb, c, rfl, cs, hr, hs, hm, hx, hc⟩
  · exact .inl ⟨rfl, rfl⟩
  · exact .inr ⟨tb, c, cs, rfl, Nat.zero_le _, hr, hm, hx, hs, take_elist _ _ _ (fun j hj => by simpa using hc j hj)⟩
theorem TreeV.of_owns {w : World} {v : Value} {m : Nat} {e : Nat → Int × Nat} (h : w.ownsRow 0 182 2 v m (elist m e)) (hm : 0 < m) : ∃ tb c, v = .slice (some ⟨tb, 0, none⟩) m c ∧ Tree w tb c m e := by
  rcases h.2 with ⟨_, h0⟩ | ⟨g, cap, cur, rfl, _, hr, hc, hx, hs, ht⟩
  · omega
  · refine ⟨g, cap, rfl, cur, hr, hs, hc, hx, fun j hj => ?_⟩
    obtain ⟨h1, h2⟩ := elist_get m e j hj
    rw [← ht, List.getElem?_take_of_lt (by omega)] at h1 h2
    exact ⟨by simpa using h1, by simpa using h2⟩
theorem infoE : (Tryz.prog.info? 182).map (fun i => (i.zero, i.size, i.bytes)) = some (some (.agg #[.int .i64 0, .int .i64 0]), 2, 16) := by kernel_rfl
theorem info_partsE {t : TypeId} {z : Value} {a b : Nat} (h : (Tryz.prog.info? t).map (fun i => (i.zero, i.size, i.bytes)) = some (some z, a, b)) : ∃ i, Tryz.prog.info? t = some i ∧ i.zero = some z ∧ i.size = a ∧ i.bytes = b := by
  cases hi : Tryz.prog.info? t with
  | none => rw [hi] at h; simp at h
  | some i => rw [hi] at h; simp at h; exact ⟨i, rfl, h.1, h.2.1, h.2.2⟩

/-- 'append(tree, e)', e laid in block b. -/
theorem run_appendE {w : World} (ty : TypeId) (tv : Value) (m b : Nat) (e : Nat → Int × Nat) (k : Int) (i : Nat) (h : TreeV w tv m e) (hm : m ≤ 16777216) (h0 : w.cell? ⟨b, 0, none⟩ = some (.int .i64 k)) (h1 : w.cell? ⟨b, 1, none⟩ = some (.int .i64 i)) :
    ∃ tb c w', (Builtin.append_ #[175, 175] ty #[tv, .slice (some ⟨b, 0, none⟩) 1 1]).run Tryz.prog w = .ok (.slice (some ⟨tb, 0, none⟩) (m + 1) c) w' ∧ Tree w' tb c (m + 1) (upd e m (k, i)) ∧ w.grownBy w' tv.ownBlock ∧ (tv.ownBlock = some tb ∨ tb = w.heap.size) := by
  obtain ⟨inf, hi, hz0, hz1, hz2⟩ := info_partsE infoE
  obtain ⟨v', w', hrun, h2, h3, _, h5⟩ := run_append_own_at (P := Tryz.prog) w 0 175 ty 182 inf (.agg #[.int .i64 0, .int .i64 0]) 2 16 Tryz.underlying175 hi hz0 hz1 hz2 rfl (by omega) tv m (elist m e) h.owns ⟨b, 0, none⟩ 1 1 [.int .i64 k, .int .i64 i] rfl (by
      intro j u hu
      match j, hu with
      | 0, hu => injection hu with hu; subst hu; exact h0
      | 1, hu => injection hu with hu; subst hu; exact h1
      | j + 2, hu => simp at hu) (by intro u hu; simp at hu; rcases hu with rfl | rfl <;> rfl) (by simp only [maxLen]; omega) (by omega) (Nat.zero_le _)
  rw [← elist_more] at h2
  obtain ⟨tb, c, rfl, hT⟩ := TreeV.of_owns h2 (by omega)
  refine ⟨tb, c, w', hrun, hT, h3, ?_⟩
  rcases h5 with h5 | h5
  · exact .inl h5.symm
  · injection h5 with h5; exact .inr h5
end Go.Proofs.YtdkpdmpghibmmaaGreat.Hp

