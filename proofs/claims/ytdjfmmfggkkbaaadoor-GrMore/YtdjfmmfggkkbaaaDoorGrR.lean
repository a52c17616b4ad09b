/- A range over an iterator that keeps something of its own in memory between two rounds. -/
import Derived.Test.YtdjfmmfggkkbaaaDoorGrD
import Derived.RangeFuncNested
import Derived.RangeFuncBound
import Derived.RangeFuncBox
import Derived.RangeFuncCalls
import Derived.RangeFuncLeaves
import Derived.RangeFuncStops
import Derived.Shelf.Abstract
import Derived.Shelf.RegionOpen
import Derived.OwnWalkIn
import Derived.TacticsInMore
import Derived.LoopNIn
import Derived.LoopIn
import Derived.Lib.IndexLaws
namespace Go.Proofs.YtdjfmmfggkkbaaaDoor
open Go.RowKit Grm

/-- The three blocks from b on are as they were. -/
def Keep3 (b : Nat) (W W' : World) : Prop := ∀ k, b ≤ k → k < b + 3 → W'.heap[k]? = W.heap[k]?
theorem Keep3.refl (b : Nat) (W : World) : Keep3 b W W := fun _ _ _ => rfl
theorem Keep3.trans {b : Nat} {A B C : World} (h : Keep3 b A B) (k : Keep3 b B C) : Keep3 b A C := fun i h1 h2 => (k i h1 h2).trans (h i h1 h2)
theorem Keep3.put {b : Nat} {W : World} {l : Nat} (o : Obj) (h : b + 3 ≤ l) : Keep3 b W (W.putObj l o) := fun k _ h2 => World.putObj_heap_other (by omega)
theorem Keep3.below {b M : Nat} {A B : World} (h : Below M A B) (hb : b + 3 ≤ M) (hM : M ≤ A.heap.size) : Keep3 b A B := fun k _ h2 => h.block k (by omega)
theorem Keep3.off {b g : Nat} {A B : World} (h : A.grownBy B (some g)) (hg : g < b) (hM : b + 3 ≤ A.heap.size) : Keep3 b A B := fun k h1 h2 => h.block k (by omega) (by intro e; injection e; omega)
theorem Keep3.cell {b : Nat} {A B : World} (h : Keep3 b A B) {k o : Nat} (h1 : b ≤ k) (h2 : k < b + 3) : B.cell? ⟨k, o, none⟩ = A.cell? ⟨k, o, none⟩ := World.cell?_of_block (a := ⟨k, o, none⟩) (h k h1 h2)
theorem Keep3.frozen {b : Nat} {A B : World} (h : Keep3 b A B) {k o : Nat} (h1 : b ≤ k) (h2 : k < b + 3) : B.frozen? ⟨k, o, none⟩ = A.frozen? ⟨k, o, none⟩ := World.frozen?_of_block (a := ⟨k, o, none⟩) (h k h1 h2)

/-- What comes is R; all that came is S; the iterator writes block b alone. -/
def SeqSt {α : Type} (F : Fence) (n : Nat) (P : Program) (g : Nat) (lb : Array Value) (encs : α → Array Value) (b : Nat) (R : List α → α → Prop) (S : List α → Prop) (w : World) : Prop :=
  ∀ (l : Nat) (J Jx : List α → World → Prop) (W : World), Keep3 b w W →
    (∀ s A B, J s A → A.grownBy B (some b) → J s B) → (∀ s A B, Jx s A → A.grownBy B (some b) → Jx s B) →
    (∀ pre x W1, J pre W1 → R pre x → YieldAt F (n - 1) P l (encs x) W1 fun e W' =>
      (e = .returned (.bool true) ∧ J (pre ++ [x]) W' ∧ Keep3 b W1 W') ∨ (e = .returned (.bool false) ∧ Jx (pre ++ [x]) W')) →
    J [] W →
    CallsIn F n P g (#[.func (.yield l) #[] #[]] ++ lb) W fun e W' => (∃ v, e = .returned v) ∧ ((∃ xs, S xs ∧ J xs W') ∨ (∃ pre, Jx pre W'))

/-- It abides turns of block b, and of what is no cells from B on. -/
def OwnSt {β : Type} (B b : Nat) (I : β → World → Prop) : Prop :=
  ∀ s A A' row, I s A → A.grownBy A' row → (∀ r, row = some r → r = b ∨ (B ≤ r ∧ ∃ o : Obj, A.heap[r]? = some o ∧ o.isCells = false)) → I s A'
theorem OwnSt.put {β : Type} {B b : Nat} {I : β → World → Prop} (h : OwnSt B b I) {s : β} {W : World} {l : Nat} {o : Obj} (o' : Obj) (hs : I s W) (hB : B ≤ l) (hl : W.heap[l]? = some o) (ho : o.isCells = false) : I s (W.putObj l o') :=
  h s W _ (some l) hs (grownBy_putObj' W l o') (fun r e => by injection e with e; subst e; exact .inr ⟨hB, o, hl, ho⟩)
theorem OwnSt.new {β : Type} {B b : Nat} {I : β → World → Prop} (h : OwnSt B b I) {s : β} {W : World} (o : Obj) (hs : I s W) : I s (W.alloc o) :=
  h s W _ none hs (World.grownBy_alloc W o none) (fun r e => by cases e)

variable {F : Fence} {n : Nat} {P : Program}

theorem wpIn_rangeFunc_st {α : Type} {g : Operand} {ps : Array Tmp} {assign body : Code} {Q : Exit → Act → World → Prop} {a : Act} {w : World}
    (hro : F.round = none) (h1 : 1 ≤ n) {gf : Nat} {lb : Array Value} (hg : a.eval g = .func (.func gf) #[] lb) (hFg : F.fn gf) (eg : ∀ args w, (callFunc gf args).run P w = .ok (.enter gf args) w)
    {encs : α → Array Value} {b : Nat} {R : List α → α → Prop} {S : List α → Prop} (hseq : SeqSt F (n - 1) P gf lb encs b R S w) (hb : b + 3 ≤ w.heap.size) (hps : ∀ x, (encs x).size = ps.size)
    (I : List α → World → Prop) (Ix : Code → List α → World → Prop) (hI : OwnSt w.heap.size b I) (hIx : ∀ c, OwnSt w.heap.size b (Ix c)) (h0 : I [] w) (a₁ : α → Act)
    (hassign : ∀ (l : Nat) (x : α) (W : World) (K : Act → World → Prop), K (a₁ x) W →
      assign.wpIn (F.inRound l) (n - 1 - 1) P (Exit.then K (fun _ _ _ => False)) { tmps := (ps.zip (encs x)).foldl (fun t (p, v) => t.setIfInBounds p v) a.tmps, defers := [] } W)
    (hbody : ∀ (l : Nat) (pre : List α) (x : α) (W : World), I pre W → R pre x → body.wpIn (F.inRound l) (n - 1 - 1) P (ownPostG w.heap.size (Keep3 b) I Ix (pre ++ [x]) W) (a₁ x) W)
    (hdone : ∀ (D : Nat) (xs : List α) (W : World), w.heap.size ≤ D → S xs → I xs W → W.heap[D]? = some (.deferred (some [])) → Q .normal { a with defers := { target := .collected D, args := #[] } :: a.defers } W)
    (hstop : ∀ (D : Nat) (c : Code) (pre : List α) (W : World), w.heap.size ≤ D → Ix c pre W → W.heap[D]? = some (.deferred (some [])) → c.wpIn F n P Q { a with defers := { target := .collected D, args := #[] } :: a.defers } W) :
    (Code.rangeFunc g ps assign body).wpIn F n P Q a w := by
  refine wpIn_rangeFunc fun fn hfn => ?_
  rw [hro]
  obtain ⟨D, hD⟩ : ∃ D, D = w.heap.size := ⟨_, rfl⟩
  obtain ⟨book, hbook⟩ : ∃ book : LoopState → Option Code → Loop, book = fun st pe => { state := st, pending := pe, fn, tmps := a.tmps, params := ps, assign, body, defers := D } := ⟨_, rfl⟩
  have hpar : ∀ st pe, (book st pe).params = ps := fun st pe => by rw [hbook]
  obtain ⟨W1, hW1⟩ : ∃ W1, W1 = (w.alloc (.deferred (some []))).alloc (.loop (book .ready none)) := ⟨_, rfl⟩
  have hs1 : (w.alloc (.deferred (some []))).heap.size = D + 1 := by rw [World.size_alloc, hD]
  have hL1 : W1.heap[D + 1]? = some (.loop (book .ready none)) := by rw [hW1, ← hs1]; exact World.alloc_heap_new _ _
  have hK1 : W1.heap[D]? = some (.deferred (some [])) := by
    rw [hW1, Below.heap_alloc _ _ _ (by omega), hD]
    exact World.alloc_heap_new w _
  have hI1 : I [] W1 := by rw [hW1]; exact hI.new _ (hI.new _ h0)
  have hk1 : Keep3 b w W1 := by rw [hW1]; exact Keep3.below (((Below.refl _ w).alloc (Nat.le_refl _) _).alloc (by simp) _) hb (Nat.le_refl _)
  have hbD : b + 3 ≤ D := by omega
  have kept : ∀ {A B : World} {k : Nat} {o : Obj}, A.grownBy B (some b) → D ≤ k → A.heap[k]? = some o → B.heap[k]? = some o := fun hg hk ho => (hg.block _ (Array.getElem?_eq_some_iff.1 ho).1 (by intro e; injection e; omega)).trans ho
  have only : ∀ {A : World} (r : Nat), (some b : Option Nat) = some r → r = b ∨ (w.heap.size ≤ r ∧ ∃ o : Obj, A.heap[r]? = some o ∧ o.isCells = false) := fun r e => by injection e with e; exact .inl e.symm
  refine ⟨D + 1, [{ target := .collected D, args := #[] }], W1, { target := .fn (.func gf) lb, args := #[.func (.yield (D + 1)) #[] #[]] }, W1, gf,
    #[.func (.yield (D + 1)) #[] #[]] ++ lb, W1, ?_, ?_, ?_, ?_, fun _ => h1, ?_⟩
  · rw [hW1, hbook, hD]; exact run_enterLoop_outer _ _ _ _ _
  · simp only [resolve, hg]
    simp [go_sem]
  · intro f' hf'; simp [Target.leads] at hf'; subst hf'; exact hFg
  · simp [invoke, go_sem, eg]
  · refine (hseq (D + 1)
      (fun pre W => I pre W ∧ W.heap[D + 1]? = some (.loop (book .ready none)) ∧ W.heap[D]? = some (.deferred (some [])))
      (fun pre W => ∃ c, Ix c pre W ∧ W.heap[D + 1]? = some (.loop (book .done (some c))) ∧ W.heap[D]? = some (.deferred (some [])))
      W1 hk1
      (fun s A B hs hg' => ⟨hI s A B _ hs.1 hg' only, kept hg' (by omega) hs.2.1, kept hg' (Nat.le_refl _) hs.2.2⟩)
      (fun s A B hs hg' => by
        obtain ⟨c, hc, hl, hk⟩ := hs
        exact ⟨c, hIx c s A B _ hc hg' only, kept hg' (by omega) hl, kept hg' (Nat.le_refl _) hk⟩)
      ?_ ⟨hI1, hL1, hK1⟩).mono ?_
    · rintro pre x W ⟨hi, hl, hk⟩ hR
      have hlt : D + 1 < W.heap.size := (Array.getElem?_eq_some_iff.1 hl).1
      have hy := run_yield (P := P) (args := encs x) hl (by rw [hpar]; exact hps x)
      rw [hbook] at hy
      refine ⟨fn, _, assign, body, hy, roundIn_of_wpIn hfn (hassign _ x W _ ⟨_, run_beginRound hl (by rw [hbook]), ?_⟩)⟩
      obtain ⟨V, hV⟩ : ∃ V, V = W.putObj (D + 1) (.loop { book .ready none with state := .busy }) := ⟨_, rfl⟩
      rw [← hV]
      have hl2 : V.heap[D + 1]? = some (.loop { book .ready none with state := .busy }) := by rw [hV]; exact World.putObj_heap_same hlt
      have hk2 : V.heap[D]? = some (.deferred (some [])) := by rw [hV]; exact (World.putObj_heap_other (by omega)).trans hk
      have hi2 : I pre V := by rw [hV]; exact hI.put _ hi (by omega) hl rfl
      have hw2 : Keep3 b W V := by rw [hV]; exact Keep3.put _ (by omega)
      refine wpIn_mono (hbody _ pre x _ hi2 hR) ?_
      have fin : ∀ (jump : Option Code) (W3 : World), KeepsFrom w.heap.size V W3 →
          ∃ W4, W4 = W3.putObj (D + 1) (.loop (book (if jump.isNone then .ready else .done) jump)) ∧ (Instr.endRound (D + 1) jump).run P W3 = .ok (.bool jump.isNone) W4 ∧
          (∃ o : Obj, W3.heap[D + 1]? = some o ∧ o.isCells = false) ∧ W4.heap[D + 1]? = some (.loop (book (if jump.isNone then .ready else .done) jump)) ∧ W4.heap[D]? = some (.deferred (some [])) := fun jump W3 hk3 => by
        have hl3 := hk3.same _ _ (by omega) hl2 rfl
        have he := run_endRound (P := P) jump hl3
        refine ⟨_, rfl, ?_, ⟨_, hl3, rfl⟩, World.putObj_heap_same (Array.getElem?_eq_some_iff.1 hl3).1, (World.putObj_heap_other (by omega)).trans (hk3.same _ _ (by omega) hk2 rfl)⟩
        rw [hbook] at he ⊢
        exact he
      rintro e a3 W3 hp
      cases e with
      | normal =>
        obtain ⟨hk3, hkp3, hi3⟩ := hp
        obtain ⟨W4, hW4, hr, ⟨o, ho, hc⟩, hl4, hk4⟩ := fin none W3 hk3
        refine ⟨_, _, hr, .inl ⟨rfl, ⟨?_, hl4, hk4⟩, ?_⟩⟩
        · rw [hW4]; exact hI.put _ hi3 (by omega) ho hc
        · rw [hW4]; exact (hw2.trans hkp3).trans (Keep3.put _ (by omega))
      | ret =>
        obtain ⟨hk3, hi3⟩ := hp
        obtain ⟨W4, hW4, hr, ⟨o, ho, hc⟩, hl4, hk4⟩ := fin (some .ret) W3 hk3
        exact ⟨_, _, hr, .inr ⟨rfl, .ret, by rw [hW4]; exact (hIx _).put _ hi3 (by omega) ho hc, hl4, hk4⟩⟩
      | exit id =>
        obtain ⟨hk3, hi3⟩ := hp
        obtain ⟨W4, hW4, hr, ⟨o, ho, hc⟩, hl4, hk4⟩ := fin (some (.exit id)) W3 hk3
        exact ⟨_, _, hr, .inr ⟨rfl, .exit id, by rw [hW4]; exact (hIx _).put _ hi3 (by omega) ho hc, hl4, hk4⟩⟩
      | goto t =>
        obtain ⟨hk3, hi3⟩ := hp
        obtain ⟨W4, hW4, hr, ⟨o, ho, hc⟩, hl4, hk4⟩ := fin (some (.goto t)) W3 hk3
        exact ⟨_, _, hr, .inr ⟨rfl, .goto t, by rw [hW4]; exact (hIx _).put _ hi3 (by omega) ho hc, hl4, hk4⟩⟩
      | panic ch => exact hp.elim
      | outgrown => exact hp.elim
    · rintro e W2 ⟨⟨v, rfl⟩, (⟨xs, hS, hi, hl, hk⟩ | ⟨pre, c, hi, hl, hk⟩)⟩
      · have he := run_endLoop (P := P) hl (by rw [hbook]; simp)
        rw [hbook] at he
        exact ⟨none, _, he, hdone _ xs _ (by omega) hS (hI.put _ hi (by omega) hl rfl) ((World.putObj_heap_other (by omega)).trans hk)⟩
      · have he := run_endLoop (P := P) hl (by rw [hbook]; simp)
        rw [hbook] at he
        exact ⟨some c, _, he, hstop _ c pre _ (by omega) ((hIx c).put _ hi (by omega) hl rfl) ((World.putObj_heap_other (by omega)).trans hk)⟩

/-- Cut at a byte. -/
def cut (c : UInt8) : Tx → List Tx
  | [] => [[]]
  | x :: r => if x = c then [] :: cut c r else match cut c r with
    | h :: t => (x :: h) :: t
    | [] => [[x]]
theorem cut_none {c : UInt8} : ∀ {l : Tx}, Lib.indexByte l c < 0 → cut c l = [l]
  | [], _ => rfl
  | x :: r, h => by
    unfold Lib.indexByte at h
    by_cases hx : x = c
    · subst hx; simp at h
    · have hx' : (x == c) = false := by simpa using hx
      rw [hx'] at h
      have h2 : Lib.indexByte r c < 0 := by
        have := Lib.indexByte_ge r c
        by_cases q : Lib.indexByte r c = -1
        · omega
        · simp [q] at h
          first | done | omega
      unfold cut
      rw [if_neg hx, cut_none h2]
theorem cut_some {c : UInt8} : ∀ {l : Tx} {i : Nat}, Lib.indexByte l c = (i : Int) → i < l.length ∧ cut c l = l.take i :: cut c (l.drop (i + 1))
  | [], i, h => by rw [Lib.indexByte] at h; omega
  | x :: r, i, h => by
    unfold Lib.indexByte at h
    by_cases hx : x = c
    · subst hx
      simp at h
      obtain rfl : i = 0 := by omega
      simp [cut]
    · have hx' : (x == c) = false := by simpa using hx
      rw [hx'] at h
      have := Lib.indexByte_ge r c
      by_cases q : Lib.indexByte r c = -1
      · simp [q] at h
        first | done | omega
      · simp [q] at h
        obtain ⟨j, rfl⟩ : ∃ j, i = j + 1 := ⟨i - 1, by omega⟩
        obtain ⟨h1, h2⟩ := cut_some (l := r) (i := j) (c := c) (by omega)
        refine ⟨by simp; omega, ?_⟩
        simp [cut, hx, h2]
end Go.Proofs.YtdjfmmfggkkbaaaDoor
