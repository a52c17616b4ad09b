/- A range over an iterator: what the round needs lies apart from what the iterator writes. -/
import Derived.Test.YtdkpdmpghibmmaaGreatM1
import Derived.Test.YtdkpdmpghibmmaaGreatChecked
import Derived.RangeFuncNested
import Derived.RangeFuncBound
import Derived.RangeFuncBox
import Derived.RangeFuncCalls
import Derived.RangeFuncLeaves
import Derived.RangeFuncStops
import Derived.Shelf.Abstract
import Derived.Shelf.RegionOpen
import Derived.OwnWalkIn
import Derived.TacticsInMore
import Derived.LoopNIn
import Derived.LoopIn
namespace Go.Proofs.YtdkpdmpghibmmaaGreat
open Go.RowKit

abbrev Foot := Nat → Prop
/-- What a round hands back: its own blocks, T before and T' behind it. -/
structure Ext (B : Nat) (Wr : Foot) (T T' : Foot) (W W' : World) : Prop where
  keep : ∀ k, T k → T' k
  more : ∀ k, T' k → T k ∨ W.heap.size ≤ k
  lt : ∀ k, T' k → k < W'.heap.size
  only : Only (fun k => Wr k ∨ T' k) W W'
theorem Ext.refl (B : Nat) (Wr T : Foot) {W : World} (h : ∀ k, T k → k < W.heap.size) : Ext B Wr T T W W := ⟨fun _ h => h, fun _ h => .inl h, h, Only.refl _ _⟩
theorem Ext.trans {B : Nat} {Wr T T' T'' : Foot} {W W' W'' : World} (h : Ext B Wr T T' W W') (k : Ext B Wr T' T'' W' W'') : Ext B Wr T T'' W W'' :=
  ⟨fun i q => k.keep i (h.keep i q), fun i q => by rcases k.more i q with q | q; exact h.more i q; exact .inr (Nat.le_trans h.only.size q), k.lt,
   ⟨k.only.os.trans h.only.os, k.only.tape.trans h.only.tape, k.only.output.trans h.only.output, Nat.le_trans h.only.size k.only.size, fun i hi hn =>
     (k.only.block i (Nat.lt_of_lt_of_le hi h.only.size) hn).trans (h.only.block i hi (fun q => hn (q.imp id (k.keep i))))⟩⟩
/-- It abides whatever happens from B on, but to T. -/
def Abide {β : Type} (B : Nat) (I : β → Foot → World → Prop) : Prop := ∀ s T A A', I s T A → (∀ k, T k → k < A.heap.size) → Only (fun k => B ≤ k ∧ ¬ T k) A A' → I s T A'

def SeqSep {α : Type} (F : Fence) (n : Nat) (P : Program) (g : Nat) (lb : Array Value) (encs : α → Array Value) (Wr : Foot) (R : List α → α → Prop) (S : List α → Prop) (w : World) : Prop :=
  ∀ (l : Nat) (J Jx : List α → Foot → World → Prop) (T0 : Foot) (W : World), Below w.heap.size w W → Abide w.heap.size J → Abide w.heap.size Jx →
    (∀ pre x T W1, J pre T W1 → R pre x → (∀ k, T k → w.heap.size ≤ k ∧ k < W1.heap.size) → w.heap.size ≤ W1.heap.size → YieldAt F (n - 1) P l (encs x) W1 fun e W' =>
      (e = .returned (.bool true) ∧ ∃ T', J (pre ++ [x]) T' W' ∧ Ext w.heap.size Wr T T' W1 W') ∨ (e = .returned (.bool false) ∧ ∃ T', Jx (pre ++ [x]) T' W' ∧ Ext w.heap.size Wr T T' W1 W')) →
    J [] T0 W → (∀ k, T0 k → w.heap.size ≤ k ∧ k < W.heap.size) →
    CallsIn F n P g (#[.func (.yield l) #[] #[]] ++ lb) W fun e W' => (∃ v, e = .returned v) ∧ ∃ T', (∀ k, T' k → k < W'.heap.size) ∧ ((∃ xs, S xs ∧ J xs T' W') ∨ (∃ pre, Jx pre T' W'))

def sepPost {α : Type} (B : Nat) (Wr : Foot) (I : List α → Foot → World → Prop) (Ix : Code → List α → Foot → World → Prop) (xs : List α) (T : Foot) (W : World) : Exit → Act → World → Prop
  | .normal, _, W' => ∃ T', I xs T' W' ∧ Ext B Wr T T' W W'
  | .ret, _, W' => ∃ T', Ix .ret xs T' W' ∧ Ext B Wr T T' W W'
  | .exit id, _, W' => ∃ T', Ix (.exit id) xs T' W' ∧ Ext B Wr T T' W W'
  | .goto t, _, W' => ∃ T', Ix (.goto t) xs T' W' ∧ Ext B Wr T T' W W'
  | .panic _, _, _ => False
  | .outgrown, _, _ => False

theorem Only.putObj {S : Foot} {W : World} {l : Nat} (o : Obj) (h : S l) : Only S W (W.putObj l o) := by
  have hg := grownBy_putObj' W l o
  exact ⟨hg.os, hg.tape, hg.output, hg.size, fun k hk hn => hg.block k hk (by intro e; injection e with e; subst e; exact hn h)⟩

/-- A walk that never panics. -/
def noP (Q : Exit → Act → World → Prop) : Exit → Act → World → Prop
  | .panic _, _, _ => False
  | e, a, w => Q e a w
theorem noP_le {Q : Exit → Act → World → Prop} : ∀ (e : Exit) (a : Act) (w : World), noP Q e a w → Q e a w
  | .panic _, _, _, h => h.elim
  | .normal, _, _, h => h
  | .ret, _, _, h => h
  | .exit _, _, _, h => h
  | .goto _, _, _, h => h
  | .outgrown, _, _, h => h
variable {F : Fence} {n : Nat} {P : Program}

theorem wpIn_rangeFunc_sep {α : Type} {g : Operand} {ps : Array Tmp} {assign body : Code} {Q : Exit → Act → World → Prop} {a : Act} {w : World}
    (hro : F.round = none) (h1 : 1 ≤ n) {gf : Nat} {lb : Array Value} (hg : a.eval g = .func (.func gf) #[] lb) (hFg : F.fn gf) (eg : ∀ args w, (callFunc gf args).run P w = .ok (.enter gf args) w)
    {encs : α → Array Value} {Wr : Foot} {R : List α → α → Prop} {S : List α → Prop} (hseq : SeqSep F (n - 1) P gf lb encs Wr R S w) (hWr : ∀ k, Wr k → k < w.heap.size) (hps : ∀ x, (encs x).size = ps.size)
    (I : List α → Foot → World → Prop) (Ix : Code → List α → Foot → World → Prop) (hI : Abide w.heap.size I) (hIx : ∀ c, Abide w.heap.size (Ix c)) (h0 : I [] (fun _ => False) w)
    (Ax : List α × α × Foot × World × Act → Foot → World → Prop) (hAx : Abide w.heap.size Ax)
    (hassign : ∀ (l : Nat) (pre : List α) (x : α) (T : Foot) (W : World) (K : Act → World → Prop), I pre T W → R pre x → (∀ k, T k → w.heap.size ≤ k ∧ k < W.heap.size) → w.heap.size ≤ W.heap.size →
      (∀ a' T' W', Ax (pre, x, T, W, a') T' W' → Ext w.heap.size Wr T T' W W' → K a' W') →
      assign.wpIn (F.inRound l) (n - 1 - 1) P (Exit.then K (fun _ _ _ => False)) { tmps := (ps.zip (encs x)).foldl (fun t (p, v) => t.setIfInBounds p v) a.tmps, defers := [] } W)
    (hbody : ∀ (l : Nat) (pre : List α) (x : α) (T0 : Foot) (W0 : World) (a' : Act) (T : Foot) (W : World), Ax (pre, x, T0, W0, a') T W → R pre x → (∀ k, T k → w.heap.size ≤ k ∧ k < W.heap.size) → w.heap.size ≤ W.heap.size →
      body.wpIn (F.inRound l) (n - 1 - 1) P (sepPost w.heap.size Wr I Ix (pre ++ [x]) T W) a' W)
    (hdone : ∀ (D : Nat) (xs : List α) (T : Foot) (W : World), w.heap.size ≤ D → S xs → I xs T W → (∀ k, T k → D + 1 < k ∧ k < W.heap.size) → W.heap[D]? = some (.deferred (some [])) → Q .normal { a with defers := { target := .collected D, args := #[] } :: a.defers } W)
    (hstop : ∀ (D : Nat) (c : Code) (pre : List α) (T : Foot) (W : World), w.heap.size ≤ D → Ix c pre T W → (∀ k, T k → D + 1 < k ∧ k < W.heap.size) → W.heap[D]? = some (.deferred (some [])) → c.wpIn F n P Q { a with defers := { target := .collected D, args := #[] } :: a.defers } W) :
    (Code.rangeFunc g ps assign body).wpIn F n P Q a w := by
  refine wpIn_rangeFunc fun fn hfn => ?_
  rw [hro]
  obtain ⟨D, hD⟩ : ∃ D, D = w.heap.size := ⟨_, rfl⟩
  obtain ⟨book, hbook⟩ : ∃ book : LoopState → Option Code → Loop, book = fun st pe => { state := st, pending := pe, fn, tmps := a.tmps, params := ps, assign, body, defers := D } := ⟨_, rfl⟩
  have hpar : ∀ st pe, (book st pe).params = ps := fun st pe => by rw [hbook]
  obtain ⟨W1, hW1⟩ : ∃ W1, W1 = (w.alloc (.deferred (some []))).alloc (.loop (book .ready none)) := ⟨_, rfl⟩
  have hs1 : (w.alloc (.deferred (some []))).heap.size = D + 1 := by rw [World.size_alloc, hD]
  have hsz1 : W1.heap.size = D + 2 := by rw [hW1, World.size_alloc, hs1]
  have hL1 : W1.heap[D + 1]? = some (.loop (book .ready none)) := by rw [hW1, ← hs1]; exact World.alloc_heap_new _ _
  have hK1 : W1.heap[D]? = some (.deferred (some [])) := by
    rw [hW1, Below.heap_alloc _ _ _ (by omega), hD]
    exact World.alloc_heap_new w _
  have hb1 : Below w.heap.size w W1 := by rw [hW1]; exact ((Below.refl _ w).alloc (Nat.le_refl _) _).alloc (by simp) _
  have hI1 : I [] (fun _ => False) W1 := hI _ _ w W1 h0 (fun _ h => h.elim) ⟨hb1.os, hb1.tape, hb1.output, hb1.size, fun k hk _ => hb1.block k hk⟩
  -- the law's own two blocks beside the round's
  let big : Foot → Foot := fun T k => T k ∨ k = D ∨ k = D + 1
  refine ⟨D + 1, [{ target := .collected D, args := #[] }], W1, { target := .fn (.func gf) lb, args := #[.func (.yield (D + 1)) #[] #[]] }, W1, gf,
    #[.func (.yield (D + 1)) #[] #[]] ++ lb, W1, ?_, ?_, ?_, ?_, fun _ => h1, ?_⟩
  · rw [hW1, hbook, hD]; exact run_enterLoop_outer _ _ _ _ _
  · simp only [resolve, hg]
    simp [go_sem]
  · intro f' hf'; simp [Target.leads] at hf'; subst hf'; exact hFg
  · simp [invoke, go_sem, eg]
  · refine (hseq (D + 1)
      (fun pre T W => ∃ T1 : Foot, (∀ k, T k ↔ T1 k ∨ k = D ∨ k = D + 1) ∧ (∀ k, T1 k → D + 1 < k ∧ k < W.heap.size) ∧ I pre T1 W ∧ W.heap[D + 1]? = some (.loop (book .ready none)) ∧ W.heap[D]? = some (.deferred (some [])))
      (fun pre T W => ∃ T1 : Foot, (∀ k, T k ↔ T1 k ∨ k = D ∨ k = D + 1) ∧ (∀ k, T1 k → D + 1 < k ∧ k < W.heap.size) ∧ ∃ c, Ix c pre T1 W ∧ W.heap[D + 1]? = some (.loop (book .done (some c))) ∧ W.heap[D]? = some (.deferred (some [])))
      (fun k => k = D ∨ k = D + 1) W1 hb1 ?_ ?_ ?_ ⟨fun _ => False, fun k => by simp, fun _ h => h.elim, hI1, hL1, hK1⟩ (fun k hk => by omega)).mono ?_
    · rintro s T A A' ⟨T1, hT, hlt, hi, hl, hk⟩ hTlt ho
      refine ⟨T1, hT, fun k h => ⟨(hlt k h).1, Nat.lt_of_lt_of_le (hlt k h).2 ho.size⟩, hI _ _ _ _ hi (fun k h => (hlt k h).2) (ho.mono (fun k hk => .inl ⟨hk.1, fun h => hk.2 ((hT k).2 (.inl h))⟩)), ?_, ?_⟩
      · exact (ho.block _ (Array.getElem?_eq_some_iff.1 hl).1 (fun h => h.2 ((hT _).2 (.inr (.inr rfl))))).trans hl
      · exact (ho.block _ (Array.getElem?_eq_some_iff.1 hk).1 (fun h => h.2 ((hT _).2 (.inr (.inl rfl))))).trans hk
    · rintro s T A A' ⟨T1, hT, hlt, c, hi, hl, hk⟩ hTlt ho
      refine ⟨T1, hT, fun k h => ⟨(hlt k h).1, Nat.lt_of_lt_of_le (hlt k h).2 ho.size⟩, c, hIx c _ _ _ _ hi (fun k h => (hlt k h).2) (ho.mono (fun k hk => .inl ⟨hk.1, fun h => hk.2 ((hT k).2 (.inl h))⟩)), ?_, ?_⟩
      · exact (ho.block _ (Array.getElem?_eq_some_iff.1 hl).1 (fun h => h.2 ((hT _).2 (.inr (.inr rfl))))).trans hl
      · exact (ho.block _ (Array.getElem?_eq_some_iff.1 hk).1 (fun h => h.2 ((hT _).2 (.inr (.inl rfl))))).trans hk
    · rintro pre x T W ⟨T1, hT, hlt, hi, hl, hk⟩ hR hTb hWs
      have hltL : D + 1 < W.heap.size := (Array.getElem?_eq_some_iff.1 hl).1
      have hy := run_yield (P := P) (args := encs x) hl (by rw [hpar]; exact hps x)
      rw [hbook] at hy
      refine ⟨fn, _, assign, body, hy, roundIn_of_wpIn hfn (hassign _ pre x T1 W _ hi hR (fun k h => ⟨by have := (hlt k h).1; omega, (hlt k h).2⟩) hWs fun a' T2 Wa hax hext => ?_)⟩
      have hTw : ∀ k, T2 k → D + 1 < k := fun k h => by rcases hext.more k h with h | h; exact (hlt k h).1; omega
      have far : ∀ k, k = D ∨ k = D + 1 → ¬ (Wr k ∨ T2 k) := fun k hk h => by
        rcases h with h | h
        · have := hWr k h; omega
        · have := hTw k h; omega
      have hla : Wa.heap[D + 1]? = some (.loop (book .ready none)) := (hext.only.block _ hltL (far _ (.inr rfl))).trans hl
      have hka : Wa.heap[D]? = some (.deferred (some [])) := (hext.only.block _ (by omega) (far _ (.inl rfl))).trans hk
      have hltA : D + 1 < Wa.heap.size := (Array.getElem?_eq_some_iff.1 hla).1
      refine ⟨_, run_beginRound hla (by rw [hbook]), ?_⟩
      obtain ⟨V, hV⟩ : ∃ V, V = Wa.putObj (D + 1) (.loop { book .ready none with state := .busy }) := ⟨_, rfl⟩
      rw [← hV]
      have hl2 : V.heap[D + 1]? = some (.loop { book .ready none with state := .busy }) := by rw [hV]; exact World.putObj_heap_same hltA
      have hk2 : V.heap[D]? = some (.deferred (some [])) := by rw [hV]; exact (World.putObj_heap_other (by omega)).trans hka
      have hsV : V.heap.size = Wa.heap.size := by rw [hV]; simp [World.putObj]
      have hav : Ax (pre, x, T1, W, a') T2 V := by rw [hV]; exact hAx _ _ _ _ hax hext.lt (Only.putObj _ ⟨by omega, fun h => by have := hTw _ h; omega⟩)
      have hoV : Only (fun k => k = D + 1) Wa V := by rw [hV]; exact Only.putObj _ rfl
      refine wpIn_mono (hbody _ pre x T1 W a' T2 V hav hR (fun k h => ⟨by have := hTw k h; omega, by rw [hsV]; exact hext.lt k h⟩) (by have := hext.only.size; omega)) ?_
      -- behind the round
      have fin : ∀ (jump : Option Code) (T3 : Foot) (W3 : World), Ext w.heap.size Wr T2 T3 V W3 →
          ∃ W4, W4 = W3.putObj (D + 1) (.loop (book (if jump.isNone then .ready else .done) jump)) ∧ (Instr.endRound (D + 1) jump).run P W3 = .ok (.bool jump.isNone) W4 ∧
          W4.heap[D + 1]? = some (.loop (book (if jump.isNone then .ready else .done) jump)) ∧ W4.heap[D]? = some (.deferred (some [])) ∧ (∀ k, T3 k → D + 1 < k ∧ k < W4.heap.size) ∧ Only (fun k => w.heap.size ≤ k ∧ ¬ T3 k) W3 W4 ∧
          Ext w.heap.size Wr T (fun k => T3 k ∨ k = D ∨ k = D + 1) W W4 := fun jump T3 W3 he3 => by
        have hTw3 : ∀ k, T3 k → D + 1 < k := fun k h => by rcases he3.more k h with h | h; exact hTw k h; omega
        have far3 : ∀ k, k = D ∨ k = D + 1 → ¬ (Wr k ∨ T3 k) := fun k hk h => by
          rcases h with h | h
          · have := hWr k h; omega
          · have := hTw3 k h; omega
        have hl3 := (he3.only.block _ (by omega) (far3 (D + 1) (.inr rfl))).trans hl2
        have hk3 := (he3.only.block _ (by omega) (far3 D (.inl rfl))).trans hk2
        have hlt3 : D + 1 < W3.heap.size := (Array.getElem?_eq_some_iff.1 hl3).1
        have he := run_endRound (P := P) jump hl3
        obtain ⟨W4, hW4⟩ : ∃ W4, W4 = W3.putObj (D + 1) (.loop (book (if jump.isNone then .ready else .done) jump)) := ⟨_, rfl⟩
        have hs4 : W4.heap.size = W3.heap.size := by rw [hW4]; simp [World.putObj]
        have hsz3 := he3.only.size
        have hsza := hext.only.size
        -- all that turned, the law's own blocks among it
        have b1 : Ext w.heap.size Wr T (fun k => T2 k ∨ k = D ∨ k = D + 1) W Wa := by
          refine ⟨fun k h => ((hT k).1 h).imp (hext.keep k) id, fun k h => ?_, fun k h => ?_, hext.only.mono (fun k h => .inl (h.imp id .inl))⟩
          · rcases h with h | h
            · exact (hext.more k h).imp (fun q => (hT k).2 (.inl q)) id
            · exact .inl ((hT k).2 (.inr h))
          · rcases h with h | h
            · exact hext.lt k h
            · omega
        have b2 : Ext w.heap.size Wr (fun k => T2 k ∨ k = D ∨ k = D + 1) (fun k => T2 k ∨ k = D ∨ k = D + 1) Wa V :=
          ⟨fun _ h => h, fun _ h => .inl h, fun k h => by rw [hsV]; exact b1.lt k h, hoV.mono (fun k h => .inl (.inr (.inr (.inr h))))⟩
        have b3 : Ext w.heap.size Wr (fun k => T2 k ∨ k = D ∨ k = D + 1) (fun k => T3 k ∨ k = D ∨ k = D + 1) V W3 := by
          refine ⟨fun k h => h.imp (he3.keep k) id, fun k h => ?_, fun k h => ?_, he3.only.mono (fun k h => .inl (h.imp id .inl))⟩
          · rcases h with h | h
            · exact (he3.more k h).imp .inl id
            · exact .inl (.inr h)
          · rcases h with h | h
            · exact he3.lt k h
            · omega
        have b4 : Ext w.heap.size Wr (fun k => T3 k ∨ k = D ∨ k = D + 1) (fun k => T3 k ∨ k = D ∨ k = D + 1) W3 W4 :=
          ⟨fun _ h => h, fun _ h => .inl h, fun k h => by rw [hs4]; exact b3.lt k h, by rw [hW4]; exact Only.putObj _ (.inr (.inr (.inr rfl)))⟩
        refine ⟨W4, hW4, ?_, ?_, ?_, fun k h => ⟨hTw3 k h, by rw [hs4]; exact he3.lt k h⟩, ?_, ((b1.trans b2).trans b3).trans b4⟩
        · rw [hW4]; rw [hbook] at he ⊢; exact he
        · rw [hW4]; exact World.putObj_heap_same hlt3
        · rw [hW4]; exact (World.putObj_heap_other (by omega)).trans hk3
        · rw [hW4]; exact Only.putObj _ ⟨by omega, fun h => by have := hTw3 _ h; omega⟩
      rintro e a3 W3 hp
      cases e with
      | normal =>
        obtain ⟨T3, hi3, he3⟩ := hp
        obtain ⟨W4, hW4, hr, hl4, hk4, ht4, ho4, hx4⟩ := fin none T3 W3 he3
        exact ⟨_, _, hr, .inl ⟨rfl, _, ⟨T3, fun _ => Iff.rfl, ht4, hI _ _ _ _ hi3 he3.lt ho4, hl4, hk4⟩, hx4⟩⟩
      | ret =>
        obtain ⟨T3, hi3, he3⟩ := hp
        obtain ⟨W4, hW4, hr, hl4, hk4, ht4, ho4, hx4⟩ := fin (some .ret) T3 W3 he3
        exact ⟨_, _, hr, .inr ⟨rfl, _, ⟨T3, fun _ => Iff.rfl, ht4, .ret, hIx _ _ _ _ _ hi3 he3.lt ho4, hl4, hk4⟩, hx4⟩⟩
      | exit id =>
        obtain ⟨T3, hi3, he3⟩ := hp
        obtain ⟨W4, hW4, hr, hl4, hk4, ht4, ho4, hx4⟩ := fin (some (.exit id)) T3 W3 he3
        exact ⟨_, _, hr, .inr ⟨rfl, _, ⟨T3, fun _ => Iff.rfl, ht4, .exit id, hIx _ _ _ _ _ hi3 he3.lt ho4, hl4, hk4⟩, hx4⟩⟩
      | goto t =>
        obtain ⟨T3, hi3, he3⟩ := hp
        obtain ⟨W4, hW4, hr, hl4, hk4, ht4, ho4, hx4⟩ := fin (some (.goto t)) T3 W3 he3
        exact ⟨_, _, hr, .inr ⟨rfl, _, ⟨T3, fun _ => Iff.rfl, ht4, .goto t, hIx _ _ _ _ _ hi3 he3.lt ho4, hl4, hk4⟩, hx4⟩⟩
      | panic ch => exact hp.elim
      | outgrown => exact hp.elim
    · rintro e W2 ⟨⟨v, rfl⟩, T', hTl, (⟨xs, hS, T1, hT, hlt, hi, hl, hk⟩ | ⟨pre, T1, hT, hlt, c, hi, hl, hk⟩)⟩
      · have he := run_endLoop (P := P) hl (by rw [hbook]; simp)
        rw [hbook] at he
        refine ⟨none, _, he, hdone _ xs T1 _ (by omega) hS (hI _ _ _ _ hi (fun k h => (hlt k h).2) (Only.putObj _ ⟨by omega, fun h => by have := (hlt _ h).1; omega⟩)) (fun k h => ⟨(hlt k h).1, by simpa [World.putObj] using (hlt k h).2⟩) ((World.putObj_heap_other (by omega)).trans hk)⟩
      · have he := run_endLoop (P := P) hl (by rw [hbook]; simp)
        rw [hbook] at he
        refine ⟨some c, _, he, hstop _ c pre T1 _ (by omega) (hIx c _ _ _ _ hi (fun k h => (hlt k h).2) (Only.putObj _ ⟨by omega, fun h => by have := (hlt _ h).1; omega⟩)) (fun k h => ⟨(hlt k h).1, by simpa [World.putObj] using (hlt k h).2⟩) ((World.putObj_heap_other (by omega)).trans hk)⟩

/-- The loop's variables lie in slots. -/
theorem wpIn_rangeFunc_sep1 {α : Type} {g : Operand} {ps : Array Tmp} {assign body : Code} {Q : Exit → Act → World → Prop} {a : Act} {w : World}
    (hro : F.round = none) (h1 : 1 ≤ n) {gf : Nat} {lb : Array Value} (hg : a.eval g = .func (.func gf) #[] lb) (hFg : F.fn gf) (eg : ∀ args w, (callFunc gf args).run P w = .ok (.enter gf args) w)
    {encs : α → Array Value} {Wr : Foot} {R : List α → α → Prop} {S : List α → Prop} (hseq : SeqSep F (n - 1) P gf lb encs Wr R S w) (hWr : ∀ k, Wr k → k < w.heap.size) (hps : ∀ x, (encs x).size = ps.size)
    (I : List α → Foot → World → Prop) (Ix : Code → List α → Foot → World → Prop) (hI : Abide w.heap.size I) (hIx : ∀ c, Abide w.heap.size (Ix c)) (h0 : I [] (fun _ => False) w)
    (mk : α → Act)
    (hassign : ∀ (l : Nat) (x : α) (W : World) (K : Act → World → Prop), K (mk x) W →
      assign.wpIn (F.inRound l) (n - 1 - 1) P (Exit.then K (fun _ _ _ => False)) { tmps := (ps.zip (encs x)).foldl (fun t (p, v) => t.setIfInBounds p v) a.tmps, defers := [] } W)
    (hbody : ∀ (l : Nat) (pre : List α) (x : α) (T : Foot) (W : World), I pre T W → R pre x → (∀ k, T k → w.heap.size ≤ k ∧ k < W.heap.size) → w.heap.size ≤ W.heap.size →
      body.wpIn (F.inRound l) (n - 1 - 1) P (sepPost w.heap.size Wr I Ix (pre ++ [x]) T W) (mk x) W)
    (hdone : ∀ (D : Nat) (xs : List α) (T : Foot) (W : World), w.heap.size ≤ D → S xs → I xs T W → (∀ k, T k → D + 1 < k ∧ k < W.heap.size) → W.heap[D]? = some (.deferred (some [])) → Q .normal { a with defers := { target := .collected D, args := #[] } :: a.defers } W)
    (hstop : ∀ (D : Nat) (c : Code) (pre : List α) (T : Foot) (W : World), w.heap.size ≤ D → Ix c pre T W → (∀ k, T k → D + 1 < k ∧ k < W.heap.size) → W.heap[D]? = some (.deferred (some [])) → c.wpIn F n P Q { a with defers := { target := .collected D, args := #[] } :: a.defers } W) :
    (Code.rangeFunc g ps assign body).wpIn F n P Q a w :=
  wpIn_rangeFunc_sep hro h1 hg hFg eg hseq hWr hps I Ix hI hIx h0 (fun q T W => q.2.2.2.2 = mk q.2.1 ∧ I q.1 T W)
    (fun s T A A' h hT ho => ⟨h.1, hI _ _ _ _ h.2 hT ho⟩)
    (fun l pre x T W K hi _ hT _ hK => hassign l x W K (hK _ T W ⟨rfl, hi⟩ (Ext.refl _ _ _ (fun k h => (hT k h).2))))
    (fun l pre x T0 W0 a' T W h hR hT hW => by
      obtain ⟨h1, h2⟩ := h
      dsimp only at h1 h2
      rw [h1]
      exact hbody l pre x T W h2 hR hT hW)
    hdone hstop
/-- The loop's one variable lies in a box of its own. -/
theorem wpIn_rangeFunc_sepB {α : Type} {g : Operand} {ps : Array Tmp} {assign body : Code} {Q : Exit → Act → World → Prop} {a : Act} {w : World}
    (hro : F.round = none) (h1 : 1 ≤ n) {gf : Nat} {lb : Array Value} (hg : a.eval g = .func (.func gf) #[] lb) (hFg : F.fn gf) (eg : ∀ args w, (callFunc gf args).run P w = .ok (.enter gf args) w)
    {encs : α → Array Value} {Wr : Foot} {R : List α → α → Prop} {S : List α → Prop} (hseq : SeqSep F (n - 1) P gf lb encs Wr R S w) (hWr : ∀ k, Wr k → k < w.heap.size) (hps : ∀ x, (encs x).size = ps.size)
    (I : List α → Foot → World → Prop) (Ix : Code → List α → Foot → World → Prop) (hI : Abide w.heap.size I) (hIx : ∀ c, Abide w.heap.size (Ix c)) (h0 : I [] (fun _ => False) w)
    (t : TypeId) (cs : α → Array Value) (mk : α → Nat → Act)
    (hassign : ∀ (l : Nat) (x : α) (W : World) (K : Act → World → Prop), K (mk x W.heap.size) (W.alloc (.cells (cs x) t)) →
      assign.wpIn (F.inRound l) (n - 1 - 1) P (Exit.then K (fun _ _ _ => False)) { tmps := (ps.zip (encs x)).foldl (fun t (p, v) => t.setIfInBounds p v) a.tmps, defers := [] } W)
    (hgrow : ∀ pre T T' W, I pre T W → (∀ k, T k → T' k) → I pre T' W)
    (hbody : ∀ (l : Nat) (pre : List α) (x : α) (bx : Nat) (T : Foot) (W : World), I pre T W → Row W bx t (cs x) → w.heap.size ≤ bx → T bx → R pre x → (∀ k, T k → w.heap.size ≤ k ∧ k < W.heap.size) → w.heap.size ≤ W.heap.size →
      body.wpIn (F.inRound l) (n - 1 - 1) P (sepPost w.heap.size Wr I Ix (pre ++ [x]) T W) (mk x bx) W)
    (hdone : ∀ (D : Nat) (xs : List α) (T : Foot) (W : World), w.heap.size ≤ D → S xs → I xs T W → (∀ k, T k → D + 1 < k ∧ k < W.heap.size) → W.heap[D]? = some (.deferred (some [])) → Q .normal { a with defers := { target := .collected D, args := #[] } :: a.defers } W)
    (hstop : ∀ (D : Nat) (c : Code) (pre : List α) (T : Foot) (W : World), w.heap.size ≤ D → Ix c pre T W → (∀ k, T k → D + 1 < k ∧ k < W.heap.size) → W.heap[D]? = some (.deferred (some [])) → c.wpIn F n P Q { a with defers := { target := .collected D, args := #[] } :: a.defers } W) :
    (Code.rangeFunc g ps assign body).wpIn F n P Q a w :=
  wpIn_rangeFunc_sep hro h1 hg hFg eg hseq hWr hps I Ix hI hIx h0 (fun q T W => ∃ bx, q.2.2.2.2 = mk q.2.1 bx ∧ Row W bx t (cs q.2.1) ∧ w.heap.size ≤ bx ∧ T bx ∧ I q.1 T W)
    (fun s T A A' h hT ho => by
      obtain ⟨bx, h1, h2, h3, h4, h5⟩ := h
      exact ⟨bx, h1, h2.only ho (fun q => q.2 h4), h3, h4, hI _ _ _ _ h5 hT ho⟩)
    (fun l pre x T W K hi _ hT hW hK => hassign l x W K (hK _ (fun k => T k ∨ k = W.heap.size) _ ⟨W.heap.size, rfl, Row.fresh W t (cs x), hW, .inr rfl, hgrow _ _ _ _ (hI _ _ W _ hi (fun k h => (hT k h).2) ((Only.refl _ W).alloc _)) (fun k h => .inl h)⟩
      ⟨fun k h => .inl h, fun k h => h.imp id (fun e => Nat.le_of_eq e.symm), fun k h => by rw [World.size_alloc]; rcases h with h | h; exact Nat.lt_succ_of_lt (hT k h).2; omega, (Only.refl _ W).alloc _⟩))
    (fun l pre x T0 W0 a' T W h hR hT hW => by
      obtain ⟨bx, h1, h2, h3, h4, h5⟩ := h
      dsimp only at h1 h2 h5
      rw [h1]
      exact hbody l pre x bx T W h5 h2 h3 h4 hR hT hW)
    hdone hstop
end Go.Proofs.YtdkpdmpghibmmaaGreat
