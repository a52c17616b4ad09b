/- Slices that read as ints, or as edges; SameInts, SameEdges. -/
import Derived.Test.YtdkpdmpghibmmaaGreatGhS
import Derived.BigQuiet
import Derived.WalkSmall
namespace Go.Proofs.YtdkpdmpghibmmaaGreat
open Go.RowKit Go.Shelf Grm Lay

/-- A slice that reads as these ints. -/
def Zs (w : World) (a : Option Addr) (l : List Int) : Prop := l = [] ∨ ∃ b o, a = some ⟨b, o, none⟩ ∧ ∀ i y, l[i]? = some y → w.cell? ⟨b, o + i, none⟩ = some (.int .i64 y)
theorem Zs.at_ {w : World} {a : Option Addr} {l : List Int} (h : Zs w a l) {k : Nat} (hk : k < l.length) : ∃ b o, a = some ⟨b, o, none⟩ ∧ w.cell? ⟨b, o + k, none⟩ = some (.int .i64 (l[k]'hk)) := by
  rcases h with rfl | ⟨b, o, e, h⟩
  · cases hk
  · exact ⟨b, o, e, h k _ (List.getElem?_eq_getElem hk)⟩
theorem Zs.only {S : Nat → Prop} {w w' : World} {a : Option Addr} {l : List Int} (h : Zs w a l) (ho : Only S w w') (hS : ∀ b o, a = some ⟨b, o, none⟩ → l ≠ [] → ¬ S b) : Zs w' a l := by
  rcases h with h | ⟨b, o, rfl, h⟩
  · exact .inl h
  · refine .inr ⟨b, o, rfl, fun i y hi => ?_⟩
    have hc := h i y hi
    have hb := ho.block b (block_lt_of_cell hc) (hS b o rfl (fun e => by subst e; cases hi))
    unfold World.cell? at hc ⊢
    rw [hb]
    exact hc
theorem Zs.under {w w' : World} {a : Option Addr} {l : List Int} (h : Zs w a l) (hb : Below w.heap.size w w') : Zs w' a l := h.only (Only.of_below (fun _ => False) hb) (fun _ _ _ _ h => h)
theorem Zs.of {w : World} {K n c : Nat} {a : Option Addr} {l : List Int} (h : w.ownsRow K 3 1 (.slice a n c) l.length (l.map (Value.int .i64))) : Zs w a l := by
  by_cases hl : l = []
  · exact .inl hl
  · have h0 : 0 < l.length := List.length_pos_iff.2 hl
    obtain ⟨g, c', e, _, _⟩ := owns_cell (i := 0) (u := .int .i64 (l[0]'h0)) h (by simp [h0])
    cases e
    refine .inr ⟨g, 0, rfl, fun i y hi => ?_⟩
    obtain ⟨g', c'', e', _, hc⟩ := owns_cell (i := i) (u := .int .i64 y) h (by simp [hi])
    cases e'
    rw [Nat.zero_add]
    exact hc
/-- A slice that reads as these edges. -/
def Es (w : World) (a : Option Addr) (l : List Ed) : Prop := l = [] ∨ ∃ b o, a = some ⟨b, o, none⟩ ∧ ∀ i y, l[i]? = some y → w.cell? ⟨b, o + i * 3, none⟩ = some (.int .i64 y.1) ∧ w.cell? ⟨b, o + i * 3 + 1, none⟩ = some (.int .i64 y.2.1) ∧ w.cell? ⟨b, o + i * 3 + 2, none⟩ = some (.int .i64 (y.2.2 : Nat))
theorem Es.at_ {w : World} {a : Option Addr} {l : List Ed} (h : Es w a l) {k : Nat} (hk : k < l.length) : ∃ b o, a = some ⟨b, o, none⟩ ∧ w.cell? ⟨b, o + k * 3, none⟩ = some (.int .i64 (l[k]'hk).1) ∧ w.cell? ⟨b, o + k * 3 + 1, none⟩ = some (.int .i64 (l[k]'hk).2.1) ∧ w.cell? ⟨b, o + k * 3 + 2, none⟩ = some (.int .i64 ((l[k]'hk).2.2 : Nat)) := by
  rcases h with rfl | ⟨b, o, e, h⟩
  · cases hk
  · exact ⟨b, o, e, h k _ (List.getElem?_eq_getElem hk)⟩
theorem Es.only {S : Nat → Prop} {w w' : World} {a : Option Addr} {l : List Ed} (h : Es w a l) (ho : Only S w w') (hS : ∀ b o, a = some ⟨b, o, none⟩ → l ≠ [] → ¬ S b) : Es w' a l := by
  rcases h with h | ⟨b, o, rfl, h⟩
  · exact .inl h
  · refine .inr ⟨b, o, rfl, fun i y hi => ?_⟩
    obtain ⟨h0, h1, h2⟩ := h i y hi
    have hb := ho.block b (block_lt_of_cell h0) (hS b o rfl (fun e => by subst e; cases hi))
    have hcell : ∀ q, w'.cell? ⟨b, q, none⟩ = w.cell? ⟨b, q, none⟩ := fun q => by unfold World.cell?; rw [hb]
    rw [hcell, hcell, hcell]
    exact ⟨h0, h1, h2⟩
theorem Es.under {w w' : World} {a : Option Addr} {l : List Ed} (h : Es w a l) (hb : Below w.heap.size w w') : Es w' a l := h.only (Only.of_below (fun _ => False) hb) (fun _ _ _ _ h => h)
theorem Es.of {w : World} {K n c : Nat} {a : Option Addr} {l : List Ed} (h : w.ownsRow K 94 3 (.slice a n c) l.length (ecells l)) : Es w a l := by
  by_cases hl : l = []
  · exact .inl hl
  · have h0 : 0 < l.length := List.length_pos_iff.2 hl
    obtain ⟨q0, _, _⟩ := ecells_get l 0 h0
    obtain ⟨g, c', e, _, _⟩ := owns_cell (i := 0 * 3) h q0
    cases e
    refine .inr ⟨g, 0, rfl, fun i y hi => ?_⟩
    obtain ⟨hlt, rfl⟩ := List.getElem?_eq_some_iff.1 hi
    obtain ⟨q0, q1, q2⟩ := ecells_get l i hlt
    obtain ⟨g', c'', e', _, hc0⟩ := owns_cell h q0
    cases e'
    obtain ⟨g', c'', e', _, hc1⟩ := owns_cell h q1
    cases e'
    obtain ⟨g', c'', e', _, hc2⟩ := owns_cell h q2
    cases e'
    rw [Nat.zero_add]
    exact ⟨hc0, hc1, hc2⟩
theorem ret_bool {a b : Bool} (h : a = b) : Ending.returned (.bool a) = .returned (.bool b) := by rw [h]
theorem take_eq_succ' {α : Type} {l r : List α} {k : Nat} (hl : k < l.length) (hr : k < r.length) (h : l.take k = r.take k) (e : l[k]'hl = r[k]'hr) : l.take (k + 1) = r.take (k + 1) := by
  rw [List.take_succ_eq_append_getElem hl, List.take_succ_eq_append_getElem hr, h, e]
set_option maxHeartbeats 1000000 in
theorem sameints_any (a b : Option Addr) (l r : List Int) (c d : Nat) (w : World) (hA : Zs w a l) (hB : Zs w b r) (hl : l.length ≤ 1000000000) :
    Calls Tryz.prog 38 #[.slice a l.length c, .slice b r.length d] w fun e w' => e = .returned (.bool (decide (l = r))) ∧ Below w.heap.size w w' := by
  have HA := Lib.hid (And.intro hA hB)
  have hl' : (l.length : Int) ≤ 1000000000 := by omega
  clear hA hB
  obtain ⟨R, hR⟩ : ∃ R, R = decide (l = r) := ⟨_, rfl⟩
  rw [← hR]
  by_cases hlen : l.length = r.length
  · have HL := Lib.hid hlen
    have HR := Lib.hid hR
    rw [← hlen]
    clear hlen hR hl
    go_enter Tryz.func38, Tryz.ntmps38
    go_wp2
    go_loopw [5] (fun i wr => ∃ k : Nat, k ≤ l.length ∧ i = .int .i64 k ∧ l.take k = r.take k ∧ Below w.heap.size w wr) (fun i _ => l.length - (intOf i).toNat)
    case atStart => exact ⟨0, by omega, rfl, rfl, Below.refl _ _⟩
    case round =>
      obtain ⟨k, hk, rfl, heq, hb⟩ := hrel
      by_cases hlt : k < l.length
      · have hkr : k < r.length := by have := HL.out; omega
        have hlt' : (k : Int) < (l.length : Int) := by omega
        obtain ⟨b1, o1, rfl, hc1⟩ := (HA.out.1.under hb).at_ hlt
        obtain ⟨b2, o2, rfl, hc2⟩ := (HA.out.2.under hb).at_ hkr
        have HT := Lib.hid (fun e => take_eq_succ' hlt hkr heq e)
        have HN : Hid (l[k]'hlt ≠ r[k]'hkr → l ≠ r) := Lib.hid (fun hne e => hne (by simp [e]))
        have HX := Lib.hid hb
        clear heq hb
        generalize l[k]'hlt = x at *
        generalize r[k]'hkr = y at *
        by_cases he : x = y
        · subst he
          go_wp2
          go_quiet (fail)
          go_wp2
          go_roundw
          case rel => exact ⟨k + 1, by omega, by go_num, HT.out trivial, below_dN HX.out _⟩
          case measure => simp [intOf]; omega
        · have hb1 : (x == y) = false := by simpa using he
          have HE := Lib.hid he
          clear he
          go_wp2
          go_quiet (fail)
          go_wp2
          go_ret
          exact ⟨ret_bool (by rw [HR.out, decide_eq_false (HN.out HE.out)]), below_dN HX.out _⟩
      · obtain rfl : k = l.length := by omega
        have hfin : l = r := by
          have h := heq
          rw [List.take_length, HL.out, List.take_length] at h
          exact h
        have HF := Lib.hid hfin
        have HX := Lib.hid hb
        clear heq hb hfin
        go_wp2
        go_ret
        exact ⟨ret_bool (by rw [HR.out, decide_eq_true HF.out]), HX.out⟩
  · have hlen' : ((l.length : Int) == (r.length : Int)) = false := by simp; omega
    have hne : R = false := by rw [hR]; exact decide_eq_false (fun e => hlen (by rw [e]))
    subst hne
    clear hlen hR
    go_enter Tryz.func38, Tryz.ntmps38
    go_wp2
    go_ret
    exact ⟨rfl, Below.refl _ _⟩
end Go.Proofs.YtdkpdmpghibmmaaGreat
