/- Arcs in memory; slices.Equal of them. -/
import Derived.Test.YtdjfmmfggkkbaaaDoorGrB
namespace Go.Proofs.YtdjfmmfggkkbaaaDoor
open Go.RowKit Grm

abbrev Ar := Int × Int × Int
/-- A slice that reads as these arcs. -/
def Arcs (w : World) (a : Option Addr) (l : List Ar) : Prop := l = [] ∨ ∃ b o, a = some ⟨b, o, none⟩ ∧ ∀ i y, l[i]? = some y → w.cell? ⟨b, o + i * 3, none⟩ = some (.int .i64 y.1) ∧ w.cell? ⟨b, o + i * 3 + 1, none⟩ = some (.int .i64 y.2.1) ∧ w.cell? ⟨b, o + i * 3 + 2, none⟩ = some (.int .i64 y.2.2)
theorem Arcs.at_ {w : World} {a : Option Addr} {l : List Ar} (h : Arcs w a l) {k : Nat} (hk : k < l.length) : ∃ b o, a = some ⟨b, o, none⟩ ∧ w.cell? ⟨b, o + k * 3, none⟩ = some (.int .i64 (l[k]'hk).1) ∧ w.cell? ⟨b, o + k * 3 + 1, none⟩ = some (.int .i64 (l[k]'hk).2.1) ∧ w.cell? ⟨b, o + k * 3 + 2, none⟩ = some (.int .i64 (l[k]'hk).2.2) := by
  rcases h with rfl | ⟨b, o, rfl, h⟩
  · simp at hk
  · exact ⟨b, o, rfl, h k _ (List.getElem?_eq_getElem hk)⟩
theorem Arcs.under {w w' : World} {a : Option Addr} {l : List Ar} (h : Arcs w a l) (hb : Below w.heap.size w w') : Arcs w' a l := by
  rcases h with rfl | ⟨b, o, rfl, h⟩
  · exact .inl rfl
  · have hc : ∀ (j : Nat) (v : Value), w.cell? ⟨b, j, none⟩ = some v → w'.cell? ⟨b, j, none⟩ = some v := fun j v q => by
      have := hb.block b (block_lt_of_cell q)
      unfold World.cell? at q ⊢
      simp only at q ⊢
      rw [this]
      exact q
    exact .inr ⟨b, o, rfl, fun i y hy => ⟨hc _ _ (h i y hy).1, hc _ _ (h i y hy).2.1, hc _ _ (h i y hy).2.2⟩⟩
theorem below_dN {B : Nat} {a w : World} (h : Below B a w) (n : Nat) : Below B a (w.drewN n) := ⟨h.os, h.tape, h.output, h.size, h.block⟩
theorem take_eq_succ {α : Type} {l r : List α} {k : Nat} (hl : k < l.length) (hr : k < r.length) (h : l.take k = r.take k) (e : l[k]'hl = r[k]'hr) : l.take (k + 1) = r.take (k + 1) := by
  rw [List.take_succ_eq_append_getElem hl, List.take_succ_eq_append_getElem hr, h, e]
set_option maxRecDepth 100000 in
theorem arcs_equal (a b : Option Addr) (l r : List Ar) (c d : Nat) (w : World) (hl : Arcs w a l) (hr : Arcs w b r) (h9 : l.length ≤ 140737488351232) (g9 : r.length ≤ 140737488351232) :
    Calls Tryd.prog 33 #[.slice a l.length c, .slice b r.length d] w fun e w' => e = .returned (.bool (decide (l = r))) ∧ Below w.heap.size w w' := by
  have HL := Lib.hid hl
  have HR := Lib.hid hr
  have i1 : (l.length : Int) ≤ 140737488351232 := by omega
  have i2 : (r.length : Int) ≤ 140737488351232 := by omega
  clear hl hr h9 g9
  obtain ⟨R, hR⟩ : ∃ R, R = decide (l = r) := ⟨_, rfl⟩
  rw [← hR]
  have HRr := Lib.hid hR
  clear hR
  by_cases hlen : l.length = r.length
  · rw [← hlen]
    have hlr := hlen
    have HE := Lib.hid hlen
    clear hlen
    go_enter Tryd.func33, Tryd.ntmps33
    clear hlr
    go_wp2
    go_loopw [5, 13] (fun _ i wr => ∃ k : Nat, k ≤ l.length ∧ i = .int .i64 k ∧ l.take k = r.take k ∧ Below w.heap.size w wr) (fun _ i _ => l.length - (intOf i).toNat)
    case atStart => exact ⟨0, by omega, rfl, by simp, Below.refl _ _⟩
    case round =>
      obtain ⟨k, hk, rfl, ht, hbw⟩ := hrel
      have HT := Lib.hid ht
      have HB := Lib.hid hbw
      clear ht hbw
      by_cases hlt : k < l.length
      · have hlt' : (k : Int) < (l.length : Int) := by omega
        have hlr : k < r.length := by have := HE.out; omega
        obtain ⟨ba, oa, rfl, x0, x1, x2⟩ := (HL.out.under HB.out).at_ hlt
        obtain ⟨bb, ob, rfl, y0, y1, y2⟩ := (HR.out.under HB.out).at_ hlr
        have xl := block_lt_of_cell x0
        have yl := block_lt_of_cell y0
        have HS := Lib.hid (take_eq_succ hlt hlr HT.out)
        have HN := Lib.hid (show l[k]'hlt ≠ r[k]'hlr → R = false from fun q => by
          rw [HRr.out]
          exact decide_eq_false fun e => q (by subst e; rfl))
        generalize l[k]'hlt = p at *
        generalize r[k]'hlr = q at *
        obtain ⟨p0, p1, p2⟩ := p
        obtain ⟨q0, q1, q2⟩ := q
        simp only at x0 x1 x2 y0 y1 y2
        clear hlr
        by_cases hpq : p0 = q0 ∧ p1 = q1 ∧ p2 = q2
        · obtain ⟨rfl, rfl, rfl⟩ := hpq
          go_upto_region 6 with (fail)
          go_quiet (fail)
          go_wp2
          exact ⟨⟨k + 1, by omega, by go_num, HS.out rfl, below_dN HB.out _⟩, by simp [intOf]; omega⟩
        · have hf := HN.out (fun e => hpq (by injection e with e0 e1; injection e1 with e1 e2; exact ⟨e0, e1, e2⟩))
          have HFl := Lib.hid hf
          clear hf
          by_cases e0 : p0 = q0
          · subst e0
            by_cases e1 : p1 = q1
            · subst e1
              have e2 : ¬ p2 = q2 := fun e => hpq ⟨rfl, rfl, e⟩
              clear hpq
              go_upto_region 6 with (fail)
              go_quiet (fail)
              go_wp2
              go_ret
              exact ⟨by simp [HFl.out], below_dN HB.out _⟩
            · clear hpq
              go_upto_region 6 with (fail)
              go_quiet (fail)
              go_wp2
              go_ret
              exact ⟨by simp [HFl.out], below_dN HB.out _⟩
          · clear hpq
            go_upto_region 6 with (fail)
            go_quiet (fail)
            go_wp2
            go_ret
            exact ⟨by simp [HFl.out], below_dN HB.out _⟩
      · obtain rfl : k = l.length := by omega
        have hlt' : ¬ (l.length : Int) < (l.length : Int) := by omega
        have hR : R = true := by
          rw [HRr.out]
          have := HT.out
          rw [List.take_length, HE.out, List.take_length] at this
          exact decide_eq_true this
        have HF1 := Lib.hid hR
        clear hR
        go_wp2
        go_ret
        exact ⟨by simp [HF1.out], HB.out⟩
  · have hR : R = false := by
      rw [HRr.out]
      exact decide_eq_false fun e => hlen (by rw [e])
    have hl2 : ¬ (l.length : Int) = (r.length : Int) := by omega
    have HF1 := Lib.hid hR
    clear hR hlen
    go_enter Tryd.func33, Tryd.ntmps33
    go_wp2
    go_ret
    exact ⟨by simp [HF1.out], Below.refl _ _⟩
end Go.Proofs.YtdjfmmfggkkbaaaDoor
