/- Walks: Lent, Whole. -/
import Derived.Test.YtiibmfajckkklaaBytes2
namespace Go.Proofs.Ytiibmfajckkklaa
open Go.RowKit

def marks : List (BitVec 8) := [BitVec.ofNat 8 91, BitVec.ofNat 8 92]
/-- Block g holds l and the two marks behind it, in room for cap. -/
def Lends (w : World) (g cap : Nat) (l : List (BitVec 8)) : Prop :=
  ∃ cur, Row w g 5 cur ∧ cur.size = cap ∧ l.length + 2 ≤ cap ∧ cap ≤ maxLen ∧ cur.toList.take (l.length + 2) = cells (l ++ marks)

theorem Lends.at_ {w : World} {g cap : Nat} {l : List (BitVec 8)} (h : Lends w g cap l) (i : Nat) (x : BitVec 8) (hx : (l ++ marks)[i]? = some x) : w.cell? ⟨g, i, none⟩ = some (.int .u8 (B x)) := by
  obtain ⟨cur, hr, _, _, _, ht⟩ := h
  have hi : i < (l ++ marks).length := (List.getElem?_eq_some_iff.1 hx).1
  have e : (cells (l ++ marks))[i]? = some (.int .u8 (B x)) := by rw [cells_get, hx]; rfl
  rw [← ht, List.getElem?_take, if_pos (by simpa [marks] using hi)] at e
  rw [hr.cell]
  simpa using e
theorem Lends.bytes {w : World} {g cap : Nat} {l : List (BitVec 8)} (h : Lends w g cap l) : Bytes w (some ⟨g, 0, none⟩) l := by
  refine .inr ⟨g, 0, rfl, fun i x hx => ?_⟩
  rw [Nat.zero_add]
  refine h.at_ i x ?_
  rw [List.getElem?_append_left (List.getElem?_eq_some_iff.1 hx).1]
  exact hx
theorem Lends.lt {w : World} {g cap : Nat} {l : List (BitVec 8)} (h : Lends w g cap l) : g < w.heap.size := by
  obtain ⟨cur, hr, _⟩ := h
  exact hr.lt
theorem Lends.keep {w w' : World} {g cap : Nat} {l : List (BitVec 8)} (h : Lends w g cap l) (hk : w'.heap[g]? = w.heap[g]?) : Lends w' g cap l := by
  obtain ⟨cur, hr, r⟩ := h
  exact ⟨cur, hk.trans hr, r⟩
theorem Owns.full {w : World} {K : Nat} {v : Value} {l : List (BitVec 8)} (h : Owns w K v l) (hl : 0 < l.length) :
    ∃ g cap cur, v = .slice (some ⟨g, 0, Option.none⟩) l.length cap ∧ K ≤ g ∧ Row w g 5 cur ∧ cur.size = cap ∧ l.length ≤ cap ∧ cap ≤ maxLen ∧ cur.toList.take l.length = cells l := by
  rcases h.2 with ⟨_, h0⟩ | ⟨g, cap, cur, rfl, hg, hh, hc, hm, hs, ht⟩
  · omega
  · exact ⟨g, cap, cur, rfl, hg, hh, by omega, hc, hm, by simpa using ht⟩

theorem two_bytes (w : World) : Bytes (w.alloc (.cells #[.int .u8 91, .int .u8 92] 5)) (some ⟨w.heap.size, 0, none⟩) marks := by
  refine .inr ⟨_, _, rfl, fun i y hy => ?_⟩
  rw [cell_of_row _ _ _ _ _ _ (heap_alloc_new w _)]
  match i, hy with
  | 0, hy => injection hy with hy; subst hy; rfl
  | 1, hy => injection hy with hy; subst hy; rfl
  | i + 2, hy => simp [marks] at hy

theorem lent_any (a : Option Addr) (l : List (BitVec 8)) (c : Nat) (w : World) (hB : Bytes w a l) (hl : l.length ≤ 1000000000) :
    Calls Try.prog 24 #[.slice a l.length c] w fun e w' => ∃ g cap, e = .returned (.slice (some ⟨g, 0, none⟩) l.length cap) ∧ w.heap.size ≤ g ∧ Lends w' g cap l ∧ Below w.heap.size w w' := by
  go_enter Try.func24, Try.ntmps24
  go_wp2_with fail
  refine (copy_any a l c w hB hl).mono ?_
  rintro e w1 ⟨v, rfl, hown, hb1⟩
  have HO := Lib.hid hown
  have hs1 := hb1.size
  clear hown
  go_wp2_with (at_builtin; refine wpList_appendB rfl _ _ rfl w.heap.size v l marks (some ⟨w1.heap.size, 0, none⟩) 2 2 rfl rfl rfl (HO.out.under ((Below.refl w1.heap.size w1).alloc (Nat.le_refl _) _) (Nat.le_refl _)) (two_bytes w1) (by simp [marks]; omega) (by simp; omega) ?_; intro v2 w2 HO2 hg2 hat2; obtain ⟨g, cap, cur, hv, hKg, hrow, hsz, hcap, hmax, htake⟩ := HO2.out.full (by simp [marks]); rw [show (l ++ marks).length = l.length + 2 by simp [marks]] at hv hcap htake; have HT := Lib.hid htake; have HZ := Lib.hid hsz; clear htake hsz; rw [hv])
  go_ret
  exact ⟨g, cap, rfl, hKg, ⟨cur, hrow, HZ.out, hcap, hmax, HT.out⟩, (hb1.alloc hs1 _).grown hg2 (by simp; omega) (fun k hk => (HO.out.lt k hk).1)⟩

theorem whole_any (g cap : Nat) (b : Option Addr) (l : List (BitVec 8)) (c : Nat) (w : World) (hL : Lends w g cap l) (hB : Bytes w b l) (hl : l.length ≤ 1000000000) :
    Calls Try.prog 25 #[.slice (some ⟨g, 0, none⟩) l.length cap, .slice b l.length c] w fun e w' => e = .returned (.bool true) ∧ w = w' := by
  have h0 := hL.at_ l.length (BitVec.ofNat 8 91) (by simp [marks])
  have h1 := hL.at_ (l.length + 1) (BitVec.ofNat 8 92) (by simp [marks])
  have hcap : l.length + 2 ≤ cap := by obtain ⟨_, _, _, h, _⟩ := hL; exact h
  have hcap' : (l.length : Int) + 2 ≤ (cap : Int) := by omega
  have h3 := conv_str w (some ⟨g, 0, none⟩) l cap hL.bytes
  have h4 := conv_str w b l c hB
  rw [show B (BitVec.ofNat 8 91) = 91 from rfl] at h0
  rw [show B (BitVec.ofNat 8 92) = 92 from rfl] at h1
  clear hL hB
  go_enter Try.func25, Try.ntmps25
  go_wp2
  go_ret
  exact ⟨rfl, rfl⟩
end Go.Proofs.Ytiibmfajckkklaa
