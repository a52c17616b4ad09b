/- A file of a disk, in memory; how much it has, its bytes. -/
import Derived.Test.YthheolhghhmdlaaStrs
import Derived.Test.YthheolhghhmdlaaOnlyW
import Derived.Test.YthheolhghhmdlaaDiskMath
import Derived.StillTailTactics
import Derived.BigQuiet
import Derived.Lib.SliceRun
import Derived.WalkSpells
import Derived.Deep.QuietTactic
namespace Go.Proofs.Ythheolhghhmdlaa
open Go.RowKit Dsk

/-- A value that is a slice of these bytes. -/
def Sb (w : World) (v : Value) (l : By) : Prop := ∃ a c, v = .slice a l.length c ∧ Bytes w a l ∧ l.length ≤ c
/-- Values that are slices of these bytes, one by one. -/
def Vals (w : World) (vs : List Value) (ls : List By) : Prop := vs.length = ls.length ∧ ∀ (i : Nat) (v : Value) (l : By), vs[i]? = some v → ls[i]? = some l → Sb w v l

/-- A file in block fb, of the blocks that o tells to be its own. -/
structure Fl (w : World) (o : Nat → Nat) (fb : Nat) (fv wv : Value) (vs : List Value) (firm : By) (ws : List By) : Prop where
  row : Row w fb 86 #[fv, wv]
  firm : Owns w 0 fv firm
  wr : w.ownsRow 0 34 1 wv ws.length vs
  vals : Vals w vs ws
  own : o fb = fb
  ownf : ∀ k, fv.ownBlock = some k → o k = fb
  ownw : ∀ k, wv.ownBlock = some k → o k = fb
  ownv : ∀ v ∈ vs, ∀ k, v.ownBlock = some k → o k = fb ∧ k < w.heap.size ∧ fv.ownBlock ≠ some k ∧ wv.ownBlock ≠ some k ∧ k ≠ fb

theorem Bytes.same {w w' : World} {a : Option Addr} {l : By} (h : Bytes w a l) (hb : ∀ b, (Value.slice a l.length 0).ownBlock = some b → w'.heap[b]? = w.heap[b]?) : Bytes w' a l := by
  rcases h with h | ⟨b, o, rfl, h⟩
  · exact .inl h
  · refine .inr ⟨b, o, rfl, fun i x hx => ?_⟩
    rw [World.cell?_of_block (hb b rfl)]
    exact h i x hx
theorem Sb.same {w w' : World} {v : Value} {l : By} (h : Sb w v l) (hb : ∀ b, v.ownBlock = some b → w'.heap[b]? = w.heap[b]?) : Sb w' v l := by
  obtain ⟨a, c, rfl, h, hc⟩ := h
  exact ⟨a, c, rfl, h.same fun b e => hb b (by cases a with | none => cases e | some ad => exact e), hc⟩
theorem Vals.same {w w' : World} {vs : List Value} {ls : List By} (h : Vals w vs ls) (hb : ∀ v ∈ vs, ∀ b, v.ownBlock = some b → w'.heap[b]? = w.heap[b]?) : Vals w' vs ls :=
  ⟨h.1, fun i v l hv hl => (h.2 i v l hv hl).same (hb v (List.mem_of_getElem? hv))⟩
theorem Owns.same {w w' : World} {K : Nat} {v : Value} {l : By} (h : Owns w K v l) (hb : ∀ b, v.ownBlock = some b → w'.heap[b]? = w.heap[b]?) : Owns w' K v l := by
  refine ⟨h.1, ?_⟩
  rcases h.2 with h | ⟨g, cap, cur, rfl, h1, h2, h3⟩
  · exact .inl h
  · exact .inr ⟨g, cap, cur, rfl, h1, (hb g rfl).trans h2, h3⟩
theorem ownsRow_same {w w' : World} {K s n : Nat} {t : TypeId} {v : Value} {xs : List Value} (h : w.ownsRow K t s v n xs) (hb : ∀ b, v.ownBlock = some b → w'.heap[b]? = w.heap[b]?) : w'.ownsRow K t s v n xs := by
  refine ⟨h.1, ?_⟩
  rcases h.2 with h | ⟨g, cap, cur, rfl, h1, h2, h3⟩
  · exact .inl h
  · exact .inr ⟨g, cap, cur, rfl, h1, (hb g rfl).trans h2, h3⟩

section
variable {w w' : World} {o o' : Nat → Nat} {fb : Nat} {fv wv : Value} {vs : List Value} {firm : By} {ws : List By}
theorem Fl.lt (h : Fl w o fb fv wv vs firm ws) : fb < w.heap.size := h.row.lt
/-- A file of which no block turned. -/
theorem Fl.same (h : Fl w o fb fv wv vs firm ws) (hb : ∀ k, k < w.heap.size → o k = fb → w'.heap[k]? = w.heap[k]?) (ho : ∀ k, k < w.heap.size → o k = fb → o' k = fb) (hs : w.heap.size ≤ w'.heap.size) : Fl w' o' fb fv wv vs firm ws := by
  have l1 := h.lt
  have l2 := fun k hk => (World.ownsRow.lt h.firm k hk).2
  have l3 := fun k hk => (World.ownsRow.lt h.wr k hk).2
  exact ⟨(hb fb l1 h.own).trans h.row, h.firm.same fun k hk => hb k (l2 k hk) (h.ownf k hk), ownsRow_same h.wr fun k hk => hb k (l3 k hk) (h.ownw k hk),
    h.vals.same fun v hv k hk => hb k (h.ownv v hv k hk).2.1 (h.ownv v hv k hk).1, ho fb l1 h.own, fun k hk => ho k (l2 k hk) (h.ownf k hk), fun k hk => ho k (l3 k hk) (h.ownw k hk),
    fun v hv k hk => by obtain ⟨r1, r2, r3⟩ := h.ownv v hv k hk; exact ⟨ho k r2 r1, by omega, r3⟩⟩
/-- Who owns what is new. -/
def relab (o : Nat → Nat) (n x : Nat) : Nat → Nat := fun k => if k < n then o k else x
theorem relab_old {n x k : Nat} (h : k < n) : relab o n x k = o k := by simp [relab, h]
theorem relab_new {n x k : Nat} (h : n ≤ k) : relab o n x k = x := by simp only [relab]; rw [if_neg (by omega)]
theorem relab_twice {n m x : Nat} (h : n ≤ m) : relab (relab o n x) m x = relab o n x := by
  funext k
  simp only [relab]
  split <;> split <;> first | rfl | omega
theorem Fl.beside (h : Fl w o fb fv wv vs firm ws) {S : Nat → Prop} (hS : ∀ k, S k → o k ≠ fb) (ho : Only S w w') (x : Nat) : Fl w' (relab o w.heap.size x) fb fv wv vs firm ws :=
  h.same (fun k hk e => ho.block k hk fun s => hS k s e) (fun _ hk e => (relab_old hk).trans e) ho.size
theorem Fl.still (h : Fl w o fb fv wv vs firm ws) {S : Nat → Prop} (hS : ∀ k, S k → o k ≠ fb) (ho : Only S w w') : Fl w' o fb fv wv vs firm ws :=
  h.same (fun k hk e => ho.block k hk fun s => hS k s e) (fun _ _ e => e) ho.size
theorem Fl.below (h : Fl w o fb fv wv vs firm ws) (hb : Below w.heap.size w w') : Fl w' o fb fv wv vs firm ws := h.still (S := fun _ => False) (fun _ f => f.elim) (Only.of_below _ hb)
/-- The k-th write, in its cell. -/
theorem Fl.write_at (h : Fl w o fb fv wv vs firm ws) {k : Nat} (hk : k < ws.length) : ∃ g cap a c, wv = .slice (some ⟨g, 0, none⟩) ws.length cap ∧ g < w.heap.size ∧ w.cell? ⟨g, k, none⟩ = some (.slice a (ws[k]'hk).length c) ∧ Bytes w a (ws[k]'hk) ∧ vs[k]? = some (.slice a (ws[k]'hk).length c) := by
  rcases h.wr.2 with ⟨_, h0⟩ | ⟨g, cap, cur, rfl, _, hg, _⟩
  · omega
  · have hv : k < vs.length := by rw [h.vals.1]; exact hk
    obtain ⟨a, c, e, hB, _⟩ := h.vals.2 k _ _ (List.getElem?_eq_getElem hv) (List.getElem?_eq_getElem hk)
    have hc := World.ownsRow.cells (g := g) h.wr rfl k _ (List.getElem?_eq_getElem hv)
    rw [add_plain, Nat.zero_add, e] at hc
    exact ⟨g, cap, a, c, rfl, (Array.getElem?_eq_some_iff.1 hg).1, hc, hB, by rw [List.getElem?_eq_getElem hv, e]⟩
theorem Fl.write_cap (h : Fl w o fb fv wv vs firm ws) {k : Nat} (hk : k < ws.length) {a : Option Addr} {c : Nat} (hv : vs[k]? = some (.slice a (ws[k]'hk).length c)) : (ws[k]'hk).length ≤ c := by
  obtain ⟨a', c', e, _, hc⟩ := h.vals.2 k _ _ hv (List.getElem?_eq_getElem hk)
  injection e with _ _ e
  rw [e]
  exact hc
theorem Fl.shapes (h : Fl w o fb fv wv vs firm ws) : ∃ a c a' c', fv = .slice a firm.length c ∧ wv = .slice a' ws.length c' ∧ Bytes w a firm := by
  obtain ⟨a, c, e, hB, _⟩ := h.firm.shape
  rcases h.wr.2 with ⟨e', h0⟩ | ⟨g, cap, cur, e', _⟩
  · exact ⟨a, c, none, 0, e, by rw [e', h0], hB⟩
  · exact ⟨a, c, _, cap, e, e', hB⟩
end
theorem flatten_take_succ (ws : List By) (k : Nat) (h : k < ws.length) : (ws.take (k + 1)).flatten = (ws.take k).flatten ++ ws[k]'h := by
  rw [List.take_succ_eq_append_getElem h, List.flatten_append]
  simp
theorem flatten_take_le (ws : List By) (k : Nat) : (ws.take k).flatten.length ≤ ws.flatten.length := by
  have : ws.flatten = (ws.take k).flatten ++ (ws.drop k).flatten := by rw [← List.flatten_append, List.take_append_drop]
  rw [this]
  simp

theorem fsize_any (o : Nat → Nat) (fb : Nat) (fv wv : Value) (vs : List Value) (firm : By) (ws : List By) (w : World) (h : Fl w o fb fv wv vs firm ws) (hz : (firm ++ ws.flatten).length ≤ 1000000000000) (hw : ws.length ≤ 1000000000000) (r : Int) (hr : r = ((firm ++ ws.flatten).length : Nat)) :
    Calls Try.prog 52 #[ptr fb] w fun e w' => e = .returned (.int .i64 r) ∧ w' = w := by
  obtain ⟨a, c, a', c', e1, e2, hB⟩ := h.shapes
  have k0 : w.cell? ⟨fb, 0, none⟩ = some (.slice a firm.length c) := by rw [← e1]; exact h.row.cell 0
  have k1 : w.cell? ⟨fb, 1, none⟩ = some (.slice a' ws.length c') := by rw [← e2]; exact h.row.cell 1
  have hl := h.lt
  have HH := Lib.hid h
  have HZ := Lib.hid hz
  have HR := Lib.hid hr
  have HW := Lib.hid hw
  clear h hz hB hr hw
  generalize hf0 : firm.length = f0 at *
  have HF0 := Lib.hid hf0
  clear hf0
  go_enter Try.func52, Try.ntmps52
  go_wp2
  go_loopw [3, 16] (fun n i wr => ∃ k : Nat, k ≤ ws.length ∧ i = .int .i64 k ∧ n = .int .i64 ((f0 + (ws.take k).flatten.length : Nat)) ∧ wr = w) (fun _ i _ => ws.length - (intOf i).toNat)
  case atStart => exact ⟨0, by omega, rfl, by simp, rfl⟩
  case round =>
    obtain ⟨k, hk, rfl, rfl, rfl⟩ := hrel
    by_cases hlt : k < ws.length
    · obtain ⟨g, cap, a2, c2, e3, hgl, hc, _, _⟩ := HH.out.write_at hlt
      rw [e2] at e3
      injection e3 with e4 _ e5
      subst e4
      have hlt' : (k : Int) < (ws.length : Int) := by omega
      have h5 := flatten_take_succ ws k hlt
      have h6 := flatten_take_le ws (k + 1)
      rw [h5] at h6
      have hz := HZ.out
      have hw := HW.out
      have hf := HF0.out
      simp only [List.length_append] at hz h6
      have HX := Lib.hid h5
      clear h5
      generalize hx : (ws[k]'hlt).length = x at *
      have HX2 := Lib.hid hx
      clear hx
      generalize hs : (ws.take k).flatten.length = s at *
      have HS := Lib.hid hs
      clear hs
      go_wp2
      go_roundw
      case rel => exact ⟨k + 1, by omega, by go_num, by rw [HX.out, List.length_append, HX2.out, HS.out]; go_num, trivial⟩
      case measure => simp [intOf]; omega
    · have hlt' : ¬ (k : Int) < (ws.length : Int) := by omega
      have hkk : k = ws.length := by omega
      have e6 : f0 + (ws.take k).flatten.length = (firm ++ ws.flatten).length := by rw [hkk, List.take_length, List.length_append, HF0.out]
      rw [e6, ← HR.out]
      go_wp2
      go_ret
      exact ⟨rfl, rfl⟩

theorem takeWrites_any (fb : Nat) (fv : Value) (a : Option Addr) (n c : Nat) (w : World) (h : Row w fb 86 #[fv, .slice a n c]) :
    Calls Try.prog 47 #[ptr fb] w fun e w' => e = .returned (.slice a n c) ∧ w' = w.setCell ⟨fb, 1, none⟩ (.slice none 0 0) := by
  have k1 : w.cell? ⟨fb, 1, none⟩ = some (.slice a n c) := h.cell 1
  have hf := h.thaw 1
  have hl := h.lt
  clear h
  go_enter Try.func47, Try.ntmps47
  go_wp2
  go_ret
  exact ⟨rfl, rfl⟩

theorem eql_bytes_nil (w : World) (a : Option Addr) (n c : Nat) : (binOp .eql 34 (.slice a n c) (.slice none 0 0)).run Try.prog w = .ok (.bool a.isNone) w := by
  exact Lib.run_eql_slice_nil w 34 5 a n c 0 0 Try.underlying34

/-- 'slices.Clone(b)'. -/
theorem sclone_any (a : Option Addr) (l : By) (c : Nat) (w : World) (hB : Bytes w a l) (hl : l.length ≤ 1000000000) :
    Calls Try.prog 54 #[.slice a l.length c] w fun e w' => ∃ v, e = .returned v ∧ Owns w' w.heap.size v l ∧ Below w.heap.size w w' := by
  have hq := eql_bytes_nil
  cases a with
  | none =>
    have hl0 : l = [] := by
      rcases hB with h | ⟨b, o, h, _⟩
      · exact h
      · cases h
    subst hl0
    clear hl hB
    go_enter Try.func54, Try.ntmps54
    go_wp2
    go_ret
    exact ⟨_, rfl, Owns.none _ _, Below.refl _ _⟩
  | some ad =>
    have hB' : Bytes (w.alloc (.cells #[] 5)) (some ad) l := hB.under ((Below.refl _ _).alloc (Nat.le_refl _) _)
    have hO : Owns (w.alloc (.cells #[] 5)) w.heap.size (.slice (some ⟨w.heap.size, 0, none⟩) 0 0) [] := ⟨rfl, .inr ⟨w.heap.size, 0, #[], rfl, Nat.le_refl _, Row.fresh w _ _, Nat.le_refl _, by simp [maxLen], rfl, rfl⟩⟩
    have HB := Lib.hid hB'
    have HO := Lib.hid hO
    have HL := Lib.hid hl
    clear hB hB' hO hl
    go_enter Try.func54, Try.ntmps54
    go_wp2_with (at_builtin; refine wpList_appendB rfl _ _ rfl w.heap.size (.slice (some ⟨w.heap.size, 0, none⟩) 0 0) [] l (some ad) l.length c rfl rfl rfl HO.out HB.out (by have := HL.out; simp; omega) (by simp) ?_; intro v1 w1 HO1 hg1 hat1)
    go_ret
    refine ⟨v1, rfl, HO1.out, ((Below.refl _ _).alloc (Nat.le_refl _) _).grown hg1 (by simp) (fun k e => by simp [Value.ownBlock] at e; omega)⟩
end Go.Proofs.Ythheolhghhmdlaa
