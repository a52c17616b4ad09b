/- A graph in memory, and what it tells of it: N, Out, In, Arc (written by mkgra2.py). -/
import Derived.Test.YtdkpdmpghibmmaaGhMath2
import Derived.Test.YtdkpdmpghibmmaaGhQ
import Derived.Test.YtdkpdmpghibmmaaGhR
namespace Go.Proofs.Ytdkpdmpghibmmaa
open Go.RowKit Go.Shelf Grm Lay
attribute [local go_sem] Oper.semAt_some

/-- Edges in a row of the call's own. -/
abbrev EV (w : World) (K : Nat) (v : Value) (l : List Ed) : Prop := w.ownsRow K 74 3 v l.length (ecells l)
/-- A graph, its blocks from K on, below M. -/
structure GraAt (w : World) (K M g n : Nat) (l : List Ar) (a : Option Addr) (c ib cb jb db : Nat) : Prop where
  gb : Gb w g n a l c (.slice (some ⟨ib, 0, none⟩) (outs n l).length (outs n l).length) (.slice (some ⟨cb, 0, none⟩) (n + 1) (n + 1)) (.slice (some ⟨jb, 0, none⟩) (ins n l).length (ins n l).length) (.slice (some ⟨db, 0, none⟩) (n + 1) (n + 1))
  arcs : Arcs w a l
  io : Row w ib 74 (esV (outs n l))
  co : Row w cb 3 (cellsF n (outC n l))
  ii : Row w jb 74 (esV (ins n l))
  ci : Row w db 3 (cellsF n (inC n l))
  ok : EndsOk n l
  hn : n ≤ 16777216
  hl : l.length ≤ 67108864
  bl : (K ≤ g ∧ g < M) ∧ (K ≤ ib ∧ ib < M) ∧ (K ≤ cb ∧ cb < M) ∧ (K ≤ jb ∧ jb < M) ∧ (K ≤ db ∧ db < M)
  ba : ∀ b o, a = some ⟨b, o, none⟩ → l ≠ [] → K ≤ b ∧ b < M
def Gra (w : World) (K M g n : Nat) (l : List Ar) : Prop := ∃ a c ib cb jb db, GraAt w K M g n l a c ib cb jb db
theorem GraAt.only {S : Nat → Prop} {w w' : World} {K M g n : Nat} {l : List Ar} {a : Option Addr} {c ib cb jb db : Nat} (h : GraAt w K M g n l a c ib cb jb db) (ho : Only S w w') (hS : ∀ k, K ≤ k → k < M → ¬ S k) : GraAt w' K M g n l a c ib cb jb db :=
  ⟨Row.only h.gb ho (hS _ h.bl.1.1 h.bl.1.2), h.arcs.only ho (fun b o e hne => hS b (h.ba b o e hne).1 (h.ba b o e hne).2), h.io.only ho (hS _ h.bl.2.1.1 h.bl.2.1.2), h.co.only ho (hS _ h.bl.2.2.1.1 h.bl.2.2.1.2), h.ii.only ho (hS _ h.bl.2.2.2.1.1 h.bl.2.2.2.1.2), h.ci.only ho (hS _ h.bl.2.2.2.2.1 h.bl.2.2.2.2.2), h.ok, h.hn, h.hl, h.bl, h.ba⟩
theorem GraAt.under {w w' : World} {K M g n : Nat} {l : List Ar} {a : Option Addr} {c ib cb jb db : Nat} (h : GraAt w K M g n l a c ib cb jb db) (hb : Below w.heap.size w w') : GraAt w' K M g n l a c ib cb jb db := h.only (Only.of_below (fun _ => False) hb) (fun _ _ _ h => h)
theorem Gra.only {S : Nat → Prop} {w w' : World} {K M g n : Nat} {l : List Ar} (h : Gra w K M g n l) (ho : Only S w w') (hS : ∀ k, K ≤ k → k < M → ¬ S k) : Gra w' K M g n l := by
  obtain ⟨a, c, ib, cb, jb, db, h⟩ := h
  exact ⟨a, c, ib, cb, jb, db, h.only ho hS⟩
theorem Gra.under {w w' : World} {K M g n : Nat} {l : List Ar} (h : Gra w K M g n l) (hb : Below w.heap.size w w') : Gra w' K M g n l := h.only (Only.of_below (fun _ => False) hb) (fun _ _ _ h => h)
theorem Gra.ok {w : World} {K M g n : Nat} {l : List Ar} (h : Gra w K M g n l) : EndsOk n l ∧ n ≤ 16777216 ∧ l.length ≤ 67108864 := by
  obtain ⟨a, c, ib, cb, jb, db, h⟩ := h
  exact ⟨h.ok, h.hn, h.hl⟩
def outI (n : Nat) (l : List Ar) (v : Int) : List Ed := if 0 ≤ v then outE n l v.toNat else []
def inI (n : Nat) (l : List Ar) (v : Int) : List Ed := if 0 ≤ v then inE n l v.toNat else []
theorem filterMap_len {α β : Type} (f : α → Option β) (xs : List α) : (xs.filterMap f).length ≤ xs.length := List.length_filterMap_le _ _
theorem outI_len (n : Nat) (l : List Ar) (v : Int) (h : n ≤ 16777216) : (outI n l v).length ≤ 16777216 := by
  unfold outI outE
  split
  · split
    · exact Nat.le_trans (filterMap_len _ _) (by rw [List.length_range]; exact h)
    · simp
  · simp
theorem inI_len (n : Nat) (l : List Ar) (v : Int) (h : n ≤ 16777216) : (inI n l v).length ≤ 16777216 := by
  unfold inI inE
  split
  · split
    · exact Nat.le_trans (filterMap_len _ _) (by rw [List.length_range]; exact h)
    · simp
  · simp
theorem n_nil (w : World) : Calls Try.prog 13 #[.pointer none] w fun e w' => e = .returned (.int .i64 0) ∧ w = w' := by
  go_enter Try.func13, Try.ntmps13
  go_wp2
  go_ret
  exact ⟨rfl, rfl⟩
theorem n_any {w : World} {K M g n : Nat} {l : List Ar} (h : Gra w K M g n l) : Calls Try.prog 13 #[ptr g] w fun e w' => e = .returned (.int .i64 (n : Nat)) ∧ w = w' := by
  obtain ⟨a, c, ib, cb, jb, db, h⟩ := h
  have g0 := Row.cell h.gb 0
  simp only [List.getElem?_toArray, List.getElem?_cons_zero, List.getElem?_cons_succ] at g0
  clear h
  go_enter Try.func13, Try.ntmps13
  go_wp2
  go_ret
  exact ⟨rfl, rfl⟩
set_option maxRecDepth 100000 in
theorem arc_none (p : Value) (k : Int) (w : World) (h : p = .pointer none ∨ ∃ K M g n l, p = ptr g ∧ Gra w K M g n l ∧ (k < 0 ∨ (l.length : Int) ≤ k)) : Calls Try.prog 15 #[p, .int .i64 k] w fun e w' => e = .returned (.tuple #[.agg #[.int .i64 0, .int .i64 0, .int .i64 0], .bool false]) ∧ Below w.heap.size w w' := by
  rcases h with rfl | ⟨K, M, g, n, l, rfl, ⟨a, c, ib, cb, jb, db, h⟩, hk⟩
  · go_enter Try.func15, Try.ntmps15
    go_wp2
    exact bodyPost_ret (v := .tuple #[.agg #[.int .i64 0, .int .i64 0, .int .i64 0], .bool false]) (by simp [results, Try.results15, go_sem]) rfl ⟨rfl, (Below.refl _ _).alloc (Nat.le_refl _) _⟩
  · have g1 := Row.cell h.gb 1
    simp only [List.getElem?_toArray, List.getElem?_cons_zero, List.getElem?_cons_succ] at g1
    have hgl := Row.lt h.gb
    clear h
    rcases hk with hk | hk
    all_goals
      (first | (have hd : decide (k < 0) = true := by simpa using hk) | (have hd : decide (k < 0) = false := (by simp; omega)))
      (try (have hd2 : decide (k < (l.length : Int)) = false := (by simp; omega)))
      go_enter Try.func15, Try.ntmps15
      go_wp2
      exact bodyPost_ret (v := .tuple #[.agg #[.int .i64 0, .int .i64 0, .int .i64 0], .bool false]) (by simp [results, Try.results15, go_sem]) rfl ⟨rfl, (Below.refl _ _).alloc (Nat.le_refl _) _⟩
set_option maxRecDepth 100000 in
theorem arc_any {w : World} {K M g n : Nat} {l : List Ar} (h : Gra w K M g n l) (k : Nat) (hk : k < l.length) : Calls Try.prog 15 #[ptr g, .int .i64 (k : Nat)] w fun e w' => e = .returned (.tuple #[.agg #[.int .i64 (l[k]'hk).1, .int .i64 (l[k]'hk).2.1, .int .i64 (l[k]'hk).2.2], .bool true]) ∧ Below w.heap.size w w' := by
  obtain ⟨a, c, ib, cb, jb, db, h⟩ := h
  have g1 := Row.cell h.gb 1
  simp only [List.getElem?_toArray, List.getElem?_cons_zero, List.getElem?_cons_succ] at g1
  have hgl := Row.lt h.gb
  obtain ⟨ba, oa, rfl, x0, x1, x2⟩ := h.arcs.at_ hk
  have hbl := block_lt_of_cell x0
  have hd : decide ((k : Int) < 0) = false := by simp
  have hd2 : decide ((k : Int) < (l.length : Int)) = true := by simp; omega
  have hk2 : (k : Int) < (l.length : Int) := by omega
  clear h
  generalize l[k]'hk = x at *
  go_enter Try.func15, Try.ntmps15
  go_wp2
  exact bodyPost_ret (v := .tuple #[.agg #[.int .i64 x.1, .int .i64 x.2.1, .int .i64 x.2.2], .bool true]) (by simp [results, Try.results15, go_sem]) rfl ⟨rfl, (Below.refl _ _).alloc (Nat.le_refl _) _⟩
end Go.Proofs.Ytdkpdmpghibmmaa
