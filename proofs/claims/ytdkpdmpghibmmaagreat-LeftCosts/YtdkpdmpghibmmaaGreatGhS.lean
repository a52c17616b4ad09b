/- A graph in memory, and what it tells of it: N, Out, In, Arc (written by mkgra2.py). -/
import Derived.Test.YtdkpdmpghibmmaaGreatGhMath2
import Derived.Test.YtdkpdmpghibmmaaGreatGhQ
import Derived.Test.YtdkpdmpghibmmaaGreatGhR
namespace Go.Proofs.YtdkpdmpghibmmaaGreat
open Go.RowKit Go.Shelf Grm Lay
attribute [local go_sem] Oper.semAt_some

/-- Edges in a row of the call's own. -/
abbrev EV (w : World) (K : Nat) (v : Value) (l : List Ed) : Prop := w.ownsRow K 94 3 v l.length (ecells l)
/-- A graph, its blocks from K on, below M. -/
structure GraAt (w : World) (K M g n : Nat) (l : List Ar) (a : Option Addr) (c ib cb jb db : Nat) : Prop where
  gb : Gb w g n a l c (.slice (some ⟨ib, 0, none⟩) (outs n l).length (outs n l).length) (.slice (some ⟨cb, 0, none⟩) (n + 1) (n + 1)) (.slice (some ⟨jb, 0, none⟩) (ins n l).length (ins n l).length) (.slice (some ⟨db, 0, none⟩) (n + 1) (n + 1))
  arcs : Arcs w a l
  io : Row w ib 94 (esV (outs n l))
  co : Row w cb 3 (cellsF n (outC n l))
  ii : Row w jb 94 (esV (ins n l))
  ci : Row w db 3 (cellsF n (inC n l))
  ok : EndsOk n l
  hn : n ≤ 16777216
  hl : l.length ≤ 67108864
  bl : (K ≤ g ∧ g < M) ∧ (K ≤ ib ∧ ib < M) ∧ (K ≤ cb ∧ cb < M) ∧ (K ≤ jb ∧ jb < M) ∧ (K ≤ db ∧ db < M)
  ba : ∀ b o, a = some ⟨b, o, none⟩ → l ≠ [] → K ≤ b ∧ b < M
def Gra (w : World) (K M g n : Nat) (l : List Ar) : Prop := ∃ a c ib cb jb db, GraAt w K M g n l a c ib cb jb db
theorem GraAt.only {S : Nat → Prop} {w w' : World} {K M g n : Nat} {l : List Ar} {a : Option Addr} {c ib cb jb db : Nat} (h : GraAt w K M g n l a c ib cb jb db) (ho : Only S w w') (hS : ∀ k, K ≤ k → k < M → ¬ S k) : GraAt w' K M g n l a c ib cb jb db :=
  ⟨Row.only h.gb ho (hS _ h.bl.1.1 h.bl.1.2), h.arcs.only ho (fun b o e hne => hS b (h.ba b o e hne).1 (h.ba b o e hne).2), h.io.only ho (hS _ h.bl.2.1.1 h.bl.2.1.2), h.co.only ho (hS _ h.bl.2.2.1.1 h.bl.2.2.1.2), h.ii.only ho (hS _ h.bl.2.2.2.1.1 h.bl.2.2.2.1.2), h.ci.only ho (hS _ h.bl.2.2.2.2.1 h.bl.2.2.2.2.2), h.ok, h.hn, h.hl, h.bl, h.ba⟩
theorem GraAt.under {w w' : World} {K M g n : Nat} {l : List Ar} {a : Option Addr} {c ib cb jb db : Nat} (h : GraAt w K M g n l a c ib cb jb db) (hb : Below w.heap.size w w') : GraAt w' K M g n l a c ib cb jb db := h.only (Only.of_below (fun _ => False) hb) (fun _ _ _ h => h)
theorem Gra.only {S : Nat → Prop} {w w' : World} {K M g n : Nat} {l : List Ar} (h : Gra w K M g n l) (ho : Only S w w') (hS : ∀ k, K ≤ k → k < M → ¬ S k) : Gra w' K M g n l := by
  obtain ⟨a, c, ib, cb, jb, db, h⟩ := h
  exact ⟨a, c, ib, cb, jb, db, h.only ho hS⟩
theorem Gra.under {w w' : World} {K M g n : Nat} {l : List Ar} (h : Gra w K M g n l) (hb : Below w.heap.size w w') : Gra w' K M g n l := h.only (Only.of_below (fun _ => False) hb) (fun _ _ _ h => h)
theorem Gra.ok {w : World} {K M g n : Nat} {l : List Ar} (h : Gra w K M g n l) : EndsOk n l ∧ n ≤ 16777216 ∧ l.length ≤ 67108864 := by
  obtain ⟨a, c, ib, cb, jb, db, h⟩ := h
  exact ⟨h.ok, h.hn, h.hl⟩
def outI (n : Nat) (l : List Ar) (v : Int) : List Ed := if 0 ≤ v then outE n l v.toNat else []
def inI (n : Nat) (l : List Ar) (v : Int) : List Ed := if 0 ≤ v then inE n l v.toNat else []
theorem filterMap_len {α β : Type} (f : α → Option β) (xs : List α) : (xs.filterMap f).length ≤ xs.length := List.length_filterMap_le _ _
theorem outI_len (n : Nat) (l : List Ar) (v : Int) (h : n ≤ 16777216) : (outI n l v).length ≤ 16777216 := by
  unfold outI outE
  split
  · split
    · exact Nat.le_trans (filterMap_len _ _) (by rw [List.length_range]; exact h)
    · simp
  · simp
theorem inI_len (n : Nat) (l : List Ar) (v : Int) (h : n ≤ 16777216) : (inI n l v).length ≤ 16777216 := by
  unfold inI inE
  split
  · split
    · exact Nat.le_trans (filterMap_len _ _) (by rw [List.length_range]; exact h)
    · simp
  · simp
theorem n_nil (w : World) : Calls Tryz.prog 53 #[.pointer none] w fun e w' => e = .returned (.int .i64 0) ∧ w = w' := by
  go_enter Tryz.func53, Tryz.ntmps53
  go_wp2
  go_ret
  exact ⟨rfl, rfl⟩
theorem n_any {w : World} {K M g n : Nat} {l : List Ar} (h : Gra w K M g n l) : Calls Tryz.prog 53 #[ptr g] w fun e w' => e = .returned (.int .i64 (n : Nat)) ∧ w = w' := by
  obtain ⟨a, c, ib, cb, jb, db, h⟩ := h
  have g0 := Row.cell h.gb 0
  simp only [List.getElem?_toArray, List.getElem?_cons_zero, List.getElem?_cons_succ] at g0
  clear h
  go_enter Tryz.func53, Tryz.ntmps53
  go_wp2
  go_ret
  exact ⟨rfl, rfl⟩
theorem out_nil (v : Int) (w : World) : Calls Tryz.prog 51 #[.pointer none, .int .i64 v] w fun e w' => e = .returned (.slice none 0 0) ∧ w = w' := by
  go_enter Tryz.func51, Tryz.ntmps51
  go_wp2
  go_ret
  exact ⟨rfl, rfl⟩
/-- The edges of a place, told at a later world. -/
theorem out_seq {w : World} {K M g n : Nat} {l : List Ar} {a : Option Addr} {c ib cb jb db : Nat} (h : GraAt w K M g n l a c ib cb jb db) (v : Int) (wc : World) (hwc : wc = (w.alloc (.cells #[.slice (some ⟨ib, 0, none⟩) (outs n l).length (outs n l).length, .slice (some ⟨cb, 0, none⟩) (n + 1) (n + 1)] 108)).alloc (.cells #[.int .i64 v] 3)) :
    ∀ (Wr : Foot) (W : World), Below wc.heap.size wc W → ¬ Wr ib → SeqSep Fence.wide (6 - 1) Tryz.prog 128 #[ptr (w.heap.size + 1), ptr w.heap.size] (fun e : Ed => #[eV e]) Wr (fun pre x => ∃ rest, outI n l v = pre ++ x :: rest) (fun pre => pre = outI n l v) W := by
  intro Wr W hb hWr
  have hbc : Below w.heap.size w wc := by rw [hwc]; exact ((Below.refl _ _).alloc (Nat.le_refl _) _).alloc (by simp) _
  have hr : Row wc w.heap.size 108 #[.slice (some ⟨ib, 0, none⟩) (outs n l).length (outs n l).length, .slice (some ⟨cb, 0, none⟩) (n + 1) (n + 1)] := by rw [hwc]; exact (Row.fresh w _ _).past _
  have hv : Row wc (w.heap.size + 1) 3 #[.int .i64 v] := by
    rw [hwc]
    have := Row.fresh (w.alloc (.cells #[.slice (some ⟨ib, 0, none⟩) (outs n l).length (outs n l).length, .slice (some ⟨cb, 0, none⟩) (n + 1) (n + 1)] 108)) 3 #[.int .i64 v]
    rwa [World.size_alloc] at this
  have hW := (h.under hbc).under hb
  have hr' := hr.under hb hr.lt
  have hv' := hv.under hb hv.lt
  by_cases hin : 0 ≤ v ∧ v < (n : Int)
  · obtain ⟨k, rfl⟩ : ∃ k : Nat, v = k := ⟨v.toNat, by omega⟩
    have e : outI n l (k : Int) = outE n l k := by unfold outI; rw [if_pos (by omega)]; simp
    rw [e]
    obtain ⟨s1, s2, s3⟩ := out_seg h.ok (v := k) (by omega)
    exact of_seq (6 - 1) Wr (by omega) hv' hr' hW.io hW.co (by omega) h.hn (by have h1 := h.hl; have h2 := outs_len h.ok; have h3 := keptL_len l; omega) rfl s1 s2 s3 hWr
  · have e : outI n l v = [] := by
      unfold outI
      split
      · unfold outE
        rw [if_neg (by omega)]
      · rfl
    exact of_none (6 - 1) Wr (by omega) hv' hr' (by omega) h.hn e
set_option maxHeartbeats 1000000 in
theorem out_any {w : World} {K M g n : Nat} {l : List Ar} (h : Gra w K M g n l) (v : Int) : Calls Tryz.prog 51 #[ptr g, .int .i64 v] w fun e w' => Below w.heap.size w w' ∧ ∃ x, e = .returned x ∧ EV w' w.heap.size x (outI n l v) := by
  obtain ⟨a, c, ib, cb, jb, db, h⟩ := h
  have g2 := Row.cell h.gb 2
  have g3 := Row.cell h.gb 3
  simp only [List.getElem?_toArray, List.getElem?_cons_zero, List.getElem?_cons_succ] at g2 g3
  obtain ⟨wc, hwc⟩ : ∃ wc, wc = (w.alloc (.cells #[.slice (some ⟨ib, 0, none⟩) (outs n l).length (outs n l).length, .slice (some ⟨cb, 0, none⟩) (n + 1) (n + 1)] 108)).alloc (.cells #[.int .i64 v] 3) := ⟨_, rfl⟩
  have hbc : Below w.heap.size w wc := by rw [hwc]; exact ((Below.refl _ _).alloc (Nat.le_refl _) _).alloc (by simp) _
  have hsz : wc.heap.size = w.heap.size + 2 := by rw [hwc]; simp
  have HC := Lib.hid (collect_any (w := wc) (gf := 128) (lb := #[ptr (w.heap.size + 1), ptr w.heap.size]) (E := outI n l v) (by have := outI_len n l v h.hn; omega) (enters_of Tryz.func128 (by kernel_rfl) rfl)
    (Lib.hid (fun Wr W hb hWr => out_seq h v wc hwc Wr W hb (fun q => by have := hWr _ q; have := h.io.lt; omega))))
  have HB := Lib.hid (And.intro hbc hsz)
  have HW := Lib.hid hwc
  clear h hbc hsz hwc
  generalize (outs n l).length = LL at *
  go_enter Tryz.func51, Tryz.ntmps51
  go_wp2_with (first
    | (go_at_call 100; refine (of_any _ _ _ _).mono ?_; rintro e w3 ⟨rfl, hw3⟩; rw [← HW.out] at hw3; subst w3)
    | (go_at_call 99; refine HC.out.mono ?_; rintro e w5 ⟨hb5, x, rfl, hx⟩; have HZ := Lib.hid (And.intro hb5 hx); clear hb5 hx))
  go_ret
  exact ⟨HB.out.1.trans (HZ.out.1.mono (by have := HB.out.2; omega)), _, rfl, owns_base HZ.out.2 (by have := HB.out.2; omega)⟩
/-- The edges of a place, told at a later world. -/
theorem in_seq {w : World} {K M g n : Nat} {l : List Ar} {a : Option Addr} {c ib cb jb db : Nat} (h : GraAt w K M g n l a c ib cb jb db) (v : Int) (wc : World) (hwc : wc = (w.alloc (.cells #[.slice (some ⟨jb, 0, none⟩) (ins n l).length (ins n l).length, .slice (some ⟨db, 0, none⟩) (n + 1) (n + 1)] 108)).alloc (.cells #[.int .i64 v] 3)) :
    ∀ (Wr : Foot) (W : World), Below wc.heap.size wc W → ¬ Wr jb → SeqSep Fence.wide (6 - 1) Tryz.prog 128 #[ptr (w.heap.size + 1), ptr w.heap.size] (fun e : Ed => #[eV e]) Wr (fun pre x => ∃ rest, inI n l v = pre ++ x :: rest) (fun pre => pre = inI n l v) W := by
  intro Wr W hb hWr
  have hbc : Below w.heap.size w wc := by rw [hwc]; exact ((Below.refl _ _).alloc (Nat.le_refl _) _).alloc (by simp) _
  have hr : Row wc w.heap.size 108 #[.slice (some ⟨jb, 0, none⟩) (ins n l).length (ins n l).length, .slice (some ⟨db, 0, none⟩) (n + 1) (n + 1)] := by rw [hwc]; exact (Row.fresh w _ _).past _
  have hv : Row wc (w.heap.size + 1) 3 #[.int .i64 v] := by
    rw [hwc]
    have := Row.fresh (w.alloc (.cells #[.slice (some ⟨jb, 0, none⟩) (ins n l).length (ins n l).length, .slice (some ⟨db, 0, none⟩) (n + 1) (n + 1)] 108)) 3 #[.int .i64 v]
    rwa [World.size_alloc] at this
  have hW := (h.under hbc).under hb
  have hr' := hr.under hb hr.lt
  have hv' := hv.under hb hv.lt
  by_cases hin : 0 ≤ v ∧ v < (n : Int)
  · obtain ⟨k, rfl⟩ : ∃ k : Nat, v = k := ⟨v.toNat, by omega⟩
    have e : inI n l (k : Int) = inE n l k := by unfold inI; rw [if_pos (by omega)]; simp
    rw [e]
    obtain ⟨s1, s2, s3⟩ := in_seg h.ok (v := k) (by omega)
    exact of_seq (6 - 1) Wr (by omega) hv' hr' hW.ii hW.ci (by omega) h.hn (by have h1 := h.hl; have h2 := ins_len h.ok; have h3 := keptL_len l; omega) rfl s1 s2 s3 hWr
  · have e : inI n l v = [] := by
      unfold inI
      split
      · unfold inE
        rw [if_neg (by omega)]
      · rfl
    exact of_none (6 - 1) Wr (by omega) hv' hr' (by omega) h.hn e
set_option maxRecDepth 100000 in
theorem arc_none (p : Value) (k : Int) (w : World) (h : p = .pointer none ∨ ∃ K M g n l, p = ptr g ∧ Gra w K M g n l ∧ (k < 0 ∨ (l.length : Int) ≤ k)) : Calls Tryz.prog 55 #[p, .int .i64 k] w fun e w' => e = .returned (.tuple #[.agg #[.int .i64 0, .int .i64 0, .int .i64 0], .bool false]) ∧ Below w.heap.size w w' := by
  rcases h with rfl | ⟨K, M, g, n, l, rfl, ⟨a, c, ib, cb, jb, db, h⟩, hk⟩
  · go_enter Tryz.func55, Tryz.ntmps55
    go_wp2
    exact bodyPost_ret (v := .tuple #[.agg #[.int .i64 0, .int .i64 0, .int .i64 0], .bool false]) (by simp [results, Tryz.results55, go_sem]) rfl ⟨rfl, (Below.refl _ _).alloc (Nat.le_refl _) _⟩
  · have g1 := Row.cell h.gb 1
    simp only [List.getElem?_toArray, List.getElem?_cons_zero, List.getElem?_cons_succ] at g1
    have hgl := Row.lt h.gb
    clear h
    rcases hk with hk | hk
    all_goals
      (first | (have hd : decide (k < 0) = true := by simpa using hk) | (have hd : decide (k < 0) = false := (by simp; omega)))
      (try (have hd2 : decide (k < (l.length : Int)) = false := (by simp; omega)))
      go_enter Tryz.func55, Tryz.ntmps55
      go_wp2
      exact bodyPost_ret (v := .tuple #[.agg #[.int .i64 0, .int .i64 0, .int .i64 0], .bool false]) (by simp [results, Tryz.results55, go_sem]) rfl ⟨rfl, (Below.refl _ _).alloc (Nat.le_refl _) _⟩
set_option maxRecDepth 100000 in
theorem arc_any {w : World} {K M g n : Nat} {l : List Ar} (h : Gra w K M g n l) (k : Nat) (hk : k < l.length) : Calls Tryz.prog 55 #[ptr g, .int .i64 (k : Nat)] w fun e w' => e = .returned (.tuple #[.agg #[.int .i64 (l[k]'hk).1, .int .i64 (l[k]'hk).2.1, .int .i64 (l[k]'hk).2.2], .bool true]) ∧ Below w.heap.size w w' := by
  obtain ⟨a, c, ib, cb, jb, db, h⟩ := h
  have g1 := Row.cell h.gb 1
  simp only [List.getElem?_toArray, List.getElem?_cons_zero, List.getElem?_cons_succ] at g1
  have hgl := Row.lt h.gb
  obtain ⟨ba, oa, rfl, x0, x1, x2⟩ := h.arcs.at_ hk
  have hbl := block_lt_of_cell x0
  have hd : decide ((k : Int) < 0) = false := by simp
  have hd2 : decide ((k : Int) < (l.length : Int)) = true := by simp; omega
  have hk2 : (k : Int) < (l.length : Int) := by omega
  clear h
  generalize l[k]'hk = x at *
  go_enter Tryz.func55, Tryz.ntmps55
  go_wp2
  exact bodyPost_ret (v := .tuple #[.agg #[.int .i64 x.1, .int .i64 x.2.1, .int .i64 x.2.2], .bool true]) (by simp [results, Tryz.results55, go_sem]) rfl ⟨rfl, (Below.refl _ _).alloc (Nat.le_refl _) _⟩
end Go.Proofs.YtdkpdmpghibmmaaGreat
