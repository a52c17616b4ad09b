/- gr.Parse (written by mkgry.py). -/
import Derived.Test.YtdjfmmfggkkbaaaDoorGrX
import Derived.BigRegionIn
namespace Go.Proofs.YtdjfmmfggkkbaaaDoor
open Go.RowKit Go.Shelf Grm
attribute [local go_sem] Oper.semAt_some

/-- Line by line: where it stops, what was read. -/
def goL (s : Rst) (k : Nat) : List Tx → Nat × Option Rst
  | [] => (k, some s)
  | l :: r => match takeL s (five (cut 32 l)) with
    | none => (k, none)
    | some s' => goL s' (k + 1) r
def linesL (m : Tx) : List Tx := if m = [] then [] else cut 10 (trimL m)
/-- A text: the line that is wrong, or places and arcs. -/
def parseL (m : Tx) : Nat ⊕ (Nat × List Ar) :=
  match goL Rst.zero 1 (linesL m) with
  | (k, none) => .inl k
  | (k, some s) => if s.whole then .inr (s.n, s.arcs) else .inl k
def ParseP (w : World) (R : Nat ⊕ (Nat × List Ar)) (e : Ending) (w' : World) : Prop :=
  Below w.heap.size w w' ∧ ((∃ k : Nat, R = .inl k ∧ e = .returned (.tuple #[mV 0 none 0 0, .int .i64 12, .int .i64 (k : Nat)])) ∨
    ∃ (n : Nat) (arcs : List Ar) (v : Value), R = .inr (n, arcs) ∧ e = .returned (.tuple #[.agg #[.int .i64 (n : Nat), v], .int .i64 0, .int .i64 0]) ∧ AV w' w.heap.size v arcs)
theorem cut_le (c : UInt8) : ∀ (l : Tx), ∀ x ∈ cut c l, x.length ≤ l.length
  | [], x, h => by simp [cut] at h; simp [h]
  | y :: r, x, h => by
    unfold cut at h
    split at h
    · rcases List.mem_cons.1 h with rfl | h
      · simp
      · have := cut_le c r x h; simp; omega
    · split at h
      · rename_i hd tl e
        rcases List.mem_cons.1 h with rfl | h
        · have := cut_le c r hd (by rw [e]; simp)
          simp; omega
        · have := cut_le c r x (by rw [e]; simp [h])
          simp; omega
      · simp at h; simp [h]
theorem cut_count (c : UInt8) : ∀ (l : Tx), (cut c l).length ≤ l.length + 1
  | [] => by simp [cut]
  | y :: r => by
    have h := cut_count c r
    unfold cut
    split
    · simp; omega
    · split
      · rename_i hd tl e
        rw [e] at h
        simp at h ⊢; omega
      · simp
theorem five_le2 (m x : Tx) (h : x ∈ five (cut 32 m)) : x.length ≤ m.length := cut_le 32 m x ((List.mem_filter.1 (List.mem_of_mem_take h)).1)
theorem trimL_le (m : Tx) : (trimL m).length ≤ m.length := by
  unfold trimL Lib.trimSuffix
  split
  · simp
  · exact Nat.le_refl _
/-- The cells of Parse's own: its results, its reader, its line. -/
structure ParB (h : Nat) (w W : World) (K : Nat) (v : Value) (s : Rst) (k : Nat) : Prop where
  rm : Row W h 25 #[.int .i64 0, .slice none 0 0]
  re : Row W (h + 1) 26 #[.int .i64 0]
  rk : Row W (h + 2) 3 #[.int .i64 0]
  rr : Rdr W K (h + 3) v s
  ra : Row W (h + 4) 3 #[.int .i64 (k : Nat)]
  below : Below h w W
  sz : h + 5 ≤ W.heap.size ∧ K ≤ W.heap.size
  ok : s.ok2
theorem Row.grown {w w' : World} {g : Nat} {t : TypeId} {cs : Array Value} {row : Option Nat} (h : Row w g t cs) (hg : w.grownBy w' row) (hr : row ≠ some g) : Row w' g t cs := (hg.block g h.lt (fun e => hr e.symm)).trans h
theorem ParB.kept {h K k : Nat} {w W W' : World} {v : Value} {s : Rst} {row : Option Nat} (q : ParB h w W K v s k) (hw : w.heap.size = h) (hK : h + 5 ≤ K) (hg : W.grownBy W' row) (hr : ∀ r, row = some r → h + 5 ≤ r ∧ v.ownBlock ≠ some r) : ParB h w W' K v s k := by
  have hn : ∀ i, i ≤ 4 → row ≠ some (h + i) := fun i hi e => by have := (hr _ e).1; omega
  refine ⟨q.rm.grown hg (hn 0 (by omega)), q.re.grown hg (hn 1 (by omega)), q.rk.grown hg (hn 2 (by omega)), ⟨q.rr.1.grown hg (hn 3 (by omega)), q.rr.2.kept hg ?_⟩, q.ra.grown hg (hn 4 (by omega)), q.below.grown hg (by have := q.sz; omega) (fun j e => by have := (hr j e).1; omega), ?_, q.ok⟩
  · cases hv : v.ownBlock with
    | none => exact .inl rfl
    | some j => exact .inr (fun e => (hr j e.symm).2 hv)
  · have := hg.size
    have := q.sz
    omega
theorem ParB.under {h K k : Nat} {w W W' : World} {v : Value} {s : Rst} (q : ParB h w W K v s k) (hw : w.heap.size = h) (hK : h + 5 ≤ K) (hb : Below W.heap.size W W') : ParB h w W' K v s k :=
  q.kept hw hK (row := none) ⟨hb.os, hb.tape, hb.output, hb.size, fun j hj _ => hb.block j hj⟩ (fun r e => by cases e)
/-- Behind take. -/
theorem ParB.took {h K k : Nat} {w W W' : World} {v v' : Value} {s s' : Rst} (q : ParB h w W K v s k) (hK : h + 5 ≤ K) (ho : Only (fun j => j = h + 3 ∨ v.ownBlock = some j) W W') (hr : Rdr W' K (h + 3) v' s') (hok : s'.ok2) : ParB h w W' K v' s' k := by
  have hn : ∀ i, i ≤ 4 → i ≠ 3 → ¬ (h + i = h + 3 ∨ v.ownBlock = some (h + i)) := fun i hi h3 e => by
    rcases e with e | e
    · omega
    · have := (q.rr.2.own _ e).1; omega
  have hs := q.sz
  refine ⟨q.rm.only ho (hn 0 (by omega) (by omega)), q.re.only ho (hn 1 (by omega) (by omega)), q.rk.only ho (hn 2 (by omega) (by omega)), hr, q.ra.only ho (hn 4 (by omega) (by omega)), ?_, by have := ho.size; omega, hok⟩
  refine q.below.trans (ho.below (fun j e => ?_) (by omega))
  rcases e with e | e
  · omega
  · have := (q.rr.2.own _ e).1; omega
/-- Behind take, where the line is wrong. -/
structure ParF (h : Nat) (w W : World) (k : Nat) : Prop where
  rm : Row W h 25 #[.int .i64 0, .slice none 0 0]
  re : Row W (h + 1) 26 #[.int .i64 0]
  rk : Row W (h + 2) 3 #[.int .i64 0]
  ra : Row W (h + 4) 3 #[.int .i64 (k : Nat)]
  below : Below h w W
  sz : h + 5 ≤ W.heap.size
theorem ParB.fail {h K k : Nat} {w W W' : World} {v : Value} {s : Rst} (q : ParB h w W K v s k) (hK : h + 5 ≤ K) (ho : Only (fun j => j = h + 3 ∨ v.ownBlock = some j) W W') : ParF h w W' k := by
  have hn : ∀ i, i ≤ 4 → i ≠ 3 → ¬ (h + i = h + 3 ∨ v.ownBlock = some (h + i)) := fun i hi h3 e => by
    rcases e with e | e
    · omega
    · have := (q.rr.2.own _ e).1; omega
  have hs := q.sz
  refine ⟨q.rm.only ho (hn 0 (by omega) (by omega)), q.re.only ho (hn 1 (by omega) (by omega)), q.rk.only ho (hn 2 (by omega) (by omega)), q.ra.only ho (hn 4 (by omega) (by omega)), ?_, by have := ho.size; omega⟩
  refine q.below.trans (ho.below (fun j e => ?_) (by omega))
  rcases e with e | e
  · omega
  · have := (q.rr.2.own _ e).1; omega
/-- Its results, told. -/
structure ParR (h : Nat) (w W : World) (mv av : Value) (er k : Int) : Prop where
  rm : Row W h 25 #[mv, av]
  re : Row W (h + 1) 26 #[.int .i64 er]
  rk : Row W (h + 2) 3 #[.int .i64 k]
  below : Below h w W
  sz : h + 3 ≤ W.heap.size
theorem ParR.kept {h : Nat} {w W W' : World} {mv av : Value} {er k : Int} {row : Option Nat} (q : ParR h w W mv av er k) (hg : W.grownBy W' row) (hr : ∀ r, row = some r → h + 3 ≤ r) : ParR h w W' mv av er k := by
  have hn : ∀ i, i ≤ 2 → row ≠ some (h + i) := fun i hi e => by have := hr _ e; omega
  exact ⟨q.rm.grown hg (hn 0 (by omega)), q.re.grown hg (hn 1 (by omega)), q.rk.grown hg (hn 2 (by omega)), q.below.grown hg (by have := q.sz; omega) (fun j e => by have := hr j e; omega), by have := hg.size; have := q.sz; omega⟩
theorem ParB.toF {h K k : Nat} {w W : World} {v : Value} {s : Rst} (q : ParB h w W K v s k) : ParF h w W k := ⟨q.rm, q.re, q.rk, q.ra, q.below, q.sz.1⟩
theorem ParF.ret {h k : Nat} {w W : World} (q : ParF h w W k) (mv av : Value) (er kk : Int) : ParR h w ((((W.setCell ⟨h, 0, none⟩ mv).setCell ⟨h, 1, none⟩ av).setCell ⟨h + 1, 0, none⟩ (.int .i64 er)).setCell ⟨h + 1 + 1, 0, none⟩ (.int .i64 kk)) mv av er kk := by
  refine ⟨?_, ?_, ?_, ?_, ?_⟩
  · exact ((((q.rm.put 0 mv).put 1 av).away (by show h ≠ h + 1; omega) _).away (by show h ≠ h + 1 + 1; omega) _)
  · exact ((((q.re.away (by show h + 1 ≠ h; omega) _).away (by show h + 1 ≠ h; omega) _).put 0 _).away (by show h + 1 ≠ h + 1 + 1; omega) _)
  · exact ((((q.rk.away (by show h + 2 ≠ h; omega) _).away (by show h + 2 ≠ h; omega) _).away (by show h + 2 ≠ h + 1; omega) _).put 0 _)
  · exact (((q.below.setCell (by show h ≤ h; omega) _).setCell (by show h ≤ h; omega) _).setCell (by show h ≤ h + 1; omega) _).setCell (by show h ≤ h + 1 + 1; omega) _
  · have := q.sz
    simp [World.setCell]; omega
theorem ParR.drew {h : Nat} {w W : World} {mv av : Value} {er k : Int} (q : ParR h w W mv av er k) : ParR h w W.drew mv av er k := ⟨q.rm, q.re, q.rk, ⟨q.below.os, q.below.tape, q.below.output, q.below.size, q.below.block⟩, q.sz⟩
theorem stores_far {h D : Nat} {W : World} {mv av : Value} {er kk : Int} (hD : h + 3 ≤ D) : ((((W.setCell ⟨h, 0, none⟩ mv).setCell ⟨h, 1, none⟩ av).setCell ⟨h + 1, 0, none⟩ (.int .i64 er)).setCell ⟨h + 1 + 1, 0, none⟩ (.int .i64 kk)).heap[D]? = W.heap[D]? := by
  rw [Below.heap_setCell _ _ _ _ (show D ≠ h + 1 + 1 by omega), Below.heap_setCell _ _ _ _ (show D ≠ h + 1 by omega), Below.heap_setCell _ _ _ _ (show D ≠ h by omega), Below.heap_setCell _ _ _ _ (show D ≠ h by omega)]
theorem av_mono {w : World} {K K' : Nat} {v : Value} {l : List Ar} (h : AV w K v l) (hk : K' ≤ K) : AV w K' v l := by
  refine ⟨h.1, ?_⟩
  rcases h.2 with h | ⟨g, cap, cur, rfl, h1, h2⟩
  · exact .inl h
  · exact .inr ⟨g, cap, cur, rfl, Nat.le_trans hk h1, h2⟩
theorem ParB.arcs_end {h K k : Nat} {w W : World} {v mv av : Value} {er kk : Int} {s : Rst} (q : ParB h w W K v s k) (hK : h + 5 ≤ K) {D : Nat} (o' : Obj) (hD3 : h + 3 ≤ D) (hD : W.heap[D]? = some (.deferred (some []))) : AV (((((W.setCell ⟨h, 0, none⟩ mv).setCell ⟨h, 1, none⟩ av).setCell ⟨h + 1, 0, none⟩ (.int .i64 er)).setCell ⟨h + 1 + 1, 0, none⟩ (.int .i64 kk)).putObj D o') h v s.arcs := by
  have hg : ∀ (X : World) (b o : Nat) (u : Value), X.grownBy (X.setCell ⟨b, o, none⟩ u) (some b) := fun X b o u => ⟨rfl, rfl, rfl, by simp [World.setCell], fun k _ hn => Below.heap_setCell _ _ _ _ (fun e => hn (by rw [e]))⟩
  have hne : ∀ b, b ≤ h + 2 → v.ownBlock = none ∨ v.ownBlock ≠ some b := fun b hb => .inr (fun e => by have := (q.rr.2.own b e).1; omega)
  have a4 := (((q.rr.2.kept (hg _ h 0 mv) (hne h (by omega))).kept (hg _ h 1 av) (hne h (by omega))).kept (hg _ (h + 1) 0 (.int .i64 er)) (hne (h + 1) (by omega))).kept (hg _ (h + 1 + 1) 0 (.int .i64 kk)) (hne (h + 1 + 1) (by omega))
  refine av_mono (ownsRow_putObj a4 o' ((stores_far hD3).trans hD) rfl) (by omega)
theorem takeP_none {w w' : World} {K r : Nat} {v : Value} {e : Ending} (h : TakeP w K r v none e w') : Only (fun k => k = r ∨ v.ownBlock = some k) w w' ∧ e = .returned (.bool false) := by
  rcases h with ⟨ho, ⟨_, q⟩ | ⟨_, _, q, _⟩⟩
  · exact ⟨ho, q⟩
  · cases q
theorem takeP_some {w w' : World} {K r : Nat} {v : Value} {e : Ending} {s' : Rst} (h : TakeP w K r v (some s') e w') : Only (fun k => k = r ∨ v.ownBlock = some k) w w' ∧ e = .returned (.bool true) ∧ ∃ v', Rdr w' K r v' s' := by
  rcases h with ⟨ho, ⟨q, _⟩ | ⟨s2, v', q, q2, q3⟩⟩
  · cases q
  · cases q; exact ⟨ho, q2, v', q3⟩
theorem words_wds {W : World} {g k : Nat} {l : List Tx} {m : Tx} (h : W.ownsRow g 9 1 (.slice (some ⟨g, 0, none⟩) k 5) k (l.map txV)) (hl : ∀ x ∈ l, x.length ≤ m.length) (hm : m.length ≤ 140737488351232) (hg : g < W.heap.size) : Wds W g 0 l := by
  refine ⟨hg, fun i x hx => ?_, fun x hx => Nat.le_trans (hl x hx) hm⟩
  have := World.ownsRow.cells h (g := g) rfl i (txV x) (by rw [List.getElem?_map, hx]; rfl)
  rw [Nat.zero_add]
  have ea : (⟨g, 0, none⟩ : Addr).add i = ⟨g, i, none⟩ := by
    unfold Addr.add
    by_cases q : i = 0 <;> simp [q]
  rwa [ea] at this
theorem goL_snoc {s s' : Rst} {pre : List Tx} {x : Tx} (h : ∀ rest, goL Rst.zero 1 (pre ++ rest) = goL s (pre.length + 1) rest) (e : takeL s (five (cut 32 x)) = some s') : ∀ rest, goL Rst.zero 1 ((pre ++ [x]) ++ rest) = goL s' ((pre ++ [x]).length + 1) rest := fun rest => by
  rw [List.append_assoc, h]
  simp only [List.singleton_append, goL, e, List.length_append, List.length_cons, List.length_nil]
theorem goL_fail {s : Rst} {pre L : List Tx} {x : Tx} (h : ∀ rest, goL Rst.zero 1 (pre ++ rest) = goL s (pre.length + 1) rest) (e : takeL s (five (cut 32 x)) = none) (hp : (pre ++ [x]) <+: L) : goL Rst.zero 1 L = (pre.length + 1, none) := by
  obtain ⟨t, rfl⟩ := hp
  rw [List.append_assoc, h]
  simp only [List.singleton_append, goL, e]
/-- Between two lines. -/
def ParI (h K : Nat) (w : World) (pre : List Tx) (W : World) : Prop := ∃ s v, (∀ rest, goL Rst.zero 1 (pre ++ rest) = goL s (pre.length + 1) rest) ∧ ParB h w W K v s (pre.length + 1)
def ParX (h : Nat) (w : World) (L : List Tx) (c : Code) (W : World) : Prop := c = .ret ∧ ∃ k : Nat, goL Rst.zero 1 L = (k, none) ∧ ParR h w W (.int .i64 0) (.slice none 0 0) 12 k
theorem ParI.own {h K B b : Nat} {w : World} (hw : w.heap.size = h) (hb : h + 5 ≤ b) (hbK : b < K) (hB : h + 5 ≤ B) : OwnSt B b (ParI h K w) := by
  rintro pre A A' row ⟨s, v, k1, k2⟩ hg hr
  refine ⟨s, v, k1, k2.kept hw (by omega) hg (fun r e => ?_)⟩
  rcases hr r e with rfl | ⟨q1, o, q2, q3⟩
  · exact ⟨hb, fun e2 => by have := (k2.rr.2.own _ e2).1; omega⟩
  · exact ⟨by omega, fun e2 => by rw [k2.rr.2.cells r e2 o q2] at q3; cases q3⟩
theorem ParX.own {h B b : Nat} {w : World} {L : List Tx} (hb : h + 5 ≤ b) (hB : h + 5 ≤ B) (c : Code) : OwnSt B b (fun (_ : List Tx) W => ParX h w L c W) := by
  rintro pre A A' row ⟨k0, k, k1, k2⟩ hg hr
  refine ⟨k0, k, k1, k2.kept hg (fun r e => ?_)⟩
  rcases hr r e with rfl | ⟨q1, _⟩ <;> omega
theorem KeepsFrom.of_only {B : Nat} {S : Nat → Prop} {W W' : World} (h : Only S W W') (hS : ∀ k o, S k → W.heap[k]? = some o → B ≤ k → o.isCells = true) : KeepsFrom B W W' :=
  ⟨h.size, fun k o hB hk ho => by
    by_cases q : S k
    · rw [hS k o q hk hB] at ho; cases ho
    · exact (h.block k (Array.getElem?_eq_some_iff.1 hk).1 q).trans hk⟩
theorem KeepsFrom.of_below {B : Nat} {W W' : World} (h : Below W.heap.size W W') : KeepsFrom B W W' := ⟨h.size, fun k o _ hk _ => (h.block k (Array.getElem?_eq_some_iff.1 hk).1).trans hk⟩
theorem Keep3.of_only {b : Nat} {S : Nat → Prop} {W W' : World} (h : Only S W W') (hS : ∀ k, S k → ¬ (b ≤ k ∧ k < b + 3)) (hb : b + 3 ≤ W.heap.size) : Keep3 b W W' := fun k h1 h2 => h.block k (by omega) (fun s => hS k s ⟨h1, h2⟩)
theorem ParB.next {h K k : Nat} {w W : World} {v : Value} {s : Rst} (q : ParB h w W K v s k) (hK : h + 5 ≤ K) : ParB h w (W.setCell ⟨h + 1 + 1 + 1 + 1, 0, none⟩ (.int .i64 ((k : Int) + 1))) K v s (k + 1) := by
  have hg : W.grownBy (W.setCell ⟨h + 1 + 1 + 1 + 1, 0, none⟩ (.int .i64 ((k : Int) + 1))) (some (h + 4)) := grownBy_setCell' W (h + 4) _
  refine ⟨q.rm.away (by show h ≠ h + 4; omega) _, q.re.away (by show h + 1 ≠ h + 4; omega) _, q.rk.away (by show h + 2 ≠ h + 4; omega) _, ⟨q.rr.1.away (by show h + 3 ≠ h + 4; omega) _, q.rr.2.kept hg (.inr (fun e => by have := (q.rr.2.own _ e).1; omega))⟩, ?_, q.below.setCell (by show h ≤ h + 4; omega) _, by have := q.sz; simpa [World.setCell] using this, q.ok⟩
  have := q.ra.put 0 (.int .i64 ((k : Int) + 1))
  exact this
theorem par_keeps' {h B : Nat} {W w2 w3 : World} {v u : Value} (hb : Below W.heap.size W w2) (ho : Only (fun k => k = h + 3 ∨ v.ownBlock = some k) w2 w3) (hc : ∀ k, v.ownBlock = some k → ∀ o, w2.heap[k]? = some o → o.isCells = true) (hB : h + 5 ≤ B) : KeepsFrom B W (w3.setCell ⟨h + 1 + 1 + 1 + 1, 0, none⟩ u) := by
  refine ((KeepsFrom.of_below hb).trans (KeepsFrom.of_only ho (fun k o hk hko hBk => ?_))).trans ((KeepsOthers.setCell _ _ _).from _)
  rcases hk with rfl | hk
  · omega
  · exact hc k hk o hko
theorem par_keeps {h B : Nat} {W w2 w3 : World} {v a b c d : Value} (hb : Below W.heap.size W w2) (ho : Only (fun k => k = h + 3 ∨ v.ownBlock = some k) w2 w3) (hc : ∀ k, v.ownBlock = some k → ∀ o, w2.heap[k]? = some o → o.isCells = true) (hB : h + 5 ≤ B) : KeepsFrom B W ((((w3.setCell ⟨h, 0, none⟩ a).setCell ⟨h, 1, none⟩ b).setCell ⟨h + 1, 0, none⟩ c).setCell ⟨h + 1 + 1, 0, none⟩ d).drew := by
  refine (((((((KeepsFrom.of_below hb).trans (KeepsFrom.of_only ho (fun k o hk hko hBk => ?_))).trans ((KeepsOthers.setCell _ _ _).from _)).trans ((KeepsOthers.setCell _ _ _).from _)).trans ((KeepsOthers.setCell _ _ _).from _)).trans ((KeepsOthers.setCell _ _ _).from _)).trans ((KeepsOthers.drew _).from _))
  rcases hk with rfl | hk
  · omega
  · exact hc k hk o hko
theorem par_keep3 {h b K : Nat} {W w2 w3 : World} {v u : Value} (hb : Below W.heap.size W w2) (ho : Only (fun k => k = h + 3 ∨ v.ownBlock = some k) w2 w3) (hc : ∀ k, v.ownBlock = some k → K ≤ k) (hW : K ≤ W.heap.size) (hb5 : h + 5 ≤ b) (hbK : b + 3 ≤ K) : Keep3 b W (w3.setCell ⟨h + 1 + 1 + 1 + 1, 0, none⟩ u) := by
  have h1 : Keep3 b W w2 := Keep3.below hb (by omega) (Nat.le_refl _)
  have h2 : Keep3 b w2 w3 := Keep3.of_only ho (fun k hk hh => by
    rcases hk with rfl | hk
    · omega
    · have := hc k hk; omega) (by have := hb.size; omega)
  have h3 : Keep3 b w3 (w3.setCell ⟨h + 1 + 1 + 1 + 1, 0, none⟩ u) := fun k hk1 hk2 => Below.heap_setCell _ _ _ _ (by show k ≠ h + 4; omega)
  exact (h1.trans h2).trans h3
/-- The world at the loop. -/
theorem ParB.start (w : World) : ParB w.heap.size w (((((w.alloc (.cells #[.int .i64 0, .slice none 0 0] 25)).alloc (.cells #[.int .i64 0] 26)).alloc (.cells #[.int .i64 0] 3)).alloc (.cells #[.int .i64 0, .slice none 0 0, .bool false, .int .i64 0] 53)).alloc (.cells #[.int .i64 1] 3)) (w.heap.size + 5) (.slice none 0 0) Rst.zero 1 := by
  have h0 := Row.fresh w 25 #[.int .i64 0, .slice none 0 0]
  have h1 := Row.fresh (w.alloc (.cells #[.int .i64 0, .slice none 0 0] 25)) 26 #[.int .i64 0]
  have h2 := Row.fresh ((w.alloc (.cells #[.int .i64 0, .slice none 0 0] 25)).alloc (.cells #[.int .i64 0] 26)) 3 #[.int .i64 0]
  have h3 := Row.fresh (((w.alloc (.cells #[.int .i64 0, .slice none 0 0] 25)).alloc (.cells #[.int .i64 0] 26)).alloc (.cells #[.int .i64 0] 3)) 53 #[.int .i64 0, .slice none 0 0, .bool false, .int .i64 0]
  have h4 := Row.fresh ((((w.alloc (.cells #[.int .i64 0, .slice none 0 0] 25)).alloc (.cells #[.int .i64 0] 26)).alloc (.cells #[.int .i64 0] 3)).alloc (.cells #[.int .i64 0, .slice none 0 0, .bool false, .int .i64 0] 53)) 3 #[.int .i64 1]
  simp only [World.size_alloc] at h1 h2 h3 h4
  exact ⟨(((h0.past _).past _).past _).past _, ((h1.past _).past _).past _, (h2.past _).past _, ⟨h3.past _, AV.nil _ _⟩, h4, (((((Below.refl _ w).alloc (Nat.le_refl _) _).alloc (by simp) _).alloc (by simp; omega) _).alloc (by simp; omega) _).alloc (by simp; omega) _, by simp, Rst.ok_zero, fun _ => rfl⟩
theorem ParB.mono {h K K' k : Nat} {w W : World} {s : Rst} (q : ParB h w W K (.slice none 0 0) s k) (hK : K' ≤ W.heap.size) (hs : s.arcs = []) : ParB h w W K' (.slice none 0 0) s k :=
  ⟨q.rm, q.re, q.rk, ⟨q.rr.1, by rw [hs]; exact AV.nil _ _⟩, q.ra, q.below, ⟨q.sz.1, hK⟩, q.ok⟩
theorem linesNil_stops (n : Nat) (hn : 1 ≤ n) (w : World) : SeqStopsK Fence.wide n Tryd.prog 34 #[] (fun x : Tx => #[txV x]) KeepsWalks (fun xs => xs = []) (fun _ => False) 0 w := by
  intro l J Jx W hb hJ _ hY h0
  refine callsIn_of_wp Tryd.func34 rfl trivial ?_ rfl
  gi_wp2
  go_end0
  refine ⟨⟨_, rfl⟩, ?_⟩
  first | exact .inl ⟨_, rfl, h0⟩ | exact h0 | exact .inl h0
set_option maxRecDepth 100000 in
set_option maxHeartbeats 4000000 in
theorem parse_nil (w : World) : Calls Tryd.prog 11 #[txV []] w (ParseP w (parseL [])) := by
  refine (callsIn_wide (n := 6)).1 ?_
  have hf1 : Fence.wide.fn 22 := trivial
  have hf2 : Fence.wide.fn 34 := trivial
  have hf5 : Fence.wide.fn 25 := trivial
  refine callsIn_of_wp_marks Tryd.func11 rfl trivial ?_ rfl
  simp only [Tryd.ntmps11, List.size_toArray, List.length_cons, List.length_nil, Nat.reduceAdd, Nat.reduceSub, Array.replicate_succ, Array.replicate_zero, List.push_toArray, List.append_toArray, List.nil_append, List.cons_append]
  gi_wp2_with (first
    | (gi_at_call 22; refine (callsIn_wide.2 (lines_nil _)).mono ?_; rintro e w' ⟨rfl, rfl⟩)
    | (apply wpIn_scope) | (apply wpIn_label) | gi_in)
  have hsz : (((((w.alloc (.cells #[.int .i64 0, .slice none 0 0] 25)).alloc (.cells #[.int .i64 0] 26)).alloc (.cells #[.int .i64 0] 3)).alloc (.cells #[.int .i64 0, .slice none 0 0, .bool false, .int .i64 0] 53)).alloc (.cells #[.int .i64 1] 3)).heap.size = w.heap.size + 5 := by simp
  have hst := ParB.start w
  have HLi := Lib.hid (show linesL [] = [] from rfl)
  generalize (((((w.alloc (.cells #[.int .i64 0, .slice none 0 0] 25)).alloc (.cells #[.int .i64 0] 26)).alloc (.cells #[.int .i64 0] 3)).alloc (.cells #[.int .i64 0, .slice none 0 0, .bool false, .int .i64 0] 53)).alloc (.cells #[.int .i64 1] 3)) = W0 at *
  refine wpIn_rangeFunc_ownG (α := Tx) rfl (by omega) (gf := 34) (lb := #[]) rfl hf2 (enters_of Tryd.func34 (by kernel_rfl) rfl) (linesNil_stops (6 - 1) (by omega) W0) walksK_t walksK_b (Below.refl _ _) (fun _ => rfl)
    (ParI w.heap.size (w.heap.size + 5) w) (fun _ _ _ => False) ?hI (fun _ _ _ _ _ hs _ _ => hs) ⟨_, _, fun _ => rfl, hst⟩
    (fun x => { tmps := #[txV [], undef, .pointer (some ⟨w.heap.size, 0, none⟩), .pointer (some ⟨w.heap.size + 1, 0, none⟩), .pointer (some ⟨w.heap.size + 1 + 1, 0, none⟩), .pointer (some ⟨w.heap.size + 1 + 1 + 1, 0, none⟩), .pointer (some ⟨w.heap.size + 1 + 1 + 1 + 1, 0, none⟩), txV x, txV [], .func (.func 34) #[] #[], txV x, undef, undef, undef, undef, undef, undef, undef, undef, undef, undef, undef, undef, undef, undef], defers := [] }) ?assign ?body ?done ?stop
  case hI =>
    rintro pre A A' row ⟨s, v, k1, k2⟩ hg hr
    refine ⟨s, v, k1, k2.kept rfl (by omega) hg (fun r e => ?_)⟩
    obtain ⟨q1, o, q2, q3⟩ := hr r e
    exact ⟨by omega, fun e2 => by rw [k2.rr.2.cells r e2 o q2] at q3; cases q3⟩
  case assign =>
    intro l x W K hK
    gi_wp2
    exact hK
  case body => exact fun _ _ _ _ _ h => absurd h (Nat.not_lt_zero _)
  case done =>
    rintro D xs W hD rfl hI hK
    obtain ⟨s, v, k1, k2⟩ := hI
    obtain ⟨kk, hkk⟩ : ∃ kk, kk = ([] : List Tx).length + 1 := ⟨_, rfl⟩
    rw [← hkk] at k1 k2
    obtain ⟨ad, cc, rfl⟩ := k2.rr.2.shape
    have hgo := k1 []
    rw [List.append_nil] at hgo
    have HG := Lib.hid (show goL Rst.zero 1 (linesL []) = (kk, some s) by rw [HLi.out]; exact hgo)
    have HC := Lib.hid (callsIn_wide (n := 5).2 (whole_any (w.heap.size + 1 + 1 + 1) s.arcs.length cc ad s.begun (s.many : Nat) W k2.rr.1.lt (k2.rr.1.cell 1) (k2.rr.1.cell 2) (k2.rr.1.cell 3)))
    have HK2 := Lib.hid k2
    have HD := Lib.hid (And.intro hD hK)
    have HD3 := Lib.hid (show w.heap.size + 3 ≤ D by omega)
    obtain ⟨z, hz⟩ : ∃ z, z = (s.begun && ((s.arcs.length : Int) == ((s.many : Nat) : Int))) := ⟨_, rfl⟩
    rw [← hz] at HC
    have HZ := Lib.hid (show z = s.whole by rw [hz]; unfold Rst.whole; congr 1; by_cases q : s.arcs.length = s.many <;> simp [q] <;> omega)
    clear k1 k2 hD hK hgo hz hkk
    cases z with
    | false =>
      gi_wp2_with (first | (gi_at_call 25; refine HC.out.mono ?_; rintro e w' ⟨rfl, hb9⟩; have HB9 := Lib.hid hb9; have hk9 := HK2.out.under rfl (by omega) hb9; have cm0 := hk9.rm.cell 0; have cm1 := hk9.rm.cell 1; have ce := hk9.re.cell 0; have ck := hk9.rk.cell 0; have cr0 := hk9.rr.1.cell 0; have cr1 := hk9.rr.1.cell 1; have ca := hk9.ra.cell 0; have fm0 := hk9.rm.thaw 0; have fm1 := hk9.rm.thaw 1; have fe := hk9.re.thaw 0; have fk := hk9.rk.thaw 0; simp only [List.getElem?_toArray, List.getElem?_cons_zero, List.getElem?_cons_succ] at cm0 cm1 ce ck cr0 cr1 ca; have HK9 := Lib.hid hk9; have HD9 := Lib.hid ((hb9.block _ (Array.getElem?_eq_some_iff.1 HD.out.2).1).trans HD.out.2); clear hb9 hk9) | gi_in)
      gi_region
      gi_wp2
      refine ⟨by simp, .inl ⟨_, _, rfl, run_takeDeferred ((stores_far (HD3.out)).trans HD9.out), ?_⟩⟩
      obtain ⟨q1, q2, q3, q4, q5⟩ := ((HK9.out.toF.ret (.int .i64 0) (.slice none 0 0) 12 (kk : Nat)).drew).kept (row := some D) (grownBy_putObj' _ D (.deferred none)) (fun r e => by cases e; have := HD.out.1; omega)
      have r0 := q1.cell 0
      have r1 := q1.cell 1
      have r2 := q2.cell 0
      have r3 := q3.cell 0
      simp only [List.getElem?_toArray, List.getElem?_cons_zero, List.getElem?_cons_succ] at r0 r1 r2 r3
      generalize World.putObj _ D (.deferred none) = WF at *
      have r4 : WF.cell? ⟨w.heap.size + 1 + 1, 0, none⟩ = some (.int .i64 ((kk : Nat))) := r3
      refine ⟨.tuple #[.agg #[.int .i64 0, .slice none 0 0], .int .i64 (12), .int .i64 ((kk : Nat))], by simp [results, Tryd.results11, go_sem, r0, r1, r2, r4], ?_⟩
      refine ⟨q4, .inl ⟨kk, ?_, rfl⟩⟩
      unfold parseL
      rw [HG.out]
      simp [← HZ.out]
    | true =>
      gi_wp2_with (first | (gi_at_call 25; refine HC.out.mono ?_; rintro e w' ⟨rfl, hb9⟩; have HB9 := Lib.hid hb9; have hk9 := HK2.out.under rfl (by omega) hb9; have cm0 := hk9.rm.cell 0; have cm1 := hk9.rm.cell 1; have ce := hk9.re.cell 0; have ck := hk9.rk.cell 0; have cr0 := hk9.rr.1.cell 0; have cr1 := hk9.rr.1.cell 1; have ca := hk9.ra.cell 0; have fm0 := hk9.rm.thaw 0; have fm1 := hk9.rm.thaw 1; have fe := hk9.re.thaw 0; have fk := hk9.rk.thaw 0; simp only [List.getElem?_toArray, List.getElem?_cons_zero, List.getElem?_cons_succ] at cm0 cm1 ce ck cr0 cr1 ca; have HK9 := Lib.hid hk9; have HD9 := Lib.hid ((hb9.block _ (Array.getElem?_eq_some_iff.1 HD.out.2).1).trans HD.out.2); clear hb9 hk9) | gi_in)
      refine ⟨by simp, .inl ⟨_, _, rfl, run_takeDeferred ((stores_far (HD3.out)).trans HD9.out), ?_⟩⟩
      obtain ⟨q1, q2, q3, q4, q5⟩ := (HK9.out.toF.ret (.int .i64 (s.n : Nat)) (.slice ad s.arcs.length cc) 0 0).kept (row := some D) (grownBy_putObj' _ D (.deferred none)) (fun r e => by cases e; have := HD.out.1; omega)
      have q6 := HK9.out.arcs_end (mv := .int .i64 (s.n : Nat)) (av := .slice ad s.arcs.length cc) (er := 0) (kk := 0) (by omega) (.deferred none) HD3.out HD9.out
      have r0 := q1.cell 0
      have r1 := q1.cell 1
      have r2 := q2.cell 0
      have r3 := q3.cell 0
      simp only [List.getElem?_toArray, List.getElem?_cons_zero, List.getElem?_cons_succ] at r0 r1 r2 r3
      generalize World.putObj _ D (.deferred none) = WF at *
      have r4 : WF.cell? ⟨w.heap.size + 1 + 1, 0, none⟩ = some (.int .i64 (0)) := r3
      refine ⟨.tuple #[.agg #[.int .i64 (s.n : Nat), .slice ad s.arcs.length cc], .int .i64 (0), .int .i64 (0)], by simp [results, Tryd.results11, go_sem, r0, r1, r2, r4], ?_⟩
      refine ⟨q4, .inr ⟨s.n, s.arcs, _, ?_, rfl, q6⟩⟩
      unfold parseL
      rw [HG.out]
      simp [← HZ.out]
  case stop => exact fun _ _ _ _ _ _ h => h.elim
set_option maxRecDepth 100000 in
set_option maxHeartbeats 4000000 in
theorem parse_some (y : UInt8) (t : Tx) (hm : (y :: t).length ≤ 140737488351232) (w : World) :
    Calls Tryd.prog 11 #[txV (y :: t)] w (ParseP w (parseL (y :: t))) := by
  have HM := Lib.hid hm
  clear hm
  obtain ⟨L, hL⟩ : ∃ L, L = cut 10 (trimL (y :: t)) := ⟨_, rfl⟩
  have HLe := Lib.hid hL
  refine (callsIn_wide (n := 6)).1 ?_
  have hf1 : Fence.wide.fn 22 := trivial
  have hf2 : Fence.wide.fn 49 := trivial
  have hf5 : Fence.wide.fn 25 := trivial
  refine callsIn_of_wp_marks Tryd.func11 rfl trivial ?_ rfl
  simp only [Tryd.ntmps11, List.size_toArray, List.length_cons, List.length_nil, Nat.reduceAdd, Nat.reduceSub, Array.replicate_succ, Array.replicate_zero, List.push_toArray, List.append_toArray, List.nil_append, List.cons_append]
  gi_wp2_with (first
    | (gi_at_call 22; refine (callsIn_wide.2 (lines_any y t HM.out _)).mono ?_; rintro e w' ⟨rfl, rfl⟩)
    | (apply wpIn_scope) | (apply wpIn_label) | gi_in)
  have hsz : (((((w.alloc (.cells #[.int .i64 0, .slice none 0 0] 25)).alloc (.cells #[.int .i64 0] 26)).alloc (.cells #[.int .i64 0] 3)).alloc (.cells #[.int .i64 0, .slice none 0 0, .bool false, .int .i64 0] 53)).alloc (.cells #[.int .i64 1] 3)).heap.size = w.heap.size + 5 := by simp
  have hst := ParB.start w
  have HLi := Lib.hid (show linesL (y :: t) = L by rw [hL]; simp [linesL])
  generalize (((((w.alloc (.cells #[.int .i64 0, .slice none 0 0] 25)).alloc (.cells #[.int .i64 0] 26)).alloc (.cells #[.int .i64 0] 3)).alloc (.cells #[.int .i64 0, .slice none 0 0, .bool false, .int .i64 0] 53)).alloc (.cells #[.int .i64 1] 3)) = W0 at *
  have hbx := splitW_box (trimL (y :: t)) 10 W0
  have hss := splitW_size (trimL (y :: t)) 10 W0
  have hsb := splitW_below (trimL (y :: t)) 10 W0
  rw [hsz] at hbx hss
  have hseq := split_seq (6 - 1) (w.heap.size + 5) (by omega) 10 (trimL (y :: t)) (Nat.le_trans (trimL_le _) HM.out) _ hbx.1 hbx.2.1 hbx.2.2
  rw [← hL] at hseq
  have hst1 := (hst.under rfl (Nat.le_refl _) hsb).mono (K' := w.heap.size + 8) (by rw [hss]; exact Nat.le_refl _) rfl
  have hLn : ∀ x ∈ L, x.length ≤ 140737488351232 := fun x hx => by
    rw [hL] at hx
    exact Nat.le_trans (cut_le 10 _ x hx) (Nat.le_trans (trimL_le _) HM.out)
  have hLc : L.length ≤ 140737488351233 := by
    rw [hL]
    have h1 := cut_count 10 (trimL (y :: t))
    have h2 := trimL_le (y :: t)
    have h3 := HM.out
    omega
  have HLn := Lib.hid hLn
  have HLc := Lib.hid hLc
  clear hLn hLc hL hbx hsb hst
  generalize splitW (trimL (y :: t)) 10 W0 = W1 at *
  refine wpIn_rangeFunc_st rfl (by omega) (gf := 49) (lb := #[.pointer (some ⟨w.heap.size + 1 + 1 + 1 + 1 + 1 + 1, 0, none⟩), .pointer (some ⟨w.heap.size + 1 + 1 + 1 + 1 + 1, 0, none⟩), .pointer (some ⟨w.heap.size + 1 + 1 + 1 + 1 + 1 + 2, 0, none⟩)]) rfl hf2 (enters_of Tryd.func49 (by kernel_rfl) rfl) hseq (by omega) (fun _ => rfl)
    (ParI w.heap.size (w.heap.size + 8) w) (fun c _ W => ParX w.heap.size w L c W) (ParI.own rfl (by omega) (by omega) (by omega)) (ParX.own (by omega) (by omega)) ⟨_, _, fun _ => rfl, hst1⟩
    (fun x => { tmps := #[txV (y :: t), undef, .pointer (some ⟨w.heap.size, 0, none⟩), .pointer (some ⟨w.heap.size + 1, 0, none⟩), .pointer (some ⟨w.heap.size + 1 + 1, 0, none⟩), .pointer (some ⟨w.heap.size + 1 + 1 + 1, 0, none⟩), .pointer (some ⟨w.heap.size + 1 + 1 + 1 + 1, 0, none⟩), txV x, txV (y :: t), splitV (w.heap.size + 1 + 1 + 1 + 1 + 1), txV x, undef, undef, undef, undef, undef, undef, undef, undef, undef, undef, undef, undef, undef, undef], defers := [] }) ?assign ?body ?done ?stop
  case assign =>
    intro l x W K hK
    gi_wp2
    exact hK
  case body =>
    rintro l pre x W ⟨s, v, k1, k2⟩ hR
    have hxL : x ∈ L := hR.subset (by simp)
    have hpl : pre.length + 1 ≤ L.length := by have := hR.length_le; simpa using this
    have hx9 := HLn.out x hxL
    have hf3 : Fence.wide.fn 24 := trivial
    have hf4 : Fence.wide.fn 23 := trivial
    have HW := Lib.hid (words_any x hx9 W)
    obtain ⟨kk, hkk⟩ : ∃ kk, kk = pre.length + 1 := ⟨_, rfl⟩
    rw [← hkk] at k2
    have HKK := Lib.hid hkk
    have HK2 := Lib.hid k2
    have HK1 := Lib.hid k1
    have HR := Lib.hid hR
    have hpI : (kk : Int) ≤ 140737488351233 := by have := HLc.out; omega
    have HX9 := Lib.hid hx9
    clear k1 k2 hR hxL hpl hx9 hkk
    cases hT : takeL s (five (cut 32 x)) with
    | none =>
      have HT := Lib.hid hT
      clear hT
      gi_wp2_with (first
        | (gi_at_call 24; refine ((callsIn_wide (n := 3).2 HW.out).inRound l).mono ?_; rintro e w2 ⟨rfl, hrow, hb2⟩; have hk2 := HK2.out.under rfl (by omega) hb2; have hwd := words_wds hrow (fun x' hx' => five_le2 x x' hx') HX9.out (by have := hrow.lt W.heap.size rfl; omega); have HTk := Lib.hid (take_any hk2.rr hk2.ok ⟨by omega, hk2.sz.2⟩ _ hwd (five_le _)); rw [HT.out] at HTk; have HK3 := Lib.hid hk2; have HB2 := Lib.hid hb2; clear hrow hb2 hk2 hwd)
        | (gi_at_call 23; refine ((callsIn_wide (n := 3).2 HTk.out).inRound l).mono ?_; rintro e w3 hTP; obtain ⟨ho, rfl⟩ := takeP_none hTP; clear hTP; have hk9 := HK3.out.fail (by omega) ho; have HO := Lib.hid ho; clear ho; have cm0 := hk9.rm.cell 0; have cm1 := hk9.rm.cell 1; have ce := hk9.re.cell 0; have ck := hk9.rk.cell 0; have ca := hk9.ra.cell 0; have fm0 := hk9.rm.thaw 0; have fm1 := hk9.rm.thaw 1; have fe := hk9.re.thaw 0; have fk := hk9.rk.thaw 0; have fa := hk9.ra.thaw 0; simp only [List.getElem?_toArray, List.getElem?_cons_zero, List.getElem?_cons_succ] at cm0 cm1 ce ck ca; have HK9 := Lib.hid hk9; clear hk9) | gi_in)
      gi_region
      all_goals
        gi_wp2
        refine ⟨par_keeps HB2.out HO.out (fun k e => HK3.out.rr.2.cells k e) (by omega), rfl, kk, ?_, (HK9.out.ret (.int .i64 0) (.slice none 0 0) 12 (kk : Nat)).drew⟩
        rw [HKK.out]
        exact goL_fail HK1.out HT.out HR.out
    | some s' =>
      have HT := Lib.hid hT
      clear hT
      gi_wp2_with (first
        | (gi_at_call 24; refine ((callsIn_wide (n := 3).2 HW.out).inRound l).mono ?_; rintro e w2 ⟨rfl, hrow, hb2⟩; have hk2 := HK2.out.under rfl (by omega) hb2; have hwd := words_wds hrow (fun x' hx' => five_le2 x x' hx') HX9.out (by have := hrow.lt W.heap.size rfl; omega); have HTk := Lib.hid (take_any hk2.rr hk2.ok ⟨by omega, hk2.sz.2⟩ _ hwd (five_le _)); rw [HT.out] at HTk; have HK3 := Lib.hid hk2; have HB2 := Lib.hid hb2; clear hrow hb2 hk2 hwd)
        | (gi_at_call 23; refine ((callsIn_wide (n := 3).2 HTk.out).inRound l).mono ?_; rintro e w3 hTP; obtain ⟨ho, rfl, v', hr'⟩ := takeP_some hTP; clear hTP; have hk9 := HK3.out.took (by omega) ho hr' (takeL_ok HK3.out.ok HT.out); have HO := Lib.hid ho; clear ho hr'; have cm0 := hk9.rm.cell 0; have cm1 := hk9.rm.cell 1; have ce := hk9.re.cell 0; have ck := hk9.rk.cell 0; have ca := hk9.ra.cell 0; have fm0 := hk9.rm.thaw 0; have fm1 := hk9.rm.thaw 1; have fe := hk9.re.thaw 0; have fk := hk9.rk.thaw 0; have fa := hk9.ra.thaw 0; simp only [List.getElem?_toArray, List.getElem?_cons_zero, List.getElem?_cons_succ] at cm0 cm1 ce ck ca; have HK9 := Lib.hid hk9; clear hk9) | gi_in)
      refine ⟨par_keeps' HB2.out HO.out (fun k e => HK3.out.rr.2.cells k e) (by omega), par_keep3 HB2.out HO.out (fun k e => (HK3.out.rr.2.own k e).1) HK2.out.sz.2 (by omega) (by omega), s', v', goL_snoc HK1.out HT.out, ?_⟩
      rw [show (pre ++ [x]).length + 1 = kk + 1 by rw [HKK.out]; simp]
      exact HK9.out.next (by omega)
  case done =>
    rintro D xs W hD rfl hI hK
    obtain ⟨s, v, k1, k2⟩ := hI
    obtain ⟨kk, hkk⟩ : ∃ kk, kk = xs.length + 1 := ⟨_, rfl⟩
    rw [← hkk] at k1 k2
    obtain ⟨ad, cc, rfl⟩ := k2.rr.2.shape
    have hgo := k1 []
    rw [List.append_nil] at hgo
    have HG := Lib.hid (show goL Rst.zero 1 (linesL (y :: t)) = (kk, some s) by rw [HLi.out]; exact hgo)
    have HC := Lib.hid (callsIn_wide (n := 5).2 (whole_any (w.heap.size + 1 + 1 + 1) s.arcs.length cc ad s.begun (s.many : Nat) W k2.rr.1.lt (k2.rr.1.cell 1) (k2.rr.1.cell 2) (k2.rr.1.cell 3)))
    have HK2 := Lib.hid k2
    have HD := Lib.hid (And.intro hD hK)
    have HD3 := Lib.hid (show w.heap.size + 3 ≤ D by omega)
    obtain ⟨z, hz⟩ : ∃ z, z = (s.begun && ((s.arcs.length : Int) == ((s.many : Nat) : Int))) := ⟨_, rfl⟩
    rw [← hz] at HC
    have HZ := Lib.hid (show z = s.whole by rw [hz]; unfold Rst.whole; congr 1; by_cases q : s.arcs.length = s.many <;> simp [q] <;> omega)
    clear k1 k2 hD hK hgo hz hkk
    cases z with
    | false =>
      gi_wp2_with (first | (gi_at_call 25; refine HC.out.mono ?_; rintro e w' ⟨rfl, hb9⟩; have HB9 := Lib.hid hb9; have hk9 := HK2.out.under rfl (by omega) hb9; have cm0 := hk9.rm.cell 0; have cm1 := hk9.rm.cell 1; have ce := hk9.re.cell 0; have ck := hk9.rk.cell 0; have cr0 := hk9.rr.1.cell 0; have cr1 := hk9.rr.1.cell 1; have ca := hk9.ra.cell 0; have fm0 := hk9.rm.thaw 0; have fm1 := hk9.rm.thaw 1; have fe := hk9.re.thaw 0; have fk := hk9.rk.thaw 0; simp only [List.getElem?_toArray, List.getElem?_cons_zero, List.getElem?_cons_succ] at cm0 cm1 ce ck cr0 cr1 ca; have HK9 := Lib.hid hk9; have HD9 := Lib.hid ((hb9.block _ (Array.getElem?_eq_some_iff.1 HD.out.2).1).trans HD.out.2); clear hb9 hk9) | gi_in)
      gi_region
      gi_wp2
      refine ⟨by simp, .inl ⟨_, _, rfl, run_takeDeferred ((stores_far (HD3.out)).trans HD9.out), ?_⟩⟩
      obtain ⟨q1, q2, q3, q4, q5⟩ := ((HK9.out.toF.ret (.int .i64 0) (.slice none 0 0) 12 (kk : Nat)).drew).kept (row := some D) (grownBy_putObj' _ D (.deferred none)) (fun r e => by cases e; have := HD.out.1; omega)
      have r0 := q1.cell 0
      have r1 := q1.cell 1
      have r2 := q2.cell 0
      have r3 := q3.cell 0
      simp only [List.getElem?_toArray, List.getElem?_cons_zero, List.getElem?_cons_succ] at r0 r1 r2 r3
      generalize World.putObj _ D (.deferred none) = WF at *
      have r4 : WF.cell? ⟨w.heap.size + 1 + 1, 0, none⟩ = some (.int .i64 ((kk : Nat))) := r3
      refine ⟨.tuple #[.agg #[.int .i64 0, .slice none 0 0], .int .i64 (12), .int .i64 ((kk : Nat))], by simp [results, Tryd.results11, go_sem, r0, r1, r2, r4], ?_⟩
      refine ⟨q4, .inl ⟨kk, ?_, rfl⟩⟩
      unfold parseL
      rw [HG.out]
      simp [← HZ.out]
    | true =>
      gi_wp2_with (first | (gi_at_call 25; refine HC.out.mono ?_; rintro e w' ⟨rfl, hb9⟩; have HB9 := Lib.hid hb9; have hk9 := HK2.out.under rfl (by omega) hb9; have cm0 := hk9.rm.cell 0; have cm1 := hk9.rm.cell 1; have ce := hk9.re.cell 0; have ck := hk9.rk.cell 0; have cr0 := hk9.rr.1.cell 0; have cr1 := hk9.rr.1.cell 1; have ca := hk9.ra.cell 0; have fm0 := hk9.rm.thaw 0; have fm1 := hk9.rm.thaw 1; have fe := hk9.re.thaw 0; have fk := hk9.rk.thaw 0; simp only [List.getElem?_toArray, List.getElem?_cons_zero, List.getElem?_cons_succ] at cm0 cm1 ce ck cr0 cr1 ca; have HK9 := Lib.hid hk9; have HD9 := Lib.hid ((hb9.block _ (Array.getElem?_eq_some_iff.1 HD.out.2).1).trans HD.out.2); clear hb9 hk9) | gi_in)
      refine ⟨by simp, .inl ⟨_, _, rfl, run_takeDeferred ((stores_far (HD3.out)).trans HD9.out), ?_⟩⟩
      obtain ⟨q1, q2, q3, q4, q5⟩ := (HK9.out.toF.ret (.int .i64 (s.n : Nat)) (.slice ad s.arcs.length cc) 0 0).kept (row := some D) (grownBy_putObj' _ D (.deferred none)) (fun r e => by cases e; have := HD.out.1; omega)
      have q6 := HK9.out.arcs_end (mv := .int .i64 (s.n : Nat)) (av := .slice ad s.arcs.length cc) (er := 0) (kk := 0) (by omega) (.deferred none) HD3.out HD9.out
      have r0 := q1.cell 0
      have r1 := q1.cell 1
      have r2 := q2.cell 0
      have r3 := q3.cell 0
      simp only [List.getElem?_toArray, List.getElem?_cons_zero, List.getElem?_cons_succ] at r0 r1 r2 r3
      generalize World.putObj _ D (.deferred none) = WF at *
      have r4 : WF.cell? ⟨w.heap.size + 1 + 1, 0, none⟩ = some (.int .i64 (0)) := r3
      refine ⟨.tuple #[.agg #[.int .i64 (s.n : Nat), .slice ad s.arcs.length cc], .int .i64 (0), .int .i64 (0)], by simp [results, Tryd.results11, go_sem, r0, r1, r2, r4], ?_⟩
      refine ⟨q4, .inr ⟨s.n, s.arcs, _, ?_, rfl, q6⟩⟩
      unfold parseL
      rw [HG.out]
      simp [← HZ.out]
  case stop =>
    rintro D c pre W hD ⟨rfl, kk, hgo, q⟩ hK
    have HQ := Lib.hid q
    have HG := Lib.hid (show goL Rst.zero 1 (linesL (y :: t)) = (kk, none) by rw [HLi.out]; exact hgo)
    have HD := Lib.hid (And.intro hD hK)
    clear hgo q hD hK
    gi_wp2
    · skip
      refine ⟨by simp, .inl ⟨_, _, rfl, run_takeDeferred HD.out.2, ?_⟩⟩
      obtain ⟨q1, q2, q3, q4, q5⟩ := HQ.out.kept (row := some D) (grownBy_putObj' _ D (.deferred none)) (fun r e => by cases e; have := HD.out.1; omega)
      have r0 := q1.cell 0
      have r1 := q1.cell 1
      have r2 := q2.cell 0
      have r3 := q3.cell 0
      simp only [List.getElem?_toArray, List.getElem?_cons_zero, List.getElem?_cons_succ] at r0 r1 r2 r3
      generalize World.putObj _ D (.deferred none) = WF at *
      have r4 : WF.cell? ⟨w.heap.size + 1 + 1, 0, none⟩ = some (.int .i64 ((kk : Nat))) := r3
      refine ⟨.tuple #[.agg #[.int .i64 0, .slice none 0 0], .int .i64 (12), .int .i64 ((kk : Nat))], by simp [results, Tryd.results11, go_sem, r0, r1, r2, r4], ?_⟩
      refine ⟨q4, .inl ⟨kk, ?_, rfl⟩⟩
      unfold parseL
      rw [HG.out]
/-- gr.Parse. -/
theorem parse_any (m : Tx) (hm : m.length ≤ 140737488351232) (w : World) : Calls Tryd.prog 11 #[txV m] w (ParseP w (parseL m)) := by
  rcases m with _ | ⟨y, t⟩
  · exact parse_nil w
  · exact parse_some y t hm w
end Go.Proofs.YtdjfmmfggkkbaaaDoor
