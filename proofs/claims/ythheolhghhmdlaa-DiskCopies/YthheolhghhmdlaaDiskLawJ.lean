/- DiskCopies: what the law holds, and its steps. -/
import Derived.Test.YthheolhghhmdlaaDiskLawG
import Derived.Test.YthheolhghhmdlaaDiskR
namespace Go.Proofs.Ythheolhghhmdlaa
open Go.RowKit Dsk

/-- The law's disk (beside the blocks U of all else), the document's in block bt, of the blocks T, the thing to do in block nx. -/
structure Cp (W : World) (g bt nx : Nat) (fs : List Fil) (U T : Nat → Prop) (rs : List Rf) (a : Option Addr) (c : Nat) (x : Ope) (ax : Option Addr) (cx : Nat) (wr : World) : Prop where
  md : Md W g 5000 fs U wr
  tu : ∀ k, T k → U k
  ub : U bt
  nb : ¬ T bt
  ux : U nx
  nt : ¬ T nx
  row : Row wr bt 27 #[.int .i64 5000, .slice a rs.length c]
  ro : Row wr nx 36 #[.int .i64 x.kind, .string ⟨x.name.toArray⟩, .string ⟨x.to.toArray⟩, .slice ax x.data.length cx]
  gs : Fs3 wr T a rs
/-- Blocks that the law, or another disk, may write. -/
def Free (W : World) (bt nx : Nat) (U T V : Nat → Prop) : Prop := ∀ k, V k → U k ∧ ¬ T k ∧ k ≠ bt ∧ k ≠ nx ∧ W.heap.size ≤ k
section
variable {W wr wy : World} {g bt nx : Nat} {fs : List Fil} {U T : Nat → Prop} {rs : List Rf} {a : Option Addr} {c : Nat} {x : Ope} {ax : Option Addr} {cx : Nat}
theorem Cp.hands (h : Cp W g bt nx fs U T rs a c x ax cx wr) {U' : Nat → Prop} (hm : Md W g 5000 fs U' wy) (hu : ∀ k, U k → U' k) (hk : Kept U wr wy) : Cp W g bt nx fs U' T rs a c x ax cx wy :=
  ⟨hm, fun k q => hu k (h.tu k q), hu bt h.ub, h.nb, hu nx h.ux, h.nt, (hk.1 bt h.ub).trans h.row, (hk.1 nx h.ux).trans h.ro, h.gs.kept (hk.mono h.tu)⟩
theorem Cp.wide (h : Cp W g bt nx fs U T rs a c x ax cx wr) (hb : Below wr.heap.size wr wy) : Cp W g bt nx fs (moreT U wr.heap.size wy.heap.size) T rs a c x ax cx wy :=
  h.hands (h.md.wide hb) (fun k q => .inl q) (h.md.kept hb)
/-- Another disk, or the law itself, wrote into blocks that are free for it. -/
theorem Cp.only (h : Cp W g bt nx fs U T rs a c x ax cx wr) {V : Nat → Prop} (hV : Free W bt nx U T V) (ho : Only V wr wy) : Cp W g bt nx fs (moreT U wr.heap.size wy.heap.size) T rs a c x ax cx wy := by
  obtain ⟨S, h1, h2⟩ := h.md.dq
  have hm : Md W g 5000 fs (moreT U wr.heap.size wy.heap.size) wy := by
    refine ⟨⟨S, h1.only ho (fun k s v => h2 k s (hV k v).1), fun k s q => ?_⟩, fun k hk => .inl (h.md.arg k hk), fun k hk => ?_, h.md.back.trans (ho.below (K := W.heap.size) (fun k v => (hV k v).2.2.2.2) h.md.back.size)⟩
    · rcases q with q | q
      · exact h2 k s q
      · have := h1.lt k s; omega
    · rcases hk with q | q
      · exact Nat.lt_of_lt_of_le (h.md.lt k q) ho.size
      · exact q.2
  exact ⟨hm, fun k q => .inl (h.tu k q), .inl h.ub, h.nb, .inl h.ux, h.nt, h.row.only ho (fun v => (hV bt v).2.2.1 rfl), h.ro.only ho (fun v => (hV nx v).2.2.2.1 rfl), h.gs.kept ⟨fun k q => ho.block k (h.md.lt k (h.tu k q)) (fun v => (hV k v).2.1 q), ho.size⟩⟩
theorem Free.more {V : Nat → Prop} {n m : Nat} (h : Free W bt nx U T V) : Free W bt nx (moreT U n m) T V := fun k v => ⟨.inl (h k v).1, (h k v).2⟩
theorem Cp.new_free (h : Cp W g bt nx fs U T rs a c x ax cx wr) {m : Nat} : ∀ k, wr.heap.size ≤ k → k < m → moreT U wr.heap.size m k ∧ ¬ T k ∧ k ≠ bt ∧ k ≠ nx ∧ W.heap.size ≤ k := fun k h1 h2 =>
  ⟨.inr ⟨h1, h2⟩, fun t => by have := h.md.lt k (h.tu k t); omega, fun e => by have := h.md.lt bt h.ub; omega, fun e => by have := h.md.lt nx h.ux; omega, by have := h.md.back.size; omega⟩
/-- Something was done to the other disk. -/
theorem Cp.other (h : Cp W g bt nx fs U T rs a c x ax cx wr) {ge : Nat} {Se : Nat → Prop} {fe : List Fil} (hS : Free W bt nx U T Se) (hd : Dd wr ge Se 5000 fe wy) : ∃ Se', Dq wy ge Se' 5000 fe ∧ Cp W g bt nx fs (moreT U wr.heap.size wy.heap.size) T rs a c x ax cx wy ∧ Free W bt nx (moreT U wr.heap.size wy.heap.size) T Se' := by
  obtain ⟨Se', q1, q2, q3⟩ := hd.dq
  refine ⟨Se', q1, h.only hS q3, fun k hk => ?_⟩
  rcases q2 k hk with q | q
  · exact hS.more k q
  · exact h.new_free k q (q1.lt k hk)
/-- A row of bytes of the law's own, whatever it holds. -/
def Byr (w : World) (K : Nat) (a : Option Addr) (m c : Nat) : Prop := ∃ xs, w.ownsRow K 5 1 (.slice a m c) m xs
theorem Byr.kept {w w' : World} {K m cc : Nat} {aa : Option Addr} (h : Byr w K aa m cc) (hb : ∀ b, (Value.slice aa m cc).ownBlock = some b → w'.heap[b]? = w.heap[b]?) : Byr w' K aa m cc := by
  obtain ⟨xs, h⟩ := h
  exact ⟨xs, ownsRow_same h hb⟩
theorem Byr.at_ {w : World} {K m cc j : Nat} {aa : Option Addr} (h : Byr w K aa m cc) (hj : j < m) : ∃ b v, aa = some ⟨b, 0, none⟩ ∧ K ≤ b ∧ b < w.heap.size ∧ w.cell? ⟨b, j, none⟩ = some v ∧ w.frozen? ⟨b, j, none⟩ = false ∧ ∀ u, Byr (w.setCell ⟨b, j, none⟩ u) K aa m cc := by
  obtain ⟨xs, h⟩ := h
  rcases h.2 with ⟨_, h0⟩ | ⟨b, cap, cur, hv, h1, h2, _⟩
  · omega
  · injection hv with e1 e2 e3
    subst e1
    subst e3
    have hl : xs.length = m := by have := h.1; omega
    have hc := World.ownsRow.cellAt h j (by omega)
    rw [List.getElem?_eq_getElem (by omega)] at hc
    exact ⟨b, _, rfl, h1, (Array.getElem?_eq_some_iff.1 h2).1, hc, World.ownsRow.frozenAt h j, fun u => ⟨_, (World.ownsRow.stored h j u).1⟩⟩
end

/-- The block of a row. -/
def Own (d : Option Addr) (m cc : Nat) : Nat → Prop := fun k => (Value.slice d m cc).ownBlock = some k
/-- While the law writes into a row of its own. -/
def Lp (W : World) (g bt nx : Nat) (fs : List Fil) (T : Nat → Prop) (rs : List Rf) (a : Option Addr) (c : Nat) (x : Ope) (ax : Option Addr) (cx K : Nat) (d : Option Addr) (m cc : Nat) (wr : World) : Prop :=
  ∃ U, Cp W g bt nx fs U T rs a c x ax cx wr ∧ Byr wr K d m cc ∧ Free W bt nx U T (Own d m cc)
/-- The same, and there is a copy. -/
def Lq (W : World) (g bt nx : Nat) (fs : List Fil) (T : Nat → Prop) (rs : List Rf) (a : Option Addr) (c : Nat) (x : Ope) (ax : Option Addr) (cx K : Nat) (d : Option Addr) (m cc ge : Nat) (wr : World) : Prop :=
  ∃ U Se, Cp W g bt nx fs U T rs a c x ax cx wr ∧ Byr wr K d m cc ∧ Free W bt nx U T (Own d m cc) ∧ Dq wr ge Se 5000 fs ∧ Free W bt nx U T Se ∧ ∀ k, Se k → ¬ Own d m cc k
section
variable {W wr wy : World} {g bt nx : Nat} {fs : List Fil} {U T : Nat → Prop} {rs : List Rf} {a : Option Addr} {c : Nat} {x : Ope} {ax : Option Addr} {cx K : Nat} {d : Option Addr} {m cc ge : Nat}
theorem Lp.set (h : Lp W g bt nx fs T rs a c x ax cx K d m cc wr) {j : Nat} (hj : j < m) : ∃ b v, d = some ⟨b, 0, none⟩ ∧ b < wr.heap.size ∧ wr.cell? ⟨b, j, none⟩ = some v ∧ wr.frozen? ⟨b, j, none⟩ = false ∧ ∀ u, Lp W g bt nx fs T rs a c x ax cx K d m cc (wr.setCell ⟨b, j, none⟩ u) := by
  obtain ⟨U, h1, h2, h3⟩ := h
  obtain ⟨b, v, e, _, q2, q3, q4, q5⟩ := h2.at_ hj
  subst e
  exact ⟨b, v, rfl, q2, q3, q4, fun u => ⟨_, h1.only h3 ((Only.refl (Own (some ⟨b, 0, none⟩) m cc) wr).setCell (p := ⟨b, j, none⟩) (.inl rfl) u), q5 u, h3.more⟩⟩
theorem Lq.set (h : Lq W g bt nx fs T rs a c x ax cx K d m cc ge wr) {j : Nat} (hj : j < m) : ∃ b v, d = some ⟨b, 0, none⟩ ∧ b < wr.heap.size ∧ wr.cell? ⟨b, j, none⟩ = some v ∧ wr.frozen? ⟨b, j, none⟩ = false ∧ ∀ u, Lq W g bt nx fs T rs a c x ax cx K d m cc ge (wr.setCell ⟨b, j, none⟩ u) := by
  obtain ⟨U, Se, h1, h2, h3, h4, h5, h6⟩ := h
  obtain ⟨b, v, e, _, q2, q3, q4, q5⟩ := h2.at_ hj
  subst e
  refine ⟨b, v, rfl, q2, q3, q4, fun u => ?_⟩
  have ho : Only (Own (some ⟨b, 0, none⟩) m cc) wr (wr.setCell ⟨b, j, none⟩ u) := (Only.refl (Own (some ⟨b, 0, none⟩) m cc) wr).setCell (p := ⟨b, j, none⟩) (.inl rfl) u
  exact ⟨_, Se, h1.only h3 ho, q5 u, h3.more, h4.only ho h6, h5.more, h6⟩
theorem Cp.copy (h : Cp W g bt nx fs U T rs a c x ax cx wr) (hs : Sm fs) : Calls Try.prog 22 #[ptr g] wr fun e w' => ∃ ge Se U', e = .returned (ptr ge) ∧ Cp W g bt nx fs U' T rs a c x ax cx w' ∧ Dq w' ge Se 5000 fs ∧ Free W bt nx U' T Se := by
  refine (h.md.copy hs).mono ?_
  rintro e w' ⟨T', ge, Se, rfl, ⟨q1, q2, q3⟩, q4, q5⟩
  refine ⟨ge, Se, T', rfl, h.hands q1 q2 q3, q4, fun k hk => ?_⟩
  obtain ⟨r1, r2⟩ := q5 k hk
  exact ⟨r1, fun t => r2 (h.tu k t), fun e => r2 (e ▸ h.ub), fun e => r2 (e ▸ h.ux), Nat.le_of_not_lt fun q => r2 (h.md.arg k q)⟩
theorem Cp.read (h : Cp W g bt nx fs U T rs a c x ax cx wr) (hs : Sm fs) {Se : Nat → Prop} (hd : Dq wr ge Se 5000 fs) (hF : Free W bt nx U T Se) (n : Nm) (hn : n.length ≤ maxLen) : Calls Try.prog 16 #[ptr g, .string ⟨n.toArray⟩] wr fun e w' => ∃ d cc, e = .returned (.tuple #[.slice d (readL fs n).1.length cc, .int .i64 ((readL fs n).2 : Nat)]) ∧ Lq W g bt nx fs T rs a c x ax cx wr.heap.size d (readL fs n).1.length cc ge w' := by
  obtain ⟨S, h1, h2⟩ := h.md.dq
  refine (read_any n h1 hs hn).mono ?_
  rintro e w1 ⟨v, rfl, hO, hb⟩
  obtain ⟨d, cc, rfl, hB, hc⟩ := hO.shape
  refine ⟨d, cc, rfl, _, Se, h.wide hb, ⟨_, hO⟩, fun k hk => ?_, hd.below hb, hF.more, fun k hk q => ?_⟩
  · obtain ⟨r1, r2⟩ := World.ownsRow.lt hO k hk
    exact h.new_free k r1 r2
  · obtain ⟨r1, r2⟩ := World.ownsRow.lt hO k q
    have := hd.lt k hk
    omega
theorem Cp.crashes (h : Cp W g bt nx fs U T rs a c x ax cx wr) (hs : Sm fs) {Se : Nat → Prop} (hd : Dq wr ge Se 5000 fs) (hF : Free W bt nx U T Se) : Calls Try.prog 23 #[ptr ge, .slice none 0 0] wr fun e w' => e = .returned (.tuple #[]) ∧ ∃ Se' U', Dq w' ge Se' 5000 (crashL fs []) ∧ Cp W g bt nx fs U' T rs a c x ax cx w' ∧ Free W bt nx U' T Se' := by
  refine (crash_any (T := fun _ => False) [] none 0 hd hs (.inl rfl) (fun _ q => q.elim) (fun _ q => q.elim) (by simp) (by simp)).mono ?_
  rintro e w' ⟨rfl, q⟩
  obtain ⟨Se', r1, r2, r3⟩ := h.other hF q
  exact ⟨rfl, Se', _, r1, r2, r3⟩
def tops (n : Nm) : List Ope := [⟨1, [122, 122], [], [1]⟩, ⟨4, n, [], []⟩]
abbrev tw (n : Nm) (w1 : World) : World := (w1.alloc (.cells #[.int .u8 1] 5)).alloc (.cells #[.int .i64 1, .string ⟨#[122, 122]⟩, .string ⟨#[]⟩, .slice (some ⟨w1.heap.size, 0, none⟩) 1 1, .int .i64 4, .string ⟨n.toArray⟩, .string ⟨#[]⟩, .slice none 0 0] 36)
theorem two_ops (n : Nm) (w1 : World) : Below w1.heap.size w1 (tw n w1) ∧ (tw n w1).heap.size = w1.heap.size + 2 ∧ Ops (tw n w1) (fun k => w1.heap.size ≤ k ∧ k < (tw n w1).heap.size) (some ⟨w1.heap.size + 1, 0, none⟩) (tops n) := by
  have hs : (tw n w1).heap.size = w1.heap.size + 2 := by simp [tw]
  have r1 := (Row.fresh w1 5 #[.int .u8 1]).past (.cells #[.int .i64 1, .string ⟨#[122, 122]⟩, .string ⟨#[]⟩, .slice (some ⟨w1.heap.size, 0, none⟩) 1 1, .int .i64 4, .string ⟨n.toArray⟩, .string ⟨#[]⟩, .slice none 0 0] 36)
  have r3 := Row.fresh (w1.alloc (.cells #[.int .u8 1] 5)) 36 #[.int .i64 1, .string ⟨#[122, 122]⟩, .string ⟨#[]⟩, .slice (some ⟨w1.heap.size, 0, none⟩) 1 1, .int .i64 4, .string ⟨n.toArray⟩, .string ⟨#[]⟩, .slice none 0 0]
  rw [World.size_alloc] at r3
  have b1 : Bytes (tw n w1) (some ⟨w1.heap.size, 0, none⟩) [1] := Bytes.of_row r1 (fun i x hx => by rcases i with _ | i <;> simp at hx; subst hx; rfl)
  refine ⟨?_, hs, .inr ⟨w1.heap.size + 1, 0, rfl, by omega, fun i x hx => ?_⟩⟩
  · exact ((Below.refl _ _).alloc (Nat.le_refl _) _).alloc (by simp) _
  · rcases i with _ | _ | i
    · simp [tops] at hx
      subst hx
      exact ⟨_, 1, r3.cell 0, r3.cell 1, r3.cell 2, r3.cell 3, b1, fun _ k hk => by cases hk; simp only; omega⟩
    · simp [tops] at hx
      subst hx
      exact ⟨_, 0, r3.cell 4, r3.cell 5, r3.cell 6, r3.cell 7, .inl rfl, fun _ k hk => by cases hk⟩
    · simp [tops] at hx
theorem Cp.runs (h : Cp W g bt nx fs U T rs a c x ax cx wr) {fe : List Fil} {Se : Nat → Prop} (hd : Dq wr ge Se 5000 fe) (hF : Free W bt nx U T Se) (hs : sizeL fe + looseL fe + fe.length ≤ 100000) (n : Nm) : Calls Try.prog 21 #[ptr ge, .slice (some ⟨wr.heap.size + 1, 0, none⟩) 2 2] (tw n wr) fun e w' => ∃ z : Int, e = .returned (.int .i64 z) ∧ ∃ U', Cp W g bt nx fs U' T rs a c x ax cx w' := by
  obtain ⟨q1, q2, q3⟩ := two_ops n wr
  refine (run_any (tops n) _ 2 (hd.below q1) (by omega) (by omega) q3 (fun k hk e => by have := hd.lt k e; omega) (fun k hk => hk.2) (by simp only [tops, cost_cons, List.length_cons, List.length_nil]; have : cost [] = 0 := rfl; omega)).mono ?_
  rintro e w' ⟨rfl, q⟩
  obtain ⟨Se', r1, r2, r3⟩ := (h.wide q1).other hF.more q
  exact ⟨_, rfl, _, r2⟩
theorem Cp.same (h : Cp W g bt nx fs U T rs a c x ax cx wr) (hm : rs.map Rf.fil = fs) (hs : sizeL fs + looseL fs + fs.length ≤ 100000) (hn : Named fs) : Calls Try.prog 18 #[ptr g, dV 5000 a rs.length c] wr fun e w' => e = .returned (.bool true) ∧ Below W.heap.size W w' := by
  obtain ⟨S, q1, q2⟩ := h.md.dq
  refine (lsame_any c q1 h.gs (fun k t => h.md.lt k (h.tu k t)) hm hs (fun f hf => by have := hn f hf; omega)).mono ?_
  rintro e w' ⟨rfl, hb⟩
  exact ⟨rfl, h.md.back.trans (hb.mono h.md.back.size)⟩
theorem Cp.start {w5 w7 w8 : World} {U3 T7 : Nat → Prop} {cs : Array Value} (hcs : cs.size = 2) (hm : Md W g 5000 fs U3 w5) (hx : U3 nx) (hn : nx = W.heap.size) (hro : Row w5 nx 36 #[.int .i64 x.kind, .string ⟨x.name.toArray⟩, .string ⟨x.to.toArray⟩, .slice ax x.data.length cx]) (h57 : Below w5.heap.size w5 w7) (hT7 : ∀ k, T7 k → k < nx ∨ (w5.heap.size ≤ k ∧ k < bt)) (hbt : w5.heap.size ≤ bt) (hs7 : bt < w7.heap.size) (h78 : Below w7.heap.size w7 w8) (hrow : Row w7 bt 27 cs) (hf : Fs3 w8 (moreT T7 w7.heap.size w8.heap.size) a rs) :
    Cp W g bt nx fs (moreT U3 w5.heap.size w8.heap.size) (moreT T7 w7.heap.size w8.heap.size) rs a c x ax cx ((w8.setCell ⟨bt, 0, none⟩ (.int .i64 5000)).setCell ⟨bt, 1, none⟩ (.slice a rs.length c)) := by
  have hlt5 := hm.lt nx hx
  have h58 : Below w5.heap.size w5 w8 := h57.trans (h78.mono h57.size)
  have hs8 := h78.size
  have hbk := hm.back.size
  have hsz : ((w8.setCell ⟨bt, 0, none⟩ (.int .i64 5000)).setCell ⟨bt, 1, none⟩ (.slice a rs.length c)).heap.size = w8.heap.size := by simp [World.setCell]
  have hon : Only (fun k => k = bt) w8 ((w8.setCell ⟨bt, 0, none⟩ (.int .i64 5000)).setCell ⟨bt, 1, none⟩ (.slice a rs.length c)) := ((Only.refl (fun k => k = bt) w8).setCell (p := ⟨bt, 0, none⟩) (.inl rfl) _).setCell (p := ⟨bt, 1, none⟩) (.inl rfl) _
  have hnb : ¬ moreT T7 w7.heap.size w8.heap.size bt := fun q => q.elim (fun q => by have := hT7 _ q; omega) (fun q => by omega)
  have hnt : ¬ moreT T7 w7.heap.size w8.heap.size nx := fun q => q.elim (fun q => by have := hT7 _ q; omega) (fun q => by omega)
  have hub : moreT U3 w5.heap.size w8.heap.size bt := .inr ⟨hbt, by omega⟩
  have hrow8 : Row w8 bt 27 cs := hrow.under h78 hs7
  have h9 := (hrow8.put 0 (.int .i64 5000)).put 1 (.slice a rs.length c)
  have hcs' : (cs.setIfInBounds 0 (.int .i64 5000)).setIfInBounds 1 (.slice a rs.length c) = #[.int .i64 5000, .slice a rs.length c] := by
    obtain ⟨l⟩ := cs
    match l, hcs with
    | [p, q], _ => rfl
  rw [hcs'] at h9
  refine ⟨(hm.wide h58).set hub (by omega) hon, fun k q => ?_, hub, hnb, .inl hx, hnt, h9, (hro.under h58 hlt5).only hon (by omega), hf.kept ⟨fun k q => hon.block k ?_ (fun e => hnb (e ▸ q)), by rw [hsz]; exact Nat.le_refl _⟩⟩
  · rcases q with q | q
    · rcases hT7 k q with q | q
      · exact .inl (hm.arg k (by omega))
      · exact .inr ⟨q.1, by omega⟩
    · exact .inr ⟨by have := h57.size; omega, q.2⟩
  · rcases q with q | q
    · have := hT7 k q; omega
    · exact q.2
end
end Go.Proofs.Ythheolhghhmdlaa
