/- DiskCopies: the steps of the law. -/
import Derived.Test.YthheolhghhmdlaaDiskLawJ
import Derived.Test.YthheolhghhmdlaaDiskR
namespace Go.Proofs.Ythheolhghhmdlaa
open Go.RowKit Dsk

/-- The block of a row. -/
def Own (d : Option Addr) (m cc : Nat) : Nat → Prop := fun k => (Value.slice d m cc).ownBlock = some k
/-- While the law writes into a row of its own. -/
def Lp (W : World) (g bt nx : Nat) (fs : List Fil) (T : Nat → Prop) (rs : List Rf) (a : Option Addr) (c : Nat) (x : Ope) (ax : Option Addr) (cx K : Nat) (d : Option Addr) (m cc : Nat) (wr : World) : Prop :=
  ∃ U, Cp W g bt nx fs U T rs a c x ax cx wr ∧ Byr wr K d m cc ∧ Free W bt nx U T (Own d m cc)
/-- The same, and there is a copy. -/
def Lq (W : World) (g bt nx : Nat) (fs : List Fil) (T : Nat → Prop) (rs : List Rf) (a : Option Addr) (c : Nat) (x : Ope) (ax : Option Addr) (cx K : Nat) (d : Option Addr) (m cc ge : Nat) (wr : World) : Prop :=
  ∃ U Se, Cp W g bt nx fs U T rs a c x ax cx wr ∧ Byr wr K d m cc ∧ Free W bt nx U T (Own d m cc) ∧ Dq wr ge Se 5000 fs ∧ Free W bt nx U T Se ∧ ∀ k, Se k → ¬ Own d m cc k
section
variable {W wr wy : World} {g bt nx : Nat} {fs : List Fil} {U T : Nat → Prop} {rs : List Rf} {a : Option Addr} {c : Nat} {x : Ope} {ax : Option Addr} {cx K : Nat} {d : Option Addr} {m cc ge : Nat}
theorem Lp.set (h : Lp W g bt nx fs T rs a c x ax cx K d m cc wr) {j : Nat} (hj : j < m) : ∃ b v, d = some ⟨b, 0, none⟩ ∧ b < wr.heap.size ∧ wr.cell? ⟨b, j, none⟩ = some v ∧ wr.frozen? ⟨b, j, none⟩ = false ∧ ∀ u, Lp W g bt nx fs T rs a c x ax cx K d m cc (wr.setCell ⟨b, j, none⟩ u) := by
  obtain ⟨U, h1, h2, h3⟩ := h
  obtain ⟨b, v, e, _, q2, q3, q4, q5⟩ := h2.at_ hj
  subst e
  exact ⟨b, v, rfl, q2, q3, q4, fun u => ⟨_, h1.only h3 ((Only.refl (Own (some ⟨b, 0, none⟩) m cc) wr).setCell (p := ⟨b, j, none⟩) (.inl rfl) u), q5 u, h3.more⟩⟩
theorem Lq.set (h : Lq W g bt nx fs T rs a c x ax cx K d m cc ge wr) {j : Nat} (hj : j < m) : ∃ b v, d = some ⟨b, 0, none⟩ ∧ b < wr.heap.size ∧ wr.cell? ⟨b, j, none⟩ = some v ∧ wr.frozen? ⟨b, j, none⟩ = false ∧ ∀ u, Lq W g bt nx fs T rs a c x ax cx K d m cc ge (wr.setCell ⟨b, j, none⟩ u) := by
  obtain ⟨U, Se, h1, h2, h3, h4, h5, h6⟩ := h
  obtain ⟨b, v, e, _, q2, q3, q4, q5⟩ := h2.at_ hj
  subst e
  refine ⟨b, v, rfl, q2, q3, q4, fun u => ?_⟩
  have ho : Only (Own (some ⟨b, 0, none⟩) m cc) wr (wr.setCell ⟨b, j, none⟩ u) := (Only.refl (Own (some ⟨b, 0, none⟩) m cc) wr).setCell (p := ⟨b, j, none⟩) (.inl rfl) u
  exact ⟨_, Se, h1.only h3 ho, q5 u, h3.more, h4.only ho h6, h5.more, h6⟩
theorem Cp.copy (h : Cp W g bt nx fs U T rs a c x ax cx wr) (hs : Sm fs) : Calls Try.prog 22 #[ptr g] wr fun e w' => ∃ ge Se U', e = .returned (ptr ge) ∧ Cp W g bt nx fs U' T rs a c x ax cx w' ∧ Dq w' ge Se 5000 fs ∧ Free W bt nx U' T Se := by
  refine (h.md.copy hs).mono ?_
  rintro e w' ⟨T', ge, Se, rfl, ⟨q1, q2, q3⟩, q4, q5⟩
  refine ⟨ge, Se, T', rfl, h.hands q1 q2 q3, q4, fun k hk => ?_⟩
  obtain ⟨r1, r2⟩ := q5 k hk
  exact ⟨r1, fun t => r2 (h.tu k t), fun e => r2 (e ▸ h.ub), fun e => r2 (e ▸ h.ux), Nat.le_of_not_lt fun q => r2 (h.md.arg k q)⟩
theorem Cp.read (h : Cp W g bt nx fs U T rs a c x ax cx wr) (hs : Sm fs) {Se : Nat → Prop} (hd : Dq wr ge Se 5000 fs) (hF : Free W bt nx U T Se) (n : Nm) (hn : n.length ≤ maxLen) : Calls Try.prog 16 #[ptr g, .string ⟨n.toArray⟩] wr fun e w' => ∃ d cc, e = .returned (.tuple #[.slice d (readL fs n).1.length cc, .int .i64 ((readL fs n).2 : Nat)]) ∧ Lq W g bt nx fs T rs a c x ax cx wr.heap.size d (readL fs n).1.length cc ge w' := by
  obtain ⟨S, h1, h2⟩ := h.md.dq
  refine (read_any n h1 hs hn).mono ?_
  rintro e w1 ⟨v, rfl, hO, hb⟩
  obtain ⟨d, cc, rfl, hB, hc⟩ := hO.shape
  refine ⟨d, cc, rfl, _, Se, h.wide hb, ⟨_, hO⟩, fun k hk => ?_, hd.below hb, hF.more, fun k hk q => ?_⟩
  · obtain ⟨r1, r2⟩ := World.ownsRow.lt hO k hk
    exact h.new_free k r1 r2
  · obtain ⟨r1, r2⟩ := World.ownsRow.lt hO k q
    have := hd.lt k hk
    omega
theorem Cp.crashes (h : Cp W g bt nx fs U T rs a c x ax cx wr) (hs : Sm fs) {Se : Nat → Prop} (hd : Dq wr ge Se 5000 fs) (hF : Free W bt nx U T Se) : Calls Try.prog 23 #[ptr ge, .slice none 0 0] wr fun e w' => e = .returned (.tuple #[]) ∧ ∃ Se' U', Dq w' ge Se' 5000 (crashL fs []) ∧ Cp W g bt nx fs U' T rs a c x ax cx w' ∧ Free W bt nx U' T Se' := by
  refine (crash_any (T := fun _ => False) [] none 0 hd hs (.inl rfl) (fun _ q => q.elim) (fun _ q => q.elim) (by simp) (by simp)).mono ?_
  rintro e w' ⟨rfl, q⟩
  obtain ⟨Se', r1, r2, r3⟩ := h.other hF q
  exact ⟨rfl, Se', _, r1, r2, r3⟩
def tops (n : Nm) : List Ope := [⟨1, [122, 122], [], [1]⟩, ⟨4, n, [], []⟩]
abbrev tw (n : Nm) (w1 : World) : World := (w1.alloc (.cells #[.int .u8 1] 5)).alloc (.cells #[.int .i64 1, .string ⟨#[122, 122]⟩, .string ⟨#[]⟩, .slice (some ⟨w1.heap.size, 0, none⟩) 1 1, .int .i64 4, .string ⟨n.toArray⟩, .string ⟨#[]⟩, .slice none 0 0] 36)
theorem two_ops (n : Nm) (w1 : World) : Below w1.heap.size w1 (tw n w1) ∧ (tw n w1).heap.size = w1.heap.size + 2 ∧ Ops (tw n w1) (fun k => w1.heap.size ≤ k ∧ k < (tw n w1).heap.size) (some ⟨w1.heap.size + 1, 0, none⟩) (tops n) := by
  have hs : (tw n w1).heap.size = w1.heap.size + 2 := by simp [tw]
  have r1 := (Row.fresh w1 5 #[.int .u8 1]).past (.cells #[.int .i64 1, .string ⟨#[122, 122]⟩, .string ⟨#[]⟩, .slice (some ⟨w1.heap.size, 0, none⟩) 1 1, .int .i64 4, .string ⟨n.toArray⟩, .string ⟨#[]⟩, .slice none 0 0] 36)
  have r3 := Row.fresh (w1.alloc (.cells #[.int .u8 1] 5)) 36 #[.int .i64 1, .string ⟨#[122, 122]⟩, .string ⟨#[]⟩, .slice (some ⟨w1.heap.size, 0, none⟩) 1 1, .int .i64 4, .string ⟨n.toArray⟩, .string ⟨#[]⟩, .slice none 0 0]
  rw [World.size_alloc] at r3
  have b1 : Bytes (tw n w1) (some ⟨w1.heap.size, 0, none⟩) [1] := Bytes.of_row r1 (fun i x hx => by rcases i with _ | i <;> simp at hx; subst hx; rfl)
  refine ⟨?_, hs, .inr ⟨w1.heap.size + 1, 0, rfl, by omega, fun i x hx => ?_⟩⟩
  · exact ((Below.refl _ _).alloc (Nat.le_refl _) _).alloc (by simp) _
  · rcases i with _ | _ | i
    · simp [tops] at hx
      subst hx
      exact ⟨_, 1, r3.cell 0, r3.cell 1, r3.cell 2, r3.cell 3, b1, fun _ k hk => by cases hk; simp only; omega⟩
    · simp [tops] at hx
      subst hx
      exact ⟨_, 0, r3.cell 4, r3.cell 5, r3.cell 6, r3.cell 7, .inl rfl, fun _ k hk => by cases hk⟩
    · simp [tops] at hx
theorem Cp.runs (h : Cp W g bt nx fs U T rs a c x ax cx wr) {fe : List Fil} {Se : Nat → Prop} (hd : Dq wr ge Se 5000 fe) (hF : Free W bt nx U T Se) (hs : sizeL fe + looseL fe + fe.length ≤ 100000) (n : Nm) : Calls Try.prog 21 #[ptr ge, .slice (some ⟨wr.heap.size + 1, 0, none⟩) 2 2] (tw n wr) fun e w' => ∃ z : Int, e = .returned (.int .i64 z) ∧ ∃ U', Cp W g bt nx fs U' T rs a c x ax cx w' := by
  obtain ⟨q1, q2, q3⟩ := two_ops n wr
  refine (run_any (tops n) _ 2 (hd.below q1) (by omega) (by omega) q3 (fun k hk e => by have := hd.lt k e; omega) (fun k hk => hk.2) (by simp only [tops, cost_cons, List.length_cons, List.length_nil]; have : cost [] = 0 := rfl; omega)).mono ?_
  rintro e w' ⟨rfl, q⟩
  obtain ⟨Se', r1, r2, r3⟩ := (h.wide q1).other hF.more q
  exact ⟨_, rfl, _, r2⟩
theorem Cp.same (h : Cp W g bt nx fs U T rs a c x ax cx wr) (hm : rs.map Rf.fil = fs) (hs : sizeL fs + looseL fs + fs.length ≤ 100000) (hn : Named fs) : Calls Try.prog 18 #[ptr g, dV 5000 a rs.length c] wr fun e w' => e = .returned (.bool true) ∧ Below W.heap.size W w' := by
  obtain ⟨S, q1, q2⟩ := h.md.dq
  refine (lsame_any c q1 h.gs (fun k t => h.md.lt k (h.tu k t)) hm hs (fun f hf => by have := hn f hf; omega)).mono ?_
  rintro e w' ⟨rfl, hb⟩
  exact ⟨rfl, h.md.back.trans (hb.mono h.md.back.size)⟩
theorem Cp.start {w5 w7 w8 : World} {U3 T7 : Nat → Prop} {cs : Array Value} (hcs : cs.size = 2) (hm : Md W g 5000 fs U3 w5) (hx : U3 nx) (hn : nx = W.heap.size) (hro : Row w5 nx 36 #[.int .i64 x.kind, .string ⟨x.name.toArray⟩, .string ⟨x.to.toArray⟩, .slice ax x.data.length cx]) (h57 : Below w5.heap.size w5 w7) (hT7 : ∀ k, T7 k → k < nx ∨ (w5.heap.size ≤ k ∧ k < bt)) (hbt : w5.heap.size ≤ bt) (hs7 : bt < w7.heap.size) (h78 : Below w7.heap.size w7 w8) (hrow : Row w7 bt 27 cs) (hf : Fs3 w8 (moreT T7 w7.heap.size w8.heap.size) a rs) :
    Cp W g bt nx fs (moreT U3 w5.heap.size w8.heap.size) (moreT T7 w7.heap.size w8.heap.size) rs a c x ax cx ((w8.setCell ⟨bt, 0, none⟩ (.int .i64 5000)).setCell ⟨bt, 1, none⟩ (.slice a rs.length c)) := by
  have hlt5 := hm.lt nx hx
  have h58 : Below w5.heap.size w5 w8 := h57.trans (h78.mono h57.size)
  have hs8 := h78.size
  have hbk := hm.back.size
  have hsz : ((w8.setCell ⟨bt, 0, none⟩ (.int .i64 5000)).setCell ⟨bt, 1, none⟩ (.slice a rs.length c)).heap.size = w8.heap.size := by simp [World.setCell]
  have hon : Only (fun k => k = bt) w8 ((w8.setCell ⟨bt, 0, none⟩ (.int .i64 5000)).setCell ⟨bt, 1, none⟩ (.slice a rs.length c)) := ((Only.refl (fun k => k = bt) w8).setCell (p := ⟨bt, 0, none⟩) (.inl rfl) _).setCell (p := ⟨bt, 1, none⟩) (.inl rfl) _
  have hnb : ¬ moreT T7 w7.heap.size w8.heap.size bt := fun q => q.elim (fun q => by have := hT7 _ q; omega) (fun q => by omega)
  have hnt : ¬ moreT T7 w7.heap.size w8.heap.size nx := fun q => q.elim (fun q => by have := hT7 _ q; omega) (fun q => by omega)
  have hub : moreT U3 w5.heap.size w8.heap.size bt := .inr ⟨hbt, by omega⟩
  have hrow8 : Row w8 bt 27 cs := hrow.under h78 hs7
  have h9 := (hrow8.put 0 (.int .i64 5000)).put 1 (.slice a rs.length c)
  have hcs' : (cs.setIfInBounds 0 (.int .i64 5000)).setIfInBounds 1 (.slice a rs.length c) = #[.int .i64 5000, .slice a rs.length c] := by
    obtain ⟨l⟩ := cs
    match l, hcs with
    | [p, q], _ => rfl
  rw [hcs'] at h9
  refine ⟨(hm.wide h58).set hub (by omega) hon, fun k q => ?_, hub, hnb, .inl hx, hnt, h9, (hro.under h58 hlt5).only hon (by omega), hf.kept ⟨fun k q => hon.block k ?_ (fun e => hnb (e ▸ q)), by rw [hsz]; exact Nat.le_refl _⟩⟩
  · rcases q with q | q
    · rcases hT7 k q with q | q
      · exact .inl (hm.arg k (by omega))
      · exact .inr ⟨q.1, by omega⟩
    · exact .inr ⟨by have := h57.size; omega, q.2⟩
  · rcases q with q | q
    · have := hT7 k q; omega
    · exact q.2
end
end Go.Proofs.Ythheolhghhmdlaa
