/- A disk in memory; what turns when a file of it turns, is laid, or is taken out. -/
import Derived.Test.YthheolhghhmdlaaDiskE
namespace Go.Proofs.Ythheolhghhmdlaa
open Go.RowKit Dsk
open Go.Maps (Keyed)

/-- The disk in block g, of the blocks S: its map's value, its files. -/
structure Dk (w : World) (g : Nat) (S : Nat → Prop) (room : Int) (L : List Ent) (mv : Value) (o : Nat → Nat) (used : Nat) : Prop where
  row : Row w g 64 #[.int .i64 room, .int .i64 used, mv]
  map : MapV w mv L
  fl : ∀ e ∈ L, Fl w o e.blk e.fv e.wv e.vs e.firm e.ws
  inj : ∀ a ∈ L, ∀ b ∈ L, a.blk = b.blk → a = b
  rise : Rising Ent.name L
  nm : ∀ e ∈ L, e.name.length ≤ 60
  og : o g = g
  om : ∀ mb, mv = .map (some mb) → o mb = g
  oe : ∀ e ∈ L, e.blk ≠ g
  sg : S g
  sm : ∀ mb, mv = .map (some mb) → S mb
  sf : ∀ e ∈ L, ∀ k, k < w.heap.size → o k = e.blk → S k
  sl : ∀ k, S k → k < w.heap.size
  ob : ∀ k, k < w.heap.size → o k < w.heap.size
/-- Few enough. -/
def Sm (fs : List Fil) : Prop := sizeL fs + looseL fs + fs.length ≤ 1000000000
/-- Behind something done: these files; only own blocks turned. -/
def Dd (w : World) (g : Nat) (S : Nat → Prop) (room : Int) (fs : List Fil) (w' : World) : Prop := ∃ S' L mv o, Dk w' g S' room L mv o (sizeL fs) ∧ L.map Ent.fil = fs ∧ (∀ k, S' k → S k ∨ w.heap.size ≤ k) ∧ Only S w w'

section
variable {w w' : World} {g : Nat} {S : Nat → Prop} {room : Int} {L : List Ent} {mv : Value} {o : Nat → Nat} {used : Nat}
theorem Dk.lt (h : Dk w g S room L mv o used) : g < w.heap.size := h.row.lt
theorem relab_lt {o : Nat → Nat} {n m y k : Nat} (h : ∀ k, k < n → o k < n) (hy : y < m) (hnm : n ≤ m) : relab o n y k < m := by
  unfold relab
  split
  · have := h k (by assumption); omega
  · exact hy
theorem Dk.map_ne (h : Dk w g S room L mv o used) {mb : Nat} (e : mv = .map (some mb)) : g ≠ mb := by
  rintro rfl
  rcases h.map with ⟨h1, _⟩ | ⟨m, h1, es, clock, h2, _⟩
  · rw [h1] at e; cases e
  · rw [h1] at e
    cases e
    rw [show w.heap[g]? = _ from h.row] at h2
    cases h2
theorem Fl.drew {fb : Nat} {fv wv : Value} {vs : List Value} {firm : By} {ws : List By} (h : Fl w o fb fv wv vs firm ws) : Fl w.drew o fb fv wv vs firm ws := ⟨h.row, h.firm, h.wr, h.vals, h.own, h.ownf, h.ownw, h.ownv⟩
theorem Dk.drew (h : Dk w g S room L mv o used) : Dk w.drew g S room L mv o used := ⟨h.row, h.map, fun e he => (h.fl e he).drew, h.inj, h.rise, h.nm, h.og, h.om, h.oe, h.sg, h.sm, h.sf, h.sl, h.ob⟩
/-- Other blocks turned. -/
theorem Dk.only (h : Dk w g S room L mv o used) {S' : Nat → Prop} (ho : Only S' w w') (hd : ∀ k, S k → ¬ S' k) : Dk w' g S room L mv (relab o w.heap.size g) used :=
  ⟨h.row.only ho (hd g h.sg), h.map.same fun mb e => ho.block mb (h.map.lt e) (hd mb (h.sm mb e)), fun e he => (h.fl e he).same (fun k hk q => ho.block k hk (hd k (h.sf e he k hk q))) (fun _ hk q => (relab_old hk).trans q) ho.size,
    h.inj, h.rise, h.nm, (relab_old h.lt).trans h.og, fun mb e => (relab_old (h.map.lt e)).trans (h.om mb e), h.oe, h.sg, h.sm, fun e he k _ q => by
      rcases Nat.lt_or_ge k w.heap.size with hk | hk
      · rw [relab_old hk] at q
        exact h.sf e he k hk q
      · rw [relab_new hk] at q
        exact absurd q.symm (h.oe e he), fun k hk => Nat.lt_of_lt_of_le (h.sl k hk) ho.size, fun k _ => relab_lt h.ob (Nat.lt_of_lt_of_le h.lt ho.size) ho.size⟩
/-- .. and what is new is somebody's. -/
theorem Dk.onlyTo (h : Dk w g S room L mv o used) {S' : Nat → Prop} (ho : Only S' w w') (hd : ∀ k, S k → ¬ S' k) (y : Nat) (hy : ∀ e ∈ L, e.blk ≠ y) (hyl : y < w'.heap.size) : Dk w' g S room L mv (relab o w.heap.size y) used :=
  ⟨h.row.only ho (hd g h.sg), h.map.same fun mb e => ho.block mb (h.map.lt e) (hd mb (h.sm mb e)), fun e he => (h.fl e he).same (fun k hk q => ho.block k hk (hd k (h.sf e he k hk q))) (fun _ hk q => (relab_old hk).trans q) ho.size,
    h.inj, h.rise, h.nm, (relab_old h.lt).trans h.og, fun mb e => (relab_old (h.map.lt e)).trans (h.om mb e), h.oe, h.sg, h.sm, fun e he k _ q => by
      rcases Nat.lt_or_ge k w.heap.size with hk | hk
      · rw [relab_old hk] at q
        exact h.sf e he k hk q
      · rw [relab_new hk] at q
        exact absurd q.symm (hy e he), fun k hk => Nat.lt_of_lt_of_le (h.sl k hk) ho.size, fun k _ => relab_lt h.ob hyl ho.size⟩
theorem Dk.below (h : Dk w g S room L mv o used) (hb : Below w.heap.size w w') : Dk w' g S room L mv (relab o w.heap.size g) used := h.only (Only.of_below (fun _ => False) hb) (fun _ _ f => f)
/-- The number of bytes is another one. -/
theorem Dk.count (h : Dk w g S room L mv o used) (n : Nat) : Dk (w.setCell ⟨g, 1, none⟩ (.int .i64 n)) g S room L mv o n := by
  have hs : (w.setCell ⟨g, 1, none⟩ (.int .i64 n)).heap.size = w.heap.size := by simp [World.setCell]
  have hb : ∀ k, k ≠ g → (w.setCell ⟨g, 1, none⟩ (.int .i64 n)).heap[k]? = w.heap[k]? := fun k hk => Below.heap_setCell _ _ _ _ hk
  exact ⟨h.row.put 1 _, h.map.same fun mb e => hb mb (fun q => h.map_ne e q.symm), fun e he => (h.fl e he).same (fun k _ q => hb k fun q' => by rw [q', h.og] at q; exact h.oe e he q.symm) (fun _ _ q => q) (by rw [hs]; exact Nat.le_refl _),
    h.inj, h.rise, h.nm, h.og, h.om, h.oe, h.sg, h.sm, fun e he k hk q => h.sf e he k (by rw [← hs]; exact hk) q, fun k hk => by rw [hs]; exact h.sl k hk, fun k hk => by rw [hs]; exact h.ob k (by rw [← hs]; exact hk)⟩
/-- What a file owns more. -/
def more (S : Nat → Prop) (n m : Nat) : Nat → Prop := fun k => S k ∨ (n ≤ k ∧ k < m)
/-- A file of it turned. -/
theorem Dk.file (h : Dk w g S room L mv o used) {e x : Ent} (he : e ∈ L) (hx : Fl w' (relab o w.heap.size e.blk) x.blk x.fv x.wv x.vs x.firm x.ws) (hn : x.name = e.name) (hb : x.blk = e.blk) (ho : Only (fun k => o k = e.blk) w w') :
    Dk w' g (more S w.heap.size w'.heap.size) room (put Ent.name x L) mv (relab o w.heap.size e.blk) used := by
  have hg : get Ent.name x.name L = some e := by rw [hn]; exact get_of_mem h.rise he
  have hsz := ho.size
  have hsw := put_swap h.rise hg
  have hmem : ∀ y, y ∈ put Ent.name x L → y = x ∨ (y ∈ L ∧ y.blk ≠ e.blk ∧ y.name ≠ x.name) := by
    intro y hy
    rcases mem_put.1 hy with rfl | ⟨h1, h2⟩
    · exact .inl rfl
    · exact .inr ⟨h1, fun q => h2 (by rw [h.inj y h1 e he q, hn]), h2⟩
  have hE' : (put Ent.name x L).map Ent.E = L.map Ent.E := by
    rw [hsw, swap, List.map_map]
    apply List.map_congr_left
    intro y hy
    simp only [Function.comp]
    split
    · rename_i q
      have q' : y.name = x.name := by simpa using q
      have : y = e := h.rise.inj hy he (by rw [q', hn])
      subst this
      unfold Ent.E
      rw [hn, hb]
    · rfl
  refine ⟨h.row.only ho (fun q => h.oe e he (q.symm.trans h.og)), ?_, ?_, ?_, h.rise.put, ?_, (relab_old h.lt).trans h.og, fun mb q => (relab_old (h.map.lt q)).trans (h.om mb q), ?_, .inl h.sg, fun mb q => .inl (h.sm mb q), ?_, ?_, fun k _ => relab_lt h.ob (by have := (h.fl e he).lt; omega) hsz⟩
  · have hm := h.map.same (w' := w') fun mb q => ho.block mb (h.map.lt q) (fun q' => h.oe e he (q'.symm.trans (h.om mb q)))
    rcases hm with ⟨_, h2⟩ | ⟨mb, h1, h2⟩
    · rw [h2] at he; cases he
    · refine .inr ⟨mb, h1, ?_⟩
      rw [hE', hsw, swap, List.length_map]
      exact h2
  · intro y hy
    rcases hmem y hy with rfl | ⟨h1, h2, _⟩
    · exact hx
    · exact (h.fl y h1).same (fun k hk q => ho.block k hk fun q' => h2 (q.symm.trans q')) (fun k hk q => (relab_old hk).trans q) hsz
  · intro a ha b hb' q
    rcases hmem a ha with rfl | ⟨a1, a2, _⟩ <;> rcases hmem b hb' with rfl | ⟨b1, b2, _⟩
    · rfl
    · exact absurd (q.symm.trans hb) b2
    · exact absurd (q.trans hb) a2
    · exact h.inj a a1 b b1 q
  · intro y hy
    rcases hmem y hy with rfl | ⟨h1, _⟩
    · rw [hn]; exact h.nm e he
    · exact h.nm y h1
  · intro y hy
    rcases hmem y hy with rfl | ⟨h1, _⟩
    · rw [hb]; exact h.oe e he
    · exact h.oe y h1
  · intro y hy k hk q
    rcases Nat.lt_or_ge k w.heap.size with hk' | hk'
    · rw [relab_old hk'] at q
      rcases hmem y hy with rfl | ⟨h1, _⟩
      · exact .inl (h.sf e he k hk' (q.trans hb))
      · exact .inl (h.sf y h1 k hk' q)
    · exact .inr ⟨hk', hk⟩
  · intro k hk
    rcases hk with hk | hk
    · have := h.sl k hk; omega
    · exact hk.2
theorem Dk.narrow {n m : Nat} (h : Dk w g (more S n m) room L mv o used) (hn : m ≤ n) : Dk w g S room L mv o used := by
  have q : ∀ k, more S n m k → S k := fun k hk => hk.elim id (fun q => by omega)
  exact ⟨h.row, h.map, h.fl, h.inj, h.rise, h.nm, h.og, h.om, h.oe, q g h.sg, fun mb e => q mb (h.sm mb e), fun e he k hk r => q k (h.sf e he k hk r), fun k hk => h.sl k (.inl hk), h.ob⟩
theorem more_new {n m k : Nat} (h : more S n m k) : S k ∨ n ≤ k := h.imp id (·.1)
/-- The files of S, and a file of its own blocks that is not in it yet. -/
structure Beside (w : World) (L : List Ent) (o : Nat → Nat) (g : Nat) (x : Ent) : Prop where
  fl : Fl w o x.blk x.fv x.wv x.vs x.firm x.ws
  ne : ∀ e ∈ L, e.blk = x.blk → e.name = x.name
  neg : x.blk ≠ g
  nm : x.name.length ≤ 60
/-- A file was laid in it. -/
theorem Dk.laid (h : Dk w g S room L mv o used) {x : Ent} (hx : Beside w L o g x) (hl : LaidP w g (.int .i64 room) (.int .i64 used) mv (put Ent.name x L) w') :
    ∃ mv', Dk w' g (fun k => k < w'.heap.size ∧ (S k ∨ (k < w.heap.size ∧ o k = x.blk) ∨ w.heap.size ≤ k)) room (put Ent.name x L) mv' (relab o w.heap.size g) used ∧ Only S w w' := by
  obtain ⟨mb, h1, h2, h3, h4⟩ := hl
  have hsz := h4.size
  have hkeep : ∀ k, k < w.heap.size → o k ≠ g → w'.heap[k]? = w.heap[k]? := fun k hk q => h4.block k hk fun q' => by
    rcases q' with rfl | q'
    · exact q h.og
    · exact q (h.om k q')
  refine ⟨.map (some mb), ⟨h1, .inr ⟨mb, rfl, h2⟩, ?_, ?_, h.rise.put, ?_, (relab_old h.lt).trans h.og, ?_, ?_, ⟨h1.lt, .inl h.sg⟩, ?_, ?_, fun k hk => hk.1, fun k _ => relab_lt h.ob h1.lt hsz⟩, h4.mono fun k hk => .inl ?_⟩
  · intro y hy
    rcases mem_put.1 hy with rfl | ⟨q1, q2⟩
    · exact hx.fl.same (fun k hk q => hkeep k hk (by rw [q]; exact hx.neg)) (fun k hk q => (relab_old hk).trans q) hsz
    · exact (h.fl y q1).same (fun k hk q => hkeep k hk (by rw [q]; exact h.oe y q1)) (fun k hk q => (relab_old hk).trans q) hsz
  · intro a ha b hb q
    rcases mem_put.1 ha with rfl | ⟨a1, a2⟩ <;> rcases mem_put.1 hb with rfl | ⟨b1, b2⟩
    · rfl
    · exact absurd (hx.ne b b1 q.symm) b2
    · exact absurd (hx.ne a a1 q) a2
    · exact h.inj a a1 b b1 q
  · intro y hy
    rcases mem_put.1 hy with rfl | ⟨q1, _⟩
    · exact hx.nm
    · exact h.nm y q1
  · intro mb' e
    cases e
    rcases h3 with e | e
    · exact (relab_old (h.map.lt e)).trans (h.om mb e)
    · exact relab_new e
  · intro y hy
    rcases mem_put.1 hy with rfl | ⟨q1, _⟩
    · exact hx.neg
    · exact h.oe y q1
  · intro mb' e
    cases e
    refine ⟨h2.lt, ?_⟩
    rcases h3 with e | e
    · exact .inl (h.sm mb e)
    · exact .inr (.inr e)
  · intro y hy k hk q
    refine ⟨hk, ?_⟩
    rcases Nat.lt_or_ge k w.heap.size with hk' | hk'
    · rw [relab_old hk'] at q
      rcases mem_put.1 hy with rfl | ⟨q1, _⟩
      · exact .inr (.inl ⟨hk', q⟩)
      · exact .inl (h.sf y q1 k hk' q)
    · exact .inr (.inr hk')
  · rcases hk with rfl | e
    · exact h.sg
    · exact h.sm k e
/-- A file was taken out. -/
theorem Dk.gone (h : Dk w g S room L mv o used) {n : Nm} {mb : Nat} (hm : mv = .map (some mb)) (ho : w'.ownsMap Try.prog 9 pE mb L.length ((DataW.map (L.map Ent.E)).del (.string n))) (ht : w.grownBy w' (some mb)) :
    Dk w' g (more S w.heap.size w'.heap.size) room (del Ent.name n L) mv (relab o w.heap.size g) used := by
  have hsz := ht.size
  have hkeep : ∀ k, k < w.heap.size → k ≠ mb → w'.heap[k]? = w.heap[k]? := fun k hk q => ht.block k hk (fun e => q (by injection e))
  have homb : ∀ e ∈ L, ∀ k, o k = e.blk → k ≠ mb := fun e he k q q' => by rw [q', h.om mb hm] at q; exact h.oe e he q.symm
  refine ⟨(hkeep g h.lt (h.map_ne hm)).trans h.row, .inr ⟨mb, hm, ?_⟩, fun e he => ?_, fun a ha b hb q => h.inj a (mem_del.1 ha).1 b (mem_del.1 hb).1 q, h.rise.del, fun e he => h.nm e (mem_del.1 he).1, (relab_old h.lt).trans h.og, fun m e => (relab_old (h.map.lt e)).trans (h.om m e), fun e he => h.oe e (mem_del.1 he).1, .inl h.sg, fun m e => .inl (h.sm m e), fun e he k hk q => ?_, fun k hk => ?_, fun k _ => relab_lt h.ob (Nat.lt_of_lt_of_le h.lt hsz) hsz⟩
  · rw [del_datum hE] at ho
    exact MapV.tight ho
  · have he' := (mem_del.1 he).1
    exact (h.fl e he').same (fun k hk q => hkeep k hk (homb e he' k q)) (fun k hk q => (relab_old hk).trans q) hsz
  · rcases Nat.lt_or_ge k w.heap.size with hk' | hk'
    · rw [relab_old hk'] at q
      exact .inl (h.sf e (mem_del.1 he).1 k hk' q)
    · exact .inr ⟨hk', hk⟩
  · rcases hk with hk | hk
    · have := h.sl k hk; omega
    · exact hk.2
end
theorem Dk.gone_fl {w w' : World} {g : Nat} {S : Nat → Prop} {room : Int} {L : List Ent} {mv : Value} {o : Nat → Nat} {used : Nat} (h : Dk w g S room L mv o used) {mb : Nat} (hm : mv = .map (some mb)) (ht : w.grownBy w' (some mb)) {e : Ent} (he : e ∈ L) : Fl w' (relab o w.heap.size g) e.blk e.fv e.wv e.vs e.firm e.ws :=
  (h.fl e he).same (fun k hk q => ht.block k hk (fun q' => by injection q' with q'; rw [q', h.om mb hm] at q; exact h.oe e he q.symm)) (fun k hk q => (relab_old hk).trans q) ht.size
theorem sum_mem {α : Type} (f : α → Nat) {l : List α} {x : α} (h : x ∈ l) : f x ≤ (l.map f).sum := by
  induction l with
  | nil => cases h
  | cons y r ih =>
    simp only [List.map_cons, List.sum_cons]
    rcases List.mem_cons.1 h with rfl | h
    · omega
    · have := ih h; omega
theorem Sm.at_ {L : List Ent} (h : Sm (L.map Ent.fil)) {e : Ent} (he : e ∈ L) : (e.firm ++ e.ws.flatten).length ≤ 1000000000 ∧ e.ws.length ≤ 1000000000 ∧ (e.firm ++ e.ws.flatten).length ≤ sizeL (L.map Ent.fil) := by
  have h1 := sum_mem (fun f : Fil => f.all.length) (List.mem_map_of_mem (f := Ent.fil) he)
  have h2 := sum_mem (fun f : Fil => f.ws.length) (List.mem_map_of_mem (f := Ent.fil) he)
  unfold Sm sizeL looseL at *
  have e1 : (Ent.fil e).all.length = (e.firm ++ e.ws.flatten).length := rfl
  have e2 : (Ent.fil e).ws.length = e.ws.length := rfl
  omega
end Go.Proofs.Ythheolhghhmdlaa
