/- A disk: another one like it. -/
import Derived.Test.YthheolhghhmdlaaDiskM
namespace Go.Proofs.Ythheolhghhmdlaa
open Go.RowKit Dsk
open Go.Maps (Keyed)

theorem ranges_same {w w' : World} {mb r n : Nat} {D : DataW Unit} {left : Lit → Bool} {cnt : Nat} (h : w.ranges Try.prog 9 pE mb r n D left cnt) (hb : w'.heap[mb]? = w.heap[mb]?) (hr : w'.heap[r]? = w.heap[r]?) : w'.ranges Try.prog 9 pE mb r n D left cnt := by
  obtain ⟨es, clock, since, seen, c0, h1, F, hs, hD, h2, rest⟩ := h
  exact ⟨es, clock, since, seen, c0, hb.trans h1, F, hs, hD, hr.trans h2, rest⟩
/-- A disk of its own with these files. -/
def Copied (w : World) (room : Int) (fs : List Fil) (e : Ending) (w' : World) : Prop := ∃ g' S', e = .returned (ptr g') ∧ Dq w' g' S' room fs ∧ (∀ k, S' k → w.heap.size ≤ k) ∧ Below w.heap.size w w'
/-- So many files were copied. -/
def CopiesR (w : World) (room : Int) (L : List Ent) (mb : Nat) (wr : World) : Prop := ∃ (left : Lit → Bool) (cnt : Nat) (ss : List Nm) (S2 : Nat → Prop) (L2 : List Ent) (mv2 : Value) (o2 : Nat → Nat),
  wr.ranges Try.prog 9 pE mb (w.heap.size + 1) L.length (.map (L.map Ent.E)) left cnt ∧ ss.length + cnt ≤ L.length ∧ Collected (.map (L.map Ent.E)) left ss ∧ Dk wr w.heap.size S2 room L2 mv2 o2 0 ∧
  (∀ f, f ∈ L2.map Ent.fil ↔ f ∈ L.map Ent.fil ∧ f.name ∈ ss) ∧ L2.length ≤ ss.length ∧ (∀ k, S2 k → w.heap.size ≤ k ∧ k ≠ w.heap.size + 1) ∧ Below w.heap.size w wr
theorem fresh_disk (w : World) (z : Int) : Dk (w.alloc (.cells #[.int .i64 z, .int .i64 (0 : Nat), .map none] 64)) w.heap.size (fun k => k = w.heap.size) z [] (.map none) (fun k => k) 0 :=
  ⟨Row.fresh w _ _, .inl ⟨rfl, rfl⟩, fun e he => (by cases he), fun a ha => (by cases ha), List.Pairwise.nil, fun e he => (by cases he), rfl, fun mb e => (by cases e), fun e he => (by cases he), rfl, fun mb e => (by cases e), fun e he => (by cases he), fun k hk => (by rw [hk]; simp), fun k hk => hk⟩
theorem copies_mem {L L2 : List Ent} {ss : List Nm} {x : Nm} {e y : Ent} (hr : Rising Ent.name L) (hge : get Ent.name x L = some e) (hy : y.fil = e.fil) (h : ∀ f, f ∈ L2.map Ent.fil ↔ f ∈ L.map Ent.fil ∧ f.name ∈ ss) :
    ∀ f, f ∈ (put Ent.name y L2).map Ent.fil ↔ f ∈ L.map Ent.fil ∧ f.name ∈ ss ++ [x] := by
  intro f
  obtain ⟨hm, hn⟩ := get_some hge
  have hef : e.fil.name = x := hn
  rw [put_map fil_key, mem_put, h f, hy, hef]
  constructor
  · rintro (rfl | ⟨⟨h1, h2⟩, _⟩)
    · exact ⟨List.mem_map_of_mem hm, by rw [hef]; simp⟩
    · exact ⟨h1, by simp [h2]⟩
  · rintro ⟨h1, h2⟩
    by_cases q : f.name = x
    · exact .inl (((Rising.map fil_key).2 hr).inj h1 (List.mem_map_of_mem hm) (q.trans hef.symm))
    · refine .inr ⟨⟨h1, ?_⟩, q⟩
      rcases List.mem_append.1 h2 with h3 | h3
      · exact h3
      · exact absurd (by simpa using h3) q
theorem copies_all {L L2 : List Ent} {ss : List Nm} (hr : Rising Ent.name L) (hr2 : Rising Ent.name L2) (h : ∀ f, f ∈ L2.map Ent.fil ↔ f ∈ L.map Ent.fil ∧ f.name ∈ ss) (hp : ss.Perm (L.map Ent.name)) : L2.map Ent.fil = L.map Ent.fil := by
  refine ext_of ((Rising.map fil_key).2 hr2) ((Rising.map fil_key).2 hr) fun f => ?_
  rw [h f]
  refine ⟨fun q => q.1, fun q => ⟨q, hp.mem_iff.2 ?_⟩⟩
  obtain ⟨e, he, rfl⟩ := List.mem_map.1 q
  exact List.mem_map_of_mem (f := Ent.name) he

section
variable {w w' : World} {g : Nat} {S : Nat → Prop} {room : Int} {L : List Ent} {mv : Value} {o : Nat → Nat} {used : Nat}
/-- A copied file, laid. -/
theorem copies_step {w2 w3 w4 : World} {mb fb' : Nat} {left2 : Lit → Bool} {cnt cnt2 : Nat} {ss : List Nm} {S2 : Nat → Prop} {L2 : List Ent} {mv2 : Value} {o2 : Nat → Nat} {x : Nm} {e : Ent} {fv' wv' : Value} {vs' : List Value}
    (hr : Rising Ent.name L) (hge : get Ent.name x L = some e) (hx : x.length ≤ 60) (hmb : mb < w.heap.size)
    (hrg : w2.ranges Try.prog 9 pE mb (w.heap.size + 1) L.length (.map (L.map Ent.E)) left2 cnt2) (hcs : ss.length + cnt ≤ L.length) (hlt : cnt2 < cnt) (hC : Collected (.map (L.map Ent.E)) left2 (ss ++ [x]))
    (hd : Dk w2 w.heap.size S2 room L2 mv2 o2 0) (hmem : ∀ f, f ∈ L2.map Ent.fil ↔ f ∈ L.map Ent.fil ∧ f.name ∈ ss) (hll : L2.length ≤ ss.length) (hS : ∀ k, S2 k → w.heap.size ≤ k ∧ k ≠ w.heap.size + 1) (hb : Below w.heap.size w w2)
    (hf : Fl w3 (relab o2 w2.heap.size fb') fb' fv' wv' vs' e.firm e.ws) (hb3 : Below w2.heap.size w2 w3) (hfb : w2.heap.size ≤ fb') (hl : LaidP w3 w.heap.size (.int .i64 room) (.int .i64 (0 : Nat)) mv2 (put Ent.name ⟨x, fb', fv', wv', vs', e.firm, e.ws⟩ L2) w4) : CopiesR w room L mb w4 ∧ w4.rangeLeft mb (w.heap.size + 1) = cnt2 := by
  have hs2 := hb.size
  have hs3 := hb3.size
  have hd3 := hd.onlyTo (Only.of_below (fun _ => False) hb3) (fun _ _ q => q) fb' (fun e he => by have := (hd.fl e he).lt; omega) hf.lt
  have hbe : Beside w3 L2 (relab o2 w2.heap.size fb') w.heap.size ⟨x, fb', fv', wv', vs', e.firm, e.ws⟩ := ⟨hf, fun y hy q => by have := (hd.fl y hy).lt; simp only at q; omega, by have := hd.lt; simp only; omega, hx⟩
  obtain ⟨mv4, hd4, ho4⟩ := hd3.laid hbe hl
  have hit := hrg.lt
  have hmb2 : mb < w2.heap.size := by omega
  have hn : ∀ k, k < w2.heap.size → ¬ S2 k → w4.heap[k]? = w2.heap[k]? := fun k hk q => (ho4.block k (by omega) q).trans (hb3.block k hk)
  have hr4 := ranges_same hrg (hn mb hmb2 fun q => by have := hS mb q; omega) (hn _ hit fun q => (hS _ q).2 rfl)
  refine ⟨⟨left2, cnt2, ss ++ [x], _, _, mv4, _, hr4, by simp; omega, hC, hd4, copies_mem hr hge (by obtain ⟨h1, h2⟩ := get_some hge; unfold Ent.fil; rw [h2]) hmem, ?_, ?_, ?_⟩, hr4.left_eq⟩
  · have := put_length (key := Ent.name) (⟨x, fb', fv', wv', vs', e.firm, e.ws⟩ : Ent) L2
    simp
    omega
  · rintro k ⟨hk, q | ⟨q1, q2⟩ | q⟩
    · exact hS k q
    · rcases Nat.lt_or_ge k w2.heap.size with r | r
      · rw [relab_old r] at q2
        have := hd.ob k r
        simp only at q2
        omega
      · omega
    · omega
  · exact (hb.trans (hb3.mono hs2)).trans (ho4.below (K := w.heap.size) (fun k q => (hS k q).1) (by omega))
end
end Go.Proofs.Ythheolhghhmdlaa
