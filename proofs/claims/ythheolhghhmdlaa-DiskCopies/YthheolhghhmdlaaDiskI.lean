/- A disk: another name; something done. -/
import Derived.Test.YthheolhghhmdlaaDiskH
namespace Go.Proofs.Ythheolhghhmdlaa
open Go.RowKit Dsk
open Go.Maps (Keyed)

theorem nm_beq (a b : Nm) : ((⟨a.toArray⟩ : ByteArray).toList == (⟨b.toArray⟩ : ByteArray).toList) = decide (a = b) := by
  rw [ByteArray.toList_eq, ByteArray.toList_eq]
  by_cases h : a = b
  · subst h; simp
  · simp [h]
section
variable {w w' w2 : World} {g : Nat} {S : Nat → Prop} {room : Int} {L : List Ent} {mv : Value} {o : Nat → Nat} {used : Nat} {fs : List Fil}
theorem Dd.under (hb : Below w.heap.size w w2) (h : Dd w2 g S room fs w') : Dd w g S room fs w' := by
  obtain ⟨S', L', mv', o', h1, h2, h3, h4⟩ := h
  have := hb.size
  exact ⟨S', L', mv', o', h1, h2, fun k hk => (h3 k hk).imp id (fun q => by omega), (Only.of_below S hb).trans (S' := S) h4 (fun i hi => .inl hi)⟩
/-- Behind a file taken out. -/
def Rm (w : World) (g : Nat) (S : Nat → Prop) (room : Int) (L : List Ent) (mv : Value) (n : Nm) (w' : World) : Prop := ∃ o', Dk w' g S room (del Ent.name n L) mv o' (sizeL ((del Ent.name n L).map Ent.fil)) ∧ Only (fun k => k = g ∨ mv = .map (some k)) w w'
theorem remove_any (n : Nm) (h : Dk w g S room L mv o used) (hu : used = sizeL (L.map Ent.fil)) (hs : Sm (L.map Ent.fil)) (hn : n.length ≤ maxLen) :
    Calls Try.prog 34 #[ptr g, .string ⟨n.toArray⟩] w fun e w' => e = .returned (.tuple #[]) ∧ Rm w g S room L mv n w' := by
  cases hg : get Ent.name n L with
  | none =>
    refine (remove_none n h hn hg).mono ?_
    rintro e w1 ⟨rfl, rfl⟩
    refine ⟨rfl, o, ?_, Only.refl _ _⟩
    rw [del_none hg, ← hu]
    exact h
  | some e =>
    have hm := (get_some hg).1
    obtain ⟨q1, q2, q3⟩ := hs.at_ hm
    have q4 : used ≤ 1000000000 := by unfold Sm at hs; omega
    refine (remove_some n h hn e hg q1 q2 (by omega) q4).mono ?_
    rintro r w1 ⟨rfl, o', h1, h2⟩
    refine ⟨rfl, o', ?_, h2⟩
    have hg' : get Fil.name n (L.map Ent.fil) = some e.fil := by rw [get_map fil_key, hg]; rfl
    have hz := sizeL_del h.filR hg'
    rw [del_map fil_key]
    have e1 : used - (e.firm ++ e.ws.flatten).length = sizeL (del Fil.name n (L.map Ent.fil)) := by
      have : e.fil.all.length = (e.firm ++ e.ws.flatten).length := rfl
      omega
    rw [← e1]
    exact h1
/-- What another name leaves. -/
theorem rename_tail {w1 w3 : World} {e : Ent} {n t : Nm} {mb : Nat} {o1 : Nat → Nat} {u : Nat} (h : Dk w g S room L mv o used) (hne : n ≠ t) (he : get Ent.name n L = some e) (hm : mv = .map (some mb)) (ho1 : Only S w w1) (h1 : Dk w1 g S room (del Ent.name t L) mv o1 u) (hu : u = sizeL ((del Ent.name t L).map Ent.fil))
    (hs2 : w2.heap.size = w1.heap.size) (ht : w1.grownBy w2 (some mb)) (h2 : Dk w2 g S room (del Ent.name n (del Ent.name t L)) mv (relab o1 w1.heap.size g) u) (hl : LaidP w2 g (.int .i64 room) (.int .i64 u) mv (put Ent.name ⟨t, e.blk, e.fv, e.wv, e.vs, e.firm, e.ws⟩ (del Ent.name n (del Ent.name t L))) w3) (htn : t.length ≤ 60) :
    Dd w g S room (put Fil.name (e.fil.called t) (del Fil.name n (L.map Ent.fil))) w3 := by
  obtain ⟨hme, hnm⟩ := get_some he
  have hg1 : get Ent.name n (del Ent.name t L) = some e := by rw [get_del_other hne]; exact he
  have hm1 := (get_some hg1).1
  have hb : Beside w2 (del Ent.name n (del Ent.name t L)) (relab o1 w1.heap.size g) g ⟨t, e.blk, e.fv, e.wv, e.vs, e.firm, e.ws⟩ :=
    ⟨h1.gone_fl (e := e) hm ht hm1, fun e' he' q => by
      have q1 := mem_del.1 he'
      have := h1.inj e' q1.1 e hm1 q
      exact absurd (by rw [this]; exact hnm) q1.2, h.oe e hme, htn⟩
  obtain ⟨mv', h3, h4⟩ := h2.laid hb hl
  have hz1 := ho1.size
  have hz3 := h4.size
  refine Dd.of h3 ?_ ?_ (fun k hk => ?_) ?_
  · rw [hu, del_map fil_key]
    have hg' : get Fil.name n (L.map Ent.fil) = some e.fil := by rw [get_map fil_key, he]; rfl
    exact (size_rename h.filR hg' hne).symm
  · rw [put_map fil_key, del_map fil_key, del_map fil_key]
    exact put_del_del (key := Fil.name) (x := e.fil.called t) n (L.map Ent.fil)
  · rcases hk.2 with q | q | q
    · exact .inl q
    · have q1 := q.1
      rw [hs2] at q1
      have q2 := q.2
      rw [relab_old q1] at q2
      exact .inl (h1.sf e hm1 k q1 q2)
    · exact .inr (by omega)
  · refine (ho1.grown ht fun k q => ?_).trans (S' := S) h4 (fun i hi => .inl hi)
    injection q with q
    subst q
    exact .inl (h.sm _ hm)

set_option maxRecDepth 100000 in
theorem rename_any (n t : Nm) (h : Dk w g S room L mv o used) (hu : used = sizeL (L.map Ent.fil)) (hs : Sm (L.map Ent.fil)) (hn : n.length ≤ 60) (htn : t.length ≤ 60) (e : Ent) (hg : get Ent.name n L = some e) (hne : n ≠ t) :
    Calls Try.prog 33 #[ptr g, .string ⟨n.toArray⟩, .string ⟨t.toArray⟩] w fun r w' => r = .returned (.tuple #[]) ∧ Dd w g S room (put Fil.name (e.fil.called t) (del Fil.name n (L.map Ent.fil))) w' := by
  have HRm := Lib.hid (remove_any t h hu hs (by simp only [maxLen]; omega))
  have hq : (n == t) = false := by simp [hne]
  obtain ⟨mb, hmb⟩ : ∃ mb, mv = .map (some mb) := by
    rcases h.map with ⟨_, h1⟩ | ⟨mb, h1, _⟩
    · rw [h1] at hg; cases hg
    · exact ⟨mb, h1⟩
  subst hmb
  have HH := Lib.hid h
  have HG := Lib.hid hg
  have HNe := Lib.hid hne
  have HNm := Lib.hid (show n.length ≤ maxLen by simp only [maxLen]; omega)
  have HT := Lib.hid htn
  have HLn := Lib.hid (show (del Ent.name n (del Ent.name t L)).length ≤ 1000000000 by
    have q1 := del_length (key := Ent.name) n (del Ent.name t L)
    have q2 := del_length (key := Ent.name) t L
    unfold Sm at hs
    simp only [List.length_map] at hs
    omega)
  clear h hu hs hn htn hg hne
  go_enter Try.func33, Try.ntmps33
  go_wp2_with fail
  refine HRm.out.mono ?_
  rintro r w1 ⟨rfl, o1, h1, ho1⟩
  have hg1 : get Ent.name n (del Ent.name t L) = some e := by rw [get_del_other HNe.out]; exact HG.out
  have hlk := look_any h1.map HNm.out
  rw [look_some hg1] at hlk
  have j2 : w1.cell? ⟨g, 2, none⟩ = some (.map (some mb)) := h1.row.cell 2
  have jl := h1.lt
  have HOm := Lib.hid (MapV.some h1.map)
  have H1 := Lib.hid (And.intro h1 ho1)
  clear h1 ho1 hg1
  go_wp2_with (first
    | (at_delete; refine wpList_delete_own _ rfl _ _ 62 9 rfl 67 keyS Try.underlying62 pE mb (del Ent.name t L).length _ rfl HOm.out _ _ rfl (key_of HNm.out) ?_; intro w3 ho3 ht3; have HT3 := Lib.hid (And.intro ho3 ht3); clear ho3 ht3)
    | fail)
  have hs3 : w3.heap.size = w1.heap.size := by
    obtain ⟨_, _, _, _, _, e⟩ := HT3.out.2
    rw [e]
    simp [ChangeMaps.setBlock]
  have hd3 := (H1.out.1.gone rfl HT3.out.1 HT3.out.2.grown).narrow (by rw [hs3]; exact Nat.le_refl _)
  refine (lay_any g room _ (.map (some mb)) _ ⟨t, e.blk, e.fv, e.wv, e.vs, e.firm, e.ws⟩ w3 hd3.row hd3.map HT.out HLn.out).mono ?_
  rintro r w4 ⟨rfl, hl4⟩
  have HF := Lib.hid (rename_tail HH.out HNe.out HG.out rfl (H1.out.2.mono fun k hk => .inl (hk.elim (fun q => q ▸ HH.out.sg) (fun q => HH.out.sm k q))) H1.out.1 rfl hs3 HT3.out.2.grown hd3 hl4 HT.out)
  clear hl4 hd3 hs3
  go_wp2
  go_end0
  exact ⟨rfl, HF.out⟩
theorem rename_same (n : Nm) (w : World) (g : Nat) :
    Calls Try.prog 33 #[ptr g, .string ⟨n.toArray⟩, .string ⟨n.toArray⟩] w fun r w' => r = .returned (.tuple #[]) ∧ w' = w := by
  have hq : (n == n) = true := by simp
  go_enter Try.func33, Try.ntmps33
  go_wp2
  exact bodyPost_ret (results_none rfl _ _ _) rfl ⟨rfl, rfl⟩
end
end Go.Proofs.Ythheolhghhmdlaa
