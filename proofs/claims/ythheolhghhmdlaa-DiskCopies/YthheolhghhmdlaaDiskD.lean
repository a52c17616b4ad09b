/- A file of a disk: all is firm; another one like it. -/
import Derived.Test.YthheolhghhmdlaaDiskC
namespace Go.Proofs.Ythheolhghhmdlaa
open Go.RowKit Dsk

/-- Some writes are firm. -/
def SyncR (w : World) (fb : Nat) (fv : Value) (firm : By) (ws : List By) (k : Nat) (fv' : Value) (wr : World) : Prop :=
  Row wr fb 86 #[fv', .slice none 0 0] ∧ Owns wr 0 fv' (firm ++ pre ws k) ∧ (fv'.ownBlock = fv.ownBlock ∨ ∃ j, fv'.ownBlock = some j ∧ w.heap.size ≤ j) ∧ Only (fun j => j = fb ∨ fv.ownBlock = some j) w wr
def SyncE (w : World) (fb : Nat) (fv : Value) (firm : By) (ws : List By) (k : Nat) (wr : World) : Prop := ∃ fv', SyncR w fb fv firm ws k fv' wr
section
variable {w wr : World} {o : Nat → Nat} {fb : Nat} {fv wv fv' : Value} {vs : List Value} {firm : By} {ws : List By}
theorem SyncR.ne {k : Nat} (h : SyncR w fb fv firm ws k fv' wr) : fv'.ownBlock ≠ some fb := fun e => by
  obtain ⟨cs, hc⟩ := ownsRow_tag h.2.1 e
  exact tag_ne hc h.1 (by decide) rfl
theorem SyncR.old (h : Fl w o fb fv wv vs firm ws) {k : Nat} (hr : SyncR w fb fv firm ws k fv' wr) {j : Nat} (hj : wv.ownBlock = some j ∨ ∃ v ∈ vs, v.ownBlock = some j) : wr.heap[j]? = w.heap[j]? ∧ j < w.heap.size := by
  have : j < w.heap.size ∧ ¬ (j = fb ∨ fv.ownBlock = some j) := by
    rcases hj with e | ⟨v, hv, e⟩
    · exact ⟨(World.ownsRow.lt h.wr j e).2, fun q => q.elim (fun q => h.wv_ne (q ▸ e)) (fun q => h.fw_ne q e)⟩
    · obtain ⟨_, q2, q3, _, q5⟩ := h.ownv v hv j e
      exact ⟨q2, fun q => q.elim q5 q3⟩
  exact ⟨hr.2.2.2.block j this.1 this.2, this.1⟩
theorem SyncR.start (h : Fl w o fb fv wv vs firm ws) : SyncR w fb fv firm ws 0 fv (w.setCell ⟨fb, 1, none⟩ (.slice none 0 0)) :=
  ⟨h.row.put 1 _, by rw [pre_zero, List.append_nil]; exact h.firm.same fun k hk => Below.heap_setCell _ _ _ _ (fun e => h.fv_ne (by rw [← show k = fb from e]; exact hk)), .inl rfl, (Only.refl _ _).setCell (p := ⟨fb, 1, none⟩) (.inl (.inl rfl)) _⟩
theorem SyncR.step {k : Nat} (hk : k < ws.length) (hr : SyncR w fb fv firm ws k fv' wr) {v4 : Value} {w4 : World} (hO : Owns w4 0 v4 ((firm ++ pre ws k) ++ ws[k]'hk)) (hg : wr.grownBy w4 fv'.ownBlock) (hat : v4.ownBlock = fv'.ownBlock ∨ v4.ownBlock = some wr.heap.size) :
    SyncR w fb fv firm ws (k + 1) v4 (w4.setCell ⟨fb, 0, none⟩ v4) ∧ Row w4 fb 86 #[fv', .slice none 0 0] := by
  obtain ⟨h1, h2, h3, h4⟩ := hr
  have hne : fv'.ownBlock ≠ some fb := SyncR.ne ⟨h1, h2, h3, h4⟩
  have hrow : Row w4 fb 86 #[fv', .slice none 0 0] := (hg.block fb h1.lt (fun e => hne e.symm)).trans h1
  have hlt := h1.lt
  have hs := h4.size
  have h4ne : v4.ownBlock ≠ some fb := by
    rcases hat with e | e
    · rw [e]; exact hne
    · rw [e]; intro e'; injection e' with e'; omega
  refine ⟨⟨hrow.put 0 v4, ?_, ?_, ?_⟩, hrow⟩
  · rw [pre_succ ws k hk, ← List.append_assoc]
    exact hO.same fun j hj => Below.heap_setCell _ _ _ _ (fun e => h4ne (by rw [← show j = fb from e]; exact hj))
  · rcases hat with e | e
    · rw [e]; exact h3
    · exact .inr ⟨_, e, hs⟩
  · refine (h4.grown hg fun j e => ?_).setCell (p := ⟨fb, 0, none⟩) (.inl (.inl rfl)) _
    rcases h3 with e' | ⟨i, e', hi⟩
    · exact .inl (.inr (by rw [← e']; exact e))
    · rw [e'] at e; cases e; exact .inr hi
theorem SyncR.end_ (h : Fl w o fb fv wv vs firm ws) (hr : SyncR w fb fv firm ws ws.length fv' wr) : Fl wr (relab o w.heap.size fb) fb fv' (.slice none 0 0) [] (firm ++ ws.flatten) [] ∧ Only (fun k => o k = fb) w wr := by
  obtain ⟨h1, h2, h3, h4⟩ := hr
  rw [pre_all] at h2
  refine ⟨⟨h1, h2, World.ownsRow_nil _ _ _ _, ⟨rfl, fun i v l hv => (by simp at hv)⟩, by rw [relab_old h.lt]; exact h.own, ?_, fun k hk => (by cases hk), fun v hv => (by simp at hv)⟩, h4.mono fun k hk => ?_⟩
  · intro k hk
    rcases h3 with e | ⟨i, e, hi⟩
    · rw [e] at hk
      rw [relab_old (World.ownsRow.lt h.firm k hk).2]
      exact h.ownf k hk
    · rw [e] at hk
      cases hk
      exact relab_new hi
  · rcases hk with rfl | e
    · exact .inl h.own
    · exact .inl (h.ownf k e)
end

set_option maxRecDepth 100000 in
theorem fsync_any (o : Nat → Nat) (fb : Nat) (fv wv : Value) (vs : List Value) (firm : By) (ws : List By) (w : World) (h : Fl w o fb fv wv vs firm ws) (hz : (firm ++ ws.flatten).length ≤ 1000000000) (hw : ws.length ≤ 1000000000) :
    Calls Try.prog 32 #[ptr fb] w fun e w' => e = .returned (.tuple #[]) ∧ ∃ fv', Fl w' (relab o w.heap.size fb) fb fv' (.slice none 0 0) [] (firm ++ ws.flatten) [] ∧ Only (fun k => o k = fb) w w' := by
  obtain ⟨af, cf, a', c', e1, e2, _⟩ := h.shapes
  have HC := Lib.hid (takeWrites_any fb fv a' ws.length c' w (by rw [← e2]; exact h.row))
  have hl := h.lt
  have HH := Lib.hid h
  have HZ := Lib.hid hz
  have HW := Lib.hid hw
  have HE := Lib.hid e2
  clear h hz hw e1 e2
  go_enter Try.func32, Try.ntmps32
  go_wp2_with fail
  refine HC.out.mono ?_
  rintro e w1 ⟨rfl, rfl⟩
  have HS := Lib.hid (SyncR.start HH.out)
  generalize w.setCell ⟨fb, 1, none⟩ (.slice none 0 0) = w1 at *
  go_wp2
  go_loopw [3, 7] (fun _ i wr => ∃ k : Nat, k ≤ ws.length ∧ i = .int .i64 k ∧ SyncE w fb fv firm ws k wr) (fun _ i _ => ws.length - (intOf i).toNat)
  case atStart => exact ⟨0, by omega, rfl, fv, HS.out⟩
  case round =>
    obtain ⟨k, hk, rfl, fv', hr⟩ := hrel
    have HR := Lib.hid hr
    have hlr := hr.1.lt
    clear hr
    by_cases hlt : k < ws.length
    · obtain ⟨g, cap, a2, c2, e3, hgl, hc, hB2, hv2⟩ := HH.out.write_at hlt
      have hw2 := HE.out
      rw [hw2] at e3
      injection e3 with e4 _ e5
      subst e4
      subst e5
      have q1 := SyncR.old HH.out HR.out (j := g) (.inl (by rw [hw2]; rfl))
      have d1 : wr.cell? ⟨g, k, none⟩ = some (.slice a2 (ws[k]'hlt).length c2) := (World.cell?_of_block (a := ⟨g, k, none⟩) q1.1).trans hc
      have hBr : Bytes wr a2 (ws[k]'hlt) := hB2.same fun b e => (SyncR.old HH.out HR.out (j := b) (.inr ⟨_, List.mem_of_getElem? hv2, by cases a2 with | none => cases e | some ad => exact e⟩)).1
      have hglr : g < wr.heap.size := block_lt_of_cell d1
      have hp := pre_succ ws k hlt
      have hp2 := pre_le ws (k + 1)
      rw [hp] at hp2
      have HP := Lib.hid (show (firm ++ pre ws k).length + (ws[k]'hlt).length ≤ 1000000000 by
        have := HZ.out
        simp only [List.length_append] at *
        omega)
      obtain ⟨a3, c3, hv3, _⟩ := HR.out.2.1.shape
      subst hv3
      have d0 : wr.cell? ⟨fb, 0, none⟩ = some _ := HR.out.1.cell 0
      have hlt' : (k : Int) < (ws.length : Int) := by omega
      have hwI : (ws.length : Int) ≤ 1000000000 := by have := HW.out; omega
      have HBr := Lib.hid hBr
      clear hBr hB2 hv2 hc hp hp2 q1 hw2
      generalize hm : (firm ++ pre ws k).length = m at *
      have HM := Lib.hid hm
      clear hm
      generalize hx : (ws[k]'hlt).length = x at *
      have HX := Lib.hid hx
      clear hx
      go_wp2_with (at_builtin; refine wpList_appendB rfl _ _ rfl 0 _ (firm ++ pre ws k) (ws[k]'hlt) a2 x c2 rfl rfl HX.out.symm HR.out.2.1 HBr.out (by have := HP.out; have := HM.out; have := HX.out; omega) (Nat.zero_le _) ?_; intro v4 w4 HO4 hg4 hat4; have ht := SyncR.step hlt HR.out HO4.out hg4 hat4; have d4 := ht.2.cell 0; have d5 := ht.2.thaw 0; have d6 := ht.2.lt; have HT := Lib.hid ht.1; clear ht hg4 hat4; obtain ⟨a5, c5, hv5, _⟩ := HO4.out.shape; generalize hm5 : ((firm ++ pre ws k) ++ ws[k]'hlt).length = m5 at hv5; clear hm5; subst hv5)
      go_roundw
      case rel =>
        have hE : SyncE w fb fv firm ws (k + 1) _ := ⟨_, HT.out⟩
        first
          | exact ⟨k + 1, by omega, by go_num, hE⟩
          | exact ⟨_, .int .i64 (k + 1), ⟨k + 1, by omega, by go_num, hE⟩, rfl, rfl⟩
      case measure => simp [intOf]; omega
    · have hlt' : ¬ (k : Int) < (ws.length : Int) := by omega
      obtain rfl : k = ws.length := by omega
      go_wp2
      go_end0
      exact ⟨rfl, ⟨fv', (SyncR.end_ HH.out HR.out).1⟩, (SyncR.end_ HH.out HR.out).2⟩

/-- A file of its own, that has no writes yet, and all of whose blocks are new. -/
theorem Fl.fresh {w w1 : World} {v1 : Value} {firm : By} (hb : Below w.heap.size w w1) (hO : Owns w1 w.heap.size v1 firm) :
    Fl (w1.alloc (.cells #[v1, .slice none 0 0] 86)) (fun k => if k < w.heap.size then k else w1.heap.size) w1.heap.size v1 (.slice none 0 0) [] firm [] := by
  have hs := hb.size
  have lo := fun k hk => World.ownsRow.lt hO k hk
  refine ⟨Row.fresh w1 _ _, ?_, World.ownsRow_nil _ _ _ _, ⟨rfl, fun i v l hv => (by simp at hv)⟩, if_neg (by omega), fun k hk => if_neg (by have := lo k hk; omega), fun k hk => (by cases hk), fun v hv => (by simp at hv)⟩
  refine ⟨hO.1, ?_⟩
  rcases hO.2 with h | ⟨g, cap, cur, rfl, h1, h2, h3⟩
  · exact .inl h
  · exact .inr ⟨g, cap, cur, rfl, Nat.zero_le _, (Below.heap_alloc w1 _ g (lo g rfl).2).trans h2, h3⟩

def CopyE (w : World) (fb : Nat) (fv : Value) (firm : By) (ws : List By) (wr : World) : Prop := ∃ wv' vs', Fl wr (fun k => if k < w.heap.size then k else fb) fb fv wv' vs' firm ws ∧ Below w.heap.size w wr
def CopyPost (w : World) (o' : Nat → Nat) (firm : By) (ws : List By) (e : Ending) (w' : World) : Prop := ∃ fb' fv' wv' vs', e = .returned (ptr fb') ∧ Fl w' (relab o' w.heap.size fb') fb' fv' wv' vs' firm ws ∧ Below w.heap.size w w' ∧ w.heap.size ≤ fb'
set_option maxRecDepth 100000 in
theorem fcopied_any (o o' : Nat → Nat) (fb : Nat) (fv wv : Value) (vs : List Value) (firm : By) (ws : List By) (w : World) (h : Fl w o fb fv wv vs firm ws) (hz : (firm ++ ws.flatten).length ≤ 1000000000) (hw : ws.length ≤ 1000000000) :
    Calls Try.prog 45 #[ptr fb] w (CopyPost w o' firm ws) := by
  obtain ⟨af, cf, a', c', e1, e2, hB⟩ := h.shapes
  have HC := Lib.hid (sclone_any af firm cf w hB (by simp only [List.length_append] at hz; omega))
  have k0 : w.cell? ⟨fb, 0, none⟩ = some (.slice af firm.length cf) := by rw [← e1]; exact h.row.cell 0
  have k1 : w.cell? ⟨fb, 1, none⟩ = some (.slice a' ws.length c') := by rw [← e2]; exact h.row.cell 1
  have hl := h.lt
  have HH := Lib.hid h
  have HZ := Lib.hid hz
  have HW := Lib.hid hw
  have HE := Lib.hid e2
  clear h hz hw e1 e2 hB
  go_enter Try.func45, Try.ntmps45
  go_wp2_with fail
  refine HC.out.mono ?_
  rintro e w1 ⟨v1, rfl, hO1, hb1⟩
  have HF := Lib.hid (Fl.fresh hb1 hO1)
  have HB1 := Lib.hid hb1
  have hs1 := hb1.size
  obtain ⟨a1, c1, hv1, _⟩ := hO1.shape
  subst hv1
  have d1 : (w1.alloc (.cells #[.slice a1 firm.length c1, .slice none 0 0] 86)).cell? ⟨fb, 1, none⟩ = some (.slice a' ws.length c') := (World.cell?_alloc_lt _ _ _ (show fb < w1.heap.size by omega)).trans ((hb1.cell (p := ⟨fb, 1, none⟩) hl).trans k1)
  clear hO1 hb1
  go_wp2
  go_loopw [5, 18] (fun _ i wr => ∃ k : Nat, k ≤ ws.length ∧ i = .int .i64 k ∧ CopyE w w1.heap.size (.slice a1 firm.length c1) firm (ws.take k) wr) (fun _ i _ => ws.length - (intOf i).toNat)
  case atStart => exact ⟨0, by omega, rfl, _, _, HF.out, HB1.out.alloc hs1 _⟩
  case round =>
    obtain ⟨k, hk, rfl, wv', vs', hf, hb⟩ := hrel
    have HFr := Lib.hid hf
    have HBr := Lib.hid hb
    have hsr := hb.size
    clear hf hb
    by_cases hlt : k < ws.length
    · obtain ⟨g, cap, a2, c2, e3, hgl, hc, hB2, hv2⟩ := HH.out.write_at hlt
      have hw2 := HE.out
      rw [hw2] at e3
      injection e3 with e4 _ e5
      subst e4
      subst e5
      have d2 : wr.cell? ⟨g, k, none⟩ = some (.slice a2 (ws[k]'hlt).length c2) := (HBr.out.cell (p := ⟨g, k, none⟩) hgl).trans hc
      have hglr : g < wr.heap.size := by omega
      have HBy := Lib.hid (hB2.under HBr.out)
      have hlt' : (k : Int) < (ws.length : Int) := by omega
      have hwI : (ws.length : Int) ≤ 1000000000 := by have := HW.out; omega
      have hp := pre_succ ws k hlt
      have hp2 := pre_le ws (k + 1)
      rw [hp] at hp2
      have HP := Lib.hid (show (ws[k]'hlt).length ≤ 1000000000 by
        have := HZ.out
        simp only [List.length_append] at *
        omega)
      have HW2 := Lib.hid (show (ws.take k).length ≤ 1000000000 by have := HW.out; rw [List.length_take]; omega)
      have HT := Lib.hid (List.take_succ_eq_append_getElem hlt)
      clear hB2 hv2 hc hp hp2 hw2
      generalize (ws[k]'hlt) = x at *
      go_wp2_with fail
      refine (fwrite_any _ w1.heap.size _ wv' vs' firm (ws.take k) a2 x c2 wr HFr.out HBy.out HP.out HW2.out).mono ?_
      rintro e w2 ⟨rfl, wv2, vs2, hf2, ho2⟩
      have HF2 := Lib.hid hf2
      have hb2 : Below w.heap.size wr w2 := ho2.below (K := w.heap.size) (fun j hj => by
        rcases Nat.lt_or_ge j w.heap.size with q | q
        · rw [if_pos q] at hj; omega
        · exact q) hsr
      have HB2 := Lib.hid (HBr.out.trans hb2)
      clear hf2 ho2 hb2
      go_wp2
      go_roundw
      case rel =>
        have hE : CopyE w w1.heap.size (.slice a1 firm.length c1) firm (ws.take (k + 1)) w2 := by
          refine ⟨wv2, vs2, ?_, HB2.out⟩
          rw [HT.out]
          have h3 := HF2.out
          have e : relab (fun k => if k < w.heap.size then k else w1.heap.size) wr.heap.size w1.heap.size = fun k => if k < w.heap.size then k else w1.heap.size := by
            funext j
            simp only [relab]
            split
            · rfl
            · rw [if_neg (by omega)]
          rw [e] at h3
          exact h3
        first
          | exact ⟨k + 1, by omega, by go_num, hE⟩
          | exact ⟨_, .int .i64 (k + 1), _, _, _, _, _, _, _, ⟨k + 1, by omega, by go_num, hE⟩, rfl⟩
          | exact ⟨_, .int .i64 (k + 1), ⟨k + 1, by omega, by go_num, hE⟩, rfl, rfl⟩
      case measure => simp [intOf]; omega
    · have hlt' : ¬ (k : Int) < (ws.length : Int) := by omega
      have hkk : k = ws.length := by omega
      have h3 := HFr.out
      rw [hkk, List.take_length] at h3
      have HF3 := Lib.hid h3
      clear h3
      go_wp2
      go_ret
      refine ⟨w1.heap.size, _, _, _, rfl, HF3.out.same (fun _ _ _ => rfl) (fun j _ hj => ?_) (Nat.le_refl _), HBr.out, hs1⟩
      rcases Nat.lt_or_ge j w.heap.size with q | q
      · rw [if_pos q] at hj; omega
      · exact relab_new q
end Go.Proofs.Ythheolhghhmdlaa
