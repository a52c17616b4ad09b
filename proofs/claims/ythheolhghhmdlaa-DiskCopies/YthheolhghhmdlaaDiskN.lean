/- A disk: a crash. -/
import Derived.Test.YthheolhghhmdlaaDiskZ
import Derived.Test.YthheolhghhmdlaaDiskMath3
import Derived.Deep.LoopGhost
import Derived.WalkMore
namespace Go.Proofs.Ythheolhghhmdlaa
open Go.RowKit Dsk

/-- A slice that reads as this list, in blocks of T. -/
def RdT {α : Type} (f : α → Value) (w : World) (T : Nat → Prop) (a : Option Addr) (l : List α) : Prop :=
  l = [] ∨ ∃ b o, a = some ⟨b, o, none⟩ ∧ T b ∧ ∀ i x, l[i]? = some x → w.cell? ⟨b, o + i, none⟩ = some (f x)
theorem RdT.only {α : Type} {f : α → Value} {w w' : World} {T S : Nat → Prop} {a : Option Addr} {l : List α} (h : RdT f w T a l) (ho : Only S w w') (hd : ∀ k, T k → ¬ S k) : RdT f w' T a l := by
  rcases h with h | ⟨b, o, rfl, hT, h⟩
  · exact .inl h
  · refine .inr ⟨b, o, rfl, hT, fun i x hx => ?_⟩
    have hc := h i x hx
    rw [World.cell?_of_block (a := ⟨b, o + i, none⟩) (ho.block b (block_lt_of_cell hc) (hd b hT))]
    exact hc
theorem RdT.mono {α : Type} {f : α → Value} {w : World} {T T' : Nat → Prop} {a : Option Addr} {l : List α} (h : RdT f w T a l) (hT : ∀ k, T k → T' k) : RdT f w T' a l := by
  rcases h with h | ⟨b, o, rfl, h1, h⟩
  · exact .inl h
  · exact .inr ⟨b, o, rfl, hT b h1, h⟩
theorem RdT.at_ {α : Type} {f : α → Value} {w : World} {T : Nat → Prop} {a : Option Addr} {l : List α} (h : RdT f w T a l) {i : Nat} (hi : i < l.length) : ∃ b o, a = some ⟨b, o, none⟩ ∧ b < w.heap.size ∧ T b ∧ w.cell? ⟨b, o + i, none⟩ = some (f (l[i]'hi)) := by
  rcases h with rfl | ⟨b, o, rfl, hT, h⟩
  · simp at hi
  · have hc := h i (l[i]'hi) (List.getElem?_eq_getElem hi)
    exact ⟨b, o, rfl, block_lt_of_cell hc, hT, hc⟩
theorem RdT.next {α : Type} {f : α → Value} {w : World} {T : Nat → Prop} {b o : Nat} {l : List α} {k : Nat} (h : RdT f w T (some ⟨b, o, none⟩) (l.drop k)) (hk : k < l.length) : RdT f w T (some ⟨b, o + 1, none⟩) (l.drop (k + 1)) := by
  rcases h with h | ⟨b', o', e, hT, h⟩
  · have := congrArg List.length h
    simp at this
    omega
  · cases e
    refine .inr ⟨b, o + 1, rfl, hT, fun i x hx => ?_⟩
    have := h (i + 1) x (by rw [List.getElem?_drop] at hx ⊢; rw [← hx]; congr 1; omega)
    rw [show o + 1 + i = o + (i + 1) by omega]
    exact this
theorem RdT.across {α : Type} {f : α → Value} {wk wr wy : World} {T S' : Nat → Prop} {a : Option Addr} {l : List α} (h : RdT f wr T a l) (hr : Only S' wk wr) (hy : Only S' wk wy) (hT : ∀ i, T i → i < wk.heap.size ∧ ¬ S' i) : RdT f wy T a l := by
  rcases h with h | ⟨b, o, rfl, hb, h⟩
  · exact .inl h
  · refine .inr ⟨b, o, rfl, hb, fun i x hx => ?_⟩
    have hc := h i x hx
    obtain ⟨h1, h2⟩ := hT b hb
    rw [World.cell?_of_block (a := ⟨b, o + i, none⟩) ((hy.block b h1 h2).trans (hr.block b h1 h2).symm)]
    exact hc
abbrev numV (z : Int) : Value := .int .i64 z

/-- A file, of which so much is firm, and whose writes are taken off. -/
def CrR (wk : World) (fb : Nat) (fv : Value) (acc : By) (fv' : Value) (wr : World) : Prop :=
  Row wr fb 86 #[fv', .slice none 0 0] ∧ Owns wr 0 fv' acc ∧ (fv'.ownBlock = fv.ownBlock ∨ ∃ j, fv'.ownBlock = some j ∧ wk.heap.size ≤ j) ∧ Only (fun j => j = fb ∨ fv.ownBlock = some j) wk wr
section
variable {wk wr : World} {o : Nat → Nat} {fb : Nat} {fv wv fv' : Value} {vs : List Value} {firm acc : By} {ws : List By}
theorem CrR.ne (h : CrR wk fb fv acc fv' wr) : fv'.ownBlock ≠ some fb := fun e => by
  obtain ⟨cs, hc⟩ := ownsRow_tag h.2.1 e
  exact tag_ne hc h.1 (by decide) rfl
theorem CrR.old (h : Fl wk o fb fv wv vs firm ws) (hr : CrR wk fb fv acc fv' wr) {j : Nat} (hj : wv.ownBlock = some j ∨ ∃ v ∈ vs, v.ownBlock = some j) : wr.heap[j]? = wk.heap[j]? ∧ j < wk.heap.size := by
  have : j < wk.heap.size ∧ ¬ (j = fb ∨ fv.ownBlock = some j) := by
    rcases hj with e | ⟨v, hv, e⟩
    · exact ⟨(World.ownsRow.lt h.wr j e).2, fun q => q.elim (fun q => h.wv_ne (q ▸ e)) (fun q => h.fw_ne q e)⟩
    · obtain ⟨_, q2, q3, _, q5⟩ := h.ownv v hv j e
      exact ⟨q2, fun q => q.elim q5 q3⟩
  exact ⟨hr.2.2.2.block j this.1 this.2, this.1⟩
theorem CrR.start (h : Fl wk o fb fv wv vs firm ws) : CrR wk fb fv firm fv (wk.setCell ⟨fb, 1, none⟩ (.slice none 0 0)) :=
  ⟨h.row.put 1 _, h.firm.same fun k hk => Below.heap_setCell _ _ _ _ (fun e => h.fv_ne (by rw [← show k = fb from e]; exact hk)), .inl rfl, (Only.refl _ _).setCell (p := ⟨fb, 1, none⟩) (.inl (.inl rfl)) _⟩
theorem CrR.drew (h : CrR wk fb fv acc fv' wr) : CrR wk fb fv acc fv' wr.drew := ⟨h.1, h.2.1, h.2.2.1, h.2.2.2.drew⟩
theorem CrR.step (hr : CrR wk fb fv acc fv' wr) {v4 : Value} {w4 : World} {more : By} (hO : Owns w4 0 v4 (acc ++ more)) (hg : wr.grownBy w4 fv'.ownBlock) (hat : v4.ownBlock = fv'.ownBlock ∨ v4.ownBlock = some wr.heap.size) :
    CrR wk fb fv (acc ++ more) v4 (w4.setCell ⟨fb, 0, none⟩ v4) ∧ Row w4 fb 86 #[fv', .slice none 0 0] := by
  obtain ⟨h1, h2, h3, h4⟩ := hr
  have hne : fv'.ownBlock ≠ some fb := CrR.ne ⟨h1, h2, h3, h4⟩
  have hrow : Row w4 fb 86 #[fv', .slice none 0 0] := (hg.block fb h1.lt (fun e => hne e.symm)).trans h1
  have hlt := h1.lt
  have hs := h4.size
  have h4ne : v4.ownBlock ≠ some fb := by
    rcases hat with e | e
    · rw [e]; exact hne
    · rw [e]; intro e'; injection e' with e'; omega
  refine ⟨⟨hrow.put 0 v4, ?_, ?_, ?_⟩, hrow⟩
  · exact hO.same fun j hj => Below.heap_setCell _ _ _ _ (fun e => h4ne (by rw [← show j = fb from e]; exact hj))
  · rcases hat with e | e
    · rw [e]; exact h3
    · exact .inr ⟨_, e, hs⟩
  · refine (h4.grown hg fun j e => ?_).setCell (p := ⟨fb, 0, none⟩) (.inl (.inl rfl)) _
    rcases h3 with e' | ⟨i, e', hi⟩
    · exact .inl (.inr (by rw [← e']; exact e))
    · rw [e'] at e; cases e; exact .inr hi
theorem CrR.end_ (h : Fl wk o fb fv wv vs firm ws) (hr : CrR wk fb fv acc fv' wr) : Fl wr (relab o wk.heap.size fb) fb fv' (.slice none 0 0) [] acc [] ∧ Only (fun k => o k = fb) wk wr := by
  obtain ⟨h1, h2, h3, h4⟩ := hr
  refine ⟨⟨h1, h2, World.ownsRow_nil _ _ _ _, ⟨rfl, fun i v l hv => (by simp at hv)⟩, by rw [relab_old h.lt]; exact h.own, ?_, fun k hk => (by cases hk), fun v hv => (by simp at hv)⟩, h4.mono fun k hk => ?_⟩
  · intro k hk
    rcases h3 with e | ⟨i, e, hi⟩
    · rw [e] at hk
      rw [relab_old (World.ownsRow.lt h.firm k hk).2]
      exact h.ownf k hk
    · rw [e] at hk
      cases hk
      exact relab_new hi
  · rcases hk with rfl | e
    · exact .inl h.own
    · exact .inl (h.ownf k e)
end
/-- So many writes of a file were looked at. -/
def InR (wk : World) (T : Nat → Prop) (e : Ent) (ms : List Int) (k : Nat) (mk gp : Value) (wr : World) : Prop :=
  k ≤ ms.length ∧ (∃ am cm, mk = .slice am (ms.length - k) cm ∧ ms.length - k ≤ cm ∧ RdT numV wr T am (ms.drop k)) ∧ gp = .int .i64 ((crashW (e.firm, 0) (e.ws.take k) ms).2 : Nat) ∧ ∃ fv', CrR wk e.blk e.fv (crashW (e.firm, 0) (e.ws.take k) ms).1 fv' wr
/-- So many files were looked at. -/
def OutR (w : World) (g : Nat) (S T : Nat → Prop) (room : Int) (fs : List Fil) (ms : List Int) (na : Option Addr) (k : Nat) (mk : Value) (wr : World) : Prop :=
  ∃ S' L' mv' o' used', Dk wr g S' room L' mv' o' used' ∧ L'.map Ent.fil = crashL (fs.take k) ms ++ fs.drop k ∧ (∀ k, S' k → S k ∨ w.heap.size ≤ k) ∧ Only S w wr ∧
    (∃ am cm, mk = .slice am (ms.drop (looseL (fs.take k))).length cm ∧ (ms.drop (looseL (fs.take k))).length ≤ cm ∧ RdT numV wr T am (ms.drop (looseL (fs.take k)))) ∧ RdT encStr wr T na (fs.map Fil.name)
theorem OutR.next {w wr wy : World} {g : Nat} {S T : Nat → Prop} {room : Int} {fs : List Fil} {ms mk : List Int} {na : Option Addr} {k j : Nat} {mkv gp : Value} {S2 : Nat → Prop} {L2 : List Ent} {mv2 : Value} {o2 : Nat → Nat} {u2 : Nat} {e : Ent} (hlt : k < fs.length)
    (hd : Dk wr g S2 room L2 mv2 o2 u2) (hmid : L2.map Ent.fil = crashL (fs.take k) ms ++ (fs[k]'hlt) :: fs.drop (k + 1)) (hS2 : ∀ k, S2 k → S k ∨ w.heap.size ≤ k) (hon : Only S w wr) (hna : RdT encStr wr T na (fs.map Fil.name)) (hge : get Ent.name (fs[k]'hlt).name L2 = some e) (hef : e.fil = fs[k]'hlt) (hmk : ms.drop (looseL (fs.take k)) = mk)
    (hTS : ∀ k, T k → ¬ S k) (hTl : ∀ k, T k → k < w.heap.size) (hIn : InR wr T e mk j mkv gp wy) (hj : j = e.ws.length ∨ mk.length ≤ j) (hjl : j ≤ e.ws.length) : OutR w g S T room fs ms na (k + 1) mkv wy := by
  obtain ⟨hjm, ⟨am, cm, rfl, hcm, hR⟩, rfl, fv', hcr⟩ := hIn
  have hme := (get_some hge).1
  have hfe := hd.fl e hme
  obtain ⟨hfl, ho⟩ := CrR.end_ hfe hcr
  have hacc : (crashW (e.firm, 0) (e.ws.take j) mk).1 = (crashW (e.firm, 0) e.ws mk).1 := by
    rcases hj with rfl | h
    · rw [List.take_length]
    · rw [← crashW_stop e.ws mk _ j h]
  rw [hacc] at hfl
  have hd' := hd.file hme (x := ⟨e.name, e.blk, fv', .slice none 0 0, [], (crashW (e.firm, 0) e.ws mk).1, []⟩) hfl rfl rfl ho
  have hTw : ∀ i, T i → ¬ S2 i := fun i hi hs => (hS2 i hs).elim (hTS i hi) (fun q => by have := hTl i hi; omega)
  have ho2 : Only S2 wr wy := ho.mono fun i hi => by
    rcases Nat.lt_or_ge i wr.heap.size with q | q
    · exact .inl (hd.sf e hme i q hi)
    · exact .inr q
  have hws : (fs[k]'hlt).ws.length = e.ws.length := by rw [← hef]; rfl
  have hdr : ms.drop (looseL (fs.take (k + 1))) = mk.drop e.ws.length := by rw [looseL_take fs k hlt, hws, ← hmk, List.drop_drop]
  refine ⟨_, _, _, _, _, hd', ?_, fun i hi => ?_, hon.trans ho2 hS2, ?_, hna.only ho2 hTw⟩
  · rw [put_map fil_key, hmid, put_mid (by rw [← hmid]; exact hd.filR) (by rw [← hef]; rfl), crashL_take fs ms k hlt, hmk, ← hef]
    simp [crashF, Ent.fil]
  · rcases hi with q | q
    · exact hS2 i q
    · exact .inr (by have := hon.size; omega)
  · rw [hdr]
    rcases hj with rfl | h
    · exact ⟨am, cm, by rw [List.length_drop], by rw [List.length_drop]; exact hcm, hR⟩
    · have e1 : mk.drop e.ws.length = [] := List.drop_eq_nil_of_le (by omega)
      have e2 : mk.length - j = 0 := by omega
      rw [e1, e2]
      exact ⟨am, cm, rfl, Nat.zero_le _, .inl rfl⟩
theorem Bytes.takeB {w : World} {a : Option Addr} {l : By} (h : Bytes w a l) (n : Nat) : Bytes w a (l.take n) := by
  rcases h with rfl | ⟨b, off, rfl, h⟩
  · exact .inl (by simp)
  · refine .inr ⟨b, off, rfl, fun i x hx => h i x ?_⟩
    rw [List.getElem?_take] at hx
    split at hx
    · exact hx
    · cases hx
theorem InR.more {wk wr wy : World} {T : Nat → Prop} {e : Ent} {mk : List Int} {j n3 cm6 : Nat} {mkv gp0 gp1 : Value} {am6 : Option Addr} {mb3 mo3 : Nat} (h : InR wk T e mk j mkv gp0 wr) (hjm : j < mk.length) (ham : 1 < n3 → am6 = some ⟨mb3, mo3 + 1, none⟩) (hcm : n3 - 1 ≤ cm6) (hn3 : n3 = mk.length - j) (hM : RdT numV wr T (some ⟨mb3, mo3, none⟩) (mk.drop j))
    (ho : Only (fun j => j = e.blk ∨ e.fv.ownBlock = some j) wk wy) (hT : ∀ i, T i → i < wk.heap.size ∧ ¬ (i = e.blk ∨ e.fv.ownBlock = some i)) (hg : gp1 = .int .i64 ((crashW (e.firm, 0) (e.ws.take (j + 1)) mk).2 : Nat)) (hc : ∃ fv', CrR wk e.blk e.fv (crashW (e.firm, 0) (e.ws.take (j + 1)) mk).1 fv' wy) : InR wk T e mk (j + 1) (.slice am6 (n3 - 1) cm6) gp1 wy := by
  refine ⟨hjm, ⟨am6, cm6, by rw [hn3]; rfl, by omega, ?_⟩, hg, hc⟩
  by_cases h1 : 1 < n3
  · rw [ham h1]
    obtain ⟨_, _, _, _, hcr⟩ := h
    exact (hM.across hcr.2.2.2 ho hT).next hjm
  · exact .inl (List.drop_eq_nil_of_le (by omega))
theorem InR.start {wr : World} {T S2 : Nat → Prop} {g : Nat} {room : Int} {L2 : List Ent} {mv2 : Value} {o2 : Nat → Nat} {u2 : Nat} {e : Ent} {mk : List Int} {am : Option Addr} {cm : Nat} (hd : Dk wr g S2 room L2 mv2 o2 u2) (hme : e ∈ L2) (hM : RdT numV wr T am mk) (hcm : mk.length ≤ cm) (hT : ∀ k, T k → ¬ S2 k) : InR wr T e mk 0 (.slice am mk.length cm) (.int .i64 0) (wr.setCell ⟨e.blk, 1, none⟩ (.slice none 0 0)) := by
  have hf := hd.fl e hme
  refine ⟨Nat.zero_le _, ⟨am, cm, rfl, hcm, ?_⟩, by rw [List.take_zero, crashW_none]; rfl, e.fv, by rw [List.take_zero, crashW_none]; exact CrR.start hf⟩
  refine hM.only (S := fun k => k = e.blk) ((Only.refl (fun k => k = e.blk) wr).setCell (p := ⟨e.blk, 1, none⟩) (.inl rfl) _) (fun k hk q => hT k hk ?_)
  rw [q]
  exact hd.sf e hme e.blk hf.lt hf.own
/-- What the names' call leaves. -/
def NamP (w : World) (g : Nat) (S : Nat → Prop) (room : Int) (fs : List Fil) (ms : List Int) (am : Option Addr) (e : Ending) (w' : World) : Prop := ∃ na nc T L mv o used, e = .returned (.slice na fs.length nc) ∧ Dk w' g S room L mv o used ∧ L.map Ent.fil = fs ∧ RdT numV w' T am ms ∧ RdT encStr w' T na (fs.map Fil.name) ∧ (∀ k, T k → ¬ S k) ∧ (∀ k, T k → k < w'.heap.size) ∧ Below w.heap.size w w'
set_option maxRecDepth 100000 in
theorem crash_loop (g : Nat) (S : Nat → Prop) (room : Int) (fs : List Fil) (ms : List Int) (am : Option Addr) (cm : Nat) (w : World)
    (hN : Calls Try.prog 26 #[ptr g] w (NamP w g S room fs ms am)) (hs : Sm fs) (hm9 : ms.length ≤ 1000000000) (hmc : ms.length ≤ cm) :
    Calls Try.prog 23 #[ptr g, .slice am ms.length cm] w fun e w' => e = .returned (.tuple #[]) ∧ Dd w g S room (crashL fs ms) w' := by
  have HN := Lib.hid hN
  have HS := Lib.hid hs
  have HM9 := Lib.hid hm9
  have HMc := Lib.hid hmc
  have hfl : (fs.length : Int) ≤ 1000000000 := by unfold Sm at hs; omega
  clear hN hs hm9 hmc
  go_enter Try.func23, Try.ntmps23
  go_wp2
  go_step3
  go_wp2
  go_step3
  go_wp2_with fail
  refine HN.out.mono ?_
  rintro e w' ⟨na, nc, T, L, mv, o, used, rfl, hd, hL, hM, hna, hTS, hTl, hbw⟩
  have HTS := Lib.hid hTS
  have HTl := Lib.hid hTl
  have HBw := Lib.hid hbw
  have hr := hd.filR
  rw [hL] at hr
  have HR := Lib.hid hr
  have H0 : Hid (OutR w' g S T room fs ms na 0 (.slice am ms.length cm) w') := ⟨S, L, mv, o, used, hd, by simp [hL, crashL], fun k hk => .inl hk, Only.refl _ _, ⟨am, cm, rfl, HMc.out, hM⟩, hna⟩
  clear hTS hTl hbw hr hd hL hM hna
  go_wp2
  go_loopg [1, 5, 6, 7, 9, 10, 16] fs.length (fun gg mk _ _ _ _ _ i wr => ∃ k : Nat, k + gg = fs.length ∧ i = .int .i64 k ∧ OutR w' g S T room fs ms na k mk wr)
  case atStart => exact ⟨0, by omega, rfl, H0.out⟩
  case round =>
    obtain ⟨k, hk, rfl, hO⟩ := hrel
    obtain ⟨gk0, hgk0⟩ : ∃ gk0, gk0 = gk := ⟨_, rfl⟩
    subst hgk0
    obtain ⟨wk, hwk⟩ : ∃ wk, wk = wr := ⟨_, rfl⟩
    subst hwk
    by_cases hlt : k < fs.length
    · have hlt' : (k : Int) < (fs.length : Int) := by omega
      obtain ⟨S2, L2, mv2, o2, u2, hd2, hL2, hS2, hon2, ⟨am2, cm2, rfl, hcm2, hM2⟩, hna2⟩ := hO
      obtain ⟨nb, no, rfl, hnl, _, hcn⟩ := hna2.at_ (i := k) (by simpa using hlt)
      rw [List.getElem_map] at hcn
      have hmid : L2.map Ent.fil = crashL (fs.take k) ms ++ (fs[k]'hlt) :: fs.drop (k + 1) := by rw [hL2, List.getElem_cons_drop]
      obtain ⟨e, hge, hef⟩ : ∃ e, get Ent.name (fs[k]'hlt).name L2 = some e ∧ e.fil = fs[k]'hlt := by
        have h1 : get Fil.name (fs[k]'hlt).name (L2.map Ent.fil) = some (fs[k]'hlt) := get_of_mem hd2.filR (by rw [hmid]; exact List.mem_append.2 (.inr (List.mem_cons_self)))
        rw [get_map fil_key] at h1
        cases hg : get Ent.name (fs[k]'hlt).name L2 with
        | none => rw [hg] at h1; cases h1
        | some e => rw [hg] at h1; injection h1 with h1; exact ⟨e, rfl, h1⟩
      have hme := (get_some hge).1
      have hnm := hd2.nm e hme
      have hnn : (fs[k]'hlt).name.length ≤ 60 := by rw [← hef]; exact hnm
      have hlk := look_any hd2.map (n := (fs[k]'hlt).name) (by simp only [maxLen]; omega)
      rw [look_some hge] at hlk
      obtain ⟨r2, hr2⟩ := hd2.map.shape
      subst hr2
      have j2 : wk.cell? ⟨g, 2, none⟩ = some (.map r2) := hd2.row.cell 2
      have jl := hd2.lt
      obtain ⟨af, cf, aw, cw, e1, e2, _⟩ := (hd2.fl e hme).shapes
      have HC := Lib.hid (takeWrites_any e.blk e.fv aw e.ws.length cw wk (by rw [← e2]; exact (hd2.fl e hme).row))
      have HD := Lib.hid (And.intro hd2 (And.intro hmid (And.intro hS2 (And.intro hon2 (And.intro hM2 (And.intro hna2 (And.intro hge (And.intro hef (And.intro e2 hcm2)))))))))
      have HSz := Lib.hid (show e.firm.length + e.ws.flatten.length ≤ 1000000000 ∧ e.ws.length ≤ 1000000000 by
        have q1 := sum_mem (fun f : Fil => f.all.length) (List.getElem_mem hlt)
        have q2 := sum_mem (fun f : Fil => f.ws.length) (List.getElem_mem hlt)
        have q3 := HS.out
        unfold Sm sizeL looseL at q3
        rw [← hef] at q1 q2
        have e3 : e.fil.all.length = e.firm.length + e.ws.flatten.length := by simp [Ent.fil, Fil.all]
        have e4 : e.fil.ws.length = e.ws.length := rfl
        omega)
      clear hd2 hmid hS2 hon2 hM2 hcm2 hna2 hge hef hme hnm hnn e1 e2 hL2
      generalize (fs[k]'hlt).name = nm at hcn hlk
      generalize hmk : ms.drop (looseL (fs.take k)) = mk at *
      have HMk := Lib.hid hmk
      clear hmk
      go_wp2_with fail
      refine HC.out.mono ?_
      rintro r' w3 ⟨rfl, rfl⟩
      have hT2 : ∀ j, T j → ¬ S2 j := fun j hj hs => (HD.out.2.2.1 j hs).elim (HTS.out j hj) (fun q => by have := HTl.out j hj; omega)
      have HE := Lib.hid (InR.start (cm := cm2) HD.out.1 (get_some HD.out.2.2.2.2.2.2.1).1 HD.out.2.2.2.2.1 HD.out.2.2.2.2.2.2.2.2.2 hT2)
      have HT2 := Lib.hid hT2
      clear hT2
      generalize wk.setCell ⟨e.blk, 1, none⟩ (.slice none 0 0) = w4 at *
      go_wp2
      go_loopg [1, 7, 9, 10, 29] e.ws.length (fun g2 mkv gp _ _ i wy => ∃ j : Nat, j + g2 = e.ws.length ∧ i = .int .i64 j ∧ InR wk T e mk j mkv gp wy)
      case atStart => exact ⟨0, by omega, rfl, HE.out⟩
      case round =>
        obtain ⟨j, hj, rfl, hI⟩ := hrel
        have HI := Lib.hid hI
        obtain ⟨hjm, ⟨am3, cm3, rfl, hcm3, hM3⟩, rfl, fv3, hcr3⟩ := hI
        by_cases hjl : j < e.ws.length
        · have hlt2 : (j : Int) < (e.ws.length : Int) := by omega
          obtain ⟨gw, gc, a4, c4, e5, hgl4, hc4, hB4, hv4⟩ := (HD.out.1.fl e (get_some HD.out.2.2.2.2.2.2.1).1).write_at hjl
          have e6 := HD.out.2.2.2.2.2.2.2.2.1
          rw [e6] at e5
          injection e5 with e7 _ e8
          subst e7
          subst e8
          have hfe := HD.out.1.fl e (get_some HD.out.2.2.2.2.2.2.1).1
          have qo := CrR.old hfe hcr3 (j := gw) (.inl (by rw [e6]; rfl))
          have d4 : wr.cell? ⟨gw, j, none⟩ = some (.slice a4 (e.ws[j]'hjl).length c4) := (World.cell?_of_block (a := ⟨gw, j, none⟩) qo.1).trans hc4
          have hgl5 : gw < wr.heap.size := block_lt_of_cell d4
          have HB4 := Lib.hid (show Bytes wr a4 (e.ws[j]'hjl) from hB4.same fun b q => (CrR.old hfe hcr3 (j := b) (.inr ⟨_, List.mem_of_getElem? hv4, by cases a4 with | none => cases q | some ad => exact q⟩)).1)
          by_cases hme : mk.length ≤ j
          · have hz : mk.length - j = 0 := by omega
            have HNx := Lib.hid (OutR.next hlt HD.out.1 HD.out.2.1 HD.out.2.2.1 HD.out.2.2.2.1 HD.out.2.2.2.2.2.1 HD.out.2.2.2.2.2.2.1 HD.out.2.2.2.2.2.2.2.1 HMk.out HTS.out HTl.out HI.out (.inr hme) (by omega))
            rw [hz] at HNx ⊢
            clear hM3 hcr3 hc4 hB4 hv4 hfe qo e6
            go_wp2
            go_roundg (gk0 - 1)
            case measure => omega
            case rel =>
              first
                | exact ⟨k + 1, by omega, by go_num, HNx.out⟩
                | exact ⟨_, _, _, _, _, _, _, ⟨k + 1, by omega, by go_num, HNx.out⟩, rfl, rfl, rfl, rfl, rfl, rfl, rfl⟩
          · have hz : 0 < mk.length - j := by omega
            have hdl : 0 < (mk.drop j).length := by rw [List.length_drop]; exact hz
            obtain ⟨mb3, mo3, rfl, hml3, hmT3, hmc3⟩ := hM3.at_ (i := 0) hdl
            have hjm2 : j < mk.length := by omega
            have ez : (mk.drop j)[0]'hdl = mk[j]'hjm2 := by rw [List.getElem_drop]; rfl
            rw [ez, Nat.add_zero] at hmc3
            obtain ⟨n3, hn3⟩ : ∃ n3, n3 = mk.length - j := ⟨_, rfl⟩
            rw [← hn3]
            have hn3p : (0 : Int) < (n3 : Int) := by omega
            have hn3e : ((n3 : Int) == 0) = false := by simp; omega
            have hxc := hfe.write_cap hjl hv4
            have HOld := Lib.hid (show ∀ acc fv' wy, CrR wk e.blk e.fv acc fv' wy → Bytes wy a4 (e.ws[j]'hjl) from fun acc fv' wy hc => hB4.same fun b q => (CrR.old hfe hc (j := b) (.inr ⟨_, List.mem_of_getElem? hv4, by cases a4 with | none => cases q | some ad => exact q⟩)).1)
            have hcl := crashW_len (e.ws.take j) mk (e.firm, 0)
            have hp1 := pre_succ e.ws j hjl
            have hp2 := pre_le e.ws (j + 1)
            rw [hp1] at hp2
            unfold pre at hp2
            simp only [List.length_append] at hp2
            have HN3 := Lib.hid hn3
            have HM3 := Lib.hid hM3
            have HCm := Lib.hid hcm3
            have HCr := Lib.hid hcr3
            have HZ2 := Lib.hid (And.intro hjm2 hz)
            have HTf := Lib.hid (show ∀ i, T i → i < wk.heap.size ∧ ¬ (i = e.blk ∨ e.fv.ownBlock = some i) from fun i hi => ⟨by have := HTl.out i hi; have := HD.out.2.2.2.1.size; omega, fun q => HT2.out i hi (by
              rcases q with rfl | q
              · exact HD.out.1.sf e (get_some HD.out.2.2.2.2.2.2.1).1 _ hfe.lt hfe.own
              · exact HD.out.1.sf e (get_some HD.out.2.2.2.2.2.2.1).1 _ (World.ownsRow.lt hfe.firm i q).2 (hfe.ownf i q))⟩)
            obtain ⟨gp, hgp⟩ : ∃ gp, gp = (crashW (e.firm, 0) (e.ws.take j) mk).2 := ⟨_, rfl⟩
            obtain ⟨accl, hacc⟩ : ∃ accl, accl = (crashW (e.firm, 0) (e.ws.take j) mk).1 := ⟨_, rfl⟩
            have HSz2 := Lib.hid (show accl.length + gp + (e.ws[j]'hjl).length ≤ 1000000000 by have := HSz.out; rw [hgp, hacc]; simp only at hcl; omega)
            rw [← hgp]
            rw [← hacc] at HCr
            have HGp := Lib.hid hgp
            have HAcc := Lib.hid hacc.symm
            clear hn3 hM3 hcm3 hcr3 hz hdl ez hc4 hB4 hv4 hfe qo e6 hcl hp1 hp2 hgp hacc
            generalize hzz : mk[j]'hjm2 = z at *
            have HZZ := Lib.hid hzz
            clear hzz
            generalize hxx : (e.ws[j]'hjl) = x at *
            have HXX := Lib.hid hxx
            clear hxx
            obtain ⟨st, hst⟩ : ∃ st, st = stays z x := ⟨_, rfl⟩
            have hsti : min (max z 0) (x.length : Int) = (st : Int) := by rw [hst]; unfold stays; omega
            have HStx := Lib.hid (And.intro hst (show st ≤ x.length by rw [hst]; exact stays_le z x))
            have hgI : (gp : Int) ≤ 1000000000 := by have := HSz2.out; omega
            have hxI : (x.length : Int) ≤ 1000000000 := by have := HSz2.out; omega
            have hgx : (gp : Int) + (x.length : Int) ≤ 1000000000 := by have := HSz2.out; omega
            have hwsI : (e.ws.length : Int) ≤ 1000000000 := by have := HSz.out; omega
            have k3 := HCr.out.1.cell 0
            have k4 := HCr.out.1.lt
            obtain ⟨a9, c9, hv9, _⟩ := HCr.out.2.1.shape
            generalize hm9 : accl.length = m9 at hv9
            clear hm9
            subst hv9
            clear hst
            by_cases hs0 : st = 0
            · have hs0' : ((st : Int) == 0) = true := by simp; omega
              have HS0 := Lib.hid hs0
              clear hs0
              go_wp2_with ((with_reducible show wpList _ _ _ (Oper.mk _ (Op.slice _ _ _ _ _) _ _ _ _ :: _) _ _); refine wpList_slice1 rfl _ rfl mb3 mo3 n3 cm3 rfl (by have := HN3.out; have := HZ2.out; omega) (by have := HN3.out; have := HCm.out; omega) ?_; intro am6 cm6 ham6 hcm6; have HA6 := Lib.hid (And.intro ham6 hcm6); clear ham6 hcm6)
              have hEi : InR wk T e mk (j + 1) (.slice am6 (n3 - 1) cm6) (.int .i64 ((gp : Int) + (x.length : Int))) wr := by
                refine InR.more HI.out HZ2.out.1 HA6.out.1 HA6.out.2 HN3.out HM3.out HCr.out.2.2.2 HTf.out ?_ ?_
                · rw [crashW_step e.ws mk _ j hjl HZ2.out.1, HXX.out, HZZ.out]
                  unfold stepW
                  rw [← HStx.out.1, if_pos HS0.out]
                  simp only
                  rw [← HGp.out]
                  congr 1
                · refine ⟨.slice a9 m9 c9, ?_⟩
                  rw [crashW_step e.ws mk _ j hjl HZ2.out.1, HXX.out, HZZ.out]
                  unfold stepW
                  rw [← HStx.out.1, if_pos HS0.out]
                  simp only
                  rw [HAcc.out]
                  exact HCr.out
              go_roundg (gk - 1)
              case measure => omega
              case rel =>
                first
                  | exact ⟨j + 1, by omega, by go_num, hEi⟩
                  | exact ⟨_, _, _, _, _, ⟨j + 1, by omega, by go_num, hEi⟩, rfl, rfl, rfl, rfl, rfl⟩
            · have hs0' : ((st : Int) == 0) = false := by simp; omega
              have hst1 : (st : Int) ≤ (x.length : Int) := by have := HStx.out; omega
              have hst2 : (st : Int) ≤ (c4 : Int) := by omega
              have HS0 := Lib.hid hs0
              clear hs0
              go_wp2_with (first | ((with_reducible show wpList _ _ _ (Oper.mk _ (Op.slice _ _ _ _ _) _ _ _ _ :: _) _ _); refine wpList_slice1 rfl _ rfl mb3 mo3 n3 cm3 rfl (by have := HN3.out; have := HZ2.out; omega) (by have := HN3.out; have := HCm.out; omega) ?_; intro am6 cm6 ham6 hcm6; have HA6 := Lib.hid (And.intro ham6 hcm6); clear ham6 hcm6) | (at_builtin; refine wpList_appendZ rfl _ _ rfl _ accl gp _ rfl rfl rfl (HCr.out.2.1) (by have := HSz2.out; omega) ?_; intro v5 w5 HO5 hg5 hat5; have ht5 := CrR.step HCr.out HO5.out hg5 hat5; have d50 := ht5.2.cell 0; have d51 := ht5.2.thaw 0; have d52 := ht5.2.lt; have HC5 := Lib.hid ht5.1; clear ht5 hg5 hat5; obtain ⟨a5, c5, hv5, _⟩ := HO5.out.shape; generalize hm5 : (accl ++ List.replicate gp 0).length = m5 at hv5; have HM5 := Lib.hid hm5; clear hm5; subst hv5))
              have HC6 : Hid (CrR wk e.blk e.fv (accl ++ List.replicate gp 0) (.slice a5 m5 c5) (w5.setCell ⟨e.blk, 0, none⟩ (.slice a5 m5 c5)).drew) := HC5.out.drew
              have d60 : (w5.setCell ⟨e.blk, 0, none⟩ (.slice a5 m5 c5)).drew.cell? ⟨e.blk, 0, none⟩ = some (.slice a5 m5 c5) := HC6.out.1.cell 0
              have d61 := HC6.out.1.lt
              refine wp_region_held_drew (S := fun _ => True) (by kernel_rfl) trivial (fun _ => ?_)
              refine wpAnyH_take (i := 0) (oi := ⟨some 60, _, _, _, _, _⟩) (v := ?_) rfl (by kernel_rfl) (by kernel_rfl) (by kernel_rfl) (fun _ _ _ h => h) (Or.inl ⟨by rfl, ?_⟩) trivial ?_
              rotate_left
              · intro W _
                go_simp
                with_reducible rfl
              simp only [Act.put, List.setIfInBounds_toArray, List.set_cons_zero, List.set_cons_succ]
              refine wpAnyH_take (i := 1) (oi := ⟨some 61, _, _, _, _, _⟩) (v := ?_) rfl (by kernel_rfl) (by kernel_rfl) (by kernel_rfl) (fun _ _ _ h => h) (Or.inl ⟨by rfl, ?_⟩) trivial ?_
              rotate_left
              · intro W _
                go_simp
                with_reducible rfl
              simp only [Act.put, List.setIfInBounds_toArray, List.set_cons_zero, List.set_cons_succ]
              refine wpAnyH_take (i := 2) (oi := ⟨some 62, _, _, _, _, _⟩) (v := ?_) rfl (by kernel_rfl) (by kernel_rfl) (by kernel_rfl) (fun _ _ _ h => h) (Or.inl ⟨by rfl, ?_⟩) trivial ?_
              rotate_left
              · intro W _
                go_simp
                with_reducible rfl
              simp only [Act.put, List.setIfInBounds_toArray, List.set_cons_zero, List.set_cons_succ]
              refine wpAnyH_take (i := 3) (oi := ⟨some 63, _, _, _, _, _⟩) (v := ?_) rfl (by kernel_rfl) (by kernel_rfl) (by kernel_rfl) (fun _ _ _ h => h) (Or.inl ⟨by rfl, ?_⟩) trivial ?_
              rotate_left
              · intro W _
                go_simp
                with_reducible rfl
              simp only [Act.put, List.setIfInBounds_toArray, List.set_cons_zero, List.set_cons_succ]
              refine wpAnyH_take (i := 5) (oi := ⟨some 65, _, _, _, _, _⟩) (v := ?_) rfl (by kernel_rfl) (by kernel_rfl) (by kernel_rfl) (fun _ _ _ h => h) (Or.inl ⟨by rfl, ?_⟩) trivial ?_
              rotate_left
              · intro W _
                go_simp
                with_reducible rfl
              simp only [Act.put, List.setIfInBounds_toArray, List.set_cons_zero, List.set_cons_succ]
              refine wpAnyH_take (i := 6) (oi := ⟨some 66, _, _, _, _, _⟩) (v := ?_) rfl (by kernel_rfl) (by kernel_rfl) (by kernel_rfl) (fun _ _ _ h => h) (Or.inl ⟨by rfl, ?_⟩) trivial ?_
              rotate_left
              · intro W _
                go_simp
                with_reducible rfl
              simp only [Act.put, List.setIfInBounds_toArray, List.set_cons_zero, List.set_cons_succ]
              refine wpAnyH_take (i := 7) (oi := ⟨some 67, _, _, _, _, _⟩) (v := ?_) rfl (by kernel_rfl) (by kernel_rfl) (by kernel_rfl) (fun _ _ _ h => h) (Or.inl ⟨by rfl, ?_⟩) trivial ?_
              rotate_left
              · intro W _
                go_simp
                with_reducible rfl
              simp only [Act.put, List.setIfInBounds_toArray, List.set_cons_zero, List.set_cons_succ]
              refine wpAnyH_ready (rs := [4]) (by kernel_rfl) (by simp) ?_
              refine (AllReadyH.cons (o := ⟨some 64, _, _, _, _, _⟩) rfl (fun K hK => ?_) AllReadyH.nil)
              go_simp
              refine hK.out _ _ trivial (fun _ => ?_)
              clear hK K
              refine wpAnyH_ready (rs := [8]) (by kernel_rfl) (by simp) ?_
              refine (AllReadyH.cons (o := ⟨some 68, _, _, _, _, _⟩) rfl (fun K hK => ?_) AllReadyH.nil)
              rw [if_pos (by rfl)]
              obtain ⟨v7, w7, hrun7, hO7, hg7, hat7⟩ := run_appendB 0 34 (.slice a5 m5 c5) (accl ++ List.replicate gp 0) (x.take st) a4 c4 HC6.out.2.1 (HOld.out _ _ _ HC6.out |>.takeB st) (by have := HSz2.out; have := HStx.out; simp only [List.length_append, List.length_replicate, List.length_take]; omega) (Nat.zero_le _)
              rw [show (x.take st).length = st by have := HStx.out; rw [List.length_take]; omega] at hrun7
              refine wp_append2 34 34 _ _ rfl v7 w7 rfl rfl hrun7 ?_
              have ht7 := CrR.step HC6.out hO7 hg7 hat7
              have d70 := ht7.2.cell 0
              have d71 := ht7.2.thaw 0
              have d72 := ht7.2.lt
              have HC7 := Lib.hid ht7.1
              obtain ⟨a7, c7, hv7, _⟩ := hO7.shape
              generalize hm7 : ((accl ++ List.replicate gp 0) ++ x.take st).length = m7 at hv7
              clear ht7 hO7 hg7 hat7 hrun7 hm7
              subst hv7
              refine hK.out _ _ trivial (fun _ => ?_)
              clear hK K
              refine wpAnyH_take (i := 9) (oi := ⟨some 69, _, _, _, _, _⟩) (v := ?_) rfl (by kernel_rfl) (by kernel_rfl) (by kernel_rfl) (fun _ _ _ h => h) (Or.inl ⟨by rfl, ?_⟩) trivial ?_
              rotate_left
              · intro W _
                go_simp
                with_reducible rfl
              simp only [Act.put, List.setIfInBounds_toArray, List.set_cons_zero, List.set_cons_succ]
              refine wpAnyH_take (i := 10) (oi := ⟨some 70, _, _, _, _, _⟩) (v := ?_) rfl (by kernel_rfl) (by kernel_rfl) (by kernel_rfl) (fun _ _ _ h => h) (Or.inl ⟨by rfl, ?_⟩) trivial ?_
              rotate_left
              · intro W _
                go_simp
                with_reducible rfl
              simp only [Act.put, List.setIfInBounds_toArray, List.set_cons_zero, List.set_cons_succ]
              refine wpAnyH_ready (rs := [11]) (by kernel_rfl) (by simp) ?_
              refine (AllReadyH.cons (o := ⟨none, _, _, _, _, _⟩) rfl (fun K hK => ?_) AllReadyH.nil)
              go_simp
              refine hK.out _ _ trivial (fun _ => ?_)
              clear hK K
              refine wpAnyH_done (by kernel_rfl) ?_ _
              go_wp2
              have hEi : InR wk T e mk (j + 1) (.slice am6 (n3 - 1) cm6) (.int .i64 ((x.length : Int) - (st : Int))) (w7.setCell ⟨e.blk, 0, none⟩ (.slice a7 m7 c7)) := by
                refine InR.more HI.out HZ2.out.1 HA6.out.1 HA6.out.2 HN3.out HM3.out HC7.out.2.2.2 HTf.out ?_ ?_
                · rw [crashW_step e.ws mk _ j hjl HZ2.out.1, HXX.out, HZZ.out]
                  unfold stepW
                  have h1 := HStx.out
                  rw [← h1.1, if_neg HS0.out]
                  simp only
                  congr 1
                  omega
                · refine ⟨.slice a7 m7 c7, ?_⟩
                  rw [crashW_step e.ws mk _ j hjl HZ2.out.1, HXX.out, HZZ.out]
                  unfold stepW
                  have h1 := HStx.out
                  rw [← h1.1, if_neg HS0.out]
                  simp only
                  rw [HAcc.out, ← HGp.out]
                  exact HC7.out
              go_roundg (gk - 1)
              case measure => omega
              case rel =>
                first
                  | exact ⟨j + 1, by omega, by go_num, hEi⟩
                  | exact ⟨_, _, _, _, _, ⟨j + 1, by omega, by go_num, hEi⟩, rfl, rfl, rfl, rfl, rfl⟩
        · have hlt2 : ¬ (j : Int) < (e.ws.length : Int) := by omega
          have HNx := Lib.hid (OutR.next hlt HD.out.1 HD.out.2.1 HD.out.2.2.1 HD.out.2.2.2.1 HD.out.2.2.2.2.2.1 HD.out.2.2.2.2.2.2.1 HD.out.2.2.2.2.2.2.2.1 HMk.out HTS.out HTl.out HI.out (.inl (by omega)) (by omega))
          go_wp2
          go_roundg (gk0 - 1)
          case measure => omega
          case rel =>
            first
              | exact ⟨k + 1, by omega, by go_num, HNx.out⟩
              | exact ⟨_, _, _, _, _, _, _, ⟨k + 1, by omega, by go_num, HNx.out⟩, rfl, rfl, rfl, rfl, rfl, rfl, rfl⟩
    · have hlt' : ¬ (k : Int) < (fs.length : Int) := by omega
      obtain ⟨S2, L2, mv2, o2, u2, hd2, hL2, hS2, hon2, _, _⟩ := hO
      have hkl : k = fs.length := by omega
      rw [hkl, List.take_length, List.drop_length, List.append_nil] at hL2
      have hsm2 : Sm (L2.map Ent.fil) := by
        have h1 := HS.out
        rw [hL2]
        unfold Sm at *
        rw [crashL_loose, crashL_length]
        have := crashL_size fs ms
        omega
      have HCn := Lib.hid (count_any hd2 hsm2)
      have HD2 := Lib.hid (And.intro hL2 (And.intro hS2 hon2))
      clear hd2 hL2 hS2 hon2 hsm2
      go_wp2_with fail
      refine HCn.out.mono ?_
      rintro e w5 ⟨rfl, o5, hd5, ho5⟩
      have HE : Hid (Dd w' g S room (crashL fs ms) w5) := by
        have h1 := hd5
        rw [HD2.out.1] at h1
        refine ⟨S2, L2, mv2, o5, h1, HD2.out.1, HD2.out.2.1, HD2.out.2.2.trans ho5 (fun i hi => HD2.out.2.1 i (by rw [hi]; exact hd5.sg))⟩
      clear hd5 ho5
      go_wp2
      rw [Exit.noGoto_normal]
      go_end0
      exact ⟨rfl, Dd.under HBw.out HE.out⟩
theorem RdT.of_row {w : World} {K : Nat} {v : Value} {l : List Nm} {t : TypeId} (h : w.ownsRow K t 1 v l.length (l.map encStr)) : ∃ a c, v = .slice a l.length c ∧ RdT encStr w (fun k => K ≤ k ∧ k < w.heap.size) a l := by
  rcases h.2 with ⟨rfl, h1⟩ | ⟨b, cap, cur, rfl, h1, h2, h3, h4, h5, h6⟩
  · have : l = [] := by simpa using h1
    subst this
    exact ⟨none, 0, rfl, .inl rfl⟩
  · refine ⟨_, _, rfl, .inr ⟨b, 0, rfl, ⟨h1, (Array.getElem?_eq_some_iff.1 h2).1⟩, fun i x hx => ?_⟩⟩
    have := World.ownsRow.cells (g := b) h rfl i (encStr x) (by rw [List.getElem?_map, hx]; rfl)
    have ea : (⟨b, 0, none⟩ : Addr).add i = ⟨b, 0 + i, none⟩ := by
      unfold Addr.add
      by_cases h1 : i = 0 <;> simp [h1]
    rw [ea] at this
    exact this
/-- A crash, whichever marks there are. -/
theorem crash_any {w : World} {g : Nat} {S T : Nat → Prop} {room : Int} {fs : List Fil} (ms : List Int) (am : Option Addr) (cm : Nat) (h : Dq w g S room fs) (hs : Sm fs) (hM : RdT numV w T am ms) (hTS : ∀ k, T k → ¬ S k) (hTl : ∀ k, T k → k < w.heap.size) (hm9 : ms.length ≤ 1000000000) (hmc : ms.length ≤ cm) :
    Calls Try.prog 23 #[ptr g, .slice am ms.length cm] w fun e w' => e = .returned (.tuple #[]) ∧ Dd w g S room (crashL fs ms) w' := by
  obtain ⟨L, mv, o, h1, h2⟩ := h
  have hL9 : L.length ≤ 1000000000 := by
    unfold Sm at hs
    rw [← h2, List.length_map] at hs
    omega
  refine crash_loop g S room fs ms am cm w ((names_any h1 hL9).mono ?_) hs hm9 hmc
  rintro e w1 ⟨v, rfl, hv, hb⟩
  have el : L.length = (L.map Ent.name).length := by simp
  rw [el] at hv
  obtain ⟨a, c, rfl, hr⟩ := RdT.of_row hv
  have hsz := hb.size
  have en : fs.map Fil.name = L.map Ent.name := by rw [← h2, List.map_map]; rfl
  refine ⟨a, c, fun k => T k ∨ (w.heap.size ≤ k ∧ k < w1.heap.size), L, mv, _, _, ?_, h1.below hb, h2, (hM.only (Only.of_below (fun _ => False) hb) (fun _ _ q => q)).mono (fun _ q => .inl q), ?_, ?_, ?_, hb⟩
  · rw [← h2]; simp
  · rw [en]; exact hr.mono fun _ q => .inr q
  · rintro k (q | q) hk
    · exact hTS k q hk
    · have := h1.sl k hk; omega
  · rintro k (q | q)
    · have := hTl k q; omega
    · exact q.2
end Go.Proofs.Ythheolhghhmdlaa
