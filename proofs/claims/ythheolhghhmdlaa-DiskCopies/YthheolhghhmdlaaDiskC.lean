/- A file of a disk: one more write; all is firm; another one like it. -/
import Derived.Test.YthheolhghhmdlaaDiskB
namespace Go.Proofs.Ythheolhghhmdlaa
open Go.RowKit Dsk

theorem infoV : (Try.prog.info? 34).map (fun i => (i.zero, i.size, i.bytes)) = some (some (.slice none 0 0), 1, 24) := by kernel_rfl
theorem one_src {w : World} {b : Nat} {x : Value} (hx : w.cell? ⟨b, 0, none⟩ = some x) : ∀ j u, [x][j]? = some u → w.cell? ((⟨b, 0, none⟩ : Addr).add j) = some u := by
  intro j u hu
  match j, hu with
  | 0, hu => injection hu with hu; subst hu; exact hx
  | j + 1, hu => simp at hu
theorem one_cell {x : Value} (h1 : x.oneCell' = true) : ∀ u ∈ [x], u.oneCell' = true := by
  intro u hu
  simp at hu
  subst hu
  exact h1
/-- 'append(v, x)' of slices, v of the call's own. -/
theorem run_appendV {w : World} (ty : TypeId) (v : Value) (n : Nat) (vs : List Value) (b : Nat) (x : Value) (h : w.ownsRow 0 34 1 v n vs) (hn : n ≤ 1000000000) (hx : w.cell? ⟨b, 0, none⟩ = some x) (h1 : x.oneCell' = true) :
    ∃ v' w', (Builtin.append_ #[71, 71] ty #[v, .slice (some ⟨b, 0, none⟩) 1 1]).run Try.prog w = .ok v' w' ∧ w'.ownsRow 0 34 1 v' (n + 1) (vs ++ [x]) ∧ w.grownBy w' v.ownBlock ∧ (v'.ownBlock = v.ownBlock ∨ v'.ownBlock = some w.heap.size) := by
  obtain ⟨i, hi, hz0, hz1, hz2⟩ := info_parts infoV
  have hm1 : n + 1 ≤ maxLen := by simp only [maxLen]; omega
  have hm2 : (n + 1) * 24 ≤ 140737488355328 := by omega
  clear hn
  obtain ⟨v', w', hrun, h2, h3, _, h5⟩ := run_append_own_at (P := Try.prog) w 0 71 ty 34 i (.slice none 0 0) 1 24 Try.underlying71 hi hz0 hz1 hz2 rfl (by omega) v n vs h ⟨b, 0, none⟩ 1 1 [x] rfl (one_src hx) (one_cell h1) hm1 hm2 (Nat.zero_le _)
  exact ⟨v', w', hrun, h2, h3, h5⟩
theorem wp_append2 {o : Oper} {a : Act} {w : World} {K : Act → World → Prop} {Q : Exit → Act → World → Prop} {tv xv : Value} (t t' : TypeId) (s x : Operand) (ho : o.op = .call { callee := .builtin .append, args := #[s, x], argTypes := #[t, t'] }) (v' : Value) (w' : World) (hs : a.eval s = tv) (hx : a.eval x = xv)
    (hrun : (Builtin.append_ #[t, t'] o.type #[tv, xv]).run Try.prog w = .ok v' w') (h : K (a.put o.dst v') w') : Oper.wp Try.prog o a w K Q := by
  unfold Oper.wp execOp
  simp only [ho, resolve, invoke, builtin, Sem.run_bind, Sem.run_pure, Result.andThen_ok, List.map_toArray, List.map_cons, List.map_nil, hs, hx, hrun]
  exact h
section
variable {w w' : World} {o o' : Nat → Nat} {fb : Nat} {fv wv : Value} {vs : List Value} {firm : By} {ws : List By}
theorem tag_ne {a b : Nat} {cs cs' : Array Value} {t t' : TypeId} (h : w.heap[a]? = some (.cells cs t (0, 0))) (h' : w.heap[b]? = some (.cells cs' t' (0, 0))) (hne : t ≠ t') : a ≠ b := by
  rintro rfl
  rw [h] at h'
  injection h' with h'
  injection h' with _ h' _
  exact hne h'
theorem ownsRow_tag {K s n : Nat} {t : TypeId} {v : Value} {xs : List Value} (h : w.ownsRow K t s v n xs) {k : Nat} (hk : v.ownBlock = some k) : ∃ cs, w.heap[k]? = some (.cells cs t (0, 0)) := by
  rcases h.2 with ⟨rfl, _⟩ | ⟨g, cap, cur, rfl, _, h2, _⟩
  · cases hk
  · cases hk
    exact ⟨cur, h2⟩
theorem Fl.wv_ne (h : Fl w o fb fv wv vs firm ws) : wv.ownBlock ≠ some fb := fun e => by
  obtain ⟨cs, hc⟩ := ownsRow_tag h.wr e
  exact tag_ne hc h.row (by decide) rfl
theorem Fl.fv_ne (h : Fl w o fb fv wv vs firm ws) : fv.ownBlock ≠ some fb := fun e => by
  obtain ⟨cs, hc⟩ := ownsRow_tag h.firm e
  exact tag_ne hc h.row (by decide) rfl
theorem Fl.fw_ne (h : Fl w o fb fv wv vs firm ws) {k : Nat} (e : fv.ownBlock = some k) : wv.ownBlock ≠ some k := fun e' => by
  obtain ⟨cs, hc⟩ := ownsRow_tag h.firm e
  obtain ⟨cs', hc'⟩ := ownsRow_tag h.wr e'
  exact tag_ne hc hc' (by decide) rfl
theorem Owns.sb {K : Nat} {v : Value} {l : By} (h : Owns w K v l) : Sb w v l := by
  obtain ⟨a, c, rfl, hB, hc⟩ := h.shape
  exact ⟨a, c, rfl, hB, hc⟩
/-- What one more write leaves. -/
theorem fwrite_tail {w1 w3 : World} {l : By} {v1 v' : Value} (h : Fl w o fb fv wv vs firm ws) (hb1 : Below w.heap.size w w1) (hO : Owns w1 w.heap.size v1 l) (hrow : w3.ownsRow 0 34 1 v' (ws.length + 1) (vs ++ [v1]))
    (hg : (w1.alloc (.cells #[v1] 34)).grownBy w3 wv.ownBlock) (hat : v'.ownBlock = wv.ownBlock ∨ v'.ownBlock = some (w1.alloc (.cells #[v1] 34)).heap.size) :
    Fl (w3.setCell ⟨fb, 1, none⟩ v') (relab o w.heap.size fb) fb fv v' (vs ++ [v1]) firm (ws ++ [l]) ∧ Only (fun k => o k = fb) w (w3.setCell ⟨fb, 1, none⟩ v') := by
  have hs1 := hb1.size
  have hsz := hg.size
  have e1 : (w1.alloc (.cells #[v1] 34)).heap.size = w1.heap.size + 1 := by simp
  rw [e1] at hsz hat
  have hfl := h.lt
  have lw := fun k hk => (World.ownsRow.lt h.wr k hk).2
  have lf := fun k hk => (World.ownsRow.lt h.firm k hk).2
  have lo := fun k hk => World.ownsRow.lt hO k hk
  have hold : ∀ k, k < w.heap.size → k ≠ fb → wv.ownBlock ≠ some k → (w3.setCell ⟨fb, 1, none⟩ v').heap[k]? = w.heap[k]? := by
    intro k hk h1 h2
    rw [Below.heap_setCell _ _ _ _ h1, hg.block k (by rw [e1]; omega) (fun e => h2 e.symm), Below.heap_alloc _ _ _ (by omega)]
    exact hb1.block k hk
  have hv'ne : v'.ownBlock ≠ some fb := by
    rcases hat with e | e
    · rw [e]; exact h.wv_ne
    · rw [e]; intro e'; injection e' with e'; omega
  have hnew : ∀ k, v1.ownBlock = some k → (w3.setCell ⟨fb, 1, none⟩ v').heap[k]? = w1.heap[k]? := by
    intro k hk
    have := lo k hk
    rw [Below.heap_setCell _ _ _ _ (show k ≠ fb by omega), hg.block k (by rw [e1]; omega) (fun e => by have := lw k e.symm; omega), Below.heap_alloc _ _ _ (by omega)]
  refine ⟨⟨?_, ?_, ?_, ?_, ?_, ?_, ?_, ?_⟩, ?_⟩
  · have hr : Row w3 fb 86 #[fv, wv] := (hg.block fb (by rw [e1]; omega) (fun e => h.wv_ne e.symm)).trans ((h.row.under hb1 hfl).past _)
    exact hr.put 1 v'
  · exact h.firm.same fun k hk => hold k (lf k hk) (fun e => h.fv_ne (e ▸ hk)) (h.fw_ne hk)
  · rw [List.length_append]
    exact ownsRow_same hrow fun k hk => Below.heap_setCell _ _ _ _ (fun e => hv'ne (by rw [← show k = fb from e]; exact hk))
  · refine ⟨by simp [h.vals.1], fun i v x hv hx => ?_⟩
    rcases Nat.lt_or_ge i vs.length with hi | hi
    · rw [List.getElem?_append_left hi] at hv
      rw [List.getElem?_append_left (by rw [← h.vals.1]; exact hi)] at hx
      refine (h.vals.2 i v x hv hx).same fun k hk => ?_
      obtain ⟨_, q2, _, q4, q5⟩ := h.ownv v (List.mem_of_getElem? hv) k hk
      exact hold k q2 q5 q4
    · rw [List.getElem?_append_right hi] at hv
      rw [List.getElem?_append_right (by rw [← h.vals.1]; exact hi), ← h.vals.1] at hx
      cases hj : i - vs.length with
      | zero =>
        rw [hj] at hv hx
        cases hv
        cases hx
        exact hO.sb.same fun k hk => hnew k hk
      | succ j => rw [hj] at hv; simp at hv
  · rw [relab_old hfl]; exact h.own
  · intro k hk
    rw [relab_old (lf k hk)]
    exact h.ownf k hk
  · intro k hk
    rcases hat with e | e
    · rw [e] at hk
      rw [relab_old (lw k hk)]
      exact h.ownw k hk
    · rw [e] at hk
      cases hk
      exact relab_new (by omega)
  · intro v hv k hk
    have hsz' : (w3.setCell ⟨fb, 1, none⟩ v').heap.size = w3.heap.size := by simp [World.setCell]
    rw [hsz']
    rcases List.mem_append.1 hv with hv | hv
    · obtain ⟨q1, q2, q3, q4, q5⟩ := h.ownv v hv k hk
      refine ⟨by rw [relab_old q2]; exact q1, by omega, q3, ?_, q5⟩
      rcases hat with e | e
      · rw [e]; exact q4
      · rw [e]; intro e'; injection e' with e'; omega
    · simp at hv
      subst hv
      have := lo k hk
      refine ⟨relab_new this.1, by omega, fun e => by have := lf k e; omega, ?_, by omega⟩
      rcases hat with e | e
      · rw [e]; intro e'; have := lw k e'; omega
      · rw [e]; intro e'; injection e' with e'; omega
  · exact (((Only.of_below _ hb1).alloc _).grown hg (fun k e => .inl (h.ownw k e))).setCell (p := ⟨fb, 1, none⟩) (.inl h.own) _
end

set_option maxRecDepth 100000 in
theorem fwrite_any (o : Nat → Nat) (fb : Nat) (fv wv : Value) (vs : List Value) (firm : By) (ws : List By) (a : Option Addr) (l : By) (c : Nat) (w : World) (h : Fl w o fb fv wv vs firm ws) (hB : Bytes w a l) (hl9 : l.length ≤ 1000000000) (hw : ws.length ≤ 1000000000) :
    Calls Try.prog 51 #[ptr fb, .slice a l.length c] w fun e w' => e = .returned (.tuple #[]) ∧ ∃ wv' vs', Fl w' (relab o w.heap.size fb) fb fv wv' vs' firm (ws ++ [l]) ∧ Only (fun k => o k = fb) w w' := by
  obtain ⟨af, cf, a', c', e1, e2, _⟩ := h.shapes
  have k1 : w.cell? ⟨fb, 1, none⟩ = some (.slice a' ws.length c') := by rw [← e2]; exact h.row.cell 1
  have hl := h.lt
  have HH := Lib.hid h
  have HE := Lib.hid e2
  have HL := Lib.hid hl9
  have HW := Lib.hid hw
  have hB1' : Bytes w.drew a l := hB
  clear h e1 e2 hl9 hw hB
  go_enter Try.func51, Try.ntmps51
  go_wp2
  refine wp_region_held_drew (S := fun _ => True) (by kernel_rfl) trivial (fun _ => ?_)
  refine wpAnyH_take (i := 0) (oi := ⟨some 4, _, _, _, _, _⟩) (v := ?_) rfl (by kernel_rfl) (by kernel_rfl) (by kernel_rfl) (fun _ _ _ h => h) (Or.inl ⟨by rfl, ?_⟩) trivial ?_
  rotate_left
  · intro W _
    go_simp
    with_reducible rfl
  simp only [Act.put, List.setIfInBounds_toArray, List.set_cons_zero, List.set_cons_succ]
  refine wpAnyH_take (i := 1) (oi := ⟨some 5, _, _, _, _, _⟩) (v := ?_) rfl (by kernel_rfl) (by kernel_rfl) (by kernel_rfl) (fun _ _ _ h => h) (Or.inl ⟨by rfl, ?_⟩) trivial ?_
  rotate_left
  · intro W _
    go_simp
    with_reducible rfl
  simp only [Act.put, List.setIfInBounds_toArray, List.set_cons_zero, List.set_cons_succ]
  refine wpAnyH_take (i := 2) (oi := ⟨some 6, _, _, _, _, _⟩) (v := ?_) rfl (by kernel_rfl) (by kernel_rfl) (by kernel_rfl) (fun _ _ _ h => h) (Or.inl ⟨by rfl, ?_⟩) trivial ?_
  rotate_left
  · intro W _
    go_simp
    with_reducible rfl
  simp only [Act.put, List.setIfInBounds_toArray, List.set_cons_zero, List.set_cons_succ]
  refine wpAnyH_take (i := 3) (oi := ⟨some 7, _, _, _, _, _⟩) (v := ?_) rfl (by kernel_rfl) (by kernel_rfl) (by kernel_rfl) (fun _ _ _ h => h) (Or.inl ⟨by rfl, ?_⟩) trivial ?_
  rotate_left
  · intro W _
    go_simp
    with_reducible rfl
  simp only [Act.put, List.setIfInBounds_toArray, List.set_cons_zero, List.set_cons_succ]
  refine wpAnyH_take (i := 5) (oi := ⟨some 9, _, _, _, _, _⟩) (v := ?_) rfl (by kernel_rfl) (by kernel_rfl) (by kernel_rfl) (fun _ _ _ h => h) (Or.inl ⟨by rfl, ?_⟩) trivial ?_
  rotate_left
  · intro W _
    go_simp
    with_reducible rfl
  simp only [Act.put, List.setIfInBounds_toArray, List.set_cons_zero, List.set_cons_succ]
  refine wpAnyH_ready (rs := [4, 6]) (by kernel_rfl) (by simp) ?_
  refine (AllReadyH.cons (o := ⟨some 8, _, _, _, _, _⟩) rfl (fun K hK => ?_) (AllReadyH.cons (o := ⟨some 10, _, _, _, _, _⟩) rfl (fun K hK => ?_) AllReadyH.nil))
  · skip
    go_simp
    refine hK.out _ _ trivial (fun _ => ?_)
    clear hK K
    refine wpAnyH_ready (rs := [6]) (by kernel_rfl) (by simp) ?_
    refine (AllReadyH.cons (o := ⟨some 10, _, _, _, _, _⟩) rfl (fun K hK => ?_) AllReadyH.nil)
    go_simp
    refine (sclone_any a l c _ (hB1') HL.out).mono ?_
    rintro e w1 ⟨v1, rfl, hO1, hbb⟩
    have hb1 : Below w.heap.size w w1 := ⟨hbb.os, hbb.tape, hbb.output, hbb.size, hbb.block⟩
    have hO1' : Owns w1 w.heap.size v1 l := hO1
    obtain ⟨a1, c1, hv1, _⟩ := hO1.shape
    subst hv1
    have HO1 := Lib.hid hO1'
    have HB1 := Lib.hid hb1
    have hsz1 := hb1.size
    have k1w : w1.cell? ⟨fb, 1, none⟩ = some (.slice a' ws.length c') := (hb1.cell (p := ⟨fb, 1, none⟩) hl).trans k1
    have k1x : (w1.alloc (.cells #[.slice a1 l.length c1] 34)).cell? ⟨fb, 1, none⟩ = some (.slice a' ws.length c') := (World.cell?_alloc_lt _ _ _ (show fb < w1.heap.size by omega)).trans k1w
    clear hO1 hO1' hbb hb1
    refine hK.out _ _ trivial (fun _ => ?_)
    clear hK K
    refine wpAnyH_ready (rs := [7]) (by kernel_rfl) (by simp) ?_
    refine (AllReadyH.cons (o := ⟨some 11, _, _, _, _, _⟩) rfl (fun K hK => ?_) AllReadyH.nil)
    go_simp
    refine hK.out _ _ trivial (fun _ => ?_)
    clear hK K
    refine wpAnyH_ready (rs := [8]) (by kernel_rfl) (by simp) ?_
    refine (AllReadyH.cons (o := ⟨some 12, _, _, _, _, _⟩) rfl (fun K hK => ?_) AllReadyH.nil)
    rw [if_pos (by rfl)]
    obtain ⟨v', w3, hrun, hrow3, hg3, hat3⟩ := run_appendV (w := w1.alloc (.cells #[.slice a1 l.length c1] 34)) 71 (.slice a' ws.length c') ws.length vs w1.heap.size (.slice a1 l.length c1) (by
        have h0 := HH.out.below HB1.out
        have h1 := h0.wr
        rw [HE.out] at h1
        exact h1.alloc _) HW.out ((Row.fresh w1 _ _).cell 0) rfl
    refine wp_append2 71 71 _ _ rfl v' w3 rfl rfl hrun ?_
    have hT := HH.out
    have ht := fwrite_tail hT HB1.out HO1.out hrow3 (by rw [HE.out]; exact hg3) (by rw [HE.out]; exact hat3)
    have hr3 : Row w3 fb 86 #[fv, wv] := (hg3.block fb (by simp; omega) (fun e => hT.wv_ne (by rw [HE.out]; exact e.symm))).trans ((hT.row.under HB1.out hT.lt).past _)
    have t1 := hr3.cell 1
    have t2 := hr3.thaw 1
    rw [HE.out] at t1
    obtain ⟨a3, c3, hv3⟩ : ∃ a3 c3, v' = .slice a3 (ws.length + 1) c3 := by
      rcases hrow3.2 with ⟨_, h0⟩ | ⟨g, cap, cur, e, _⟩
      · omega
      · exact ⟨_, _, e⟩
    subst hv3
    have HT := Lib.hid ht
    clear ht hT hr3 hrow3 hg3 hat3 hrun
    refine hK.out _ _ trivial (fun _ => ?_)
    clear hK K
    refine wpAnyH_take (i := 9) (oi := ⟨some 13, _, _, _, _, _⟩) (v := ?_) rfl (by kernel_rfl) (by kernel_rfl) (by kernel_rfl) (fun _ _ _ h => h) (Or.inl ⟨by rfl, ?_⟩) trivial ?_
    rotate_left
    · intro W _
      go_simp
      with_reducible rfl
    simp only [Act.put, List.setIfInBounds_toArray, List.set_cons_zero, List.set_cons_succ]
    refine wpAnyH_take (i := 10) (oi := ⟨some 14, _, _, _, _, _⟩) (v := ?_) rfl (by kernel_rfl) (by kernel_rfl) (by kernel_rfl) (fun _ _ _ h => h) (Or.inl ⟨by rfl, ?_⟩) trivial ?_
    rotate_left
    · intro W _
      go_simp
      with_reducible rfl
    simp only [Act.put, List.setIfInBounds_toArray, List.set_cons_zero, List.set_cons_succ]
    refine wpAnyH_ready (rs := [11]) (by kernel_rfl) (by simp) ?_
    refine (AllReadyH.cons (o := ⟨none, _, _, _, _, _⟩) rfl (fun K hK => ?_) AllReadyH.nil)
    go_simp
    refine hK.out _ _ trivial (fun _ => ?_)
    clear hK K
    refine wpAnyH_done (by kernel_rfl) ?_ _
    go_wp2
    go_end0
    exact ⟨rfl, _, _, HT.out⟩
  · skip
    go_simp
    refine (sclone_any a l c _ (hB1') HL.out).mono ?_
    rintro e w1 ⟨v1, rfl, hO1, hbb⟩
    have hb1 : Below w.heap.size w w1 := ⟨hbb.os, hbb.tape, hbb.output, hbb.size, hbb.block⟩
    have hO1' : Owns w1 w.heap.size v1 l := hO1
    obtain ⟨a1, c1, hv1, _⟩ := hO1.shape
    subst hv1
    have HO1 := Lib.hid hO1'
    have HB1 := Lib.hid hb1
    have hsz1 := hb1.size
    have k1w : w1.cell? ⟨fb, 1, none⟩ = some (.slice a' ws.length c') := (hb1.cell (p := ⟨fb, 1, none⟩) hl).trans k1
    have k1x : (w1.alloc (.cells #[.slice a1 l.length c1] 34)).cell? ⟨fb, 1, none⟩ = some (.slice a' ws.length c') := (World.cell?_alloc_lt _ _ _ (show fb < w1.heap.size by omega)).trans k1w
    clear hO1 hO1' hbb hb1
    refine hK.out _ _ trivial (fun _ => ?_)
    clear hK K
    refine wpAnyH_ready (rs := [4, 7]) (by kernel_rfl) (by simp) ?_
    refine (AllReadyH.cons (o := ⟨some 8, _, _, _, _, _⟩) rfl (fun K hK => ?_) (AllReadyH.cons (o := ⟨some 11, _, _, _, _, _⟩) rfl (fun K hK => ?_) AllReadyH.nil))
    · skip
      go_simp
      refine hK.out _ _ trivial (fun _ => ?_)
      clear hK K
      refine wpAnyH_ready (rs := [7]) (by kernel_rfl) (by simp) ?_
      refine (AllReadyH.cons (o := ⟨some 11, _, _, _, _, _⟩) rfl (fun K hK => ?_) AllReadyH.nil)
      go_simp
      refine hK.out _ _ trivial (fun _ => ?_)
      clear hK K
      refine wpAnyH_ready (rs := [8]) (by kernel_rfl) (by simp) ?_
      refine (AllReadyH.cons (o := ⟨some 12, _, _, _, _, _⟩) rfl (fun K hK => ?_) AllReadyH.nil)
      rw [if_pos (by rfl)]
      obtain ⟨v', w3, hrun, hrow3, hg3, hat3⟩ := run_appendV (w := w1.alloc (.cells #[.slice a1 l.length c1] 34)) 71 (.slice a' ws.length c') ws.length vs w1.heap.size (.slice a1 l.length c1) (by
          have h0 := HH.out.below HB1.out
          have h1 := h0.wr
          rw [HE.out] at h1
          exact h1.alloc _) HW.out ((Row.fresh w1 _ _).cell 0) rfl
      refine wp_append2 71 71 _ _ rfl v' w3 rfl rfl hrun ?_
      have hT := HH.out
      have ht := fwrite_tail hT HB1.out HO1.out hrow3 (by rw [HE.out]; exact hg3) (by rw [HE.out]; exact hat3)
      have hr3 : Row w3 fb 86 #[fv, wv] := (hg3.block fb (by simp; omega) (fun e => hT.wv_ne (by rw [HE.out]; exact e.symm))).trans ((hT.row.under HB1.out hT.lt).past _)
      have t1 := hr3.cell 1
      have t2 := hr3.thaw 1
      rw [HE.out] at t1
      obtain ⟨a3, c3, hv3⟩ : ∃ a3 c3, v' = .slice a3 (ws.length + 1) c3 := by
        rcases hrow3.2 with ⟨_, h0⟩ | ⟨g, cap, cur, e, _⟩
        · omega
        · exact ⟨_, _, e⟩
      subst hv3
      have HT := Lib.hid ht
      clear ht hT hr3 hrow3 hg3 hat3 hrun
      refine hK.out _ _ trivial (fun _ => ?_)
      clear hK K
      refine wpAnyH_take (i := 9) (oi := ⟨some 13, _, _, _, _, _⟩) (v := ?_) rfl (by kernel_rfl) (by kernel_rfl) (by kernel_rfl) (fun _ _ _ h => h) (Or.inl ⟨by rfl, ?_⟩) trivial ?_
      rotate_left
      · intro W _
        go_simp
        with_reducible rfl
      simp only [Act.put, List.setIfInBounds_toArray, List.set_cons_zero, List.set_cons_succ]
      refine wpAnyH_take (i := 10) (oi := ⟨some 14, _, _, _, _, _⟩) (v := ?_) rfl (by kernel_rfl) (by kernel_rfl) (by kernel_rfl) (fun _ _ _ h => h) (Or.inl ⟨by rfl, ?_⟩) trivial ?_
      rotate_left
      · intro W _
        go_simp
        with_reducible rfl
      simp only [Act.put, List.setIfInBounds_toArray, List.set_cons_zero, List.set_cons_succ]
      refine wpAnyH_ready (rs := [11]) (by kernel_rfl) (by simp) ?_
      refine (AllReadyH.cons (o := ⟨none, _, _, _, _, _⟩) rfl (fun K hK => ?_) AllReadyH.nil)
      go_simp
      refine hK.out _ _ trivial (fun _ => ?_)
      clear hK K
      refine wpAnyH_done (by kernel_rfl) ?_ _
      go_wp2
      go_end0
      exact ⟨rfl, _, _, HT.out⟩
    · skip
      go_simp
      refine hK.out _ _ trivial (fun _ => ?_)
      clear hK K
      refine wpAnyH_ready (rs := [4]) (by kernel_rfl) (by simp) ?_
      refine (AllReadyH.cons (o := ⟨some 8, _, _, _, _, _⟩) rfl (fun K hK => ?_) AllReadyH.nil)
      go_simp
      refine hK.out _ _ trivial (fun _ => ?_)
      clear hK K
      refine wpAnyH_ready (rs := [8]) (by kernel_rfl) (by simp) ?_
      refine (AllReadyH.cons (o := ⟨some 12, _, _, _, _, _⟩) rfl (fun K hK => ?_) AllReadyH.nil)
      rw [if_pos (by rfl)]
      obtain ⟨v', w3, hrun, hrow3, hg3, hat3⟩ := run_appendV (w := w1.alloc (.cells #[.slice a1 l.length c1] 34)) 71 (.slice a' ws.length c') ws.length vs w1.heap.size (.slice a1 l.length c1) (by
          have h0 := HH.out.below HB1.out
          have h1 := h0.wr
          rw [HE.out] at h1
          exact h1.alloc _) HW.out ((Row.fresh w1 _ _).cell 0) rfl
      refine wp_append2 71 71 _ _ rfl v' w3 rfl rfl hrun ?_
      have hT := HH.out
      have ht := fwrite_tail hT HB1.out HO1.out hrow3 (by rw [HE.out]; exact hg3) (by rw [HE.out]; exact hat3)
      have hr3 : Row w3 fb 86 #[fv, wv] := (hg3.block fb (by simp; omega) (fun e => hT.wv_ne (by rw [HE.out]; exact e.symm))).trans ((hT.row.under HB1.out hT.lt).past _)
      have t1 := hr3.cell 1
      have t2 := hr3.thaw 1
      rw [HE.out] at t1
      obtain ⟨a3, c3, hv3⟩ : ∃ a3 c3, v' = .slice a3 (ws.length + 1) c3 := by
        rcases hrow3.2 with ⟨_, h0⟩ | ⟨g, cap, cur, e, _⟩
        · omega
        · exact ⟨_, _, e⟩
      subst hv3
      have HT := Lib.hid ht
      clear ht hT hr3 hrow3 hg3 hat3 hrun
      refine hK.out _ _ trivial (fun _ => ?_)
      clear hK K
      refine wpAnyH_take (i := 9) (oi := ⟨some 13, _, _, _, _, _⟩) (v := ?_) rfl (by kernel_rfl) (by kernel_rfl) (by kernel_rfl) (fun _ _ _ h => h) (Or.inl ⟨by rfl, ?_⟩) trivial ?_
      rotate_left
      · intro W _
        go_simp
        with_reducible rfl
      simp only [Act.put, List.setIfInBounds_toArray, List.set_cons_zero, List.set_cons_succ]
      refine wpAnyH_take (i := 10) (oi := ⟨some 14, _, _, _, _, _⟩) (v := ?_) rfl (by kernel_rfl) (by kernel_rfl) (by kernel_rfl) (fun _ _ _ h => h) (Or.inl ⟨by rfl, ?_⟩) trivial ?_
      rotate_left
      · intro W _
        go_simp
        with_reducible rfl
      simp only [Act.put, List.setIfInBounds_toArray, List.set_cons_zero, List.set_cons_succ]
      refine wpAnyH_ready (rs := [11]) (by kernel_rfl) (by simp) ?_
      refine (AllReadyH.cons (o := ⟨none, _, _, _, _, _⟩) rfl (fun K hK => ?_) AllReadyH.nil)
      go_simp
      refine hK.out _ _ trivial (fun _ => ?_)
      clear hK K
      refine wpAnyH_done (by kernel_rfl) ?_ _
      go_wp2
      go_end0
      exact ⟨rfl, _, _, HT.out⟩
end Go.Proofs.Ythheolhghhmdlaa
