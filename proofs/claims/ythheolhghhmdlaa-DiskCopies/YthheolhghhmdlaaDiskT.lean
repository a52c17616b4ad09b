/- The document's disk, in memory. -/
import Derived.Test.YthheolhghhmdlaaDiskS
import Derived.RegionTactic
namespace Go.Proofs.Ythheolhghhmdlaa
open Go.RowKit Dsk

/-- Writes, in blocks of T. -/
def WsT (w : World) (T : Nat → Prop) (a : Option Addr) (ws : List By) : Prop :=
  ws = [] ∨ ∃ b o, a = some ⟨b, o, none⟩ ∧ T b ∧ ∀ (i : Nat) (l : By), ws[i]? = some l → ∃ a' c', w.cell? ⟨b, o + i, none⟩ = some (.slice a' l.length c') ∧ RdT byV w T a' l
theorem WsT.kept {w w' : World} {T : Nat → Prop} {a : Option Addr} {ws : List By} (h : WsT w T a ws) (hk : Kept T w w') : WsT w' T a ws := by
  rcases h with h | ⟨b, o, rfl, hT, h⟩
  · exact .inl h
  · refine .inr ⟨b, o, rfl, hT, fun i l hl => ?_⟩
    obtain ⟨a', c', h1, h2⟩ := h i l hl
    exact ⟨a', c', by rw [World.cell?_of_block (a := ⟨b, o + i, none⟩) (hk.1 b hT)]; exact h1, h2.kept hk⟩
theorem WsT.mono {w : World} {T T' : Nat → Prop} {a : Option Addr} {ws : List By} (h : WsT w T a ws) (hT : ∀ k, T k → T' k) : WsT w T' a ws := by
  rcases h with h | ⟨b, o, rfl, hb, h⟩
  · exact .inl h
  · refine .inr ⟨b, o, rfl, hT b hb, fun i l hl => ?_⟩
    obtain ⟨a', c', h1, h2⟩ := h i l hl
    exact ⟨a', c', h1, h2.mono hT⟩
theorem WsT.at_ {w : World} {T : Nat → Prop} {a : Option Addr} {ws : List By} (h : WsT w T a ws) {i : Nat} (hi : i < ws.length) : ∃ b o a' c', a = some ⟨b, o, none⟩ ∧ b < w.heap.size ∧ w.cell? ⟨b, o + i, none⟩ = some (.slice a' (ws[i]'hi).length c') ∧ RdT byV w T a' (ws[i]'hi) := by
  rcases h with rfl | ⟨b, o, rfl, hb, h⟩
  · simp at hi
  · obtain ⟨a', c', h1, h2⟩ := h i _ (List.getElem?_eq_getElem hi)
    exact ⟨b, o, a', c', rfl, block_lt_of_cell h1, h1, h2⟩
/-- A file of the document: the values of its cells, what it is. -/
structure Rf where
  fv : Value
  wv : Value
  fil : Fil
def Rf.name (r : Rf) : Nm := r.fil.name
theorem rf_key (r : Rf) : r.fil.name = r.name := rfl
def Rf.ok (w : World) (T : Nat → Prop) (r : Rf) : Prop := (∃ a c, r.fv = .slice a r.fil.firm.length c ∧ RdT byV w T a r.fil.firm) ∧ ∃ a c, r.wv = .slice a r.fil.ws.length c ∧ WsT w T a r.fil.ws
theorem Rf.ok.kept {w w' : World} {T : Nat → Prop} {r : Rf} (h : r.ok w T) (hk : Kept T w w') : r.ok w' T := by
  obtain ⟨⟨a, c, h1, h2⟩, a', c', h3, h4⟩ := h
  exact ⟨⟨a, c, h1, h2.kept hk⟩, a', c', h3, h4.kept hk⟩
theorem Rf.ok.mono {w : World} {T T' : Nat → Prop} {r : Rf} (h : r.ok w T) (hT : ∀ k, T k → T' k) : r.ok w T' := by
  obtain ⟨⟨a, c, h1, h2⟩, a', c', h3, h4⟩ := h
  exact ⟨⟨a, c, h1, h2.mono hT⟩, a', c', h3, h4.mono hT⟩
abbrev Rf.cells (r : Rf) : List Value := [.string ⟨r.name.toArray⟩, r.fv, r.wv]
abbrev fV (r : Rf) : Value := .agg #[.string ⟨r.name.toArray⟩, r.fv, r.wv]
abbrev dV (room : Int) (a : Option Addr) (n c : Nat) : Value := .agg #[.int .i64 room, .slice a n c]
def rcells : List Rf → List Value
  | [] => []
  | r :: t => .string ⟨r.name.toArray⟩ :: r.fv :: r.wv :: rcells t
theorem rcells_append (t s : List Rf) : rcells (t ++ s) = rcells t ++ rcells s := by
  induction t with
  | nil => rfl
  | cons x t ih => simp [rcells, ih]
theorem rcells_length (t : List Rf) : (rcells t).length = t.length * 3 := by
  induction t with
  | nil => rfl
  | cons x t ih => simp [rcells, ih]; omega
theorem rcells_get (t : List Rf) (j : Nat) (h : j < t.length) : (rcells t)[j * 3]? = some (.string ⟨(t[j]'h).name.toArray⟩) ∧ (rcells t)[j * 3 + 1]? = some (t[j]'h).fv ∧ (rcells t)[j * 3 + 2]? = some (t[j]'h).wv := by
  induction t generalizing j with
  | nil => simp at h
  | cons x t ih =>
    cases j with
    | zero => simp [rcells]
    | succ j =>
      have := ih j (by simpa using h)
      simpa [rcells, Nat.succ_mul] using this
/-- Files of the document, in a slice. -/
def Fs3 (w : World) (T : Nat → Prop) (a : Option Addr) (rs : List Rf) : Prop :=
  (rs = [] ∨ ∃ b o, a = some ⟨b, o, none⟩ ∧ T b ∧ ∀ (i : Nat) (r : Rf), rs[i]? = some r → w.cell? ⟨b, o + i * 3, none⟩ = some (.string ⟨r.name.toArray⟩) ∧ w.cell? ⟨b, o + i * 3 + 1, none⟩ = some r.fv ∧ w.cell? ⟨b, o + i * 3 + 2, none⟩ = some r.wv) ∧ ∀ r ∈ rs, r.ok w T
theorem Fs3.nil (w : World) (T : Nat → Prop) (a : Option Addr) : Fs3 w T a [] := ⟨.inl rfl, fun r hr => by cases hr⟩
theorem Fs3.kept {w w' : World} {T : Nat → Prop} {a : Option Addr} {rs : List Rf} (h : Fs3 w T a rs) (hk : Kept T w w') : Fs3 w' T a rs := by
  refine ⟨?_, fun r hr => (h.2 r hr).kept hk⟩
  rcases h.1 with h | ⟨b, o, rfl, hT, h⟩
  · exact .inl h
  · refine .inr ⟨b, o, rfl, hT, fun i r hr => ?_⟩
    have hs : ∀ j, w'.cell? ⟨b, j, none⟩ = w.cell? ⟨b, j, none⟩ := fun j => World.cell?_of_block (a := ⟨b, j, none⟩) (hk.1 b hT)
    rw [hs, hs, hs]
    exact h i r hr
theorem Fs3.mono {w : World} {T T' : Nat → Prop} {a : Option Addr} {rs : List Rf} (h : Fs3 w T a rs) (hT : ∀ k, T k → T' k) : Fs3 w T' a rs := by
  refine ⟨?_, fun r hr => (h.2 r hr).mono hT⟩
  rcases h.1 with h | ⟨b, o, rfl, hb, h⟩
  · exact .inl h
  · exact .inr ⟨b, o, rfl, hT b hb, h⟩
theorem Fs3.at_ {w : World} {T : Nat → Prop} {a : Option Addr} {rs : List Rf} (h : Fs3 w T a rs) {i : Nat} (hi : i < rs.length) : ∃ b o, a = some ⟨b, o, none⟩ ∧ b < w.heap.size ∧ T b ∧ w.cell? ⟨b, o + i * 3, none⟩ = some (.string ⟨(rs[i]'hi).name.toArray⟩) ∧ w.cell? ⟨b, o + i * 3 + 1, none⟩ = some (rs[i]'hi).fv ∧ w.cell? ⟨b, o + i * 3 + 2, none⟩ = some (rs[i]'hi).wv ∧ (rs[i]'hi).ok w T := by
  have hok := h.2 _ (List.getElem_mem hi)
  rcases h.1 with rfl | ⟨b, o, rfl, hb, h⟩
  · simp at hi
  · obtain ⟨h1, h2, h3⟩ := h i _ (List.getElem?_eq_getElem hi)
    exact ⟨b, o, rfl, block_lt_of_cell h1, hb, h1, h2, h3, hok⟩
theorem ownsRow_mono {w : World} {K K' s n : Nat} {t : TypeId} {v : Value} {xs : List Value} (h : w.ownsRow K t s v n xs) (hk : K' ≤ K) : w.ownsRow K' t s v n xs := by
  refine ⟨h.1, ?_⟩
  rcases h.2 with h | ⟨g, cap, cur, rfl, h1, h2⟩
  · exact .inl h
  · exact .inr ⟨g, cap, cur, rfl, Nat.le_trans hk h1, h2⟩
theorem kept_below {T : Nat → Prop} {w w' : World} (hT : ∀ k, T k → k < w.heap.size) (hb : Below w.heap.size w w') : Kept T w w' := ⟨fun k hk => hb.block k (hT k hk), hb.size⟩
theorem infoF : (Try.prog.info? 73).map (fun i => (i.zero, i.size, i.bytes)) = some (some (.agg #[.string ⟨#[]⟩, .slice none 0 0, .slice none 0 0]), 3, 64) := by kernel_rfl
/-- A slice of files of the call's own. -/
def FV (w : World) (K : Nat) (v : Value) (rs : List Rf) : Prop := w.ownsRow K 73 3 v rs.length (rcells rs)
theorem FV.nil (w : World) (K : Nat) : FV w K (.slice none 0 0) [] := World.ownsRow_nil _ _ _ _
theorem FV.shape {w : World} {K : Nat} {v : Value} {rs : List Rf} (h : FV w K v rs) : ∃ a c, v = .slice a rs.length c := by
  rcases h.2 with ⟨rfl, h0⟩ | ⟨g, cap, cur, rfl, _⟩
  · exact ⟨_, _, by rw [h0]⟩
  · exact ⟨_, _, rfl⟩
theorem FV.fs3 {w : World} {K : Nat} {a : Option Addr} {n c : Nat} {rs : List Rf} {T : Nat → Prop} (h : FV w K (.slice a n c) rs) (hok : ∀ r ∈ rs, r.ok w T) (hT : ∀ k, K ≤ k → k < w.heap.size → T k) : Fs3 w T a rs := by
  refine ⟨?_, hok⟩
  rcases h.2 with ⟨hv, h0⟩ | ⟨g, cap, cur, hv, h1, h2, h3, _, hs, ht⟩
  · exact .inl (List.eq_nil_of_length_eq_zero h0)
  · injection hv with hv _ _
    subst hv
    have hl : g < w.heap.size := (Array.getElem?_eq_some_iff.1 h2).1
    refine .inr ⟨g, 0, rfl, hT g h1 hl, fun i r hr => ?_⟩
    obtain ⟨hi, rfl⟩ := List.getElem?_eq_some_iff.1 hr
    obtain ⟨e1, e2, e3⟩ := rcells_get rs i hi
    rw [← ht, List.getElem?_take_of_lt (by omega)] at e1 e2 e3
    rw [Nat.zero_add, cell_of_row w g _ cur _ _ h2, cell_of_row w g _ cur _ _ h2, cell_of_row w g _ cur _ _ h2]
    exact ⟨by simpa using e1, by simpa using e2, by simpa using e3⟩
theorem Rf.ok.one {w : World} {T : Nat → Prop} {r : Rf} (h : r.ok w T) : r.fv.oneCell' = true ∧ r.wv.oneCell' = true := by
  obtain ⟨⟨a, c, h1, _⟩, a', c', h3, _⟩ := h
  rw [h1, h3]
  exact ⟨rfl, rfl⟩
theorem run_appendF {w : World} (K : Nat) (ty : TypeId) (v : Value) (rs : List Rf) (b : Nat) (r : Rf) (h : FV w K v rs) (hm : rs.length ≤ 1000000) (h0 : w.cell? ⟨b, 0, none⟩ = some (.string ⟨r.name.toArray⟩)) (h1 : w.cell? ⟨b, 1, none⟩ = some r.fv) (h2 : w.cell? ⟨b, 2, none⟩ = some r.wv) (hone : r.fv.oneCell' = true ∧ r.wv.oneCell' = true) (hK : K ≤ w.heap.size) :
    ∃ v' w', (Builtin.append_ #[25, 25] ty #[v, .slice (some ⟨b, 0, none⟩) 1 1]).run Try.prog w = .ok v' w' ∧ FV w' K v' (rs ++ [r]) ∧ w.grownBy w' v.ownBlock ∧ (v'.ownBlock = v.ownBlock ∨ v'.ownBlock = some w.heap.size) := by
  obtain ⟨inf, hi, hz0, hz1, hz2⟩ := info_parts infoF
  obtain ⟨v', w', hrun, q2, q3, _, q5⟩ := run_append_own_at (P := Try.prog) w K 25 ty 73 inf (.agg #[.string ⟨#[]⟩, .slice none 0 0, .slice none 0 0]) 3 64 Try.underlying25 hi hz0 hz1 hz2 rfl (by omega) v rs.length (rcells rs) h ⟨b, 0, none⟩ 1 1 r.cells rfl (by
      intro j u hu
      have ea : (⟨b, 0, none⟩ : Addr).add j = ⟨b, j, none⟩ := by
        unfold Addr.add
        by_cases q : j = 0 <;> simp [q]
      rw [ea]
      rcases j with _ | _ | _ | j
      · simp [Rf.cells] at hu
        rw [← hu]; exact h0
      · simp [Rf.cells] at hu
        rw [← hu]; exact h1
      · simp [Rf.cells] at hu
        rw [← hu]; exact h2
      · simp [Rf.cells] at hu) (by intro u hu; simp [Rf.cells] at hu; rcases hu with rfl | rfl | rfl; rfl; exact hone.1; exact hone.2) (by simp only [maxLen]; omega) (by omega) hK
  refine ⟨v', w', hrun, ?_, q3, q5⟩
  unfold FV
  rw [List.length_append, rcells_append]
  exact q2
theorem wpList_append2 {w : World} {ops : Array Oper} {rest : List Oper} {o : Oper} {a : Act} {Q : Exit → Act → World → Prop} {tv xv : Value} (hgd : o.guard = none) (t t' : TypeId) (s x : Operand) (ho : o.op = .call { callee := .builtin .append, args := #[s, x], argTypes := #[t, t'] }) (v' : Value) (w' : World) (hs : a.eval s = tv) (hx : a.eval x = xv)
    (hrun : (Builtin.append_ #[t, t'] o.type #[tv, xv]).run Try.prog w = .ok v' w') (h : wpList Try.prog ops Q rest (a.put o.dst v') w') : wpList Try.prog ops Q (o :: rest) a w := by
  refine wpList_plain hgd fun K' hK' => ?_
  unfold Oper.wp execOp
  simp only [ho, resolve, invoke, builtin, Sem.run_bind, Sem.run_pure, Result.andThen_ok, List.map_toArray, List.map_cons, List.map_nil, hs, hx, hrun]
  exact hK' _ _ h

set_option maxRecDepth 100000 in
/-- All bytes of a file. -/
theorem rall_any {w : World} {T : Nat → Prop} (r : Rf) (h : r.ok w T) (hT : ∀ k, T k → k < w.heap.size) (hz : r.fil.all.length ≤ 1000000000) (hw : r.fil.ws.length ≤ 1000000000) :
    Calls Try.prog 39 #[fV r] w fun e w' => ∃ v, e = .returned v ∧ Owns w' w.heap.size v r.fil.all ∧ Below w.heap.size w w' := by
  obtain ⟨fv, wv, n, firm, ws⟩ := r
  obtain ⟨⟨a, c, h1, h2⟩, a', c', h3, h4⟩ := h
  simp only at h1 h2 h3 h4 hz hw
  subst h1
  subst h3
  obtain ⟨w1, hw1⟩ : ∃ w1, w1 = w.alloc (.cells #[.string ⟨n.toArray⟩, .slice a firm.length c, .slice a' ws.length c'] 73) := ⟨_, rfl⟩
  have hb1 : Below w.heap.size w w1 := by rw [hw1]; exact (Below.refl _ _).alloc (Nat.le_refl _) _
  have hr1 : Row w1 w.heap.size 73 #[.string ⟨n.toArray⟩, .slice a firm.length c, .slice a' ws.length c'] := by rw [hw1]; exact Row.fresh w _ _
  have hs1 : w1.heap.size = w.heap.size + 1 := by rw [hw1]; simp
  have k1 : w1.cell? ⟨w.heap.size, 1, none⟩ = some (.slice a firm.length c) := hr1.cell 1
  have HF := Lib.hid (h2.kept (kept_below hT hb1))
  have HW := Lib.hid (h4.kept (kept_below hT hb1))
  have HB1 := Lib.hid hb1
  have HR1 := Lib.hid hr1
  have HS1 := Lib.hid hs1
  have HT1 := Lib.hid (show ∀ k, T k → k < w1.heap.size from fun k hk => by have := hT k hk; omega)
  have hz2 : (firm ++ ws.flatten).length ≤ 1000000000 := hz
  have HZ := Lib.hid hz2
  have hwI : (ws.length : Int) ≤ 1000000000 := by omega
  have hgl : w.heap.size < w1.heap.size := by omega
  have HW1 := Lib.hid hw1
  rw [hw1] at k1 hgl
  clear h2 h4 hb1 hr1 hs1 hT hz hz2 hw1
  show Calls Try.prog 39 #[.agg #[.string ⟨n.toArray⟩, .slice a firm.length c, .slice a' ws.length c']] w fun e w' => ∃ v, e = .returned v ∧ Owns w' w.heap.size v (firm ++ ws.flatten) ∧ Below w.heap.size w w'
  go_enter Try.func39, Try.ntmps39
  go_wp2_with (at_builtin; rw [← HW1.out]; refine wpList_appendB rfl _ _ rfl w1.heap.size (.slice none 0 0) [] firm a firm.length c rfl rfl rfl (Owns.none _ _) HF.out.bytes (by have := HZ.out; simp only [List.length_append] at this; simp; omega) (by simp) ?_; intro v2 w2 HO2 hg2 _; have HB2 := Lib.hid ((Below.refl w1.heap.size w1).grown hg2 (Nat.le_refl _) (fun k e => by simp [Value.ownBlock] at e)); clear hg2; obtain ⟨a2, c2, hv2, _⟩ := HO2.out.shape; subst hv2)
  rw [List.nil_append] at HO2
  try simp only [List.nil_append]
  have hbs := HB2.out.size
  go_loopw [3, 4] (fun o i wr => ∃ k : Nat, k ≤ ws.length ∧ i = .int .i64 k ∧ Owns wr w1.heap.size o (firm ++ pre ws k) ∧ Below w1.heap.size w1 wr) (fun _ i _ => ws.length - (intOf i).toNat)
  case atStart => exact ⟨0, by omega, rfl, by rw [pre_zero, List.append_nil]; exact HO2.out, HB2.out⟩
  case round =>
    obtain ⟨k, hk, rfl, hO, hb⟩ := hrel
    have HO := Lib.hid hO
    have HB := Lib.hid hb
    have k2 : wr.cell? ⟨w.heap.size, 2, none⟩ = some (.slice a' ws.length c') := (HR1.out.under hb (by have := HS1.out; omega)).cell 2
    have hgr : w.heap.size < wr.heap.size := by have := hb.size; have := HS1.out; omega
    obtain ⟨a3, c3, hv3, _⟩ := hO.shape
    subst hv3
    by_cases hlt : k < ws.length
    · have hlt' : (k : Int) < (ws.length : Int) := by omega
      obtain ⟨b, o, a4, c4, ea, hbl, hc4, hB4⟩ := (HW.out.kept (kept_below HT1.out hb)).at_ hlt
      subst ea
      have hp := pre_succ ws k hlt
      have hp2 := pre_le ws (k + 1)
      rw [hp] at hp2
      have HP := Lib.hid (show (firm ++ pre ws k).length + (ws[k]'hlt).length ≤ 1000000000 by
        have := HZ.out
        simp only [List.length_append] at *
        omega)
      have HPs := Lib.hid hp
      have HB4 := Lib.hid hB4
      clear hO hb hB4 hp hp2
      generalize (ws[k]'hlt) = x at *
      generalize hm : (firm ++ pre ws k).length = m at *
      have HM := Lib.hid hm
      clear hm
      go_wp2_with (at_builtin; refine wpList_appendB rfl _ _ rfl w1.heap.size (.slice a3 m c3) (firm ++ pre ws k) x a4 x.length c4 rfl rfl rfl HO.out HB4.out.bytes (by have := HP.out; have := HM.out; omega) HB.out.size ?_; intro v5 w5 HO5 hg5 _; have HB5 := Lib.hid (HB.out.grown hg5 HB.out.size (fun k e => (World.ownsRow.lt HO.out k e).1)); clear hg5; obtain ⟨a5, c5, hv5, _⟩ := HO5.out.shape; generalize hm5 : ((firm ++ pre ws k) ++ x).length = m5 at hv5; clear hm5; subst hv5)
      go_roundw
      case rel => exact ⟨k + 1, by omega, by go_num, by rw [HPs.out, ← List.append_assoc]; exact HO5.out, HB5.out⟩
      case measure => simp [intOf]; omega
    · have hlt' : ¬ (k : Int) < (ws.length : Int) := by omega
      have hkl : k = ws.length := by omega
      rw [hkl, pre_all] at HO ⊢
      clear hO hb
      generalize (firm ++ ws.flatten).length = m at *
      go_wp2
      go_ret
      have hh := HB1.out.trans (HB.out.mono HB1.out.size)
      exact ⟨_, rfl, ownsRow_mono HO.out (by have := HS1.out; omega), hh⟩
end Go.Proofs.Ythheolhghhmdlaa
