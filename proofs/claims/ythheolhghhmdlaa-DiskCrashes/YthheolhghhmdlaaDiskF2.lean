/- The document's disk: a crash. -/
import Derived.Test.YthheolhghhmdlaaDiskD8
import Derived.Test.YthheolhghhmdlaaDiskMath3
import Derived.Test.YthheolhghhmdlaaDiskR
namespace Go.Proofs.Ythheolhghhmdlaa.Dsk
open Go

/-- So many bytes of a write: what is behind the others, up to where the last one that stayed is. -/
def inn (s : By × Nat) (w : By) (m : Int) (j : Nat) : By × Nat := (s.1 ++ w.take (min j (stays m w)) ++ List.replicate (j - stays m w) 0, if 0 < min j (stays m w) then s.1.length + min j (stays m w) else s.2)
theorem inn_zero (s : By × Nat) (w : By) (m : Int) : inn s w m 0 = s := by
  unfold inn
  simp
theorem inn_stay {s : By × Nat} {w : By} {m : Int} {j : Nat} (hj : j < w.length) (h : j < stays m w) : inn s w m (j + 1) = ((inn s w m j).1 ++ [w[j]'hj], (inn s w m j).1.length + 1) := by
  unfold inn
  have e1 : min (j + 1) (stays m w) = j + 1 := by omega
  have e2 : min j (stays m w) = j := by omega
  have e3 : j + 1 - stays m w = 0 := by omega
  have e4 : j - stays m w = 0 := by omega
  rw [e1, e2, e3, e4, if_pos (by omega), List.take_succ_eq_append_getElem hj]
  simp
  omega
theorem inn_lost {s : By × Nat} {w : By} {m : Int} {j : Nat} (h : ¬ j < stays m w) : inn s w m (j + 1) = ((inn s w m j).1 ++ [0], (inn s w m j).2) := by
  unfold inn
  have e1 : min (j + 1) (stays m w) = stays m w := by omega
  have e2 : min j (stays m w) = stays m w := by omega
  have e3 : j + 1 - stays m w = (j - stays m w) + 1 := by omega
  rw [e1, e2, e3, List.replicate_succ']
  simp
theorem stays_iff {w : By} {m : Int} {j : Nat} (hj : j < w.length) : (j : Int) < m ↔ j < stays m w := by
  unfold stays
  omega
/-- So many writes. -/
def wrs (ws : List By) (mk : Nat → Int) : Nat → By × Nat
  | 0 => ([], 0)
  | k + 1 => inn (wrs ws mk k) (ws.getD k []) (mk k) (ws.getD k []).length
theorem inn_len (s : By × Nat) (w : By) (m : Int) (j : Nat) (hj : j ≤ w.length) : (inn s w m j).1.length = s.1.length + j := by
  unfold inn
  have := stays_le m w
  simp only [List.length_append, List.length_take, List.length_replicate]
  omega
theorem inn_last (s : By × Nat) (w : By) (m : Int) (j : Nat) (hj : j ≤ w.length) (hs : s.2 ≤ s.1.length) : (inn s w m j).2 ≤ (inn s w m j).1.length := by
  rw [inn_len s w m j hj]
  unfold inn
  simp only
  split <;> omega
theorem wrs_last (ws : List By) (mk : Nat → Int) : ∀ k, (wrs ws mk k).2 ≤ (wrs ws mk k).1.length
  | 0 => Nat.le_refl _
  | k + 1 => inn_last _ _ _ _ (Nat.le_refl _) (wrs_last ws mk k)
theorem wrs_len (ws : List By) (mk : Nat → Int) : ∀ k, k ≤ ws.length → (wrs ws mk k).1.length = (ws.take k).flatten.length
  | 0, _ => rfl
  | k + 1, h => by
    have hk : k < ws.length := h
    have e : ws.getD k [] = ws[k]'hk := by simp [List.getD, hk]
    show (inn (wrs ws mk k) (ws.getD k []) (mk k) (ws.getD k []).length).1.length = _
    rw [inn_len _ _ _ _ (Nat.le_refl _), wrs_len ws mk k (by omega), e, List.take_succ_eq_append_getElem hk, List.flatten_append, List.length_append]
    simp
/-- It is the crash. -/
theorem wrs_crash (firm : By) (ws : List By) (ms : List Int) : ∀ k, k ≤ ws.length → firm ++ (wrs ws (fun i => ms.getD i 0) k).1.take (wrs ws (fun i => ms.getD i 0) k).2 = (crashW (firm, 0) (ws.take k) ms).1 ∧
    (k ≤ ms.length → (wrs ws (fun i => ms.getD i 0) k).1 = (wrs ws (fun i => ms.getD i 0) k).1.take (wrs ws (fun i => ms.getD i 0) k).2 ++ List.replicate (crashW (firm, 0) (ws.take k) ms).2 0)
  | 0, _ => by simp [wrs, crashW]
  | k + 1, h => by
    have hk : k < ws.length := h
    obtain ⟨h1, h2⟩ := wrs_crash firm ws ms k (by omega)
    have hla := wrs_last ws (fun i => ms.getD i 0) k
    have e : ws.getD k [] = ws[k]'hk := by simp [List.getD, hk]
    have eW : wrs ws (fun i => ms.getD i 0) (k + 1) = inn (wrs ws (fun i => ms.getD i 0) k) (ws[k]'hk) (ms.getD k 0) (ws[k]'hk).length := by
      show inn _ (ws.getD k []) _ (ws.getD k []).length = _
      rw [e]
    rw [eW]
    generalize wrs ws (fun i => ms.getD i 0) k = s at *
    generalize hx : ws[k]'hk = x at *
    have hst := stays_le (ms.getD k 0) x
    have hmin : min x.length (stays (ms.getD k 0) x) = stays (ms.getD k 0) x := by omega
    by_cases hm : k < ms.length
    · have em : ms.getD k 0 = ms[k]'hm := by simp [List.getD, hm]
      rw [crashW_step ws ms _ k hk hm, hx]
      have h2' := h2 (by omega)
      unfold inn stepW
      rw [hmin, em] at *
      have htx := stays_le (ms[k]'hm) x
      generalize hs : stays (ms[k]'hm) x = t at *
      by_cases ht : t = 0
      · subst ht
        simp only [List.take_zero, List.append_nil, Nat.lt_irrefl, if_false, if_true, Nat.sub_zero]
        refine ⟨?_, fun _ => ?_⟩
        · rw [List.take_append_of_le_length hla]
          exact h1
        · rw [List.take_append_of_le_length hla, ← List.replicate_append_replicate, ← List.append_assoc, ← h2']
      · rw [if_pos (by omega), if_neg ht]
        simp only
        have et : (s.1 ++ x.take t ++ List.replicate (x.length - t) 0).take (s.1.length + t) = s.1 ++ x.take t := by
          rw [List.take_append_of_le_length (by simp; omega), List.take_of_length_le (by simp; omega)]
        refine ⟨?_, fun _ => ?_⟩
        · rw [et]
          conv => lhs; rw [h2']
          rw [← h1]
          simp
        · rw [et]
    · have em : ms.getD k 0 = 0 := by simp [List.getD, hm]
      have est : stays (ms.getD k 0) x = 0 := by rw [em]; unfold stays; simp
      unfold inn
      rw [hmin, est]
      simp only [List.take_zero, List.append_nil, Nat.lt_irrefl, if_false, Nat.sub_zero]
      refine ⟨?_, fun q => by omega⟩
      rw [List.take_append_of_le_length hla, h1, ← crashW_stop ws ms _ k (by omega), ← crashW_stop ws ms _ (k + 1) (by omega)]
end Go.Proofs.Ythheolhghhmdlaa.Dsk
namespace Go.Proofs.Ythheolhghhmdlaa
open Go.RowKit Dsk

/-- So many files were looked at. -/
structure CrO (w : World) (T : Nat → Prop) (room : Int) (v : Value) (fs : List Fil) (ms : List Int) (i : Nat) (done : List Rf) (a : Option Addr) (c : Nat) (wr : World) : Prop where
  mp : done.map Rf.fil = crashL (fs.take i) ms
  ro : Row wr (w.heap.size + 1 + 1) 27 #[.int .i64 room, .slice a done.length c]
  fv : FV wr (w.heap.size + 3) (.slice a done.length c) done
  ok : ∀ r ∈ done, r.ok wr (fun k => T k ∨ (w.heap.size + 3 ≤ k ∧ k < wr.heap.size ∧ (Value.slice a done.length c).ownBlock ≠ some k))
  rd : Row wr w.heap.size 27 #[.int .i64 room, v]
  rr : Row wr (w.heap.size + 1) 27 #[.int .i64 0, .slice none 0 0]
  back : Below w.heap.size w wr
  sz : w.heap.size + 3 ≤ wr.heap.size
def CrE (w : World) (T : Nat → Prop) (room : Int) (v : Value) (fs : List Fil) (ms : List Int) (i : Nat) (wr : World) : Prop := ∃ done a c, CrO w T room v fs ms i done a c wr
theorem cr_step {w wo w7 : World} {T : Nat → Prop} {room : Int} {v : Value} {fs : List Fil} {ms : List Int} {i : Nat} {done : List Rf} {a a7 : Option Addr} {c c7 m7 K7 : Nat} {nm : Nm} {fb : By} (hR : CrO w T room v fs ms i done a c wo) (hT : ∀ k, T k → k < w.heap.size) (hb7 : Below wo.heap.size wo w7) (hO7 : Owns w7 K7 (.slice a7 m7 c7) fb) (hK7 : wo.heap.size ≤ K7) (hm7 : m7 = fb.length) (hmp : crashL (fs.take (i + 1)) ms = crashL (fs.take i) ms ++ [⟨nm, fb, []⟩]) (hlen : done.length ≤ 100000) :
    ∃ a8 c8 m8 w8, (∀ ty, (Builtin.append_ #[25, 25] ty #[.slice a done.length c, .slice (some ⟨w7.heap.size, 0, none⟩) 1 1]).run Try.prog (w7.alloc (.cells #[.string ⟨nm.toArray⟩, .slice a7 m7 c7, .slice none 0 0] 73)) = .ok (.slice a8 m8 c8) w8) ∧ Row w8 (w.heap.size + 1 + 1) 27 #[.int .i64 room, .slice a done.length c] ∧ CrE w T room v fs ms (i + 1) (w8.setCell ⟨w.heap.size + 1 + 1, 1, none⟩ (.slice a8 m8 c8)) := by
  have hsz := hR.sz
  have hs7 := hb7.size
  obtain ⟨w7a, hw7a⟩ : ∃ w7a, w7a = w7.alloc (.cells #[.string ⟨nm.toArray⟩, .slice a7 m7 c7, .slice none 0 0] 73) := ⟨_, rfl⟩
  have al : Below w7.heap.size w7 w7a := by rw [hw7a]; exact (Below.refl _ _).alloc (Nat.le_refl _) _
  have hsa : w7a.heap.size = w7.heap.size + 1 := by rw [hw7a]; simp
  have hboa : Below wo.heap.size wo w7a := hb7.trans (al.mono hs7)
  have hrf : Row w7a w7.heap.size 73 #[.string ⟨nm.toArray⟩, .slice a7 m7 c7, .slice none 0 0] := by rw [hw7a]; exact Row.fresh w7 _ _
  have hfva : FV w7a (w.heap.size + 3) (.slice a done.length c) done := ownsRow_same hR.fv fun k hk => hboa.block k (World.ownsRow.lt hR.fv k hk).2
  obtain ⟨v8, w8, hrun, hfv8, hg8, hat8⟩ := run_appendF (w := w7a) (w.heap.size + 3) 25 (.slice a done.length c) done w7.heap.size ⟨.slice a7 m7 c7, .slice none 0 0, ⟨nm, fb, []⟩⟩ hfva (by omega) (hrf.cell 0) (hrf.cell 1) (hrf.cell 2) ⟨rfl, rfl⟩ (by omega)
  obtain ⟨a8, c8, hv8⟩ := hfv8.shape
  subst hv8
  have hown : ∀ k, (Value.slice a done.length c).ownBlock = some k → w.heap.size + 3 ≤ k ∧ k < wo.heap.size := fun k hk => World.ownsRow.lt hR.fv k hk
  obtain ⟨m8, hm8⟩ : ∃ m, m = (done ++ [(⟨.slice a7 m7 c7, .slice none 0 0, ⟨nm, fb, []⟩⟩ : Rf)]).length := ⟨_, rfl⟩
  rw [← hm8] at hrun hfv8 hat8
  have ro8 : Row w8 (w.heap.size + 1 + 1) 27 #[.int .i64 room, .slice a done.length c] := (hg8.block _ (by omega) (fun e => by have := hown _ e.symm; omega)).trans (hR.ro.under hboa (by have := hR.ro.lt; omega))
  have rd8 : Row w8 w.heap.size 27 #[.int .i64 room, v] := (hg8.block _ (by omega) (fun e => by have := hown _ e.symm; omega)).trans (hR.rd.under hboa (by have := hR.rd.lt; omega))
  have rr8 : Row w8 (w.heap.size + 1) 27 #[.int .i64 0, .slice none 0 0] := (hg8.block _ (by omega) (fun e => by have := hown _ e.symm; omega)).trans (hR.rr.under hboa (by have := hR.rr.lt; omega))
  have hs8 := hg8.size
  obtain ⟨wy, hwy⟩ : ∃ wy, wy = w8.setCell ⟨w.heap.size + 1 + 1, 1, none⟩ (.slice a8 m8 c8) := ⟨_, rfl⟩
  have hsy : wy.heap.size = w8.heap.size := by rw [hwy]; simp [World.setCell]
  have hyb : ∀ k, k ≠ w.heap.size + 1 + 1 → wy.heap[k]? = w8.heap[k]? := fun k hk => by rw [hwy]; exact Below.heap_setCell _ _ _ _ hk
  have hown8 : ∀ k, (Value.slice a8 m8 c8).ownBlock = some k → (Value.slice a done.length c).ownBlock = some k ∨ k = w7a.heap.size := fun k hk => by
    rcases hat8 with q | q
    · exact .inl (q ▸ hk)
    · rw [q] at hk; injection hk with hk; exact .inr hk.symm
  refine ⟨a8, c8, m8, w8, fun ty => by rw [← hw7a]; exact hrun, ro8, ?_⟩
  rw [← hwy]
  refine ⟨done ++ [⟨.slice a7 m7 c7, .slice none 0 0, ⟨nm, fb, []⟩⟩], a8, c8, by rw [List.map_append, hR.mp, hmp]; rfl, by rw [← hm8, hwy]; exact ro8.put 1 _, ?_, ?_, (hyb _ (by omega)).trans rd8, (hyb _ (by omega)).trans rr8, ?_, by omega⟩
  · rw [← hm8]
    exact ownsRow_same hfv8 fun k hk => hyb k (by have := (World.ownsRow.lt hfv8 k hk).1; omega)
  · intro r hr
    rw [← hm8]
    rcases List.mem_append.1 hr with q | q
    · refine ((hR.ok r q).kept ⟨fun k hk => ?_, by omega⟩).mono fun k hk => ?_
      · have hkw : k < wo.heap.size ∧ (Value.slice a done.length c).ownBlock ≠ some k ∧ k ≠ w.heap.size + 1 + 1 := by
          rcases hk with t | t
          · have := hT k t
            exact ⟨by omega, fun e => by have := hown k e; omega, by omega⟩
          · exact ⟨t.2.1, t.2.2, by omega⟩
        exact (hyb k hkw.2.2).trans ((hg8.block k (by omega) (fun e => hkw.2.1 e.symm)).trans (hboa.block k hkw.1))
      · rcases hk with t | t
        · exact .inl t
        · exact .inr ⟨t.1, by omega, fun e => (hown8 k e).elim t.2.2 (fun e' => by omega)⟩
    · rw [List.mem_singleton.1 q]
      refine ⟨⟨a7, c7, by rw [hm7], ?_⟩, none, 0, rfl, .inl rfl⟩
      obtain ⟨_, _, hv7, hB7, _⟩ := hO7.shape
      injection hv7 with e1 _ _
      subst e1
      rcases hB7 with t | ⟨b, o, rfl, t⟩
      · exact .inl t
      · have hlt := World.ownsRow.lt hO7 b rfl
        refine .inr ⟨b, o, rfl, .inr ⟨by omega, by omega, fun e => (hown8 b e).elim (fun e' => by have := hown b e'; omega) (fun e' => by omega)⟩, fun j y hy => ?_⟩
        have hbk : wy.heap[b]? = w7.heap[b]? := (hyb b (by omega)).trans ((hg8.block b (by omega) (fun e => by have := hown b e.symm; omega)).trans (al.block b hlt.2))
        rw [World.cell?_of_block (a := ⟨b, o + j, none⟩) hbk]
        exact t j y hy
  · rw [hwy]
    refine ((hR.back.trans (hboa.mono (by omega))).grown hg8 (by omega) (fun k e => by have := hown k e; omega)).setCell (by show w.heap.size ≤ w.heap.size + 1 + 1; omega) _
set_option maxRecDepth 100000 in
set_option maxHeartbeats 4000000 in
theorem rcrash_any {w : World} {T : Nat → Prop} {ad : Option Addr} {rs : List Rf} (room : Int) (c : Nat) (ms : List Int) (am : Option Addr) (cm : Nat) (h : Fs3 w T ad rs) (hT : ∀ k, T k → k < w.heap.size) (hs : sizeL (rs.map Rf.fil) + looseL (rs.map Rf.fil) + rs.length ≤ 100000) (hM : RdT numV w T am ms) (hm9 : ms.length ≤ 100000) :
    Calls Try.prog 24 #[dV room ad rs.length c, .slice am ms.length cm] w fun e w' => ∃ v rs', e = .returned v ∧ rs'.map Rf.fil = crashL (rs.map Rf.fil) ms ∧ RDisk w T room rs' v w' := by
  have HH := Lib.hid h
  have HT := Lib.hid hT
  have HS := Lib.hid hs
  have HMs := Lib.hid hM
  have hlI : (rs.length : Int) ≤ 100000 := by omega
  have hmI : (ms.length : Int) ≤ 100000 := by omega
  obtain ⟨w3, hw3⟩ : ∃ w3, w3 = ((w.alloc (.cells #[.int .i64 room, .slice ad rs.length c] 27)).alloc (.cells #[.int .i64 0, .slice none 0 0] 27)).alloc (.cells #[.int .i64 room, .slice none 0 0] 27) := ⟨_, rfl⟩
  have H0 := Lib.hid (show CrE w T room (.slice ad rs.length c) (rs.map Rf.fil) ms 0 w3 from by
    refine ⟨[], none, 0, rfl, ?_, FV.nil _ _, fun r hr => (by cases hr), by rw [hw3]; exact ((Row.fresh w _ _).past _).past _, ?_, by rw [hw3]; exact (((Below.refl _ _).alloc (Nat.le_refl _) _).alloc (by simp) _).alloc (by simp; omega) _, by rw [hw3]; simp⟩
    · rw [hw3]
      have := Row.fresh ((w.alloc (.cells #[.int .i64 room, .slice ad rs.length c] 27)).alloc (.cells #[.int .i64 0, .slice none 0 0] 27)) 27 #[.int .i64 room, .slice none 0 0]
      rw [World.size_alloc, World.size_alloc] at this
      exact this
    · rw [hw3]
      have := (Row.fresh (w.alloc (.cells #[.int .i64 room, .slice ad rs.length c] 27)) 27 #[.int .i64 0, .slice none 0 0]).past (.cells #[.int .i64 room, .slice none 0 0] 27)
      rw [World.size_alloc] at this
      exact this)
  have HW3 := Lib.hid hw3
  clear h hT hs hM hm9 hw3
  go_enter Try.func24, Try.ntmps24
  go_wp2
  rw [← HW3.out]
  go_loopw [6, 7, 8, 9, 10, 11, 12, 13, 14] (fun at_ i _ _ _ _ _ _ _ wr => ∃ k : Nat, k ≤ rs.length ∧ i = .int .i64 k ∧ at_ = .int .i64 (looseL ((rs.take k).map Rf.fil) : Nat) ∧ CrE w T room (.slice ad rs.length c) (rs.map Rf.fil) ms k wr) (fun _ i _ _ _ _ _ _ _ _ => rs.length - (intOf i).toNat)
  case atStart => exact ⟨0, by omega, rfl, rfl, H0.out⟩
  case round =>
    obtain ⟨i, hi, rfl, rfl, done, a, cc, hR⟩ := hrel
    clear H0
    obtain ⟨wo, hwo⟩ : ∃ wo, wo = wr := ⟨_, rfl⟩
    subst hwo
    have HR := Lib.hid hR
    have d1 : wo.cell? ⟨w.heap.size, 1, none⟩ = some (.slice ad rs.length c) := hR.rd.cell 1
    have dl := hR.rd.lt
    by_cases hlt : i < rs.length
    · have hlt' : (i : Int) < (rs.length : Int) := by omega
      obtain ⟨b, o, ea, hbl, hTb, c0, c1, c2, hok⟩ := (HH.out.kept (kept_below HT.out hR.back)).at_ hlt
      subst ea
      have hsm := rloose_take rs i hlt
      have hle := (rsize_le rs (i + 1))
      have hsz1 := rsize_take rs i hlt
      have HLo := Lib.hid (And.intro hsm (And.intro hle hsz1))
      have hmemk := crashL_take (rs.map Rf.fil) ms i (by simpa using hlt)
      have HCt := Lib.hid hmemk
      obtain ⟨⟨af, cf, ef, hfi⟩, aw, cw, ew, hws⟩ := hok
      rw [ef] at c1
      rw [ew] at c2
      obtain ⟨w5, hw5⟩ : ∃ w5, w5 = wo.alloc (.cells #[.string ⟨(rs[i]'hlt).name.toArray⟩, .slice af (rs[i]'hlt).fil.firm.length cf, .slice aw (rs[i]'hlt).fil.ws.length cw] 73) := ⟨_, rfl⟩
      have al5 : Below wo.heap.size wo w5 := by rw [hw5]; exact (Below.refl _ _).alloc (Nat.le_refl _) _
      have hTo : ∀ k, T k → k < wo.heap.size := fun k hk => Nat.lt_of_lt_of_le (HT.out k hk) hR.back.size
      have HP5 := Lib.hid (show Row w5 wo.heap.size 73 #[.string ⟨(rs[i]'hlt).name.toArray⟩, .slice af (rs[i]'hlt).fil.firm.length cf, .slice aw (rs[i]'hlt).fil.ws.length cw] by rw [hw5]; exact Row.fresh wo _ _)
      have HWs := Lib.hid (hws.kept (kept_below hTo al5))
      have HFi := Lib.hid (hfi.kept (kept_below hTo al5))
      have HMs5 := Lib.hid (HMs.out.kept (kept_below HT.out (hR.back.trans (al5.mono hR.back.size))))
      have HAl5 := Lib.hid al5
      have HW5 := Lib.hid hw5
      obtain ⟨at0, hat0⟩ : ∃ n, n = looseL ((rs.take i).map Rf.fil) := ⟨_, rfl⟩
      obtain ⟨mk, hmk⟩ : ∃ mk : Nat → Int, mk = fun q => ms.getD (at0 + q) 0 := ⟨_, rfl⟩
      have HMkd := Lib.hid hmk
      have hmemr := sm_at (rs := rs) (show Sm (rs.map Rf.fil) by unfold Sm; rw [List.length_map]; have := HS.out; omega) (List.getElem_mem hlt)
      have hsr := sum_mem (fun f : Fil => f.all.length) (List.mem_map_of_mem (f := Rf.fil) (List.getElem_mem hlt))
      have HAt := Lib.hid (show at0 + (rs[i]'hlt).fil.ws.length ≤ 100000 ∧ (rs[i]'hlt).fil.firm.length + (rs[i]'hlt).fil.ws.flatten.length ≤ 100000 by
        have h1 := HS.out
        have h2 := HLo.out
        refine ⟨by rw [hat0]; omega, ?_⟩
        unfold sizeL at h1
        have e1 : (rs[i]'hlt).fil.all.length = (rs[i]'hlt).fil.firm.length + (rs[i]'hlt).fil.ws.flatten.length := by unfold Fil.all; simp
        omega)
      have HAt0 := Lib.hid hat0
      rw [← hat0]
      have hwsI : ((rs[i]'hlt).fil.ws.length : Int) ≤ 100000 := by have := HAt.out; omega
      clear hR hfi hws ef ew al5 hTo hsm hle hsz1 hmemk hat0 hmk hmemr hsr hw5
      obtain ⟨r0, hr0⟩ : ∃ r0, r0 = rs[i]'hlt := ⟨_, rfl⟩
      rw [← hr0] at c0 c1 c2 HP5 HWs HFi HAt HW5 hwsI
      have HR0 := Lib.hid hr0
      clear hr0
      obtain ⟨rfv, rwv, rn, firm, ws⟩ := r0
      simp only [Rf.name] at c0 c1 c2 HP5 HWs HFi HAt HW5 hwsI
      go_wp2
      go_loopw [6, 9, 10, 11, 12, 13] (fun ai rv la ki _ _ wr => ∃ kk : Nat, kk ≤ ws.length ∧ ki = .int .i64 kk ∧ ai = .int .i64 ((at0 + kk : Nat) : Int) ∧ la = .int .i64 ((wrs ws mk kk).2 : Nat) ∧ Owns wr w5.heap.size rv (wrs ws mk kk).1 ∧ Below w5.heap.size w5 wr) (fun _ _ _ ki _ _ _ => ws.length - (intOf ki).toNat)
      case atStart => exact ⟨0, by omega, rfl, by simp, rfl, Owns.none _ _, by rw [HW5.out]; exact Below.refl _ _⟩
      case round =>
        obtain ⟨kk, hkk, rfl, rfl, rfl, hO2, hb2⟩ := hrel
        have HO2 := Lib.hid hO2
        have HB2 := Lib.hid hb2
        obtain ⟨w2, hw2⟩ : ∃ w2, w2 = wr := ⟨_, rfl⟩
        subst hw2
        have g2 : w2.cell? ⟨wo.heap.size, 2, none⟩ = some (.slice aw ws.length cw) := (HP5.out.under hb2 HP5.out.lt).cell 2
        have gl : wo.heap.size < w2.heap.size := (HP5.out.under hb2 HP5.out.lt).lt
        obtain ⟨a2, c2, hv2, _⟩ := hO2.shape
        obtain ⟨m2, hm2⟩ : ∃ m, m = (wrs ws mk kk).1.length := ⟨_, rfl⟩
        have hwl := wrs_len ws mk kk hkk
        have hwla := wrs_last ws mk kk
        rw [← hm2] at hv2
        subst hv2
        have haI : ((at0 + kk : Nat) : Int) ≤ 200000 := by have := HAt.out; omega
        clear hO2
        by_cases hlt2 : kk < ws.length
        · have hlt2' : (kk : Int) < (ws.length : Int) := by omega
          obtain ⟨bw, ow, ax, cx, ea, hbw, hcw, hRx⟩ := HWs.out.at_ hlt2
          subst ea
          have HRx := Lib.hid hRx
          have hfl := flatten_take_le ws (kk + 1)
          rw [flatten_take_succ ws kk hlt2] at hfl
          have HSl := Lib.hid (show (wrs ws mk kk).2 ≤ (wrs ws mk kk).1.length ∧ (wrs ws mk kk).1.length ≤ 100000 from ⟨hwla, by have := HAt.out; rw [hwl]; simp only [List.length_append] at hfl; omega⟩)
          have HXl := Lib.hid (show (wrs ws mk kk).1.length + (ws[kk]'hlt2).length ≤ 100000 by have := HAt.out; rw [hwl]; simp only [List.length_append] at hfl; omega)
          have hgd : ws.getD kk [] = ws[kk]'hlt2 := by simp [List.getD, hlt2]
          have hxw0 : ∀ mv, mv = mk kk → inn (wrs ws mk kk) (ws[kk]'hlt2) mv (ws[kk]'hlt2).length = wrs ws mk (kk + 1) := fun mv e => by
            show _ = inn (wrs ws mk kk) (ws.getD kk []) (mk kk) (ws.getD kk []).length
            rw [hgd, e]
          have HXw0 := Lib.hid hxw0
          have HMk := Lib.hid (show mk kk = ms.getD (at0 + kk) 0 by rw [HMkd.out])
          have hxI : ((ws[kk]'hlt2).length : Int) ≤ 100000 := by have := HXl.out; omega
          clear hRx hfl hgd hxw0 hwl hwla hb2
          generalize hxx : (ws[kk]'hlt2) = x at *
          generalize hss : wrs ws mk kk = s at *
          generalize hat : at0 + kk = an at *
          have HAn := Lib.hid hat
          clear hm2
          by_cases hmm : an < ms.length
          · have hmm' : (an : Int) < (ms.length : Int) := by omega
            obtain ⟨bm, om, eam, hbm, _, hcm⟩ := (HMs5.out.only (Only.of_below (fun _ => False) HB2.out) (fun _ _ q => q)).at_ (i := an) hmm
            subst eam
            unfold numV at hcm
            obtain ⟨mv, hmv⟩ : ∃ mv, mv = ms[an]'hmm := ⟨_, rfl⟩
            rw [← hmv] at hcm
            have HXw := Lib.hid (HXw0.out mv (by rw [HMk.out, hmv]; simp [List.getD, hmm]))
            clear hmv
            go_wp2
            go_loopw [9, 10, 13] (fun rv la ji wr => ∃ j : Nat, j ≤ x.length ∧ ji = .int .i64 j ∧ la = .int .i64 ((inn s x mv j).2 : Nat) ∧ Owns wr w5.heap.size rv (inn s x mv j).1 ∧ Below w5.heap.size w5 wr) (fun _ _ ji _ => x.length - (intOf ji).toNat)
            case atStart => exact ⟨0, by omega, rfl, by rw [inn_zero], by rw [inn_zero]; exact HO2.out, HB2.out⟩
            case round =>
              obtain ⟨j, hj, rfl, rfl, hO3, hb3⟩ := hrel
              have HO3 := Lib.hid hO3
              have HB3 := Lib.hid hb3
              obtain ⟨a3, c3, hv3, _⟩ := hO3.shape
              have hin := inn_len s x mv j hj
              have HIn3 := Lib.hid (And.intro hin (inn_last s x mv j hj HSl.out.1))
              obtain ⟨m3, hm3⟩ : ∃ m, m = (inn s x mv j).1.length := ⟨_, rfl⟩
              have HIn := Lib.hid hm3.symm
              rw [← hm3] at hv3 HIn3
              subst hv3
              have p2 : wr.cell? ⟨wo.heap.size, 2, none⟩ = some (.slice (some ⟨bw, ow, none⟩) ws.length cw) := (HP5.out.under hb3 HP5.out.lt).cell 2
              have pl : wo.heap.size < wr.heap.size := (HP5.out.under hb3 HP5.out.lt).lt
              have q2 : wr.cell? ⟨bw, ow + kk, none⟩ = some (.slice ax x.length cx) := (hb3.cell (p := ⟨bw, ow + kk, none⟩) hbw).trans hcw
              have ql : bw < wr.heap.size := Nat.lt_of_lt_of_le hbw hb3.size
              have hmI3 : (m3 : Int) ≤ 1000000 := by have h1 := HIn3.out.1; have := HSl.out; have := HXl.out; omega
              clear hO3 hm3
              by_cases hlt3 : j < x.length
              · have hlt3' : (j : Int) < (x.length : Int) := by omega
                by_cases hst : j < stays mv x
                · have hst' : (j : Int) < mv := (stays_iff hlt3).2 hst
                  obtain ⟨bx, ox, eax, hbx, _, hcx⟩ := HRx.out.at_ (i := j) hlt3
                  have hcx' : wr.cell? ⟨bx, ox + j, none⟩ = some (.int .u8 (B (x[j]'hlt3))) := (hb3.cell (p := ⟨bx, ox + j, none⟩) hbx).trans hcx
                  have hbx' : bx < wr.heap.size := Nat.lt_of_lt_of_le hbx hb3.size
                  subst eax
                  have HStep := Lib.hid (inn_stay (s := s) (m := mv) hlt3 hst)
                  clear hcx
                  generalize (x[j]'hlt3) = y at *
                  have HSrc := Lib.hid (show Bytes (wr.alloc (.cells #[.int .u8 (B y)] 5)) (some ⟨wr.heap.size, 0, none⟩) [y] from Bytes.of_row (Row.fresh wr _ _) (fun i y hy => by rcases i with _ | i <;> simp at hy; subst hy; rfl))
                  have HOa := Lib.hid (HO3.out.under ((Below.refl wr.heap.size wr).alloc (Nat.le_refl _) (.cells #[.int .u8 (B y)] 5)) (Nat.le_refl _))
                  have HBa := Lib.hid (hb3.alloc hb3.size (.cells #[.int .u8 (B y)] 5))
                  clear hb3 hin
                  go_wp2_with (at_builtin; refine wpList_appendB rfl _ _ rfl w5.heap.size (.slice a3 m3 c3) (inn s x mv j).1 [y] (some ⟨wr.heap.size, 0, none⟩) 1 1 rfl rfl rfl HOa.out HSrc.out (by have := HIn3.out; have := HSl.out; have := HXl.out; rw [HIn.out]; simp; omega) (by have := HBa.out.size; omega) ?_; intro v4 w4 HO4 hg4 _; have HB4 := Lib.hid (HBa.out.grown hg4 HBa.out.size (fun k e => (World.ownsRow.lt HO3.out k e).1)); clear hg4; obtain ⟨a4, c4, hv4, _⟩ := HO4.out.shape; have hm4 : ((inn s x mv j).1 ++ [y]).length = m3 + 1 := (by rw [List.length_append, HIn.out]; rfl); rw [hm4] at hv4; subst hv4)
                  go_roundw
                  case rel =>
                    have hE : ∃ j' : Nat, j' ≤ x.length ∧ (.int .i64 ((j : Int) + 1) : Value) = .int .i64 (j' : Nat) ∧ (.int .i64 ((m3 : Int) + 1) : Value) = .int .i64 ((inn s x mv j').2 : Nat) ∧ Owns w4 w5.heap.size (.slice a4 (m3 + 1) c4) (inn s x mv j').1 ∧ Below w5.heap.size w5 w4 := ⟨j + 1, by omega, by go_num, by rw [HStep.out, HIn.out]; go_num, by rw [HStep.out]; exact HO4.out, HB4.out⟩
                    first
                      | exact hE
                      | exact ⟨_, _, _, hE, rfl, rfl, rfl⟩
                  case measure => simp [intOf]; omega
                · have hst' : ¬ (j : Int) < mv := fun q => hst ((stays_iff hlt3).1 q)
                  have HStep := Lib.hid (inn_lost (s := s) hst)
                  have HSrc := Lib.hid (show Bytes (wr.alloc (.cells #[.int .u8 0] 5)) (some ⟨wr.heap.size, 0, none⟩) [(0 : BitVec 8)] from Bytes.of_row (Row.fresh wr _ _) (fun i y hy => by rcases i with _ | i <;> simp at hy; subst hy; rfl))
                  have HOa := Lib.hid (HO3.out.under ((Below.refl wr.heap.size wr).alloc (Nat.le_refl _) (.cells #[.int .u8 0] 5)) (Nat.le_refl _))
                  have HBa := Lib.hid (hb3.alloc hb3.size (.cells #[.int .u8 0] 5))
                  clear hb3 hin
                  go_wp2_with (at_builtin; refine wpList_appendB rfl _ _ rfl w5.heap.size (.slice a3 m3 c3) (inn s x mv j).1 [(0 : BitVec 8)] (some ⟨wr.heap.size, 0, none⟩) 1 1 rfl rfl rfl HOa.out HSrc.out (by have := HIn3.out; have := HSl.out; have := HXl.out; rw [HIn.out]; simp; omega) (by have := HBa.out.size; omega) ?_; intro v4 w4 HO4 hg4 _; have HB4 := Lib.hid (HBa.out.grown hg4 HBa.out.size (fun k e => (World.ownsRow.lt HO3.out k e).1)); clear hg4; obtain ⟨a4, c4, hv4, _⟩ := HO4.out.shape; have hm4 : ((inn s x mv j).1 ++ [(0 : BitVec 8)]).length = m3 + 1 := (by rw [List.length_append, HIn.out]; rfl); rw [hm4] at hv4; subst hv4)
                  go_roundw
                  case rel =>
                    have hE : ∃ j' : Nat, j' ≤ x.length ∧ (.int .i64 ((j : Int) + 1) : Value) = .int .i64 (j' : Nat) ∧ (.int .i64 ((inn s x mv j).2 : Nat) : Value) = .int .i64 ((inn s x mv j').2 : Nat) ∧ Owns w4 w5.heap.size (.slice a4 (m3 + 1) c4) (inn s x mv j').1 ∧ Below w5.heap.size w5 w4 := ⟨j + 1, by omega, by go_num, by rw [HStep.out], by rw [HStep.out]; exact HO4.out, HB4.out⟩
                    first
                      | exact hE
                      | exact ⟨_, _, _, hE, rfl, rfl, rfl⟩
                  case measure => simp [intOf]; omega
              · have hlt3' : ¬ (j : Int) < (x.length : Int) := by omega
                have hjx : j = x.length := by omega
                have hnext : inn s x mv j = wrs ws mk (kk + 1) := by
                  rw [hjx, HXw.out]
                rw [hnext] at HO3 ⊢
                clear hb3 hin
                go_wp2
                go_roundw
                case rel =>
                  have hE : ∃ kk' : Nat, kk' ≤ ws.length ∧ (.int .i64 ((kk : Int) + 1) : Value) = .int .i64 (kk' : Nat) ∧ (.int .i64 ((an : Int) + 1) : Value) = .int .i64 ((at0 + kk' : Nat) : Int) ∧ (.int .i64 ((wrs ws mk (kk + 1)).2 : Nat) : Value) = .int .i64 ((wrs ws mk kk').2 : Nat) ∧ Owns wr w5.heap.size (.slice a3 m3 c3) (wrs ws mk kk').1 ∧ Below w5.heap.size w5 wr := ⟨kk + 1, by omega, by go_num, by have := HAn.out; congr 1; omega, rfl, HO3.out, HB3.out⟩
                  first
                    | exact hE
                    | exact ⟨_, _, _, _, _, _, hE, rfl, rfl, rfl, rfl, rfl, rfl⟩
                case measure => simp [intOf]; omega
          · have hmm' : ¬ (an : Int) < (ms.length : Int) := by omega
            have HXw := Lib.hid (HXw0.out 0 (by rw [HMk.out]; simp [List.getD, hmm]))
            go_wp2
            go_loopw [9, 10, 13] (fun rv la ji wr => ∃ j : Nat, j ≤ x.length ∧ ji = .int .i64 j ∧ la = .int .i64 ((inn s x (0 : Int) j).2 : Nat) ∧ Owns wr w5.heap.size rv (inn s x (0 : Int) j).1 ∧ Below w5.heap.size w5 wr) (fun _ _ ji _ => x.length - (intOf ji).toNat)
            case atStart => exact ⟨0, by omega, rfl, by rw [inn_zero], by rw [inn_zero]; exact HO2.out, HB2.out⟩
            case round =>
              obtain ⟨j, hj, rfl, rfl, hO3, hb3⟩ := hrel
              have HO3 := Lib.hid hO3
              have HB3 := Lib.hid hb3
              obtain ⟨a3, c3, hv3, _⟩ := hO3.shape
              have hin := inn_len s x (0 : Int) j hj
              have HIn3 := Lib.hid (And.intro hin (inn_last s x (0 : Int) j hj HSl.out.1))
              obtain ⟨m3, hm3⟩ : ∃ m, m = (inn s x (0 : Int) j).1.length := ⟨_, rfl⟩
              have HIn := Lib.hid hm3.symm
              rw [← hm3] at hv3 HIn3
              subst hv3
              have p2 : wr.cell? ⟨wo.heap.size, 2, none⟩ = some (.slice (some ⟨bw, ow, none⟩) ws.length cw) := (HP5.out.under hb3 HP5.out.lt).cell 2
              have pl : wo.heap.size < wr.heap.size := (HP5.out.under hb3 HP5.out.lt).lt
              have q2 : wr.cell? ⟨bw, ow + kk, none⟩ = some (.slice ax x.length cx) := (hb3.cell (p := ⟨bw, ow + kk, none⟩) hbw).trans hcw
              have ql : bw < wr.heap.size := Nat.lt_of_lt_of_le hbw hb3.size
              have hmI3 : (m3 : Int) ≤ 1000000 := by have h1 := HIn3.out.1; have := HSl.out; have := HXl.out; omega
              clear hO3 hm3
              by_cases hlt3 : j < x.length
              · have hlt3' : (j : Int) < (x.length : Int) := by omega
                have hst : ¬ j < stays (0 : Int) x := by unfold stays; simp
                have hst' : ¬ (j : Int) < (0 : Int) := by omega
                have HStep := Lib.hid (inn_lost (s := s) hst)
                have HSrc := Lib.hid (show Bytes (wr.alloc (.cells #[.int .u8 0] 5)) (some ⟨wr.heap.size, 0, none⟩) [(0 : BitVec 8)] from Bytes.of_row (Row.fresh wr _ _) (fun i y hy => by rcases i with _ | i <;> simp at hy; subst hy; rfl))
                have HOa := Lib.hid (HO3.out.under ((Below.refl wr.heap.size wr).alloc (Nat.le_refl _) (.cells #[.int .u8 0] 5)) (Nat.le_refl _))
                have HBa := Lib.hid (hb3.alloc hb3.size (.cells #[.int .u8 0] 5))
                clear hb3 hin
                go_wp2_with (at_builtin; refine wpList_appendB rfl _ _ rfl w5.heap.size (.slice a3 m3 c3) (inn s x (0 : Int) j).1 [(0 : BitVec 8)] (some ⟨wr.heap.size, 0, none⟩) 1 1 rfl rfl rfl HOa.out HSrc.out (by have := HIn3.out; have := HSl.out; have := HXl.out; rw [HIn.out]; simp; omega) (by have := HBa.out.size; omega) ?_; intro v4 w4 HO4 hg4 _; have HB4 := Lib.hid (HBa.out.grown hg4 HBa.out.size (fun k e => (World.ownsRow.lt HO3.out k e).1)); clear hg4; obtain ⟨a4, c4, hv4, _⟩ := HO4.out.shape; have hm4 : ((inn s x (0 : Int) j).1 ++ [(0 : BitVec 8)]).length = m3 + 1 := (by rw [List.length_append, HIn.out]; rfl); rw [hm4] at hv4; subst hv4)
                go_roundw
                case rel =>
                  have hE : ∃ j' : Nat, j' ≤ x.length ∧ (.int .i64 ((j : Int) + 1) : Value) = .int .i64 (j' : Nat) ∧ (.int .i64 ((inn s x (0 : Int) j).2 : Nat) : Value) = .int .i64 ((inn s x (0 : Int) j').2 : Nat) ∧ Owns w4 w5.heap.size (.slice a4 (m3 + 1) c4) (inn s x (0 : Int) j').1 ∧ Below w5.heap.size w5 w4 := ⟨j + 1, by omega, by go_num, by rw [HStep.out], by rw [HStep.out]; exact HO4.out, HB4.out⟩
                  first
                    | exact hE
                    | exact ⟨_, _, _, hE, rfl, rfl, rfl⟩
                case measure => simp [intOf]; omega
              · have hlt3' : ¬ (j : Int) < (x.length : Int) := by omega
                have hjx : j = x.length := by omega
                have hnext : inn s x (0 : Int) j = wrs ws mk (kk + 1) := by
                  rw [hjx, HXw.out]
                rw [hnext] at HO3 ⊢
                clear hb3 hin
                go_wp2
                go_roundw
                case rel =>
                  have hE : ∃ kk' : Nat, kk' ≤ ws.length ∧ (.int .i64 ((kk : Int) + 1) : Value) = .int .i64 (kk' : Nat) ∧ (.int .i64 ((an : Int) + 1) : Value) = .int .i64 ((at0 + kk' : Nat) : Int) ∧ (.int .i64 ((wrs ws mk (kk + 1)).2 : Nat) : Value) = .int .i64 ((wrs ws mk kk').2 : Nat) ∧ Owns wr w5.heap.size (.slice a3 m3 c3) (wrs ws mk kk').1 ∧ Below w5.heap.size w5 wr := ⟨kk + 1, by omega, by go_num, by have := HAn.out; congr 1; omega, rfl, HO3.out, HB3.out⟩
                  first
                    | exact hE
                    | exact ⟨_, _, _, _, _, _, hE, rfl, rfl, rfl, rfl, rfl, rfl⟩
                case measure => simp [intOf]; omega
        · have hlt2' : ¬ (kk : Int) < (ws.length : Int) := by omega
          have hkl : kk = ws.length := by omega
          have hwc := (wrs_crash firm ws (ms.drop at0) ws.length (Nat.le_refl _)).1
          have hmke : mk = fun q => (ms.drop at0).getD q 0 := by
            rw [HMkd.out]
            funext q
            simp [List.getD]
          rw [← hmke, List.take_length] at hwc
          rw [hkl] at hm2 hwl hwla HO2
          rw [hkl, show (at0 + ws.length : Nat) = at0 + ws.length from rfl]
          have hla2 : (wrs ws mk ws.length).2 ≤ m2 := by rw [hm2]; exact hwla
          have hm2b : m2 ≤ 100000 := by rw [hm2, hwl, List.take_length]; have := HAt.out; omega
          have hcap : m2 ≤ c2 := by
            obtain ⟨_, c2', e2', _, h2'⟩ := HO2.out.shape
            injection e2' with _ _ e3
            rw [hm2, e3]
            exact h2'
          have hlaI : ((wrs ws mk ws.length).2 : Int) ≤ (m2 : Int) := by omega
          have hlaC : ((wrs ws mk ws.length).2 : Int) ≤ (c2 : Int) := by omega
          have h1g : w2.cell? ⟨wo.heap.size, 1, none⟩ = some (.slice af firm.length cf) := (HP5.out.under hb2 HP5.out.lt).cell 1
          have hfib := HFi.out.only (Only.of_below (fun _ => False) hb2) (fun _ _ q => q)
          have HFib := Lib.hid hfib.bytes
          have hpt := (wrs ws mk ws.length).1.length_take_le
          have HLt := Lib.hid (show ((wrs ws mk ws.length).1.take (wrs ws mk ws.length).2).length = (wrs ws mk ws.length).2 by rw [List.length_take]; omega)
          have hRe := (HO2.out.shape)
          have HReB := Lib.hid (show Bytes w2 a2 (wrs ws mk ws.length).1 from by
            obtain ⟨a2', _, e2', hB', _⟩ := HO2.out.shape
            injection e2' with e3 _ _
            rw [e3]
            exact hB')
          have HMp := Lib.hid (show crashL ((rs.map Rf.fil).take (i + 1)) ms = crashL ((rs.map Rf.fil).take i) ms ++ [⟨rn, firm ++ (wrs ws mk ws.length).1.take (wrs ws mk ws.length).2, []⟩] by
            rw [HCt.out, hwc, List.getElem_map, ← HR0.out, ← List.map_take, ← HAt0.out]
            rfl)
          have HDl := Lib.hid (show done.length ≤ 100000 by
            have h1 := congrArg List.length HR.out.mp
            rw [List.length_map, crashL_length, List.length_take, List.length_map] at h1
            have := HS.out
            omega)
          have HS5 := Lib.hid (show w5.heap.size = wo.heap.size + 1 by rw [HW5.out]; simp)
          have HAt1 := Lib.hid (show looseL ((rs.take (i + 1)).map Rf.fil) = at0 + ws.length by rw [HLo.out.1, ← HAt0.out, ← HR0.out])
          have HBs := Lib.hid (show firm.length + (wrs ws mk ws.length).2 ≤ 200000 by have := HAt.out; omega)
          have HWc := Lib.hid hwc
          clear hwc hmke hm2 hwl hwla hla2 hm2b hfib hpt hRe hb2 hkl
          generalize hrest : wrs ws mk ws.length = s at *
          generalize s.2 = la at *
          go_wp2_with (first
            | (at_builtin; refine wpList_appendB rfl _ _ rfl w5.heap.size (.slice none 0 0) [] firm af firm.length cf rfl rfl rfl (Owns.none _ _) HFib.out (by have := HBs.out; simp; omega) HB2.out.size ?_; intro v6 w6 HO6 hg6 _; rw [List.nil_append] at HO6; have HB6 := Lib.hid (HB2.out.grown hg6 HB2.out.size (fun k e => by simp [Value.ownBlock] at e)); have hb26 : Below w2.heap.size w2 w6 := (Below.refl _ _).grown hg6 (Nat.le_refl _) (fun k e => by simp [Value.ownBlock] at e); have HRe6 := Lib.hid (HReB.out.under hb26); clear hg6 hb26; obtain ⟨a6, c6, hv6, _⟩ := HO6.out.shape; subst hv6)
            | (at_builtin; refine wpList_appendB rfl _ _ rfl w5.heap.size (.slice a6 firm.length c6) firm (s.1.take la) a2 la c2 rfl rfl HLt.out.symm HO6.out (HRe6.out.takeB la) (by have := HBs.out; have := HLt.out; omega) HB6.out.size ?_; intro v7 w7 HO7 hg7 _; have HB7 := Lib.hid (HB6.out.grown hg7 HB6.out.size (fun k e => (World.ownsRow.lt HO6.out k e).1)); clear hg7; obtain ⟨a7, c7, hv7, _⟩ := HO7.out.shape; generalize hm7 : (firm ++ s.1.take la).length = m7 at hv7; have HM7 := Lib.hid hm7; clear hm7; subst hv7; have hb57 : Below wo.heap.size wo w7 := HAl5.out.trans (HB7.out.mono (by have := HS5.out; omega)); obtain ⟨a8, c8, m8, w8, hrun8, ro8, hcr8⟩ := cr_step HR.out HT.out hb57 HO7.out (by have := HS5.out; omega) HM7.out.symm HMp.out HDl.out; have HRun8 := Lib.hid hrun8; have HCr8 := Lib.hid hcr8; have u1 : w7.cell? ⟨w.heap.size + 1 + 1, 1, none⟩ = some (.slice a done.length cc) := (HR.out.ro.under hb57 HR.out.ro.lt).cell 1; have ul := (HR.out.ro.under hb57 HR.out.ro.lt).lt; have n0 : w7.cell? ⟨wo.heap.size, 0, none⟩ = some (.string ⟨rn.toArray⟩) := (HP5.out.under HB7.out HP5.out.lt).cell 0; have nl := (HP5.out.under HB7.out HP5.out.lt).lt; have x1 : w8.cell? ⟨w.heap.size + 1 + 1, 1, none⟩ = some (.slice a done.length cc) := ro8.cell 1; have xf := ro8.thaw 1; have xl := ro8.lt; clear hb57 hrun8 hcr8 ro8)
            | (at_builtin; refine wpList_append2 rfl _ _ _ _ rfl _ _ rfl rfl (HRun8.out _) ?_))
          go_roundw
          case rel =>
            have hE : ∃ k : Nat, k ≤ rs.length ∧ (.int .i64 ((i : Int) + 1) : Value) = .int .i64 (k : Nat) ∧ (.int .i64 ((at0 : Int) + (ws.length : Int)) : Value) = .int .i64 (looseL ((rs.take k).map Rf.fil) : Nat) ∧ CrE w T room (.slice (some ⟨b, o, none⟩) rs.length c) (rs.map Rf.fil) ms k (w8.setCell ⟨w.heap.size + 1 + 1, 1, none⟩ (.slice a8 m8 c8)) := ⟨i + 1, by omega, by go_num, by rw [HAt1.out]; go_num, HCr8.out⟩
            first
              | exact hE
              | exact ⟨_, _, _, _, _, _, _, _, _, hE, rfl, rfl, rfl, rfl, rfl, rfl, rfl, rfl, rfl⟩
          case measure => simp [intOf]; omega
    · have hlt' : ¬ (i : Int) < (rs.length : Int) := by omega
      have hil : i = rs.length := by omega
      have hmp := hR.mp
      rw [hil, show rs.length = (rs.map Rf.fil).length by simp, List.take_length] at hmp
      have u0 : wo.cell? ⟨w.heap.size + 1 + 1, 0, none⟩ = some (.int .i64 room) := hR.ro.cell 0
      have u1 : wo.cell? ⟨w.heap.size + 1 + 1, 1, none⟩ = some (.slice a done.length cc) := hR.ro.cell 1
      have ul := hR.ro.lt
      have q0 : wo.cell? ⟨w.heap.size + 1, 0, none⟩ = some (.int .i64 0) := hR.rr.cell 0
      have q1 : wo.cell? ⟨w.heap.size + 1, 1, none⟩ = some (.slice none 0 0) := hR.rr.cell 1
      have qf0 := hR.rr.thaw 0
      have qf1 := hR.rr.thaw 1
      have ql := hR.rr.lt
      have HEnd := Lib.hid (show RDisk w T room done (dV room a done.length cc) ((wo.setCell ⟨w.heap.size + 1, 0, none⟩ (.int .i64 room)).setCell ⟨w.heap.size + 1, 1, none⟩ (.slice a done.length cc)) from by
        have hsz : ((wo.setCell ⟨w.heap.size + 1, 0, none⟩ (.int .i64 room)).setCell ⟨w.heap.size + 1, 1, none⟩ (.slice a done.length cc)).heap.size = wo.heap.size := by simp [World.setCell]
        have hkb : ∀ k, k ≠ w.heap.size + 1 → ((wo.setCell ⟨w.heap.size + 1, 0, none⟩ (.int .i64 room)).setCell ⟨w.heap.size + 1, 1, none⟩ (.slice a done.length cc)).heap[k]? = wo.heap[k]? := fun k hk => (Below.heap_setCell _ _ _ _ hk).trans (Below.heap_setCell _ _ _ _ hk)
        have hs3 := hR.sz
        refine ⟨a, cc, rfl, ?_, (hR.back.setCell (by show w.heap.size ≤ w.heap.size + 1; omega) _).setCell (by show w.heap.size ≤ w.heap.size + 1; omega) _⟩
        have hf5 : FV ((wo.setCell ⟨w.heap.size + 1, 0, none⟩ (.int .i64 room)).setCell ⟨w.heap.size + 1, 1, none⟩ (.slice a done.length cc)) (w.heap.size + 3) (.slice a done.length cc) done := ownsRow_same hR.fv fun k hk => hkb k (by have := (World.ownsRow.lt hR.fv k hk).1; omega)
        refine hf5.fs3 (fun r hr => ((hR.ok r hr).kept ⟨fun k hk => hkb k ?_, by rw [hsz]; exact Nat.le_refl _⟩).mono fun k hk => ?_) (fun k h1 h2 => .inr ⟨by omega, h2⟩)
        · rcases hk with q | q
          · have := HT.out k q; omega
          · omega
        · rcases hk with q | q
          · exact .inl q
          · exact .inr ⟨by omega, by rw [hsz]; exact q.2.1⟩)
      have HMpE := Lib.hid hmp
      clear hR hmp
      generalize hml : done.length = ml at *
      go_wp2
      refine bodyPost_ret (v := dV room a ml cc) (by simp [results, Try.results24, go_sem, q0, q1]) rfl ?_
      first
        | exact ⟨_, done, rfl, HMpE.out, HEnd.out⟩
        | exact ⟨_, rfl, done, HMpE.out, HEnd.out⟩
end Go.Proofs.Ythheolhghhmdlaa
