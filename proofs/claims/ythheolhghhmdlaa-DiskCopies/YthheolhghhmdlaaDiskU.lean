/- The document's disk: how much, how many, which names; a file by its name. -/
import Derived.Test.YthheolhghhmdlaaDiskT
namespace Go.Proofs.Ythheolhghhmdlaa
open Go.RowKit Dsk

/-- Few enough, of the document's. -/
theorem sm_at {rs : List Rf} (h : Sm (rs.map Rf.fil)) {r : Rf} (hr : r ∈ rs) : r.fil.all.length ≤ 1000000000 ∧ r.fil.ws.length ≤ 1000000000 := by
  have h1 := sum_mem (fun f : Fil => f.all.length) (List.mem_map_of_mem (f := Rf.fil) hr)
  have h2 := sum_mem (fun f : Fil => f.ws.length) (List.mem_map_of_mem (f := Rf.fil) hr)
  unfold Sm sizeL looseL at *
  omega
theorem rsize_take (rs : List Rf) (k : Nat) (hk : k < rs.length) : sizeL ((rs.take (k + 1)).map Rf.fil) = sizeL ((rs.take k).map Rf.fil) + (rs[k]'hk).fil.all.length := by
  unfold sizeL
  rw [List.take_succ_eq_append_getElem hk, List.map_append, List.map_append, List.sum_append_nat]
  simp only [List.map_cons, List.map_nil, List.sum_cons, List.sum_nil, Nat.add_zero]
theorem rloose_take (rs : List Rf) (k : Nat) (hk : k < rs.length) : looseL ((rs.take (k + 1)).map Rf.fil) = looseL ((rs.take k).map Rf.fil) + (rs[k]'hk).fil.ws.length := by
  unfold looseL
  rw [List.take_succ_eq_append_getElem hk, List.map_append, List.map_append, List.sum_append_nat]
  simp only [List.map_cons, List.map_nil, List.sum_cons, List.sum_nil, Nat.add_zero]
theorem rsize_le (rs : List Rf) (k : Nat) : sizeL ((rs.take k).map Rf.fil) ≤ sizeL (rs.map Rf.fil) ∧ looseL ((rs.take k).map Rf.fil) ≤ looseL (rs.map Rf.fil) := by
  have e : rs.map Rf.fil = (rs.take k).map Rf.fil ++ (rs.drop k).map Rf.fil := by rw [← List.map_append, List.take_append_drop]
  rw [e]
  unfold sizeL looseL
  rw [List.map_append, List.sum_append_nat, List.map_append, List.sum_append_nat]
  omega
set_option maxRecDepth 100000 in
theorem rsize_any {w : World} {T : Nat → Prop} {a : Option Addr} {rs : List Rf} (room : Int) (c : Nat) (h : Fs3 w T a rs) (hT : ∀ k, T k → k < w.heap.size) (hs : Sm (rs.map Rf.fil)) :
    Calls Try.prog 37 #[dV room a rs.length c] w fun e w' => e = .returned (.int .i64 (sizeL (rs.map Rf.fil) : Nat)) ∧ Below w.heap.size w w' := by
  obtain ⟨w1, hw1⟩ : ∃ w1, w1 = w.alloc (.cells #[.int .i64 room, .slice a rs.length c] 27) := ⟨_, rfl⟩
  have hb1 : Below w.heap.size w w1 := by rw [hw1]; exact (Below.refl _ _).alloc (Nat.le_refl _) _
  have hr1 : Row w1 w.heap.size 27 #[.int .i64 room, .slice a rs.length c] := by rw [hw1]; exact Row.fresh w _ _
  have hs1 : w1.heap.size = w.heap.size + 1 := by rw [hw1]; simp
  have HH := Lib.hid (h.kept (kept_below hT hb1))
  have HB1 := Lib.hid hb1
  have HR1 := Lib.hid hr1
  have HS1 := Lib.hid hs1
  have HT1 := Lib.hid (show ∀ k, T k → k < w1.heap.size from fun k hk => by have := hT k hk; omega)
  have HS := Lib.hid hs
  have hlI : (rs.length : Int) ≤ 1000000000 := by unfold Sm at hs; simp only [List.length_map] at hs; omega
  have HW1 := Lib.hid hw1
  clear h hb1 hr1 hs1 hT hs hw1
  go_enter Try.func37, Try.ntmps37
  go_wp2
  go_loopw [3, 4] (fun n i wr => ∃ k : Nat, k ≤ rs.length ∧ i = .int .i64 k ∧ n = .int .i64 (sizeL ((rs.take k).map Rf.fil) : Nat) ∧ Below w1.heap.size w1 wr) (fun _ i _ => rs.length - (intOf i).toNat)
  case atStart => exact ⟨0, by omega, rfl, rfl, by rw [HW1.out]; exact Below.refl _ _⟩
  case round =>
    obtain ⟨k, hk, rfl, rfl, hb⟩ := hrel
    have HB := Lib.hid hb
    have k1 : wr.cell? ⟨w.heap.size, 1, none⟩ = some (.slice a rs.length c) := (HR1.out.under hb (by have := HS1.out; omega)).cell 1
    have hgr : w.heap.size < wr.heap.size := by have := hb.size; have := HS1.out; omega
    by_cases hlt : k < rs.length
    · have hlt' : (k : Int) < (rs.length : Int) := by omega
      obtain ⟨b, o, ea, hbl, _, c0, c1, c2, hok⟩ := (HH.out.kept (kept_below HT1.out hb)).at_ hlt
      subst ea
      have hsm := sm_at HS.out (List.getElem_mem hlt)
      have HA := Lib.hid (rall_any (rs[k]'hlt) hok (fun j hj => Nat.lt_of_lt_of_le (HT1.out j hj) hb.size) hsm.1 hsm.2)
      have HT := Lib.hid (rsize_take rs k hlt)
      have hle := (rsize_le rs (k + 1)).1
      rw [rsize_take rs k hlt] at hle
      have HLe := Lib.hid (show sizeL ((rs.take k).map Rf.fil) + (rs[k]'hlt).fil.all.length ≤ 1000000000 by have h1 := HS.out; unfold Sm at h1; omega)
      obtain ⟨y, hy⟩ : ∃ y, y = (rs[k]'hlt).fil.all.length := ⟨_, rfl⟩
      rw [← hy] at HT HLe
      have HA2 := Lib.hid (HA.out.mono (R' := fun e w' => ∃ a5 c5, e = .returned (.slice a5 y c5) ∧ Below wr.heap.size wr w') (fun e w5 ⟨v, h1, hO, hb5⟩ => by
        obtain ⟨a5, c5, hv5, _⟩ := hO.shape
        rw [← hy] at hv5
        exact ⟨a5, c5, by rw [h1, hv5], hb5⟩))
      obtain ⟨⟨af, cf, ef, _⟩, aw, cw, ew, _⟩ := hok
      have HV : Hid (fV (rs[k]'hlt) = .agg #[.string ⟨(rs[k]'hlt).name.toArray⟩, .slice af (rs[k]'hlt).fil.firm.length cf, .slice aw (rs[k]'hlt).fil.ws.length cw]) := by
        show fV _ = _
        rw [fV, ef, ew]
      rw [ef] at c1
      rw [ew] at c2
      rw [HV.out] at HA2
      clear hb hsm hle ef ew hy HA HV
      generalize (rs[k]'hlt).fil.firm.length = m1 at *
      generalize (rs[k]'hlt).fil.ws.length = m2 at *
      generalize (rs[k]'hlt).name = x at *
      generalize hzz : sizeL ((rs.take k).map Rf.fil) = z at *
      go_wp2_with fail
      refine HA2.out.mono ?_
      rintro e w5 ⟨a5, c5, rfl, hb5⟩
      have HB5 := Lib.hid (HB.out.trans (hb5.mono HB.out.size))
      have i1 : (z : Int) + (y : Int) ≤ 1000000000 := by have := HLe.out; omega
      clear hb5 c0 c1 c2
      go_wp2
      go_roundw
      case rel => exact ⟨k + 1, by omega, by go_num, by rw [HT.out]; go_num, HB5.out⟩
      case measure => simp [intOf]; omega
    · have hlt' : ¬ (k : Int) < (rs.length : Int) := by omega
      have hkl : k = rs.length := by omega
      rw [hkl, List.take_length]
      clear hb
      go_wp2
      go_ret
      exact ⟨rfl, HB1.out.trans (HB.out.mono HB1.out.size)⟩
set_option maxRecDepth 100000 in
theorem rloose_any {w : World} {T : Nat → Prop} {a : Option Addr} {rs : List Rf} (room : Int) (c : Nat) (h : Fs3 w T a rs) (hT : ∀ k, T k → k < w.heap.size) (hs : Sm (rs.map Rf.fil)) :
    Calls Try.prog 43 #[dV room a rs.length c] w fun e w' => e = .returned (.int .i64 (looseL (rs.map Rf.fil) : Nat)) ∧ Below w.heap.size w w' := by
  obtain ⟨w1, hw1⟩ : ∃ w1, w1 = w.alloc (.cells #[.int .i64 room, .slice a rs.length c] 27) := ⟨_, rfl⟩
  have hb1 : Below w.heap.size w w1 := by rw [hw1]; exact (Below.refl _ _).alloc (Nat.le_refl _) _
  have hr1 : Row w1 w.heap.size 27 #[.int .i64 room, .slice a rs.length c] := by rw [hw1]; exact Row.fresh w _ _
  have hs1 : w1.heap.size = w.heap.size + 1 := by rw [hw1]; simp
  have HH := Lib.hid (h.kept (kept_below hT hb1))
  have HB1 := Lib.hid hb1
  have HS := Lib.hid hs
  have hlI : (rs.length : Int) ≤ 1000000000 := by unfold Sm at hs; simp only [List.length_map] at hs; omega
  have k1 : w1.cell? ⟨w.heap.size, 1, none⟩ = some (.slice a rs.length c) := hr1.cell 1
  have hgr : w.heap.size < w1.heap.size := by omega
  rw [hw1] at k1 hgr
  have HW1 := Lib.hid hw1
  clear h hb1 hr1 hs1 hT hs hw1
  go_enter Try.func43, Try.ntmps43
  go_wp2
  rw [← HW1.out] at k1 hgr ⊢
  go_loopw [3, 4] (fun n i wr => ∃ k : Nat, k ≤ rs.length ∧ i = .int .i64 k ∧ n = .int .i64 (looseL ((rs.take k).map Rf.fil) : Nat) ∧ wr = w1) (fun _ i _ => rs.length - (intOf i).toNat)
  case atStart => exact ⟨0, by omega, rfl, rfl, rfl⟩
  case round =>
    obtain ⟨k, hk, rfl, rfl, rfl⟩ := hrel
    by_cases hlt : k < rs.length
    · have hlt' : (k : Int) < (rs.length : Int) := by omega
      obtain ⟨b, o, ea, hbl, _, c0, c1, c2, hok⟩ := HH.out.at_ hlt
      subst ea
      obtain ⟨_, aw, cw, hwv, _⟩ := hok
      rw [hwv] at c2
      have HT := Lib.hid (rloose_take rs k hlt)
      have hle := (rsize_le rs (k + 1)).2
      rw [rloose_take rs k hlt] at hle
      have i1 : ((looseL ((rs.take k).map Rf.fil) : Nat) : Int) + ((rs[k]'hlt).fil.ws.length : Int) ≤ 1000000000 := by have h1 := HS.out; unfold Sm at h1; omega
      clear hle hwv c0 c1
      generalize (rs[k]'hlt).fil.ws.length = y at *
      generalize hzz : looseL ((rs.take k).map Rf.fil) = z at *
      go_wp2
      go_roundw
      case rel => first | exact ⟨k + 1, by omega, by go_num, by rw [HT.out]; go_num, rfl⟩ | exact ⟨k + 1, by omega, by go_num, by rw [HT.out]; go_num, trivial⟩
      case measure => simp [intOf]; omega
    · have hlt' : ¬ (k : Int) < (rs.length : Int) := by omega
      have hkl : k = rs.length := by omega
      rw [hkl, List.take_length]
      go_wp2
      go_ret
      exact ⟨rfl, HB1.out⟩
theorem infoN : (Try.prog.info? 9).map (fun i => (i.zero, i.size, i.bytes)) = some (some (.string ⟨#[]⟩), 1, 16) := by kernel_rfl
theorem run_appendNm {w : World} (K : Nat) (ty : TypeId) (v : Value) (l : List Nm) (b : Nat) (x : Nm) (h : w.ownsRow K 9 1 v l.length (l.map encStr)) (hn : l.length ≤ 1000000000) (hx : w.cell? ⟨b, 0, none⟩ = some (encStr x)) (hK : K ≤ w.heap.size) :
    ∃ v' w', (Builtin.append_ #[54, 54] ty #[v, .slice (some ⟨b, 0, none⟩) 1 1]).run Try.prog w = .ok v' w' ∧ w'.ownsRow K 9 1 v' (l ++ [x]).length ((l ++ [x]).map encStr) ∧ w.grownBy w' v.ownBlock := by
  obtain ⟨i, hi, hz0, hz1, hz2⟩ := info_parts infoN
  obtain ⟨v', w', hrun, h2, h3, _, h5⟩ := run_append_own_at (P := Try.prog) w K 54 ty 9 i (.string ⟨#[]⟩) 1 16 Try.underlying54 hi hz0 hz1 hz2 rfl (by omega) v l.length (l.map encStr) h ⟨b, 0, none⟩ 1 1 [encStr x] rfl (one_src hx) (one_cell rfl) (by simp only [maxLen]; omega) (by omega) hK
  exact ⟨v', w', hrun, by simpa using h2, h3⟩
set_option maxRecDepth 100000 in
theorem rnames_any {w : World} {T : Nat → Prop} {a : Option Addr} {rs : List Rf} (room : Int) (c : Nat) (h : Fs3 w T a rs) (hT : ∀ k, T k → k < w.heap.size) (hL : rs.length ≤ 1000000) :
    Calls Try.prog 42 #[dV room a rs.length c] w fun e w' => ∃ v, e = .returned v ∧ w'.ownsRow w.heap.size 9 1 v (rs.map Rf.name).length ((rs.map Rf.name).map encStr) ∧ Below w.heap.size w w' := by
  obtain ⟨w1, hw1⟩ : ∃ w1, w1 = w.alloc (.cells #[.int .i64 room, .slice a rs.length c] 27) := ⟨_, rfl⟩
  have hb1 : Below w.heap.size w w1 := by rw [hw1]; exact (Below.refl _ _).alloc (Nat.le_refl _) _
  have hr1 : Row w1 w.heap.size 27 #[.int .i64 room, .slice a rs.length c] := by rw [hw1]; exact Row.fresh w _ _
  have hs1 : w1.heap.size = w.heap.size + 1 := by rw [hw1]; simp
  have HH := Lib.hid (h.kept (kept_below hT hb1))
  have HB1 := Lib.hid hb1
  have HR1 := Lib.hid hr1
  have HS1 := Lib.hid hs1
  have HT1 := Lib.hid (show ∀ k, T k → k < w1.heap.size from fun k hk => by have := hT k hk; omega)
  have hlI : (rs.length : Int) ≤ 1000000 := by omega
  have HW1 := Lib.hid hw1
  clear h hb1 hr1 hs1 hT hw1
  go_enter Try.func42, Try.ntmps42
  go_wp2
  go_loopw [3, 4] (fun v i wr => ∃ k : Nat, k ≤ rs.length ∧ i = .int .i64 k ∧ wr.ownsRow w1.heap.size 9 1 v ((rs.take k).map Rf.name).length (((rs.take k).map Rf.name).map encStr) ∧ Below w1.heap.size w1 wr) (fun _ i _ => rs.length - (intOf i).toNat)
  case atStart => exact ⟨0, by omega, rfl, World.ownsRow_nil _ _ _ _, by rw [HW1.out]; exact Below.refl _ _⟩
  case round =>
    obtain ⟨k, hk, rfl, hO, hb⟩ := hrel
    have HB := Lib.hid hb
    have HO := Lib.hid hO
    have k1 : wr.cell? ⟨w.heap.size, 1, none⟩ = some (.slice a rs.length c) := (HR1.out.under hb (by have := HS1.out; omega)).cell 1
    have hgr : w.heap.size < wr.heap.size := by have := hb.size; have := HS1.out; omega
    obtain ⟨a3, c3, hv3, _⟩ := RdT.of_row hO
    subst hv3
    by_cases hlt : k < rs.length
    · have hlt' : (k : Int) < (rs.length : Int) := by omega
      obtain ⟨b, o, ea, hbl, _, c0, c1, c2, hok⟩ := (HH.out.kept (kept_below HT1.out hb)).at_ hlt
      subst ea
      have e1 : (rs.take (k + 1)).map Rf.name = (rs.take k).map Rf.name ++ [(rs[k]'hlt).name] := by rw [List.take_succ_eq_append_getElem hlt, List.map_append]; rfl
      have HE := Lib.hid e1
      have hln : ((rs.take k).map Rf.name).length ≤ 1000000000 := by simp; omega
      have al : Below wr.heap.size wr (wr.alloc (.cells #[encStr (rs[k]'hlt).name] 9)) := (Below.refl _ _).alloc (Nat.le_refl _) _
      obtain ⟨v5, w5, hrun, hO5, hg5⟩ := run_appendNm w1.heap.size 54 _ ((rs.take k).map Rf.name) wr.heap.size (rs[k]'hlt).name (World.ownsRow.kept (row := none) hO ⟨al.os, al.tape, al.output, al.size, fun k hk _ => al.block k hk⟩ (by cases hv : (Value.slice a3 ((rs.take k).map Rf.name).length c3).ownBlock; exact .inl rfl; exact .inr (by simp))) hln ((Row.fresh wr _ _).cell 0) (Nat.le_trans hb.size al.size)
      have HB5 := Lib.hid ((hb.trans (al.mono hb.size)).grown hg5 (Nat.le_trans hb.size al.size) (fun k e => (World.ownsRow.lt HO.out k e).1))
      have HO5 := Lib.hid hO5
      have HRun := Lib.hid hrun
      obtain ⟨a5, c5, hv5, _⟩ := RdT.of_row hO5
      generalize hm5 : ((rs.take k).map Rf.name ++ [(rs[k]'hlt).name]).length = m5 at hv5
      clear hm5
      subst hv5
      clear hO hb hok e1 hO5 hg5 hrun al
      unfold encStr at *
      generalize (rs[k]'hlt).name = x at *
      generalize ((rs.take k).map Rf.name).length = m at *
      go_wp2_with (at_builtin; refine wpList_append2 rfl _ _ _ _ rfl _ _ rfl rfl HRun.out ?_)
      go_roundw
      case rel => exact ⟨k + 1, by omega, by go_num, by rw [HE.out]; exact HO5.out, HB5.out⟩
      case measure => simp [intOf]; omega
    · have hlt' : ¬ (k : Int) < (rs.length : Int) := by omega
      have hkl : k = rs.length := by omega
      rw [hkl, List.take_length] at HO ⊢
      clear hO hb
      generalize hm5 : (rs.map Rf.name).length = m5 at *
      go_wp2
      go_ret
      have hh := HB1.out.trans (HB.out.mono HB1.out.size)
      have hle : w.heap.size ≤ w1.heap.size := by have := HS1.out; omega
      have h5 := ownsRow_mono HO.out hle
      first
        | exact ⟨_, rfl, h5, hh⟩
        | (rw [List.map_map] at h5; exact ⟨_, rfl, h5, hh⟩)
end Go.Proofs.Ythheolhghhmdlaa
