/- left.common where a map is nil; Cost (written by mklgt.py). -/
import Derived.Test.YtdkpdmpghibmmaaGreatM6
namespace Go.Proofs.YtdkpdmpghibmmaaGreat
open Go.RowKit Go.Maps
theorem share_none {α β : Type} {f : Int → Option α} {g : Int → Option β} {N : Nat} (h : (∀ i, f i = none) ∨ ∀ i, g i = none) : share f g N = 0 := by
  unfold share cnt
  rw [List.length_eq_zero_iff, List.filter_eq_nil_iff]
  intro i _
  rcases h with h | h <;> simp [h]
theorem cntF_none {α : Type} {f : Int → Option α} {N : Nat} (h : ∀ i, f i = none) : cntF f N = 0 := by
  unfold cntF
  rw [List.length_eq_zero_iff, List.filter_eq_nil_iff]
  intro i _
  simp [h]
set_option maxRecDepth 100000 in
set_option maxHeartbeats 2000000 in
theorem common_nil_unit {w : World} {o2 : Option Nat} {n2 : Nat} (l2 : (Builtin.len_ #[120] 3 #[.map o2]).run Tryz.prog w = .ok (.int .i64 (n2 : Nat)) w) :
    Calls Tryz.prog 86 #[.map none, .map o2] w fun e w' => e = .returned (.int .i64 0) ∧ Below w.heap.size w w' := by
  have l1 := Maps.len_nil (w := w) Tryz.underlying131 3
  have hrg := run_range_nilMap (P := Tryz.prog) w 131 3 136 Tryz.underlying131
  have hnx : ∀ ty, (Instr.next (.pointer (some ⟨w.heap.size, 0, none⟩)) false ty).run Tryz.prog (w.alloc (.mapIter none 0 #[] 0)) = _ := fun ty => run_next_nilMap _ ty 0 0 #[]
  go_enter Tryz.func86, Tryz.ntmps86
  go_wp2
  go_loopw [5] (fun m wr => m = .int .i64 0 ∧ wr = w.alloc (.mapIter none 0 #[] 0)) (fun _ _ => 0)
  case atStart => exact ⟨rfl, rfl⟩
  case round =>
    obtain ⟨rfl, rfl⟩ := hrel
    go_wp2
    go_ret
    exact ⟨rfl, (Below.refl _ _).alloc (Nat.le_refl _) _⟩
set_option maxRecDepth 100000 in
set_option maxHeartbeats 2000000 in
theorem common_nil_way {w : World} {o2 : Option Nat} {n2 : Nat} (l2 : (Builtin.len_ #[131] 3 #[.map o2]).run Tryz.prog w = .ok (.int .i64 (n2 : Nat)) w) :
    Calls Tryz.prog 119 #[.map none, .map o2] w fun e w' => e = .returned (.int .i64 0) ∧ Below w.heap.size w w' := by
  have l1 := Maps.len_nil (w := w) Tryz.underlying120 3
  have hrg := run_range_nilMap (P := Tryz.prog) w 120 3 47 Tryz.underlying120
  have hnx : ∀ ty, (Instr.next (.pointer (some ⟨w.heap.size, 0, none⟩)) false ty).run Tryz.prog (w.alloc (.mapIter none 0 #[] 0)) = _ := fun ty => run_next_nilMap _ ty 0 0 #[]
  go_enter Tryz.func119, Tryz.ntmps119
  go_wp2
  go_loopw [5] (fun m wr => m = .int .i64 0 ∧ wr = w.alloc (.mapIter none 0 #[] 0)) (fun _ _ => 0)
  case atStart => exact ⟨rfl, rfl⟩
  case round =>
    obtain ⟨rfl, rfl⟩ := hrel
    go_wp2
    go_ret
    exact ⟨rfl, (Below.refl _ _).alloc (Nat.le_refl _) _⟩
set_option maxRecDepth 100000 in
set_option maxHeartbeats 2000000 in
theorem common_some_nil {w : World} {b1 N : Nat} {f : Int → Option Unit} (h1 : Mp eUnit w b1 N f) :
    Calls Tryz.prog 86 #[.map (some b1), .map none] w fun e w' => e = .returned (.int .i64 0) ∧ Below w.heap.size w w' := by
  have l1 := h1.len Tryz.underlying131 3
  have l2 := Maps.len_nil (w := w) Tryz.underlying120 3
  by_cases hc : cntF f N = 0
  · have HZ := Lib.hid (h1.none_of_cnt hc)
    have H := Lib.hid h1
    have hlt := h1.lt
    rw [hc] at l1
    clear h1 hc
    go_enter Tryz.func86, Tryz.ntmps86
    go_wp2_with (at_range; refine wpList_goOver (E := eUnit) rfl _ 131 _ rfl Tryz.underlying131 rfl H.out ?_; intro w0 c0 hm0 hg0 hs0)
    go_frame
    go_loopw [5] (fun m wr => m = .int .i64 0 ∧ wr = w0) (fun _ _ => 0)
    case atStart => exact ⟨rfl, rfl⟩
    case round =>
      obtain ⟨rfl, rfl⟩ := hrel
      have HM := Lib.hid (And.intro hm0 hg0)
      clear hm0 hg0
      go_wp2_with (at_next; refine wpList_nextOver (E := eUnit) rfl _ rfl rfl HM.out.1 ?_ ?_)
      · intro hc0 hl0
        go_wp2
        go_ret
        exact ⟨rfl, (Below.refl _ _).grown HM.out.2 (Nat.le_refl _) (fun j hj => by cases hj)⟩
      · intro z xa w1 c1 hz0 hz1 hL hf hm1 hlt1 hg1 hs1 hen
        rw [HZ.out z] at hf
        cases hf
  · have d1 : decide ((0 : Int) < (cntF f N : Nat)) = true := by simp; omega
    have d2 : 0 < cntF f N := by omega
    have hcc := common_nil_way (w := w) (o2 := some b1) l1
    have HC := Lib.hid hcc
    clear h1 hc hcc
    go_enter Tryz.func86, Tryz.ntmps86
    go_wp2_with (go_at_call 119; refine HC.out.mono ?_; rintro e w1 ⟨rfl, hb⟩)
    go_ret
    exact ⟨rfl, hb⟩
/-- common, whatever the maps. -/
theorem common_o {w : World} {o1 o2 : Option Nat} {N : Nat} {f : Int → Option Unit} {g : Int → Option Wy} (h1 : ∀ b, o1 = some b → Mp eUnit w b N f) (n1 : o1 = none → ∀ i, f i = none) (h2 : ∀ b, o2 = some b → Mp eWay w b N g) (n2 : o2 = none → ∀ i, g i = none) (hN : N ≤ 16777216) :
    Calls Tryz.prog 86 #[.map o1, .map o2] w fun e w' => e = .returned (.int .i64 (share f g N : Nat)) ∧ Below w.heap.size w w' := by
  cases o1 with
  | none =>
    rw [share_none (.inl (n1 rfl))]
    cases o2 with
    | none => exact common_nil_unit (n2 := 0) (Maps.len_nil (w := w) Tryz.underlying120 3)
    | some b2 => exact common_nil_unit ((h2 b2 rfl).len Tryz.underlying120 3)
  | some b1 =>
    cases o2 with
    | none =>
      rw [share_none (.inr (n2 rfl))]
      exact common_some_nil (h1 b1 rfl)
    | some b2 => exact common_any (h1 b1 rfl) (h2 b2 rfl) hN
theorem len_o {α : Type} {R : Rd} {E : Elem α R} {w : World} {o : Option Nat} {N : Nat} {f : Int → Option α} {t e : TypeId} (h : ∀ b, o = some b → Mp E w b N f) (n : o = none → ∀ i, f i = none) (ht : Tryz.prog.underlying t = some (.map 3 e)) (ty : TypeId) : (Builtin.len_ #[t] ty #[.map o]).run Tryz.prog w = .ok (.int .i64 (cntF f N : Nat)) w := by
  cases o with
  | none => rw [cntF_none (n rfl)]; exact Maps.len_nil ht ty
  | some b => exact (h b rfl).len ht ty
/-- What it would cost to take a place. -/
def LSt.cost (s : LSt) (v : Int) : Int := if s.holds v then ((cntF (s.ins v) s.lost.length : Nat) : Int) * (cntF (s.F v) s.lost.length : Nat) - (share (s.ins v) (s.F v) s.lost.length : Nat) - (cntF (s.ins v) s.lost.length : Nat) - (cntF (s.F v) s.lost.length : Nat) + s.lost.getD v.toNat 0 else 0
theorem holds_at {s : LSt} {v : Int} (h : s.holds v = true) : ∃ k : Nat, v = (k : Int) ∧ ∃ hk : k < s.lost.length, s.lost.getD k 0 = s.lost[k]'hk ∧ s.lost[k]'hk ≠ -1 := by
  unfold LSt.holds at h
  simp only [Bool.and_eq_true, decide_eq_true_eq, Bool.not_eq_true', decide_eq_false_iff_not] at h
  obtain ⟨h1, h2, h3⟩ := h
  refine ⟨v.toNat, by omega, by omega, ?_, ?_⟩
  · rw [List.getD_eq_getElem?_getD, List.getElem?_eq_getElem (by omega)]; rfl
  · rw [List.getElem?_eq_getElem (by omega)] at h3
    exact fun e => h3 (by rw [e])
theorem cost_not {w : World} {l bl bo bi : Nat} {go gi : Int → Option Nat} {s : LSt} (h : Lq w l bl bo bi go gi s) {v : Int} (hwv : (Lit.int .i64 v).wf = true) (hh : s.holds v = false) :
    Calls Tryz.prog 33 #[ptr l, .int .i64 v] w fun e w' => e = .returned (.int .i64 (s.cost v)) ∧ Below w.heap.size w w' := by
  have hc : s.cost v = 0 := by unfold LSt.cost; rw [hh]; rfl
  rw [hc]
  have H := Lib.hid (And.intro h (And.intro hwv hh))
  clear h hwv hh hc
  go_enter Tryz.func33, Tryz.ntmps33
  go_wp2_with (go_at_call 74; refine (holds_any H.out.1 H.out.2.1).mono ?_; rw [H.out.2.2]; rintro e w1 ⟨rfl, rfl⟩)
  go_ret
  exact ⟨rfl, Below.refl _ _⟩
set_option maxRecDepth 100000 in
set_option maxHeartbeats 4000000 in
theorem cost_yes {w : World} {l bl bo bi : Nat} {go gi : Int → Option Nat} {s : LSt} (h : Lq w l bl bo bi go gi s) {v : Int} (hh : s.holds v = true) :
    Calls Tryz.prog 33 #[ptr l, .int .i64 v] w fun e w' => e = .returned (.int .i64 (s.cost v)) ∧ Below w.heap.size w w' := by
  obtain ⟨k, rfl, hk, hkd, hkn⟩ := holds_at hh
  have hwv : (Lit.int .i64 (k : Nat)).wf = true := wf_nat ⟨by omega, by omega⟩ h.small
  have hcost : s.cost k = ((cntF (s.ins k) s.lost.length : Nat) : Int) * (cntF (s.F k) s.lost.length : Nat) - (share (s.ins k) (s.F k) s.lost.length : Nat) - (cntF (s.ins k) s.lost.length : Nat) - (cntF (s.F k) s.lost.length : Nat) + s.lost[k]'hk := by
    unfold LSt.cost
    rw [hh, if_pos rfl, Int.toNat_natCast, hkd]
  rw [hcost]
  have hgen : ∀ W, Below w.heap.size w W → W.cell? ⟨l, 1, none⟩ = some (.map (some bo)) ∧ W.cell? ⟨l, 2, none⟩ = some (.map (some bi)) ∧ (Instr.lookup 97 (.map (some bo)) (.int .i64 (k : Nat)) false).run Tryz.prog W = .ok (.map (go k)) W ∧ (Instr.lookup 98 (.map (some bi)) (.int .i64 (k : Nat)) false).run Tryz.prog W = .ok (.map (gi k)) W := fun W hW => by
    have h2 := h.under hW
    obtain ⟨_, r1, r2⟩ := h2.heads
    exact ⟨r1, r2, h2.outs.look Tryz.underlying97 (zeroRefW W) hwv, h2.ins.look Tryz.underlying98 (zeroRefU W) hwv⟩
  have hgen2 : ∀ W, Below w.heap.size w W → W.cell? ⟨l, 0, none⟩ = some (.slice (some ⟨bl, 0, none⟩) s.lost.length s.lost.length) ∧ W.cell? ⟨bl, k, none⟩ = some (.int .i64 (s.lost[k]'hk)) ∧ (Builtin.len_ #[120] 3 #[.map (go k)]).run Tryz.prog W = .ok (.int .i64 (cntF (s.F k) s.lost.length : Nat)) W ∧ (Builtin.len_ #[131] 3 #[.map (gi k)]).run Tryz.prog W = .ok (.int .i64 (cntF (s.ins k) s.lost.length : Nat)) W := fun W hW => by
    have h2 := h.under hW
    obtain ⟨r0, _, _⟩ := h2.heads
    exact ⟨r0, h2.num (List.getElem?_eq_getElem hk), len_o (fun b hb => h2.outs.sub k b hb) (fun hn => h2.outs.none_ k hn) Tryz.underlying120 3, len_o (fun b hb => h2.ins.sub k b hb) (fun hn => h2.ins.none_ k hn) Tryz.underlying131 3⟩
  have hcm : ∀ W, Below w.heap.size w W → Calls Tryz.prog 86 #[.map (gi k), .map (go k)] W fun e w' => e = .returned (.int .i64 (share (s.ins k) (s.F k) s.lost.length : Nat)) ∧ Below W.heap.size W w' := fun W hW => by
    have h2 := h.under hW
    exact common_o (fun b hb => h2.ins.sub k b hb) (fun hn => h2.ins.none_ k hn) (fun b hb => h2.outs.sub k b hb) (fun hn => h2.outs.none_ k hn) h2.small
  have hlow := h.low _ (List.getElem_mem hk)
  have hco := cntF_le (s.F k) s.lost.length
  have hci := cntF_le (s.ins k) s.lost.length
  have hcs : share (s.ins k) (s.F k) s.lost.length ≤ s.lost.length := cnt_le (fun i => (s.ins k i).isSome && (s.F k i).isSome) s.lost.length
  have hsm := h.small
  have H := Lib.hid (And.intro h (And.intro hwv hh))
  clear h hwv hh hcost hkd
  generalize s.lost[k]'hk = lk at *
  generalize hNN : s.lost.length = N at *
  generalize cntF (s.F k) N = co at *
  generalize cntF (s.ins k) N = ci at *
  generalize share (s.ins k) (s.F k) N = cs at *
  have hkN : k < N := hk
  have hp : (ci : Int) * (co : Int) ≤ 281474976710656 := by
    have h1 : ci * co ≤ 16777216 * 16777216 := Nat.mul_le_mul (by omega) (by omega)
    have h2 : ((ci * co : Nat) : Int) ≤ 16777216 * 16777216 := by omega
    rw [Int.natCast_mul] at h2
    omega
  have hp0 : 0 ≤ (ci : Int) * (co : Int) := Int.mul_nonneg (by omega) (by omega)
  have HA := Lib.hid hgen
  have HB := Lib.hid hgen2
  have HC := Lib.hid hcm
  clear hgen hgen2 hcm
  go_enter Tryz.func33, Tryz.ntmps33
  go_wp2_with (go_at_call 74; refine (holds_any H.out.1 H.out.2.1).mono ?_; rw [H.out.2.2]; rintro e w1 ⟨rfl, rfl⟩)
  refine wp_region_held_drew (S := fun W => W.cell? ⟨l, 1, none⟩ = some (.map (some bo)) ∧ W.cell? ⟨l, 2, none⟩ = some (.map (some bi)) ∧ (Instr.lookup 97 (.map (some bo)) (.int .i64 (k : Nat)) false).run Tryz.prog W = .ok (.map (go k)) W ∧ (Instr.lookup 98 (.map (some bi)) (.int .i64 (k : Nat)) false).run Tryz.prog W = .ok (.map (gi k)) W) (by kernel_rfl) (HA.out _ (Below.refl _ _).drew) (fun hHeld => ?_)
  refine wpAnyH_take (i := 0) (oi := ⟨some 12, _, _, _, _, _⟩) (v := ?_) rfl (by kernel_rfl) (by kernel_rfl) (by kernel_rfl) (fun _ _ _ h => h) (Or.inl ⟨by rfl, ?_⟩) hHeld ?_
  rotate_left
  · intro W hSw
    obtain ⟨s1, s2, s3, s4⟩ := hSw
    go_simp
    with_reducible rfl
  simp only [Act.put, List.setIfInBounds_toArray, List.set_cons_zero, List.set_cons_succ]
  refine wpAnyH_take (i := 1) (oi := ⟨some 13, _, _, _, _, _⟩) (v := ?_) rfl (by kernel_rfl) (by kernel_rfl) (by kernel_rfl) (fun _ _ _ h => h) (Or.inl ⟨by rfl, ?_⟩) hHeld ?_
  rotate_left
  · intro W hSw
    obtain ⟨s1, s2, s3, s4⟩ := hSw
    go_simp
    with_reducible rfl
  simp only [Act.put, List.setIfInBounds_toArray, List.set_cons_zero, List.set_cons_succ]
  refine wpAnyH_take (i := 2) (oi := ⟨some 14, _, _, _, _, _⟩) (v := ?_) rfl (by kernel_rfl) (by kernel_rfl) (by kernel_rfl) (fun _ _ _ h => h) (Or.inl ⟨by rfl, ?_⟩) hHeld ?_
  rotate_left
  · intro W hSw
    obtain ⟨s1, s2, s3, s4⟩ := hSw
    go_simp
    with_reducible rfl
  simp only [Act.put, List.setIfInBounds_toArray, List.set_cons_zero, List.set_cons_succ]
  refine wpAnyH_take (i := 3) (oi := ⟨some 15, _, _, _, _, _⟩) (v := ?_) rfl (by kernel_rfl) (by kernel_rfl) (by kernel_rfl) (fun _ _ _ h => h) (Or.inl ⟨by rfl, ?_⟩) hHeld ?_
  rotate_left
  · intro W hSw
    obtain ⟨s1, s2, s3, s4⟩ := hSw
    go_simp
    with_reducible rfl
  simp only [Act.put, List.setIfInBounds_toArray, List.set_cons_zero, List.set_cons_succ]
  refine wpAnyH_take (i := 4) (oi := ⟨some 16, _, _, _, _, _⟩) (v := ?_) rfl (by kernel_rfl) (by kernel_rfl) (by kernel_rfl) (fun _ _ _ h => h) (Or.inl ⟨by rfl, ?_⟩) hHeld ?_
  rotate_left
  · intro W hSw
    obtain ⟨s1, s2, s3, s4⟩ := hSw
    go_simp
    with_reducible rfl
  simp only [Act.put, List.setIfInBounds_toArray, List.set_cons_zero, List.set_cons_succ]
  refine wpAnyH_take (i := 5) (oi := ⟨some 17, _, _, _, _, _⟩) (v := ?_) rfl (by kernel_rfl) (by kernel_rfl) (by kernel_rfl) (fun _ _ _ h => h) (Or.inl ⟨by rfl, ?_⟩) hHeld ?_
  rotate_left
  · intro W hSw
    obtain ⟨s1, s2, s3, s4⟩ := hSw
    go_simp
    with_reducible rfl
  simp only [Act.put, List.setIfInBounds_toArray, List.set_cons_zero, List.set_cons_succ]
  refine wpAnyH_take (i := 6) (oi := ⟨some 18, _, _, _, _, _⟩) (v := ?_) rfl (by kernel_rfl) (by kernel_rfl) (by kernel_rfl) (fun _ _ _ h => h) (Or.inl ⟨by rfl, ?_⟩) hHeld ?_
  rotate_left
  · intro W hSw
    obtain ⟨s1, s2, s3, s4⟩ := hSw
    go_simp
    with_reducible rfl
  simp only [Act.put, List.setIfInBounds_toArray, List.set_cons_zero, List.set_cons_succ]
  refine wpAnyH_take (i := 7) (oi := ⟨some 19, _, _, _, _, _⟩) (v := ?_) rfl (by kernel_rfl) (by kernel_rfl) (by kernel_rfl) (fun _ _ _ h => h) (Or.inl ⟨by rfl, ?_⟩) hHeld ?_
  rotate_left
  · intro W hSw
    obtain ⟨s1, s2, s3, s4⟩ := hSw
    go_simp
    with_reducible rfl
  simp only [Act.put, List.setIfInBounds_toArray, List.set_cons_zero, List.set_cons_succ]
  refine wpAnyH_take (i := 8) (oi := ⟨some 20, _, _, _, _, _⟩) (v := ?_) rfl (by kernel_rfl) (by kernel_rfl) (by kernel_rfl) (fun _ _ _ h => h) (Or.inl ⟨by rfl, ?_⟩) hHeld ?_
  rotate_left
  · intro W hSw
    obtain ⟨s1, s2, s3, s4⟩ := hSw
    go_simp
    with_reducible rfl
  simp only [Act.put, List.setIfInBounds_toArray, List.set_cons_zero, List.set_cons_succ]
  refine wpAnyH_take (i := 9) (oi := ⟨some 21, _, _, _, _, _⟩) (v := ?_) rfl (by kernel_rfl) (by kernel_rfl) (by kernel_rfl) (fun _ _ _ h => h) (Or.inl ⟨by rfl, ?_⟩) hHeld ?_
  rotate_left
  · intro W hSw
    obtain ⟨s1, s2, s3, s4⟩ := hSw
    go_simp
    with_reducible rfl
  simp only [Act.put, List.setIfInBounds_toArray, List.set_cons_zero, List.set_cons_succ]
  refine wpAnyH_take (i := 10) (oi := ⟨some 22, _, _, _, _, _⟩) (v := ?_) rfl (by kernel_rfl) (by kernel_rfl) (by kernel_rfl) (fun _ _ _ h => h) (Or.inl ⟨by rfl, ?_⟩) hHeld ?_
  rotate_left
  · intro W hSw
    obtain ⟨s1, s2, s3, s4⟩ := hSw
    go_simp
    with_reducible rfl
  simp only [Act.put, List.setIfInBounds_toArray, List.set_cons_zero, List.set_cons_succ]
  refine wpAnyH_take (i := 11) (oi := ⟨some 23, _, _, _, _, _⟩) (v := ?_) rfl (by kernel_rfl) (by kernel_rfl) (by kernel_rfl) (fun _ _ _ h => h) (Or.inl ⟨by rfl, ?_⟩) hHeld ?_
  rotate_left
  · intro W hSw
    obtain ⟨s1, s2, s3, s4⟩ := hSw
    go_simp
    with_reducible rfl
  simp only [Act.put, List.setIfInBounds_toArray, List.set_cons_zero, List.set_cons_succ]
  refine wpAnyH_take (i := 12) (oi := ⟨some 5, _, _, _, _, _⟩) (v := ?_) rfl (by kernel_rfl) (by kernel_rfl) (by kernel_rfl) (fun _ _ _ h => h) (Or.inl ⟨by rfl, ?_⟩) hHeld ?_
  rotate_left
  · intro W hSw
    obtain ⟨s1, s2, s3, s4⟩ := hSw
    go_simp
    with_reducible rfl
  simp only [Act.put, List.setIfInBounds_toArray, List.set_cons_zero, List.set_cons_succ]
  refine wpAnyH_take (i := 13) (oi := ⟨some 6, _, _, _, _, _⟩) (v := ?_) rfl (by kernel_rfl) (by kernel_rfl) (by kernel_rfl) (fun _ _ _ h => h) (Or.inl ⟨by rfl, ?_⟩) hHeld ?_
  rotate_left
  · intro W hSw
    obtain ⟨s1, s2, s3, s4⟩ := hSw
    go_simp
    with_reducible rfl
  simp only [Act.put, List.setIfInBounds_toArray, List.set_cons_zero, List.set_cons_succ]
  refine wpAnyH_done (by kernel_rfl) ?_ _
  have hw3 : Below w1.heap.size w1 w1.drew := (Below.refl _ _).drew
  obtain ⟨_, _, lo, li⟩ := HB.out _ hw3
  have HW3 := Lib.hid hw3
  clear hw3
  go_wp2_with (go_at_call 86; refine (HC.out _ HW3.out).mono ?_; rintro e w4 ⟨rfl, hb4⟩; have H4 := Lib.hid (HW3.out.trans (hb4.mono (Nat.le_refl _))); clear hb4)
  refine wp_region_held_drew (S := fun W => W.cell? ⟨l, 0, none⟩ = some (.slice (some ⟨bl, 0, none⟩) N N) ∧ W.cell? ⟨bl, k, none⟩ = some (.int .i64 lk) ∧ (Builtin.len_ #[120] 3 #[.map (go k)]).run Tryz.prog W = .ok (.int .i64 (co : Nat)) W ∧ (Builtin.len_ #[131] 3 #[.map (gi k)]).run Tryz.prog W = .ok (.int .i64 (ci : Nat)) W) (by kernel_rfl) (HB.out _ H4.out.drew) (fun hHeld => ?_)
  refine wpAnyH_take (i := 0) (oi := ⟨some 33, _, _, _, _, _⟩) (v := ?_) rfl (by kernel_rfl) (by kernel_rfl) (by kernel_rfl) (fun _ _ _ h => h) (Or.inl ⟨by rfl, ?_⟩) hHeld ?_
  rotate_left
  · intro W hSw
    obtain ⟨s1, s2, s3, s4⟩ := hSw
    go_simp
    with_reducible rfl
  simp only [Act.put, List.setIfInBounds_toArray, List.set_cons_zero, List.set_cons_succ]
  refine wpAnyH_take (i := 1) (oi := ⟨some 34, _, _, _, _, _⟩) (v := ?_) rfl (by kernel_rfl) (by kernel_rfl) (by kernel_rfl) (fun _ _ _ h => h) (Or.inl ⟨by rfl, ?_⟩) hHeld ?_
  rotate_left
  · intro W hSw
    obtain ⟨s1, s2, s3, s4⟩ := hSw
    go_simp
    with_reducible rfl
  simp only [Act.put, List.setIfInBounds_toArray, List.set_cons_zero, List.set_cons_succ]
  refine wpAnyH_take (i := 2) (oi := ⟨some 35, _, _, _, _, _⟩) (v := ?_) rfl (by kernel_rfl) (by kernel_rfl) (by kernel_rfl) (fun _ _ _ h => h) (Or.inl ⟨by rfl, ?_⟩) hHeld ?_
  rotate_left
  · intro W hSw
    obtain ⟨s1, s2, s3, s4⟩ := hSw
    go_simp
    with_reducible rfl
  simp only [Act.put, List.setIfInBounds_toArray, List.set_cons_zero, List.set_cons_succ]
  refine wpAnyH_take (i := 3) (oi := ⟨some 36, _, _, _, _, _⟩) (v := ?_) rfl (by kernel_rfl) (by kernel_rfl) (by kernel_rfl) (fun _ _ _ h => h) (Or.inl ⟨by rfl, ?_⟩) hHeld ?_
  rotate_left
  · intro W hSw
    obtain ⟨s1, s2, s3, s4⟩ := hSw
    go_simp
    with_reducible rfl
  simp only [Act.put, List.setIfInBounds_toArray, List.set_cons_zero, List.set_cons_succ]
  refine wpAnyH_take (i := 4) (oi := ⟨some 37, _, _, _, _, _⟩) (v := ?_) rfl (by kernel_rfl) (by kernel_rfl) (by kernel_rfl) (fun _ _ _ h => h) (Or.inl ⟨by rfl, ?_⟩) hHeld ?_
  rotate_left
  · intro W hSw
    obtain ⟨s1, s2, s3, s4⟩ := hSw
    go_simp
    with_reducible rfl
  simp only [Act.put, List.setIfInBounds_toArray, List.set_cons_zero, List.set_cons_succ]
  refine wpAnyH_take (i := 5) (oi := ⟨some 38, _, _, _, _, _⟩) (v := ?_) rfl (by kernel_rfl) (by kernel_rfl) (by kernel_rfl) (fun _ _ _ h => h) (Or.inl ⟨by rfl, ?_⟩) hHeld ?_
  rotate_left
  · intro W hSw
    obtain ⟨s1, s2, s3, s4⟩ := hSw
    go_simp
    with_reducible rfl
  simp only [Act.put, List.setIfInBounds_toArray, List.set_cons_zero, List.set_cons_succ]
  refine wpAnyH_take (i := 6) (oi := ⟨some 39, _, _, _, _, _⟩) (v := ?_) rfl (by kernel_rfl) (by kernel_rfl) (by kernel_rfl) (fun _ _ _ h => h) (Or.inl ⟨by rfl, ?_⟩) hHeld ?_
  rotate_left
  · intro W hSw
    obtain ⟨s1, s2, s3, s4⟩ := hSw
    go_simp
    with_reducible rfl
  simp only [Act.put, List.setIfInBounds_toArray, List.set_cons_zero, List.set_cons_succ]
  refine wpAnyH_take (i := 7) (oi := ⟨some 40, _, _, _, _, _⟩) (v := ?_) rfl (by kernel_rfl) (by kernel_rfl) (by kernel_rfl) (fun _ _ _ h => h) (Or.inl ⟨by rfl, ?_⟩) hHeld ?_
  rotate_left
  · intro W hSw
    obtain ⟨s1, s2, s3, s4⟩ := hSw
    go_simp
    with_reducible rfl
  simp only [Act.put, List.setIfInBounds_toArray, List.set_cons_zero, List.set_cons_succ]
  refine wpAnyH_take (i := 8) (oi := ⟨some 41, _, _, _, _, _⟩) (v := ?_) rfl (by kernel_rfl) (by kernel_rfl) (by kernel_rfl) (fun _ _ _ h => h) (Or.inl ⟨by rfl, ?_⟩) hHeld ?_
  rotate_left
  · intro W hSw
    obtain ⟨s1, s2, s3, s4⟩ := hSw
    go_simp
    with_reducible rfl
  simp only [Act.put, List.setIfInBounds_toArray, List.set_cons_zero, List.set_cons_succ]
  refine wpAnyH_take (i := 9) (oi := ⟨some 42, _, _, _, _, _⟩) (v := ?_) rfl (by kernel_rfl) (by kernel_rfl) (by kernel_rfl) (fun _ _ _ h => h) (Or.inl ⟨by rfl, ?_⟩) hHeld ?_
  rotate_left
  · intro W hSw
    obtain ⟨s1, s2, s3, s4⟩ := hSw
    go_simp
    with_reducible rfl
  simp only [Act.put, List.setIfInBounds_toArray, List.set_cons_zero, List.set_cons_succ]
  refine wpAnyH_take (i := 10) (oi := ⟨some 43, _, _, _, _, _⟩) (v := ?_) rfl (by kernel_rfl) (by kernel_rfl) (by kernel_rfl) (fun _ _ _ h => h) (Or.inl ⟨by rfl, ?_⟩) hHeld ?_
  rotate_left
  · intro W hSw
    obtain ⟨s1, s2, s3, s4⟩ := hSw
    go_simp
    with_reducible rfl
  simp only [Act.put, List.setIfInBounds_toArray, List.set_cons_zero, List.set_cons_succ]
  refine wpAnyH_take (i := 11) (oi := ⟨some 44, _, _, _, _, _⟩) (v := ?_) rfl (by kernel_rfl) (by kernel_rfl) (by kernel_rfl) (fun _ _ _ h => h) (Or.inl ⟨by rfl, ?_⟩) hHeld ?_
  rotate_left
  · intro W hSw
    obtain ⟨s1, s2, s3, s4⟩ := hSw
    go_simp
    with_reducible rfl
  simp only [Act.put, List.setIfInBounds_toArray, List.set_cons_zero, List.set_cons_succ]
  refine wpAnyH_take (i := 12) (oi := ⟨some 45, _, _, _, _, _⟩) (v := ?_) rfl (by kernel_rfl) (by kernel_rfl) (by kernel_rfl) (fun _ _ _ h => h) (Or.inl ⟨by rfl, ?_⟩) hHeld ?_
  rotate_left
  · intro W hSw
    obtain ⟨s1, s2, s3, s4⟩ := hSw
    go_simp
    with_reducible rfl
  simp only [Act.put, List.setIfInBounds_toArray, List.set_cons_zero, List.set_cons_succ]
  refine wpAnyH_take (i := 13) (oi := ⟨some 46, _, _, _, _, _⟩) (v := ?_) rfl (by kernel_rfl) (by kernel_rfl) (by kernel_rfl) (fun _ _ _ h => h) (Or.inl ⟨by rfl, ?_⟩) hHeld ?_
  rotate_left
  · intro W hSw
    obtain ⟨s1, s2, s3, s4⟩ := hSw
    go_simp
    with_reducible rfl
  simp only [Act.put, List.setIfInBounds_toArray, List.set_cons_zero, List.set_cons_succ]
  refine wpAnyH_take (i := 14) (oi := ⟨some 47, _, _, _, _, _⟩) (v := ?_) rfl (by kernel_rfl) (by kernel_rfl) (by kernel_rfl) (fun _ _ _ h => h) (Or.inl ⟨by rfl, ?_⟩) hHeld ?_
  rotate_left
  · intro W hSw
    obtain ⟨s1, s2, s3, s4⟩ := hSw
    go_simp
    with_reducible rfl
  simp only [Act.put, List.setIfInBounds_toArray, List.set_cons_zero, List.set_cons_succ]
  refine wpAnyH_take (i := 15) (oi := ⟨some 4, _, _, _, _, _⟩) (v := ?_) rfl (by kernel_rfl) (by kernel_rfl) (by kernel_rfl) (fun _ _ _ h => h) (Or.inl ⟨by rfl, ?_⟩) hHeld ?_
  rotate_left
  · intro W hSw
    obtain ⟨s1, s2, s3, s4⟩ := hSw
    go_simp
    with_reducible rfl
  simp only [Act.put, List.setIfInBounds_toArray, List.set_cons_zero, List.set_cons_succ]
  refine wpAnyH_done (by kernel_rfl) ?_ _
  go_wp2
  go_ret
  refine ⟨?_, H4.out.drew⟩
  have hw1 : ∀ x : Int, -9223372036854775808 ≤ x → x ≤ 9223372036854775807 → IntKind.i64.wrap x = x := fun x h1 h2 => by rw [IntKind.wrap_i64]; omega
  have q1 := hw1 ((ci : Int) * co - cs - ci) (by omega) (by omega)
  have q2 := hw1 ((ci : Int) * co - cs - ci - co) (by omega) (by omega)
  have q3 := hw1 ((ci : Int) * co - cs - ci - co + lk) (by omega) (by omega)
  simp [q1, q2, q3]
theorem cost_any {w : World} {l bl bo bi : Nat} {go gi : Int → Option Nat} {s : LSt} (h : Lq w l bl bo bi go gi s) {v : Int} (hwv : (Lit.int .i64 v).wf = true) :
    Calls Tryz.prog 33 #[ptr l, .int .i64 v] w fun e w' => e = .returned (.int .i64 (s.cost v)) ∧ Below w.heap.size w w' := by
  cases hh : s.holds v with
  | false => exact cost_not h hwv hh
  | true => exact cost_yes h hh
end Go.Proofs.YtdkpdmpghibmmaaGreat
