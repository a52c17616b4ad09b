/- DistTimes (written by mkdlg.py). -/
import Derived.Test.YthljgkaigjokjaaDsLawF
import Derived.Test.YthljgkaigjokjaaDsLawD
import Derived.BigQuiet
namespace Go.Proofs.Ythljgkaigjokjaa
open Go.RowKit Go.Shelf Grm Lay
attribute [local go_sem] Oper.semAt_some
def modA (x : Ar) : Ar := (x.1, x.2.1, x.2.2 % 1000000)
def timesA (t : Int) (x : Ar) : Ar := (x.1, x.2.1, x.2.2 * t)
theorem wk_times {l : List Ar} {t : Int} {s v : Nat} {d : Int} (h : Wk (arcE l) s v d) : Wk (arcE (l.map (timesA t))) s v (d * t) := by
  induction h with
  | nil => rw [Int.zero_mul]; exact .nil
  | snoc _ he hv ih =>
    obtain ⟨x, hx, hu, rfl⟩ := mem_arcE.1 he
    have := Wk.snoc (e := (x.2.1, x.2.2 * t, 0)) ih (mem_arcE.2 ⟨timesA t x, List.mem_map_of_mem hx, hu, rfl⟩) hv
    simp only at this ⊢
    rwa [Int.add_mul]
theorem wk_times_back {l : List Ar} {t : Int} {s v : Nat} {d : Int} (h : Wk (arcE (l.map (timesA t))) s v d) : ∃ d', Wk (arcE l) s v d' ∧ d = d' * t := by
  induction h with
  | nil => exact ⟨0, .nil, by omega⟩
  | snoc _ he hv ih =>
    obtain ⟨y, hy, hu, rfl⟩ := mem_arcE.1 he
    obtain ⟨x, hx, rfl⟩ := List.mem_map.1 hy
    obtain ⟨d', h1, h2⟩ := ih
    refine ⟨_, Wk.snoc (e := (x.2.1, x.2.2, 0)) h1 (mem_arcE.2 ⟨x, hx, hu, rfl⟩) hv, ?_⟩
    simp only [timesA]
    rw [h2, Int.add_mul]
theorem far_times {l : List Ar} {N s : Nat} {t : Int} {L L' : List Int} (ht : 0 ≤ t) (h : FarL (arcE l) N s L) (h' : FarL (arcE (l.map (timesA t))) N s L') {v : Nat} (hv : v < N) :
    ∃ a b, L[v]? = some a ∧ L'[v]? = some b ∧ ((a = -1 ∧ b = -1) ∨ (IsD (arcE l) s v a ∧ b = a * t)) := by
  rcases h.2 v hv with ⟨a, h1, h2⟩ | ⟨h1, h2⟩
  · rcases h'.2 v hv with ⟨b, h3, h4⟩ | ⟨h3, h4⟩
    · refine ⟨a, b, h1, h3, .inr ⟨h2, ?_⟩⟩
      obtain ⟨d', h5, h6⟩ := wk_times_back h4.1
      have h7 := h4.2 _ (wk_times h2.1)
      have h8 := Int.mul_le_mul_of_nonneg_right (h2.2 _ h5) ht
      omega
    · exact (h4 _ (wk_times h2.1)).elim
  · rcases h'.2 v hv with ⟨b, h3, h4⟩ | ⟨h3, h4⟩
    · obtain ⟨d', h5, _⟩ := wk_times_back h4.1
      exact (h2 _ h5).elim
    · exact ⟨-1, -1, h1, h3, .inl ⟨rfl, rfl⟩⟩
theorem owns_set {w : World} {K g o n c i size : Nat} {e : TypeId} {xs : List Value} (h : w.ownsRow K e size (.slice (some ⟨g, o, none⟩) n c) n xs) (v : Value) (hi : i < n * size) : (w.setCell ⟨g, o + i, none⟩ v).ownsRow K e size (.slice (some ⟨g, o, none⟩) n c) n (xs.set i v) ∧ w.frozen? ⟨g, o + i, none⟩ = false := by
  rcases h.2 with ⟨h0, _⟩ | ⟨g', cap, cur, e1, h1, h2, h3, h4, h5, h6⟩
  · cases h0
  · cases e1
    have hr : Row w g e cur := h2
    rw [Nat.zero_add]
    refine ⟨⟨by rw [List.length_set]; exact h.1, .inr ⟨g, c, cur.setIfInBounds i v, rfl, h1, hr.put i v, h3, h4, by simp [h5], ?_⟩⟩, hr.thaw i⟩
    rw [← h6, Array.toList_setIfInBounds, List.take_set]
theorem acells_set : ∀ (l : List Ar) (k : Nat) (z : Int) (h : k < l.length), (acells l).set (k * 3 + 2) (.int .i64 z) = acells (l.set k ((l[k]'h).1, (l[k]'h).2.1, z)) := by
  intro l
  induction l with
  | nil => intro k z h; simp at h
  | cons x l ih =>
    intro k z h
    cases k with
    | zero => simp [acells]
    | succ k =>
      have h2 := ih k z (by simpa using h)
      have e : (k + 1) * 3 + 2 = k * 3 + 2 + 3 := by omega
      rw [e]
      simp only [acells, List.flatMap_cons, List.set_cons_succ, List.cons_append, List.nil_append, List.getElem_cons_succ] at h2 ⊢
      rw [h2]
/-- The arcs' lengths, changed up to k. -/
def modL (M : List Ar) (k : Nat) : List Ar := (M.take k).map modA ++ M.drop k
theorem modL_len (M : List Ar) (k : Nat) : (modL M k).length = M.length := by
  unfold modL
  simp only [List.length_append, List.length_map, List.length_take, List.length_drop]
  omega
theorem modL_at {M : List Ar} {k : Nat} (h : k < M.length) : (modL M k)[k]? = some (M[k]'h) := by
  unfold modL
  rw [List.getElem?_append_right (by simp; omega), List.getElem?_drop]
  simp only [List.length_map, List.length_take]
  rw [show k + (k - min k M.length) = k by omega, List.getElem?_eq_getElem h]
theorem modL_set {M : List Ar} {k : Nat} (h : k < M.length) : (modL M k).set k (modA (M[k]'h)) = modL M (k + 1) := by
  unfold modL
  have hl : ((M.take k).map modA).length = k := by simp; omega
  rw [List.set_append_right _ _ (by omega), hl, Nat.sub_self, List.drop_eq_getElem_cons h, List.set_cons_zero, List.take_succ_eq_append_getElem h, List.map_append, List.append_assoc]
  rfl
theorem modL_all (M : List Ar) : modL M M.length = M.map modA := by simp [modL]
/-- An arc's length is changed. -/
theorem tz_mod {w wr : World} {mb tb K0 N ML cm ba oa k : Nat} {M' TL : List Ar} {v : Value} (h : Tz w mb tb K0 N ML M' (some ⟨ba, oa, none⟩) cm v TL wr) (z : Int) (hk : k < M'.length) :
    wr.frozen? ⟨ba, oa + k * 3 + 2, none⟩ = false ∧ Tz w mb tb K0 N ML (M'.set k ((M'[k]'hk).1, (M'[k]'hk).2.1, z)) (some ⟨ba, oa, none⟩) cm v TL (wr.setCell ⟨ba, oa + k * 3 + 2, none⟩ (.int .i64 z)).drew := by
  have hl := h.lo
  have hz := h.sz
  have hba : ba < mb := hl.2.2.2.1 ba rfl
  have hmo : wr.ownsRow w.heap.size 33 3 (.slice (some ⟨ba, oa, none⟩) ML cm) ML (acells M') := by
    have h2 := h.mo
    unfold AV at h2
    rw [hl.2.2.2.2] at h2
    exact h2
  obtain ⟨h1, h2⟩ := owns_set (i := k * 3 + 2) hmo (.int .i64 z) (by rw [← hl.2.2.2.2]; omega)
  have hbw := (owns_lt hmo ba rfl).1
  have ho : Only (fun q => q = ba) wr (wr.setCell ⟨ba, oa + k * 3 + 2, none⟩ (.int .i64 z)).drew := ((Only.refl (fun q => q = ba) wr).setCell (p := ⟨ba, oa + k * 3 + 2, none⟩) (.inl rfl) _).drew
  rw [← Nat.add_assoc] at h1 h2
  refine ⟨h2, h.tv.only ho (by omega), owns_only h.own ho (fun q e s => by have := (owns_lt h.own q e).1; omega), h.mv.only ho (by omega), ?_, h.bw.trans (ho.below (K := w.heap.size) (fun q e => by omega) h.bw.size), Nat.le_trans hz ho.size, hl.1, hl.2.1, hl.2.2.1, hl.2.2.2.1, by rw [List.length_set]; exact hl.2.2.2.2⟩
  unfold AV
  rw [List.length_set, ← acells_set, hl.2.2.2.2]
  exact h1
theorem drew_cell {w : World} {p : Addr} {u : Value} (h : w.cell? p = some u) : w.drew.cell? p = some u := h
theorem mod_check {N : Nat} {M : List Ar} (hN : N ≤ 12) (hl : M.length ≤ 40) (h : ∀ x ∈ M, 0 ≤ x.1 ∧ x.1 < (N : Int) ∧ 0 ≤ x.2.1 ∧ x.2.1 < (N : Int) ∧ 0 ≤ x.2.2 ∧ x.2.2 ≤ 2147483648) {t : Int} (ht : 0 ≤ t ∧ t < 256) : checkL (N : Nat) (M.map modA) = 0 ∧ checkL (N : Nat) ((M.map modA).map (timesA t)) = 0 := by
  constructor
  · refine check_of (by omega) (by rw [List.length_map]; omega) (fun x hx => ?_)
    obtain ⟨y, hy, rfl⟩ := List.mem_map.1 hx
    have := h y hy
    simp only [modA]
    omega
  · refine check_of (by omega) (by rw [List.length_map, List.length_map]; omega) (fun x hx => ?_)
    obtain ⟨z, hz, rfl⟩ := List.mem_map.1 hx
    obtain ⟨y, hy, rfl⟩ := List.mem_map.1 hz
    have := h y hy
    have h0 : 0 ≤ y.2.2 % 1000000 ∧ y.2.2 % 1000000 ≤ 999999 := by omega
    have h1 := Int.mul_nonneg h0.1 ht.1
    have h2 : y.2.2 % 1000000 * t ≤ 999999 * 255 := Int.mul_le_mul h0.2 (by omega) ht.1 (by omega)
    simp only [modA, timesA]
    omega
set_option maxRecDepth 100000 in
set_option maxHeartbeats 8000000 in
theorem dtimes_walk (n : Int) (a : Option Addr) (l : List Ar) (c : Nat) (x t : Int) (w : World) (hA : Arcs w a l) (hF : ∀ y ∈ l, FitA y) (hx : 0 ≤ x ∧ x < 256) (ht : 0 ≤ t ∧ t < 256) :
    Calls Try.prog 14 #[.int .i64 n, .slice a l.length c, .int .u8 x, .int .u8 t] w fun e w' => e = .returned (.bool true) ∧ Below w.heap.size w w' := by
  have HO := Lib.hid (dof_any n a l c w hA hF)
  have hN1 := ofN_le n
  have hLl := ofL_len n l
  have hOk := ofL_ok n l
  clear hA hF
  generalize ofL n l = M at *
  generalize ofN n = N at *
  obtain ⟨s, hu, hs1⟩ := at_place (N := N) hx.1 hN1.1
  have hxw : IntKind.i64.wrap x = x := by rw [IntKind.wrap_i64]; omega
  have htw : IntKind.i64.wrap t = t := by rw [IntKind.wrap_i64]; omega
  have hn0 : ¬ ((N : Nat) : Int) = 0 := by omega
  obtain ⟨hck, hck2⟩ := mod_check hN1.2 hLl hOk ht
  have hok1 : EndsOk N (M.map modA) ∧ EndsOk N ((M.map modA).map (timesA t)) := by
    constructor
    · obtain ⟨k, h, _, _, h2, _⟩ := checkL_zero hck
      have : N = k := by omega
      subst this
      exact h2
    · obtain ⟨k, h, _, _, h2, _⟩ := checkL_zero hck2
      have : N = k := by omega
      subst this
      exact h2
  obtain ⟨L, hL⟩ := FarI.ex (eds_arc hok1.1 (len_of hck)) s
  obtain ⟨L2, hL2⟩ := FarI.ex (eds_arc hok1.2 (len_of hck2)) s
  have hfl : FarL (arcE (M.map modA)) N s L := by
    rcases hL with ⟨_, _, h⟩ | ⟨h, _⟩
    · simpa using h
    · omega
  have hfl2 : FarL (arcE ((M.map modA).map (timesA t))) N s L2 := by
    rcases hL2 with ⟨_, _, h⟩ | ⟨h, _⟩
    · simpa using h
    · omega
  have hpair := fun v hv => far_times (v := v) ht.1 hfl hfl2 hv
  have hsl := sumL_le (len_of hck) (M.map modA).length (Nat.le_refl _)
  rw [List.take_length, List.length_map] at hsl
  have HPair := Lib.hid (show ∀ v, v < N → ∃ a b, L[v]? = some a ∧ L2[v]? = some b ∧ ((a = -1 ∧ b = -1) ∨ (0 ≤ a ∧ b = a * t ∧ a ≤ 85899345920)) from fun v hv => by
    obtain ⟨a, b, h1, h2, h3⟩ := hpair v hv
    refine ⟨a, b, h1, h2, h3.imp id fun h3 => ⟨h3.1.1.nonneg (eds_arc hok1.1 (len_of hck)), h3.2, ?_⟩⟩
    have h4 := far_sum hok1.1 (len_of hck) hL (v : Int)
    rw [atL_of h1] at h4
    omega)
  have HCk := Lib.hid (And.intro hck hck2)
  have HFm := Lib.hid hL
  have HFt := Lib.hid hL2
  have HLn := Lib.hid (And.intro hfl.1 hfl2.1)
  have HLl := Lib.hid hLl
  have HM := Lib.hid hOk
  clear hck hck2 hok1 hL hL2 hfl hfl2 hLl hx hOk hpair hsl
  have ht0 := ht.1
  have ht1 := ht.2
  clear ht
  obtain ⟨i0, hi, hz0, hz1, hz2⟩ := info_partsC infoA
  go_enter Try.func14, Try.ntmps14
  go_upto_region 3 with (first | (go_at_call 45; refine HO.out.mono ?_; rintro e w1 ⟨hb1, am, cm, rfl, hv1⟩; have H1 := Lib.hid (And.intro hb1 hv1); clear hb1 hv1))
  obtain ⟨w3, hw3⟩ : ∃ w3, w3 = (w1.alloc (.cells #[.int .i64 (N : Nat), .slice am M.length cm] 24)).alloc (.cells #[.int .i64 (N : Nat), .slice none 0 0] 24) := ⟨_, rfl⟩
  have hb3 : Below w1.heap.size w1 w3 := by rw [hw3]; exact ((Below.refl _ _).alloc (Nat.le_refl _) _).alloc (by simp) _
  have hm3 : Row w3 w1.heap.size 24 #[.int .i64 (N : Nat), .slice am M.length cm] := by rw [hw3]; exact (Row.fresh w1 _ _).past _
  have ht3 : Row w3 (w1.heap.size + 1) 24 #[.int .i64 (N : Nat), .slice none 0 0] := by
    rw [hw3]
    have := Row.fresh (w1.alloc (.cells #[.int .i64 (N : Nat), .slice am M.length cm] 24)) 24 #[.int .i64 (N : Nat), .slice none 0 0]
    rwa [World.size_alloc] at this
  have hs3 : w3.heap.size = w1.heap.size + 2 := by rw [hw3]; simp
  rw [← hw3]
  have h0 : Tz w w1.heap.size (w1.heap.size + 1) (w1.heap.size + 2) N M.length M am cm (.slice none 0 0) [] w3 :=
    ⟨ht3, AV.nil _ _, hm3, owns_only H1.out.2 (Only.of_below (fun _ => False) hb3) (fun _ _ h => h), H1.out.1.trans (hb3.mono H1.out.1.size), by omega, ⟨H1.out.1.size, by omega, by omega, fun b e => (owns_lt H1.out.2 b e).2, rfl⟩⟩
  have H0 := Lib.hid h0
  clear hw3 hb3 hm3 ht3 hs3 h0
  go_wp2
  go_loopw [11] (fun i wr => ∃ (k : Nat) (v : Value), i = .int .i64 k ∧ k ≤ M.length ∧ Tz w w1.heap.size (w1.heap.size + 1) (w1.heap.size + 2) N M.length (modL M k) am cm v (((M.take k).map modA).map (timesA t)) wr) (fun i _ => M.length - (intOf i).toNat)
  case atStart => exact ⟨0, _, rfl, Nat.zero_le _, by simpa [modL] using H0.out⟩
  case round =>
    obtain ⟨k, v, rfl, hk, htz⟩ := hrel
    have m1 := htz.mv.cell 1
    simp only [List.getElem?_toArray, List.getElem?_cons_zero, List.getElem?_cons_succ] at m1
    by_cases hlt : k < M.length
    · have hlt1 : (k : Int) < (M.length : Int) := by omega
      have hw1' : IntKind.i64.wrap ((k : Int) + 1) = (k : Int) + 1 := by have := HLl.out; rw [IntKind.wrap_i64]; omega
      have hkm : k < (modL M k).length := by rw [modL_len]; exact hlt
      have hmk : (modL M k)[k]'hkm = M[k]'hlt := by
        have h := modL_at hlt
        rw [List.getElem?_eq_getElem hkm] at h
        injection h
      have hset := modL_set hlt
      have htk : ((M.take k).map modA).map (timesA t) ++ [timesA t (modA (M[k]'hlt))] = ((M.take (k + 1)).map modA).map (timesA t) := by rw [List.take_succ_eq_append_getElem hlt, List.map_append, List.map_append]; rfl
      obtain ⟨at_, ct, rfl⟩ := htz.own.shape
      obtain ⟨ba, oa, rfl, y0, y1, y2⟩ := (AV.arcs htz.mo).at_ hkm
      have hxx := HM.out _ (List.getElem_mem hlt)
      have hmod := fun z => tz_mod htz z hkm
      rw [hmk] at y0 y1 y2 hmod
      generalize M[k]'hlt = xx at *
      obtain ⟨x0, x1, z⟩ := xx
      simp only [modA, timesA] at y0 y1 y2 htk hset hmod hxx
      have hrem : z.tmod 1000000 = z % 1000000 := Int.tmod_eq_emod_of_nonneg (by omega)
      obtain ⟨x2, hx2⟩ : ∃ x2, x2 = z % 1000000 := ⟨_, rfl⟩
      obtain ⟨hfz, htz2⟩ := hmod x2
      rw [← hx2] at hrem htk hset
      rw [hset] at htz2
      have hx20 : 0 ≤ x2 ∧ x2 ≤ 999999 := by omega
      have hp1 := Int.mul_nonneg hx20.1 ht0
      have hp2 : x2 * t ≤ 999999 * 255 := Int.mul_le_mul hx20.2 (by omega) ht0 (by omega)
      have hwp : IntKind.i64.wrap (x2 * t) = x2 * t := by rw [IntKind.wrap_i64]; omega
      have hx2' := hx2.symm
      clear hx2
      obtain ⟨TL, hTL⟩ : ∃ TL, TL = ((M.take k).map modA).map (timesA t) := ⟨_, rfl⟩
      rw [← hTL] at htz2 htk
      have m1b := htz2.mv.cell 1
      simp only [List.getElem?_toArray, List.getElem?_cons_zero, List.getElem?_cons_succ] at m1b
      have HM6 := Lib.hid m1b
      have HTz2 := Lib.hid htz2
      have HTk := Lib.hid htk
      have HSet := Lib.hid (show ∃ h : k < (modL M (k + 1)).length, (modL M (k + 1))[k]'h = (x0, x1, x2) from ⟨by rw [modL_len]; exact hlt, by
        have h : (modL M (k + 1))[k]? = some (x0, x1, x2) := by rw [← hset, List.getElem?_set_self hkm]
        rw [List.getElem?_eq_getElem (by rw [modL_len]; exact hlt)] at h
        injection h⟩)
      have HTl := Lib.hid (show TL.length ≤ 40 by rw [hTL, List.length_map, List.length_map, List.length_take]; have := HLl.out; omega)
      clear htz htz2 hmod htk hset hxx hmk y0 y1 hTL m1b hp1 hp2
      go_upto_region 6 with (fail)
      refine wp_region_held_drew (S := fun W => W.cell? ⟨w1.heap.size, 1, none⟩ = some (.slice (some ⟨ba, oa, none⟩) M.length cm)) (by kernel_rfl) m1 (fun hHeld => ?_)
      refine wpAnyH_take (i := 0) (oi := ⟨some 29, _, _, _, _, _⟩) (v := ?_) rfl (by kernel_rfl) (by kernel_rfl) (by kernel_rfl) (fun _ _ _ h => h) (Or.inl ⟨by rfl, ?_⟩) hHeld ?_
      rotate_left
      · intro W hSw
        obtain s0 := hSw
        go_simp
        with_reducible rfl
      simp only [Act.put, List.setIfInBounds_toArray, List.set_cons_zero, List.set_cons_succ]
      refine wpAnyH_take (i := 1) (oi := ⟨some 30, _, _, _, _, _⟩) (v := ?_) rfl (by kernel_rfl) (by kernel_rfl) (by kernel_rfl) (fun _ _ _ h => h) (Or.inl ⟨by rfl, ?_⟩) hHeld ?_
      rotate_left
      · intro W hSw
        obtain s0 := hSw
        go_simp
        with_reducible rfl
      simp only [Act.put, List.setIfInBounds_toArray, List.set_cons_zero, List.set_cons_succ]
      refine wpAnyH_take (i := 2) (oi := ⟨some 31, _, _, _, _, _⟩) (v := ?_) rfl (by kernel_rfl) (by kernel_rfl) (by kernel_rfl) (fun _ _ _ h => h) (Or.inl ⟨by rfl, ?_⟩) hHeld ?_
      rotate_left
      · intro W hSw
        obtain s0 := hSw
        go_simp
        with_reducible rfl
      simp only [Act.put, List.setIfInBounds_toArray, List.set_cons_zero, List.set_cons_succ]
      refine wpAnyH_take (i := 3) (oi := ⟨some 32, _, _, _, _, _⟩) (v := ?_) rfl (by kernel_rfl) (by kernel_rfl) (by kernel_rfl) (fun _ _ _ h => h) (Or.inl ⟨by rfl, ?_⟩) hHeld ?_
      rotate_left
      · intro W hSw
        obtain s0 := hSw
        go_simp
        with_reducible rfl
      simp only [Act.put, List.setIfInBounds_toArray, List.set_cons_zero, List.set_cons_succ]
      refine wpAnyH_take (i := 4) (oi := ⟨some 33, _, _, _, _, _⟩) (v := ?_) rfl (by kernel_rfl) (by kernel_rfl) (by kernel_rfl) (fun _ _ _ h => h) (Or.inl ⟨by rfl, ?_⟩) hHeld ?_
      rotate_left
      · intro W hSw
        obtain s0 := hSw
        go_simp
        with_reducible rfl
      simp only [Act.put, List.setIfInBounds_toArray, List.set_cons_zero, List.set_cons_succ]
      refine wpAnyH_take (i := 5) (oi := ⟨some 34, _, _, _, _, _⟩) (v := ?_) rfl (by kernel_rfl) (by kernel_rfl) (by kernel_rfl) (fun _ _ _ h => h) (Or.inl ⟨by rfl, ?_⟩) hHeld ?_
      rotate_left
      · intro W hSw
        obtain s0 := hSw
        go_simp
        with_reducible rfl
      simp only [Act.put, List.setIfInBounds_toArray, List.set_cons_zero, List.set_cons_succ]
      refine wpAnyH_take (i := 6) (oi := ⟨some 35, _, _, _, _, _⟩) (v := ?_) rfl (by kernel_rfl) (by kernel_rfl) (by kernel_rfl) (fun _ _ _ h => h) (Or.inl ⟨by rfl, ?_⟩) hHeld ?_
      rotate_left
      · intro W hSw
        obtain s0 := hSw
        go_simp
        with_reducible rfl
      simp only [Act.put, List.setIfInBounds_toArray, List.set_cons_zero, List.set_cons_succ]
      refine wpAnyH_take (i := 7) (oi := ⟨some 36, _, _, _, _, _⟩) (v := ?_) rfl (by kernel_rfl) (by kernel_rfl) (by kernel_rfl) (fun _ _ _ h => h) (Or.inl ⟨by rfl, ?_⟩) hHeld ?_
      rotate_left
      · intro W hSw
        obtain s0 := hSw
        go_simp
        with_reducible rfl
      simp only [Act.put, List.setIfInBounds_toArray, List.set_cons_zero, List.set_cons_succ]
      refine wpAnyH_ready (rs := [8]) (by kernel_rfl) (by simp) ?_
      refine (AllReadyH.cons (o := ⟨some 37, _, _, _, _, _⟩) rfl (fun K hK => ?_) AllReadyH.nil)
      go_simp
      refine hK.out _ _ hHeld (fun hHeld2 => ?_)
      clear hK hHeld
      have hHeld := hHeld2
      clear hHeld2
      refine wpAnyH_take (i := 9) (oi := ⟨some 38, _, _, _, _, _⟩) (v := ?_) rfl (by kernel_rfl) (by kernel_rfl) (by kernel_rfl) (fun _ _ _ h => h) (Or.inl ⟨by rfl, ?_⟩) hHeld ?_
      rotate_left
      · intro W hSw
        obtain s0 := hSw
        go_simp
        with_reducible rfl
      simp only [Act.put, List.setIfInBounds_toArray, List.set_cons_zero, List.set_cons_succ]
      refine wpAnyH_take (i := 10) (oi := ⟨some 39, _, _, _, _, _⟩) (v := ?_) rfl (by kernel_rfl) (by kernel_rfl) (by kernel_rfl) (fun _ _ _ h => h) (Or.inl ⟨by rfl, ?_⟩) hHeld ?_
      rotate_left
      · intro W hSw
        obtain s0 := hSw
        go_simp
        with_reducible rfl
      simp only [Act.put, List.setIfInBounds_toArray, List.set_cons_zero, List.set_cons_succ]
      refine wpAnyH_take (i := 11) (oi := ⟨some 40, _, _, _, _, _⟩) (v := ?_) rfl (by kernel_rfl) (by kernel_rfl) (by kernel_rfl) (fun _ _ _ h => h) (Or.inl ⟨by rfl, ?_⟩) hHeld ?_
      rotate_left
      · intro W hSw
        obtain s0 := hSw
        go_simp
        with_reducible rfl
      simp only [Act.put, List.setIfInBounds_toArray, List.set_cons_zero, List.set_cons_succ]
      refine wpAnyH_ready (rs := [12]) (by kernel_rfl) (by simp) ?_
      refine (AllReadyH.cons (o := ⟨none, _, _, _, _, _⟩) rfl (fun K hK => ?_) AllReadyH.nil)
      go_simp
      refine hK.out _ _ HM6.out (fun _ => ?_)
      clear hK
      refine wpAnyH_done (by kernel_rfl) ?_ _
      go_wp2
      obtain ⟨wr1, hwr1⟩ : ∃ W, W = (wr.setCell ⟨ba, oa + k * 3 + 2, none⟩ (.int .i64 x2)).drew := ⟨_, rfl⟩
      have htz := HTz2.out
      rw [← hwr1] at htz
      rw [← hwr1]
      clear hwr1 HTz2 HM6 m1 hfz y2 hHeld
      obtain ⟨hks, hse⟩ := HSet.out
      obtain ⟨ba', oa', eab, y0, y1, y2⟩ := (AV.arcs htz.mo).at_ hks
      cases eab
      rw [hse] at y0 y1 y2
      simp only at y0 y1 y2
      have r1 := htz.tv.cell 1
      have m1 := htz.mv.cell 1
      have m2 := htz.tv.lt
      have hsz := htz.sz
      have hlo := htz.lo
      simp only [List.getElem?_toArray, List.getElem?_cons_zero, List.getElem?_cons_succ] at r1 m1
      have HSt := Lib.hid (show ∀ W, Only (fun q => q = w1.heap.size + 1 ∨ (Value.slice at_ TL.length ct).ownBlock = some q) wr1 W → (W.cell? ⟨w1.heap.size, 1, none⟩ = some (.slice (some ⟨ba, oa, none⟩) M.length cm) ∧ W.cell? ⟨ba, oa + k * 3, none⟩ = some (.int .i64 x0) ∧ W.cell? ⟨ba, oa + k * 3 + 1, none⟩ = some (.int .i64 x1) ∧ W.cell? ⟨ba, oa + k * 3 + 2, none⟩ = some (.int .i64 x2)) from fun W hW => by
        have hba : ∀ q, (q = w1.heap.size + 1 ∨ (Value.slice at_ TL.length ct).ownBlock = some q) → w1.heap.size < q := fun q s => by
          rcases s with s | s
          · omega
          · have := (owns_lt htz.own q s).1
            omega
        have hbl : ba < w1.heap.size := htz.lo.2.2.2.1 ba rfl
        have hc : ∀ o u, wr1.cell? ⟨ba, o, none⟩ = some u → W.cell? ⟨ba, o, none⟩ = some u := fun o u h => by
          rw [World.cell?_of_block (w := wr1) (w' := W) (hW.block ba (block_lt_of_cell h) (fun s => by have := hba _ s; omega))]
          exact h
        have hm := (htz.mv.only hW (fun s => by have := hba _ s; omega)).cell 1
        simp only [List.getElem?_toArray, List.getElem?_cons_zero, List.getElem?_cons_succ] at hm
        exact ⟨hm, hc _ _ y0, hc _ _ y1, hc _ _ y2⟩)
      have HTail := Lib.hid (tz_app (y := (x0, x1, x2 * t)) htz)
      have HV := Lib.hid (show wr1.drew.ownsRow (w1.heap.size + 2) 33 3 (.slice at_ TL.length ct) TL.length (acells TL) from htz.own)
      have HQs := Lib.hid (show w1.heap.size + 2 ≤ wr1.heap.size from hsz)
      clear htz y0 y1 y2 hlo hse
      refine wp_region_held_drew (S := fun W => W.cell? ⟨w1.heap.size, 1, none⟩ = some (.slice (some ⟨ba, oa, none⟩) M.length cm) ∧ W.cell? ⟨ba, oa + k * 3, none⟩ = some (.int .i64 x0) ∧ W.cell? ⟨ba, oa + k * 3 + 1, none⟩ = some (.int .i64 x1) ∧ W.cell? ⟨ba, oa + k * 3 + 2, none⟩ = some (.int .i64 x2)) (by kernel_rfl) (HSt.out _ (Only.refl _ _).drew) (fun hHeld => ?_)
      refine wpAnyH_take (i := 0) (oi := ⟨some 41, _, _, _, _, _⟩) (v := ?_) rfl (by kernel_rfl) (by kernel_rfl) (by kernel_rfl) (fun _ _ _ h => h) (Or.inl ⟨by rfl, ?_⟩) hHeld ?_
      rotate_left
      · intro W hSw
        obtain ⟨s0, s1, s2, s3⟩ := hSw
        go_simp
        with_reducible rfl
      simp only [Act.put, List.setIfInBounds_toArray, List.set_cons_zero, List.set_cons_succ]
      refine wpAnyH_take (i := 2) (oi := ⟨some 43, _, _, _, _, _⟩) (v := ?_) rfl (by kernel_rfl) (by kernel_rfl) (by kernel_rfl) (fun _ _ _ h => h) (Or.inl ⟨by rfl, ?_⟩) hHeld ?_
      rotate_left
      · intro W hSw
        obtain ⟨s0, s1, s2, s3⟩ := hSw
        go_simp
        with_reducible rfl
      simp only [Act.put, List.setIfInBounds_toArray, List.set_cons_zero, List.set_cons_succ]
      refine wpAnyH_take (i := 3) (oi := ⟨some 44, _, _, _, _, _⟩) (v := ?_) rfl (by kernel_rfl) (by kernel_rfl) (by kernel_rfl) (fun _ _ _ h => h) (Or.inl ⟨by rfl, ?_⟩) hHeld ?_
      rotate_left
      · intro W hSw
        obtain ⟨s0, s1, s2, s3⟩ := hSw
        go_simp
        with_reducible rfl
      simp only [Act.put, List.setIfInBounds_toArray, List.set_cons_zero, List.set_cons_succ]
      refine wpAnyH_take (i := 4) (oi := ⟨some 45, _, _, _, _, _⟩) (v := ?_) rfl (by kernel_rfl) (by kernel_rfl) (by kernel_rfl) (fun _ _ _ h => h) (Or.inl ⟨by rfl, ?_⟩) hHeld ?_
      rotate_left
      · intro W hSw
        obtain ⟨s0, s1, s2, s3⟩ := hSw
        go_simp
        with_reducible rfl
      simp only [Act.put, List.setIfInBounds_toArray, List.set_cons_zero, List.set_cons_succ]
      refine wpAnyH_take (i := 5) (oi := ⟨some 46, _, _, _, _, _⟩) (v := ?_) rfl (by kernel_rfl) (by kernel_rfl) (by kernel_rfl) (fun _ _ _ h => h) (Or.inl ⟨by rfl, ?_⟩) hHeld ?_
      rotate_left
      · intro W hSw
        obtain ⟨s0, s1, s2, s3⟩ := hSw
        go_simp
        with_reducible rfl
      simp only [Act.put, List.setIfInBounds_toArray, List.set_cons_zero, List.set_cons_succ]
      refine wpAnyH_take (i := 6) (oi := ⟨some 47, _, _, _, _, _⟩) (v := ?_) rfl (by kernel_rfl) (by kernel_rfl) (by kernel_rfl) (fun _ _ _ h => h) (Or.inl ⟨by rfl, ?_⟩) hHeld ?_
      rotate_left
      · intro W hSw
        obtain ⟨s0, s1, s2, s3⟩ := hSw
        go_simp
        with_reducible rfl
      simp only [Act.put, List.setIfInBounds_toArray, List.set_cons_zero, List.set_cons_succ]
      refine wpAnyH_take (i := 7) (oi := ⟨some 48, _, _, _, _, _⟩) (v := ?_) rfl (by kernel_rfl) (by kernel_rfl) (by kernel_rfl) (fun _ _ _ h => h) (Or.inl ⟨by rfl, ?_⟩) hHeld ?_
      rotate_left
      · intro W hSw
        obtain ⟨s0, s1, s2, s3⟩ := hSw
        go_simp
        with_reducible rfl
      simp only [Act.put, List.setIfInBounds_toArray, List.set_cons_zero, List.set_cons_succ]
      refine wpAnyH_take (i := 8) (oi := ⟨some 49, _, _, _, _, _⟩) (v := ?_) rfl (by kernel_rfl) (by kernel_rfl) (by kernel_rfl) (fun _ _ _ h => h) (Or.inl ⟨by rfl, ?_⟩) hHeld ?_
      rotate_left
      · intro W hSw
        obtain ⟨s0, s1, s2, s3⟩ := hSw
        go_simp
        with_reducible rfl
      simp only [Act.put, List.setIfInBounds_toArray, List.set_cons_zero, List.set_cons_succ]
      refine wpAnyH_take (i := 9) (oi := ⟨some 50, _, _, _, _, _⟩) (v := ?_) rfl (by kernel_rfl) (by kernel_rfl) (by kernel_rfl) (fun _ _ _ h => h) (Or.inl ⟨by rfl, ?_⟩) hHeld ?_
      rotate_left
      · intro W hSw
        obtain ⟨s0, s1, s2, s3⟩ := hSw
        go_simp
        with_reducible rfl
      simp only [Act.put, List.setIfInBounds_toArray, List.set_cons_zero, List.set_cons_succ]
      refine wpAnyH_take (i := 10) (oi := ⟨some 51, _, _, _, _, _⟩) (v := ?_) rfl (by kernel_rfl) (by kernel_rfl) (by kernel_rfl) (fun _ _ _ h => h) (Or.inl ⟨by rfl, ?_⟩) hHeld ?_
      rotate_left
      · intro W hSw
        obtain ⟨s0, s1, s2, s3⟩ := hSw
        go_simp
        with_reducible rfl
      simp only [Act.put, List.setIfInBounds_toArray, List.set_cons_zero, List.set_cons_succ]
      refine wpAnyH_take (i := 11) (oi := ⟨some 52, _, _, _, _, _⟩) (v := ?_) rfl (by kernel_rfl) (by kernel_rfl) (by kernel_rfl) (fun _ _ _ h => h) (Or.inl ⟨by rfl, ?_⟩) hHeld ?_
      rotate_left
      · intro W hSw
        obtain ⟨s0, s1, s2, s3⟩ := hSw
        go_simp
        with_reducible rfl
      simp only [Act.put, List.setIfInBounds_toArray, List.set_cons_zero, List.set_cons_succ]
      refine wpAnyH_take (i := 12) (oi := ⟨some 53, _, _, _, _, _⟩) (v := ?_) rfl (by kernel_rfl) (by kernel_rfl) (by kernel_rfl) (fun _ _ _ h => h) (Or.inl ⟨by rfl, ?_⟩) hHeld ?_
      rotate_left
      · intro W hSw
        obtain ⟨s0, s1, s2, s3⟩ := hSw
        go_simp
        with_reducible rfl
      simp only [Act.put, List.setIfInBounds_toArray, List.set_cons_zero, List.set_cons_succ]
      refine wpAnyH_take (i := 13) (oi := ⟨some 54, _, _, _, _, _⟩) (v := ?_) rfl (by kernel_rfl) (by kernel_rfl) (by kernel_rfl) (fun _ _ _ h => h) (Or.inl ⟨by rfl, ?_⟩) hHeld ?_
      rotate_left
      · intro W hSw
        obtain ⟨s0, s1, s2, s3⟩ := hSw
        go_simp
        with_reducible rfl
      simp only [Act.put, List.setIfInBounds_toArray, List.set_cons_zero, List.set_cons_succ]
      refine wpAnyH_take (i := 14) (oi := ⟨some 55, _, _, _, _, _⟩) (v := ?_) rfl (by kernel_rfl) (by kernel_rfl) (by kernel_rfl) (fun _ _ _ h => h) (Or.inl ⟨by rfl, ?_⟩) hHeld ?_
      rotate_left
      · intro W hSw
        obtain ⟨s0, s1, s2, s3⟩ := hSw
        go_simp
        with_reducible rfl
      simp only [Act.put, List.setIfInBounds_toArray, List.set_cons_zero, List.set_cons_succ]
      refine wpAnyH_take (i := 15) (oi := ⟨some 56, _, _, _, _, _⟩) (v := ?_) rfl (by kernel_rfl) (by kernel_rfl) (by kernel_rfl) (fun _ _ _ h => h) (Or.inl ⟨by rfl, ?_⟩) hHeld ?_
      rotate_left
      · intro W hSw
        obtain ⟨s0, s1, s2, s3⟩ := hSw
        go_simp
        with_reducible rfl
      simp only [Act.put, List.setIfInBounds_toArray, List.set_cons_zero, List.set_cons_succ]
      refine wpAnyH_take (i := 16) (oi := ⟨some 57, _, _, _, _, _⟩) (v := ?_) rfl (by kernel_rfl) (by kernel_rfl) (by kernel_rfl) (fun _ _ _ h => h) (Or.inl ⟨by rfl, ?_⟩) hHeld ?_
      rotate_left
      · intro W hSw
        obtain ⟨s0, s1, s2, s3⟩ := hSw
        go_simp
        with_reducible rfl
      simp only [Act.put, List.setIfInBounds_toArray, List.set_cons_zero, List.set_cons_succ]
      refine wpAnyH_take (i := 17) (oi := ⟨some 58, _, _, _, _, _⟩) (v := ?_) rfl (by kernel_rfl) (by kernel_rfl) (by kernel_rfl) (fun _ _ _ h => h) (Or.inl ⟨by rfl, ?_⟩) hHeld ?_
      rotate_left
      · intro W hSw
        obtain ⟨s0, s1, s2, s3⟩ := hSw
        go_simp
        with_reducible rfl
      simp only [Act.put, List.setIfInBounds_toArray, List.set_cons_zero, List.set_cons_succ]
      refine wpAnyH_take (i := 18) (oi := ⟨some 59, _, _, _, _, _⟩) (v := ?_) rfl (by kernel_rfl) (by kernel_rfl) (by kernel_rfl) (fun _ _ _ h => h) (Or.inl ⟨by rfl, ?_⟩) hHeld ?_
      rotate_left
      · intro W hSw
        obtain ⟨s0, s1, s2, s3⟩ := hSw
        go_simp
        with_reducible rfl
      simp only [Act.put, List.setIfInBounds_toArray, List.set_cons_zero, List.set_cons_succ]
      refine wpAnyH_take (i := 19) (oi := ⟨some 60, _, _, _, _, _⟩) (v := ?_) rfl (by kernel_rfl) (by kernel_rfl) (by kernel_rfl) (fun _ _ _ h => h) (Or.inl ⟨by rfl, ?_⟩) hHeld ?_
      rotate_left
      · intro W hSw
        obtain ⟨s0, s1, s2, s3⟩ := hSw
        go_simp
        with_reducible rfl
      simp only [Act.put, List.setIfInBounds_toArray, List.set_cons_zero, List.set_cons_succ]
      refine wpAnyH_take (i := 20) (oi := ⟨some 61, _, _, _, _, _⟩) (v := ?_) rfl (by kernel_rfl) (by kernel_rfl) (by kernel_rfl) (fun _ _ _ h => h) (Or.inl ⟨by rfl, ?_⟩) hHeld ?_
      rotate_left
      · intro W hSw
        obtain ⟨s0, s1, s2, s3⟩ := hSw
        go_simp
        with_reducible rfl
      simp only [Act.put, List.setIfInBounds_toArray, List.set_cons_zero, List.set_cons_succ]
      refine wpAnyH_take (i := 21) (oi := ⟨some 62, _, _, _, _, _⟩) (v := ?_) rfl (by kernel_rfl) (by kernel_rfl) (by kernel_rfl) (fun _ _ _ h => h) (Or.inl ⟨by rfl, ?_⟩) hHeld ?_
      rotate_left
      · intro W hSw
        obtain ⟨s0, s1, s2, s3⟩ := hSw
        go_simp
        with_reducible rfl
      simp only [Act.put, List.setIfInBounds_toArray, List.set_cons_zero, List.set_cons_succ]
      refine wpAnyH_take (i := 22) (oi := ⟨some 63, _, _, _, _, _⟩) (v := ?_) rfl (by kernel_rfl) (by kernel_rfl) (by kernel_rfl) (fun _ _ _ h => h) (Or.inl ⟨by rfl, ?_⟩) hHeld ?_
      rotate_left
      · intro W hSw
        obtain ⟨s0, s1, s2, s3⟩ := hSw
        go_simp
        with_reducible rfl
      simp only [Act.put, List.setIfInBounds_toArray, List.set_cons_zero, List.set_cons_succ]
      refine wpAnyH_take (i := 23) (oi := ⟨some 64, _, _, _, _, _⟩) (v := ?_) rfl (by kernel_rfl) (by kernel_rfl) (by kernel_rfl) (fun _ _ _ h => h) (Or.inl ⟨by rfl, ?_⟩) hHeld ?_
      rotate_left
      · intro W hSw
        obtain ⟨s0, s1, s2, s3⟩ := hSw
        go_simp
        with_reducible rfl
      simp only [Act.put, List.setIfInBounds_toArray, List.set_cons_zero, List.set_cons_succ]
      refine wpAnyH_ready (rs := [1, 24]) (by kernel_rfl) (by simp) ?_
      refine (AllReadyH.cons (o := ⟨some 42, _, _, _, _, _⟩) rfl (fun K hK => ?_) (AllReadyH.cons (o := ⟨some 65, _, _, _, _, _⟩) rfl (fun K hK => ?_) AllReadyH.nil))
      · skip
        go_simp
        refine hK.out _ _ hHeld (fun hHeld2 => ?_)
        clear hK hHeld
        have hHeld := hHeld2
        clear hHeld2
        refine wpAnyH_ready (rs := [24]) (by kernel_rfl) (by simp) ?_
        refine (AllReadyH.cons (o := ⟨some 65, _, _, _, _, _⟩) rfl (fun K hK => ?_) AllReadyH.nil)
        go_simp
        refine hK.out _ _ (HSt.out _ (((Only.refl (fun q => q = w1.heap.size + 1 ∨ (Value.slice at_ TL.length ct).ownBlock = some q) wr1).drew).alloc _)) (fun hHeld2 => ?_)
        clear hK hHeld
        have hHeld := hHeld2
        clear hHeld2
        refine wpAnyH_ready (rs := [25]) (by kernel_rfl) (by simp) ?_
        refine (AllReadyH.cons (o := ⟨some 66, _, _, _, _, _⟩) rfl (fun K hK => ?_) AllReadyH.nil)
        refine step_append_lies _ rfl (.tmp 42) (.tmp 65) 22 rfl (w1.heap.size + 2) 33 i0 (.agg #[.int .i64 0, .int .i64 0, .int .i64 0]) 3 24 Try.underlying22 hi hz0 hz1 hz2 rfl (by omega) (.slice at_ TL.length ct) TL.length (acells TL) (by rfl) (HV.out.alloc _) ⟨wr1.heap.size, 0, none⟩ 1 1 [.int .i64 x0, .int .i64 x1, .int .i64 (x2 * t)] (by rfl) rfl (news3 wr1.drew _ _ _ _) (by intro u hu; simp at hu; rcases hu with rfl | rfl | rfl <;> rfl) (by omega) (by unfold maxLen; have := HTl.out; omega) (by have := HTl.out; omega) (by have := HQs.out; first | exact this | exact Nat.le_trans this (Nat.le_succ _) | exact Nat.le_trans this (by rw [show ∀ W : World, W.drew.heap.size = W.heap.size from fun _ => rfl, World.size_alloc]; exact Nat.le_succ _)) _ rfl ?_
        intro g' cap w4 hown hgrow hat hlt4
        have HT := Lib.hid (HTail.out g' cap w4 hown hgrow hat)
        have t1 := HT.out.1.cell 1
        have t2 := HT.out.1.thaw 1
        simp only [List.getElem?_toArray, List.getElem?_cons_zero, List.getElem?_cons_succ] at t1
        have hs4 := HSt.out _ HT.out.2.1
        clear hown hgrow hat hlt4
        refine hK.out _ _ hs4 (fun hHeld2 => ?_)
        clear hK hHeld
        have hHeld := hHeld2
        clear hHeld2
        refine wpAnyH_take (i := 26) (oi := ⟨some 67, _, _, _, _, _⟩) (v := ?_) rfl (by kernel_rfl) (by kernel_rfl) (by kernel_rfl) (fun _ _ _ h => h) (Or.inl ⟨by rfl, ?_⟩) hHeld ?_
        rotate_left
        · intro W hSw
          obtain ⟨s0, s1, s2, s3⟩ := hSw
          go_simp
          with_reducible rfl
        simp only [Act.put, List.setIfInBounds_toArray, List.set_cons_zero, List.set_cons_succ]
        refine wpAnyH_ready (rs := [27]) (by kernel_rfl) (by simp) ?_
        refine (AllReadyH.cons (o := ⟨none, _, _, _, _, _⟩) rfl (fun K hK => ?_) AllReadyH.nil)
        go_simp
        refine hK.out _ _ (HSt.out _ HT.out.2.2.1) (fun _ => ?_)
        clear hK
        refine wpAnyH_done (by kernel_rfl) ?_ _
        go_wp2
        refine ⟨⟨k + 1, _, by go_num, by omega, by rw [← HTk.out]; exact HT.out.2.2.2⟩, by have := hlt1; simp [intOf]; omega⟩
      · skip
        go_simp
        refine hK.out _ _ (HSt.out _ (((Only.refl (fun q => q = w1.heap.size + 1 ∨ (Value.slice at_ TL.length ct).ownBlock = some q) wr1).drew).alloc _)) (fun hHeld2 => ?_)
        clear hK hHeld
        have hHeld := hHeld2
        clear hHeld2
        refine wpAnyH_ready (rs := [1]) (by kernel_rfl) (by simp) ?_
        refine (AllReadyH.cons (o := ⟨some 42, _, _, _, _, _⟩) rfl (fun K hK => ?_) AllReadyH.nil)
        go_simp
        refine hK.out _ _ hHeld (fun hHeld2 => ?_)
        clear hK hHeld
        have hHeld := hHeld2
        clear hHeld2
        refine wpAnyH_ready (rs := [25]) (by kernel_rfl) (by simp) ?_
        refine (AllReadyH.cons (o := ⟨some 66, _, _, _, _, _⟩) rfl (fun K hK => ?_) AllReadyH.nil)
        refine step_append_lies _ rfl (.tmp 42) (.tmp 65) 22 rfl (w1.heap.size + 2) 33 i0 (.agg #[.int .i64 0, .int .i64 0, .int .i64 0]) 3 24 Try.underlying22 hi hz0 hz1 hz2 rfl (by omega) (.slice at_ TL.length ct) TL.length (acells TL) (by rfl) (HV.out.alloc _) ⟨wr1.heap.size, 0, none⟩ 1 1 [.int .i64 x0, .int .i64 x1, .int .i64 (x2 * t)] (by rfl) rfl (news3 wr1.drew _ _ _ _) (by intro u hu; simp at hu; rcases hu with rfl | rfl | rfl <;> rfl) (by omega) (by unfold maxLen; have := HTl.out; omega) (by have := HTl.out; omega) (by have := HQs.out; first | exact this | exact Nat.le_trans this (Nat.le_succ _) | exact Nat.le_trans this (by rw [show ∀ W : World, W.drew.heap.size = W.heap.size from fun _ => rfl, World.size_alloc]; exact Nat.le_succ _)) _ rfl ?_
        intro g' cap w4 hown hgrow hat hlt4
        have HT := Lib.hid (HTail.out g' cap w4 hown hgrow hat)
        have t1 := HT.out.1.cell 1
        have t2 := HT.out.1.thaw 1
        simp only [List.getElem?_toArray, List.getElem?_cons_zero, List.getElem?_cons_succ] at t1
        have hs4 := HSt.out _ HT.out.2.1
        clear hown hgrow hat hlt4
        refine hK.out _ _ hs4 (fun hHeld2 => ?_)
        clear hK hHeld
        have hHeld := hHeld2
        clear hHeld2
        refine wpAnyH_take (i := 26) (oi := ⟨some 67, _, _, _, _, _⟩) (v := ?_) rfl (by kernel_rfl) (by kernel_rfl) (by kernel_rfl) (fun _ _ _ h => h) (Or.inl ⟨by rfl, ?_⟩) hHeld ?_
        rotate_left
        · intro W hSw
          obtain ⟨s0, s1, s2, s3⟩ := hSw
          go_simp
          with_reducible rfl
        simp only [Act.put, List.setIfInBounds_toArray, List.set_cons_zero, List.set_cons_succ]
        refine wpAnyH_ready (rs := [27]) (by kernel_rfl) (by simp) ?_
        refine (AllReadyH.cons (o := ⟨none, _, _, _, _, _⟩) rfl (fun K hK => ?_) AllReadyH.nil)
        go_simp
        refine hK.out _ _ (HSt.out _ HT.out.2.2.1) (fun _ => ?_)
        clear hK
        refine wpAnyH_done (by kernel_rfl) ?_ _
        go_wp2
        refine ⟨⟨k + 1, _, by go_num, by omega, by rw [← HTk.out]; exact HT.out.2.2.2⟩, by have := hlt1; simp [intOf]; omega⟩
    · obtain rfl : k = M.length := by omega
      obtain ⟨at_, ct, rfl⟩ := htz.own.shape
      rw [List.take_length, modL_all] at htz
      have hl1 : ((M.map modA).map (timesA t)).length = M.length := by simp
      have HZ := Lib.hid (show Sz w w1.heap.size (w1.heap.size + 1) N (M.map modA) ((M.map modA).map (timesA t)) am cm at_ ct wr from ⟨by have h := htz.mv; rw [List.length_map]; exact h, by have h := htz.tv; rw [hl1] at h; rw [List.length_map]; exact h, AV.arcs htz.mo, AV.arcs htz.own, htz.bw⟩)
      have hl2 : (M.map modA).length = M.length := by simp
      have HLen := Lib.hid (And.intro hl1 hl2)
      obtain ⟨z0, z1, z2, z3⟩ := HZ.out.cells
      rw [hl2] at z1 z3
      clear htz m1 H0 hl1 hl2
      go_wp2_with (first
        | (go_at_call 18; (with_reducible show Calls _ _ #[.agg #[_, .slice am _ _]] _ _); refine (new_at HLen.out.2 HZ.out.arcs HCk.out.1).mono ?_; rintro e w5 ⟨g1, B1, rfl, hb, hgv⟩; have HG1 := Lib.hid hgv; have HZ2 := Lib.hid (HZ.out.next hb); clear HZ z0 z1 z2 z3 hb hgv; have HZ := HZ2; clear HZ2)
        | (go_at_call 33; refine (dfrom_any HG1.out.1 HG1.out.2 HFm.out).mono ?_; rintro e w6 ⟨hb, xv, rfl, hx⟩; obtain ⟨ad, cd, rfl, hzs, _, _⟩ := IsV.shape hx; rw [HLn.out.1]; have HZl := Lib.hid hzs; have HZ2 := Lib.hid (HZ.out.next hb); clear HZ hb hx hzs HG1; have HZ := HZ2; clear HZ2; obtain ⟨z0, z1, z2, z3⟩ := HZ.out.cells; rw [HLen.out.2] at z1 z3)
        | (go_at_call 18; (with_reducible show Calls _ _ #[.agg #[_, .slice at_ _ _]] _ _); refine (new_at HLen.out.1 HZ.out.tarcs HCk.out.2).mono ?_; rintro e w7 ⟨g2, B2, rfl, hb, hgv⟩; have HG2 := Lib.hid hgv; have HZl2 := Lib.hid (HZl.out.under hb); have HZ2 := Lib.hid (HZ.out.next hb); clear HZ HZl z0 z1 z2 z3 hb hgv; have HZ := HZ2; have HZl := HZl2; clear HZ2 HZl2)
        | (go_at_call 33; refine (dfrom_any HG2.out.1 HG2.out.2 HFt.out).mono ?_; rintro e w8 ⟨hb, xv, rfl, hx⟩; obtain ⟨ad2, cd2, rfl, hzs, _, _⟩ := IsV.shape hx; rw [HLn.out.2]; have HZt := Lib.hid hzs; have HZl2 := Lib.hid (HZl.out.under hb); have HZ2 := Lib.hid (HZ.out.next hb); clear HZ HZl hb hx hzs HG2; have HZ := HZ2; have HZl := HZl2; clear HZ2 HZl2; obtain ⟨z0, z1, z2, z3⟩ := HZ.out.cells; rw [HLen.out.2] at z1 z3))
      obtain ⟨db, do_, rfl, _⟩ := HZl.out.at_ (k := 0) (by have := HLn.out.1; omega)
      obtain ⟨eb, eo, rfl, _⟩ := HZt.out.at_ (k := 0) (by have := HLn.out.2; omega)
      clear z0 z1 z2 z3
      go_loopw [15] (fun vi wr => ∃ i : Nat, vi = .int .i64 (i : Nat) ∧ i ≤ N ∧ Sz w w1.heap.size (w1.heap.size + 1) N (M.map modA) ((M.map modA).map (timesA t)) am cm at_ ct wr ∧ Zs wr (some ⟨db, do_, none⟩) L ∧ Zs wr (some ⟨eb, eo, none⟩) L2) (fun i _ => N - (intOf i).toNat)
      case atStart => exact ⟨0, rfl, Nat.zero_le _, HZ.out, HZl.out, HZt.out⟩
      case round =>
        obtain ⟨i, rfl, hi3, hsz, hzl, hzt⟩ := hrel
        have z0 := hsz.cells.1
        by_cases hlt3 : i < N
        · have hlt3' : (i : Int) < (N : Int) := by omega
          have hw3' : IntKind.i64.wrap ((i : Int) + 1) = (i : Int) + 1 := by rw [IntKind.wrap_i64]; omega
          obtain ⟨p, q, hp, hq, hpq⟩ := HPair.out i hlt3
          have c1 := hzl.cell hp
          have c2 := hzt.cell hq
          have HQ := Lib.hid (And.intro hsz (And.intro hzl hzt))
          clear hsz hzl hzt hp hq
          rcases hpq with ⟨rfl, rfl⟩ | ⟨hp0, rfl, hpl⟩
          · go_wp2
            go_quiet (fail)
            obtain ⟨w9, hw9⟩ : ∃ W, W = wr.drewN nq := ⟨_, rfl⟩
            rw [← hw9]
            have hb9 : Below wr.heap.size wr w9 := by rw [hw9]; exact below_dN (Below.refl _ _) _
            have HQ9 := Lib.hid (And.intro (HQ.out.1.next hb9) (And.intro (HQ.out.2.1.under hb9) (HQ.out.2.2.under hb9)))
            clear hw9 hb9 HQ c1 c2
            go_wp2
            exact ⟨⟨i + 1, by go_num, by omega, HQ9.out.1, HQ9.out.2.1, HQ9.out.2.2⟩, by simp [intOf]; omega⟩
          · have hm0 := Int.mul_nonneg hp0 ht0
            have hm1 : p * t ≤ 85899345920 * 255 := Int.mul_le_mul hpl (by omega) ht0 (by omega)
            have hwm : IntKind.i64.wrap (p * t) = p * t := by rw [IntKind.wrap_i64]; omega
            have d1 : decide (p < 0) = false := by simp; omega
            have d2 : decide (p * t < 0) = false := by simp; omega
            have d3 : decide (0 ≤ p) = true := by simp; omega
            clear hp0 hpl hm0 hm1
            go_wp2
            go_quiet (fail)
            obtain ⟨w9, hw9⟩ : ∃ W, W = wr.drewN nq := ⟨_, rfl⟩
            rw [← hw9]
            have hb9 : Below wr.heap.size wr w9 := by rw [hw9]; exact below_dN (Below.refl _ _) _
            have HQ9 := Lib.hid (And.intro (HQ.out.1.next hb9) (And.intro (HQ.out.2.1.under hb9) (HQ.out.2.2.under hb9)))
            clear hw9 hb9 HQ c1 c2
            go_wp2
            exact ⟨⟨i + 1, by go_num, by omega, HQ9.out.1, HQ9.out.2.1, HQ9.out.2.2⟩, by simp [intOf]; omega⟩
        · obtain rfl : i = N := by omega
          have HQ := Lib.hid hsz
          clear hsz hzl hzt HZ HZl HZt
          go_wp2_with (go_at_call 30; refine (dknown_any _).mono ?_; rintro er w9 ⟨rfl, hb⟩; have HN := Lib.hid (HQ.out.next hb); clear hb)
          go_ret
          exact ⟨rfl, HN.out.bw⟩
theorem dtimes_row (n : Int) (a : Option Addr) (l : List Ar) (c : Nat) (x t : Int) (w : World) (hA : Arcs w a l) (hF : ∀ y ∈ l, FitA y) (hx : (Lit.int .u8 x).wf = true) (ht : (Lit.int .u8 t).wf = true) :
    Calls Try.prog 14 #[.int .i64 n, .slice a l.length c, .int .u8 x, .int .u8 t] w fun e w' => e = .returned (.bool true) ∧ Below w.heap.size w w' :=
  dtimes_walk n a l c x t w hA hF (u8_of hx) (u8_of ht)
end Go.Proofs.Ythljgkaigjokjaa
