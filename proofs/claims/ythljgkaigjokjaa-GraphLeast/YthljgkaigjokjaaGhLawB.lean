/- GraphLoops (written by mkglawb.py). -/
import Derived.Test.YthljgkaigjokjaaGhLawA

namespace Go.Proofs.Ythljgkaigjokjaa
open Go.RowKit Go.Shelf Grm Lay

/-- Arcs put behind all others that change nothing: from a place to itself, or no less than one of the same ends. -/
def Idle (M P : List Ar) : Prop := ∀ y ∈ P, y.1.toNat = y.2.1.toNat ∨ ∃ j, j < M.length ∧ fromN M j = y.1.toNat ∧ toN M j = y.2.1.toNat ∧ wN M j ≤ y.2.2
theorem app_lt {M P : List Ar} {k : Nat} (h : k < M.length) : fromN (M ++ P) k = fromN M k ∧ toN (M ++ P) k = toN M k ∧ wN (M ++ P) k = wN M k := by
  unfold fromN toN wN
  rw [List.getElem?_append_left h]
  exact ⟨rfl, rfl, rfl⟩
theorem app_ge {M P : List Ar} {k : Nat} (h : M.length ≤ k) (hk : k < (M ++ P).length) : ∃ y ∈ P, fromN (M ++ P) k = y.1.toNat ∧ toN (M ++ P) k = y.2.1.toNat ∧ wN (M ++ P) k = y.2.2 := by
  rw [List.length_append] at hk
  have hi : k - M.length < P.length := by omega
  refine ⟨P[k - M.length]'hi, List.getElem_mem hi, ?_⟩
  unfold fromN toN wN
  rw [List.getElem?_append_right h, List.getElem?_eq_getElem hi]
  exact ⟨rfl, rfl, rfl⟩
theorem app_best {M P : List Ar} (h : Idle M P) (u v : Nat) : bestArc (M ++ P) u v = bestArc M u v := by
  apply Option.ext
  intro k
  rw [bestArc_some, bestArc_some]
  constructor
  · rintro ⟨h1, h2, h3, h4, h5⟩
    have hk : k < M.length := by
      rcases Nat.lt_or_ge k M.length with hk | hk
      · exact hk
      · obtain ⟨y, hy, e1, e2, e3⟩ := app_ge hk h2
        rcases h y hy with e | ⟨j, j1, j2, j3, j4⟩
        · omega
        · obtain ⟨f1, f2, f3⟩ := app_lt (P := P) j1
          have := h5 j (by rw [List.length_append]; omega) (by omega) (by omega)
          omega
    obtain ⟨f1, f2, f3⟩ := app_lt (P := P) hk
    refine ⟨h1, hk, by omega, by omega, fun j j1 j2 j3 => ?_⟩
    obtain ⟨g1, g2, g3⟩ := app_lt (P := P) j1
    have := h5 j (by rw [List.length_append]; omega) (by omega) (by omega)
    omega
  · rintro ⟨h1, h2, h3, h4, h5⟩
    obtain ⟨f1, f2, f3⟩ := app_lt (P := P) h2
    refine ⟨h1, by rw [List.length_append]; omega, by omega, by omega, fun j j1 j2 j3 => ?_⟩
    rcases Nat.lt_or_ge j M.length with hj | hj
    · obtain ⟨g1, g2, g3⟩ := app_lt (P := P) hj
      have := h5 j hj (by omega) (by omega)
      omega
    · obtain ⟨y, hy, e1, e2, e3⟩ := app_ge hj j1
      rcases h y hy with e | ⟨i, i1, i2, i3, i4⟩
      · omega
      · have := h5 i i1 (by omega) (by omega)
        omega
theorem app_out {M P : List Ar} (h : Idle M P) (n : Nat) (v : Int) : outI n (M ++ P) v = outI n M v := by
  unfold outI outE
  split
  · split
    · congr 1
      funext u
      rw [app_best h]
      cases hb : bestArc M v.toNat u with
      | none => rfl
      | some k =>
        rw [Option.map_some, Option.map_some]
        unfold edge_out
        rw [List.getElem?_append_left (bestArc_some.1 hb).2.1]
    · rfl
  · rfl
theorem app_kept {M P : List Ar} (h : Idle M P) : keptL (M ++ P) = keptL M := by
  have hp : (keptL (M ++ P)).Perm (keptL M) := by
    rw [List.perm_ext_iff_of_nodup ((keptL_sorted _).imp (fun h => Nat.ne_of_lt h)) ((keptL_sorted _).imp (fun h => Nat.ne_of_lt h))]
    intro k
    rw [mem_keptL, mem_keptL, app_best h]
    constructor
    · intro hb
      have hk := (bestArc_some.1 hb).2.1
      obtain ⟨f1, f2, f3⟩ := app_lt (P := P) hk
      rwa [f1, f2] at hb
    · intro hb
      have hk := (bestArc_some.1 hb).2.1
      obtain ⟨f1, f2, f3⟩ := app_lt (P := P) hk
      rwa [f1, f2]
  exact List.Perm.eq_of_pairwise (le := fun a b => a < b) (fun a b _ _ h1 h2 => by omega) (keptL_sorted _) (keptL_sorted _) hp
theorem keptL_nil : keptL [] = [] := rfl
theorem best_nil_arcs (u v : Nat) : bestArc [] u v = none := by
  unfold bestArc arcsUV
  split <;> rfl
theorem filterMap_none {α β : Type} (xs : List α) : (xs.filterMap fun _ => (none : Option β)) = [] := by
  induction xs with
  | nil => rfl
  | cons a t ih => simp
theorem out_nil_arcs (n : Nat) (v : Int) : outI n [] v = [] := by
  unfold outI outE
  split
  · split
    · simp only [best_nil_arcs, Option.map_none]
      exact filterMap_none _
    · rfl
  · rfl
theorem in_nil_arcs (n : Nat) (v : Int) : inI n [] v = [] := by
  unfold inI inE
  split
  · split
    · simp only [best_nil_arcs, Option.map_none]
      exact filterMap_none _
    · rfl
  · rfl
/-- The loops of so many bytes. -/
def loopA (N : Nat) (x : BitVec 8) : Ar := (B x % (N : Int), B x % (N : Int), 0)
theorem loop_idle (M : List Ar) (N : Nat) (xs : List (BitVec 8)) : Idle M (xs.map (loopA N)) := by
  intro y hy
  obtain ⟨x, _, rfl⟩ := List.mem_map.1 hy
  exact .inl rfl
theorem loop_check {n : Int} {l : List Ar} {xs : List (BitVec 8)} (hx : xs.length ≤ 30) : checkL (ofN n : Nat) (ofL n l ++ xs.map (loopA (ofN n))) = 0 := by
  refine check_of (by have := ofN_le n; omega) (by have := ofL_len n l; rw [List.length_append, List.length_map]; omega) (fun x hx => ?_)
  rcases List.mem_append.1 hx with hx | hx
  · exact ofL_ok n l x hx
  · obtain ⟨y, _, rfl⟩ := List.mem_map.1 hx
    have := ofN_le n
    unfold loopA
    have h1 := Int.emod_nonneg (B y) (show ((ofN n : Nat) : Int) ≠ 0 by omega)
    have h2 := Int.emod_lt_of_pos (B y) (show (0 : Int) < ((ofN n : Nat) : Int) by omega)
    simp only
    omega
theorem nil_check (n : Int) : checkL (ofN n : Nat) [] = 0 := check_of (by have := ofN_le n; omega) (by simp) (fun x hx => by cases hx)
set_option maxRecDepth 100000 in
set_option maxHeartbeats 4000000 in
theorem gloops_walk (n : Int) (a : Option Addr) (l : List Ar) (c : Nat) (b : Option Addr) (xs : List (BitVec 8)) (d : Nat) (w : World) (hA : Arcs w a l) (hF : ∀ y ∈ l, FitA y) (hB : Bytes w b xs) : Calls Try.prog 7 #[.int .i64 n, .slice a l.length c, .slice b xs.length d] w fun e w' => e = .returned (.bool true) ∧ Below w.heap.size w w' := by
  have HO := Lib.hid (of_map n a l c w hA hF)
  have hLl := ofL_len n l
  have hN1 := ofN_le n
  have HBy := Lib.hid hB
  by_cases h30 : 30 < xs.length
  · have h30' : decide ((xs.length : Int) > 30) = true := by simp; omega
    clear hA hF hB h30
    generalize ofL n l = M at *
    generalize ofN n = N at *
    go_enter Try.func7, Try.ntmps7
    go_wp2_with (first | (go_at_call 28; refine HO.out.mono ?_; rintro e w1 ⟨hb1, am, cm, rfl, hv1⟩; have H1 := Lib.hid hb1; clear hb1 hv1) | (go_at_call 17; refine (known_any _).mono ?_; rintro e w9 ⟨rfl, hb9⟩; have H9 := Lib.hid hb9; clear hb9))
    go_ret
    exact ⟨rfl, (H1.out.alloc H1.out.size _).trans (H9.out.mono (by have := H1.out.size; simp; omega))⟩
  have HCk := Lib.hid (And.intro (ofL_check n l) (And.intro (loop_check (n := n) (l := l) (xs := xs) (by omega)) (nil_check n)))
  have h30' : decide (30 < (xs.length : Int)) = false := by simp; omega
  have hxl : (xs.length : Int) ≤ 30 := by omega
  clear hA hF hB
  generalize ofL n l = M at *
  generalize ofN n = N at *
  obtain ⟨i0, hi, hz0, hz1, hz2⟩ := info_partsC infoA
  go_enter Try.func7, Try.ntmps7
  go_upto_region 5 with (first | (go_at_call 28; refine HO.out.mono ?_; rintro e w1 ⟨hb1, am, cm, rfl, hv1⟩; have H1 := Lib.hid (And.intro hb1 hv1); clear hb1 hv1))
  obtain ⟨w3, hw3⟩ : ∃ w3, w3 = (w1.alloc (.cells #[.int .i64 (N : Nat), .slice am M.length cm] 24)).alloc (.cells #[.int .i64 (N : Nat), .slice none 0 0] 24) := ⟨_, rfl⟩
  have hb3 : Below w1.heap.size w1 w3 := by rw [hw3]; exact ((Below.refl _ _).alloc (Nat.le_refl _) _).alloc (by simp) _
  have hm3 : Row w3 w1.heap.size 24 #[.int .i64 (N : Nat), .slice am M.length cm] := by rw [hw3]; exact (Row.fresh w1 _ _).past _
  have ht3 : Row w3 (w1.heap.size + 1) 24 #[.int .i64 (N : Nat), .slice none 0 0] := by
    rw [hw3]
    have := Row.fresh (w1.alloc (.cells #[.int .i64 (N : Nat), .slice am M.length cm] 24)) 24 #[.int .i64 (N : Nat), .slice none 0 0]
    rwa [World.size_alloc] at this
  have hs3 : w3.heap.size = w1.heap.size + 2 := by rw [hw3]; simp
  rw [← hw3]
  have hab : ∀ b o, am = some ⟨b, o, none⟩ → w.heap.size ≤ b ∧ b < w1.heap.size := fun b o e => owns_lt H1.out.2 b (by rw [e]; rfl)
  have H3 := Lib.hid (And.intro (H1.out.1.trans (hb3.mono H1.out.1.size)) (And.intro ht3 (And.intro hm3 ((AV.arcs H1.out.2).under hb3))))
  have HS := Lib.hid (And.intro hs3 (And.intro H1.out.1.size hab))
  have HL := Lib.hid hLl
  have m0 := hm3.cell 0
  have m1 := hm3.cell 1
  have r0 := ht3.cell 0
  have r1 := ht3.cell 1
  have f1 := ht3.thaw 1
  simp only [List.getElem?_toArray, List.getElem?_cons_zero, List.getElem?_cons_succ] at m0 m1 r0 r1
  clear hw3 hb3 hm3 ht3 hs3 hab
  go_cut [29] from 25 to 30 (fun v wx => Row wx (w1.heap.size + 1) 24 #[.int .i64 (N : Nat), v] ∧ AV wx w3.heap.size v M ∧ Row wx w1.heap.size 24 #[.int .i64 (N : Nat), .slice am M.length cm] ∧ Arcs wx am M ∧ Below w.heap.size w wx ∧ w3.heap.size ≤ wx.heap.size)
  case first =>
    cases am with
    | none =>
      have hM0 : M = [] := by
        rcases H3.out.2.2.2 with h | ⟨b, o, e, _⟩
        · exact h
        · cases e
      subst hM0
      go_wp2
      have ho : Only (fun q => q = w1.heap.size + 1) w3 (w3.setCell ⟨w1.heap.size + 1, 1, none⟩ (.slice none 0 0)) := (Only.refl (fun q => q = w1.heap.size + 1) w3).setCell (p := ⟨w1.heap.size + 1, 1, none⟩) (.inl rfl) _
      have hs := HS.out
      go_meet
      refine ⟨?_, AV.nil _ _, H3.out.2.2.1.only ho (by omega), .inl rfl, H3.out.1.trans (ho.below (K := w.heap.size) (fun q e => by omega) H3.out.1.size), ho.size⟩
      have := H3.out.2.1.put 1 (.slice none 0 0)
      simpa using this
    | some ad =>
      obtain ⟨g1, hg1⟩ : ∃ g1, ad = ⟨g1, 0, none⟩ := by
        rcases H1.out.2.2 with ⟨e, _⟩ | ⟨g1, _, _, e, _⟩
        · cases e
        · injection e with e _ _
          injection e with e
          exact ⟨g1, e⟩
      subst hg1
      have HC := Lib.hid (show ∀ (j : Nat) (u : Value), (acells M)[j]? = some u → w3.cell? ((⟨g1, 0, none⟩ : Addr).add j) = some u from fun j u h => by
        rw [add_addr]
        exact H3.out.2.2.2.cells j u h)
      have hlen := Lib.hid (acells_length M)
      go_wp2_with (at_builtin; refine wpList_append_own_at _ rfl _ _ 22 rfl w3.heap.size 33 i0 (.agg #[.int .i64 0, .int .i64 0, .int .i64 0]) 3 24 Try.underlying22 hi hz0 hz1 hz2 rfl (by decide) (.slice none 0 0) 0 [] rfl (World.ownsRow_nil _ _ _ _) ⟨g1, 0, none⟩ M.length cm (acells M) rfl hlen.out HC.out (acells_one M) (by unfold maxLen; have := HL.out; omega) (by have := HL.out; omega) (Nat.le_refl _) ?_; intro v' w5 hown' hg5 _ _; rw [Nat.zero_add] at hown'; have ho5 := only_grown (S := fun q => False) hg5 (fun q e => by cases e); have hr5 := H3.out.2.1.only ho5 id; have t1 := hr5.cell 1; have t2 := hr5.thaw 1; simp only [List.getElem?_toArray, List.getElem?_cons_zero, List.getElem?_cons_succ] at t1; have HT := Lib.hid (And.intro hown' (And.intro ho5 hr5)); obtain ⟨av, cv, rfl, _, _⟩ := owns_shape hown'; clear hown' hg5 ho5 hr5)
      have ho : Only (fun q => q = w1.heap.size + 1) w5 (w5.setCell ⟨w1.heap.size + 1, 1, none⟩ (.slice av M.length cv)) := (Only.refl (fun q => q = w1.heap.size + 1) w5).setCell (p := ⟨w1.heap.size + 1, 1, none⟩) (.inl rfl) _
      have hs := HS.out
      have hh := HT.out
      go_meet
      refine ⟨?_, ?_, (H3.out.2.2.1.only hh.2.1 id).only ho (by omega), (H3.out.2.2.2.only hh.2.1 (fun _ _ _ _ h => h)).only ho (fun b o e _ q => by have := (hs.2.2 b o e).2; omega), H3.out.1.trans ((hh.2.1.below (K := w.heap.size) (fun _ h => h.elim) H3.out.1.size).trans (ho.below (K := w.heap.size) (fun q e => by omega) (Nat.le_trans H3.out.1.size hh.2.1.size))), Nat.le_trans hh.2.1.size ho.size⟩
      · have := hh.2.2.put 1 (.slice av M.length cv)
        simpa using this
      · have h1 := owns_only hh.1 ho (fun q e h => by have := (owns_lt hh.1 q e).1; omega)
        simpa [AV] using h1
  case rest =>
    clear m0 m1 r0 r1 f1
    obtain ⟨hr, hv, hm, hA, hb, hsz⟩ := hcut
    have H4 := Lib.hid (And.intro hr (And.intro hv (And.intro hm (And.intro hA (And.intro hb hsz)))))
    clear hr hv hm hA hb hsz
    go_wp2
    go_loopw [9] (fun i wr => ∃ (k : Nat) (v : Value), i = .int .i64 k ∧ k ≤ xs.length ∧ Row wr (w1.heap.size + 1) 24 #[.int .i64 (N : Nat), v] ∧ AV wr w3.heap.size v (M ++ (xs.take k).map (loopA N)) ∧ Row wr w1.heap.size 24 #[.int .i64 (N : Nat), .slice am M.length cm] ∧ Arcs wr am M ∧ Below w.heap.size w wr ∧ w3.heap.size ≤ wr.heap.size) (fun i _ => xs.length - (intOf i).toNat)
    case atStart => exact ⟨0, _, rfl, by omega, H4.out.1, by simpa using H4.out.2.1, H4.out.2.2.1, H4.out.2.2.2.1, H4.out.2.2.2.2.1, H4.out.2.2.2.2.2⟩
    case round =>
      obtain ⟨k, v, rfl, hk, ht, hv, hm, hA, hb, hsz⟩ := hrel
      obtain ⟨at_, ct, rfl⟩ := hv.shape
      have hll : (M ++ (xs.take k).map (loopA N)).length = M.length + k := by rw [List.length_append, List.length_map, List.length_take]; omega
      have m0 := hm.cell 0
      have m1 := hm.cell 1
      have r0 := ht.cell 0
      have r1 := ht.cell 1
      simp only [List.getElem?_toArray, List.getElem?_cons_zero, List.getElem?_cons_succ] at m0 m1 r0 r1
      by_cases hlt : k < xs.length
      · have hlt' : (k : Int) < (xs.length : Int) := by omega
        have hw1' : IntKind.i64.wrap ((k : Int) + 1) = (k : Int) + 1 := by rw [IntKind.wrap_i64]; omega
        have htk : M ++ (xs.take (k + 1)).map (loopA N) = (M ++ (xs.take k).map (loopA N)) ++ [loopA N (xs[k]'hlt)] := by rw [List.take_succ_eq_append_getElem hlt, List.map_append, List.append_assoc]; rfl
        obtain ⟨bb, ob, rfl, _, y0⟩ := (HBy.out.under hb).at_ hlt
        have hxz : 0 ≤ B (xs[k]'hlt) ∧ B (xs[k]'hlt) < 256 := by unfold B; have := (xs[k]'hlt).isLt; omega
        have hla : loopA N (xs[k]'hlt) = (B (xs[k]'hlt) % (N : Int), B (xs[k]'hlt) % (N : Int), 0) := rfl
        generalize B (xs[k]'hlt) = z at *
        obtain ⟨hz0', hz1'⟩ := hxz
        have hN0 : (0 : Int) < (N : Int) := by omega
        have hN00 : (N : Int) ≠ 0 := by omega
        have hrem : z.tmod (N : Int) = z % (N : Int) := Int.tmod_eq_emod_of_nonneg hz0'
        obtain ⟨L, hLe⟩ : ∃ L, L = M ++ (xs.take k).map (loopA N) := ⟨_, rfl⟩
        rw [← hLe] at hv ht hll htk r1
        rw [hla] at htk
        have hv2 : wr.ownsRow w3.heap.size 33 3 (.slice at_ (M.length + k) ct) (M.length + k) (acells L) := by
          have h := hv
          unfold AV at h
          rw [hll] at h
          exact h
        rw [hll] at ht r1
        have HR := Lib.hid (And.intro ht (And.intro hv2 (And.intro hm (And.intro hA (And.intro hb (And.intro hsz (And.intro hll htk)))))))
        clear ht hv hv2 hm hA hb hsz hll htk hLe hla
        obtain ⟨q, hq⟩ : ∃ q, q = M.length + k := ⟨_, rfl⟩
        rw [← hq] at HR r1
        have HQq := Lib.hid (show q ≤ 70 by have := HL.out; omega)
        clear hq
        go_wp2
        go_quiet (fail)
        obtain ⟨wq, hwq⟩ : ∃ wq, wq = wr.drewN nq := ⟨_, rfl⟩
        have hbq : Below wr.heap.size wr wq := by rw [hwq]; exact below_dN (Below.refl _ _) nq
        have hszq : wq.heap.size = wr.heap.size := by rw [hwq]; rfl
        rw [← hwq]
        have htq := HR.out.1.under hbq HR.out.1.lt
        have r1 := htq.cell 1
        simp only [List.getElem?_toArray, List.getElem?_cons_zero, List.getElem?_cons_succ] at r1
        have hvq := owns_only HR.out.2.1 (Only.of_below (fun _ => False) hbq) (fun _ _ h => h)
        have HQ := Lib.hid (And.intro htq (And.intro hvq (And.intro (HR.out.2.2.1.under hbq HR.out.2.2.1.lt) (And.intro (HR.out.2.2.2.1.under hbq) (And.intro (HR.out.2.2.2.2.1.trans (hbq.mono HR.out.2.2.2.2.1.size)) (show w3.heap.size ≤ wq.heap.size by have := HR.out.2.2.2.2.2.1; omega))))))
        have HNo := Lib.hid (show ∀ p, (Value.slice at_ q ct).ownBlock = some p → w3.heap.size ≤ p ∧ p < wq.heap.size from fun p e => owns_lt hvq p e)
        have HQl := HQq
        have hyz : ∃ y, y = z % (N : Int) := ⟨_, rfl⟩
        obtain ⟨y, hy⟩ := hyz
        rw [← hy]
        have HY := Lib.hid hy
        have HOn := Lib.hid (show ∀ w5, (wq.alloc (.cells #[.int .i64 y, .int .i64 y, .int .i64 0] 33)).grownBy w5 (Value.slice at_ q ct).ownBlock → Only (fun p => (Value.slice at_ q ct).ownBlock = some p) wq w5 from fun w5 hg => ((Only.refl (fun p => (Value.slice at_ q ct).ownBlock = some p) wq).alloc _).grown hg (fun p e => .inl e))
        clear hwq hbq hszq htq hvq hy r0 m0 m1 hrem
        go_wp2_with (at_builtin; refine wpList_append_own_at _ rfl _ _ 22 rfl w3.heap.size 33 i0 (.agg #[.int .i64 0, .int .i64 0, .int .i64 0]) 3 24 Try.underlying22 hi hz0 hz1 hz2 rfl (by decide) _ q (acells L) rfl (HQ.out.2.1.alloc _) ⟨wq.heap.size, 0, none⟩ 1 1 [.int .i64 y, .int .i64 y, .int .i64 0] rfl rfl (news3 wq _ _ _ _) (by intro u hu; simp at hu; rcases hu with rfl | rfl | rfl <;> rfl) (by unfold maxLen; have := HQl.out; omega) (by have := HQl.out; omega) (by have := HQ.out.2.2.2.2.2; simp; omega) ?_; intro v' w5 hown' hg5 _ _; obtain ⟨g', cap', rfl⟩ := ownsRow_succ hown'; have ho5 := HOn.out w5 hg5; have hr5 := HQ.out.1.only ho5 (fun q => by have := HNo.out _ q; have := HS.out; omega); have t1 := hr5.cell 1; have t2 := hr5.thaw 1; simp only [List.getElem?_toArray, List.getElem?_cons_zero, List.getElem?_cons_succ] at t1; have HT := Lib.hid (And.intro hown' (And.intro ho5 hr5)); clear hown' hg5 ho5 hr5)
        have hs := HS.out
        have hno := HNo.out
        have hoS : Only (fun p => p = w1.heap.size + 1) w5 (w5.setCell ⟨w1.heap.size + 1, 1, none⟩ (.slice (some ⟨g', 0, none⟩) (q + 1) cap')) := (Only.refl (fun p => p = w1.heap.size + 1) w5).setCell (p := ⟨w1.heap.size + 1, 1, none⟩) (.inl rfl) _
        refine ⟨⟨k + 1, .slice (some ⟨g', 0, none⟩) (q + 1) cap', by go_num, by omega, ?_, ?_, ?_, ?_, ?_, ?_⟩, by simp [intOf]; omega⟩
        · have := HT.out.2.2.put 1 (.slice (some ⟨g', 0, none⟩) (q + 1) cap')
          simpa using this
        · show World.ownsRow _ _ _ _ _ (M ++ List.map (loopA N) (xs.take (k + 1))).length (acells (M ++ List.map (loopA N) (xs.take (k + 1))))
          rw [HR.out.2.2.2.2.2.2.2, List.length_append, HR.out.2.2.2.2.2.2.1, acells_append, ← HY.out]
          exact owns_only HT.out.1 hoS (fun p e h => by have := (owns_lt HT.out.1 p e).1; omega)
        · exact (HQ.out.2.2.1.only HT.out.2.1 (fun p => by have := (hno _ p).1; omega)).only hoS (by omega)
        · exact (HQ.out.2.2.2.1.only HT.out.2.1 (fun b o e _ p => by have := (hno _ p).1; have := (hs.2.2 b o e).2; omega)).only hoS (fun b o e _ p => by have := (hs.2.2 b o e).2; omega)
        · exact HQ.out.2.2.2.2.1.trans (((HT.out.2.1.mono (fun p e => .inl (.inl e)) : Only (fun p => (Value.slice at_ q ct).ownBlock = some p ∨ p = w1.heap.size + 1) _ _).trans hoS (fun p e => .inl (.inr e))).below (K := w.heap.size) (fun p h => by
            rcases h with h | h
            · have := (hno _ h).1; omega
            · omega) HQ.out.2.2.2.2.1.size)
        · have h5 := HT.out.2.1.size
          have h6 := hoS.size
          have := HQ.out.2.2.2.2.2
          omega
      · obtain rfl : k = xs.length := by omega
        have hlt' : ¬ (xs.length : Int) < (xs.length : Int) := by omega
        rw [List.take_length] at hv hll ht r1
        rw [hll] at ht r1
        have hn1 := new_any (n := N) (c := cm) hA HCk.out.1
        have hAt : Arcs wr at_ (M ++ xs.map (loopA N)) := by rw [hll] at hv; exact AV.arcs hv
        have HE := Lib.hid (And.intro hm (And.intro hAt (And.intro hb ht)))
        have HN1 := Lib.hid hn1
        have HLl := Lib.hid hll
        clear hv ht hm hA hb hsz hn1 hAt hlt hll
        obtain ⟨Q, hQ⟩ : ∃ Q, Q = M ++ xs.map (loopA N) := ⟨_, rfl⟩
        rw [← hQ] at HE HLl HCk
        have hId : Idle M (xs.map (loopA N)) := loop_idle M N xs
        have HI := Lib.hid (show (∀ v : Int, outI N Q v = outI N M v) ∧ keptL Q = keptL M by rw [hQ]; exact ⟨app_out hId N, app_kept hId⟩)
        clear hId
        have HQe := Lib.hid hQ
        clear hQ
        obtain ⟨q, hq⟩ : ∃ q, q = M.length + xs.length := ⟨_, rfl⟩
        rw [← hq] at HE HLl r1
        have HQq := Lib.hid hq
        clear hq
        go_wp2_with fail
        refine HN1.out.mono ?_
        rintro e w4 ⟨g, rfl, hb4, hg4⟩
        have hn2 := new_any (n := N) (c := ct) (HE.out.2.1.under hb4) HCk.out.2.1
        rw [HLl.out] at hn2
        have HN2 := Lib.hid hn2
        have H5 := Lib.hid (And.intro hb4 (And.intro hg4 (And.intro (HE.out.1.under hb4 HE.out.1.lt) (HE.out.2.2.1.trans (hb4.mono HE.out.2.2.1.size)))))
        have t0 := (HE.out.2.2.2.under hb4 HE.out.2.2.2.lt).cell 0
        have t1 := (HE.out.2.2.2.under hb4 HE.out.2.2.2.lt).cell 1
        simp only [List.getElem?_toArray, List.getElem?_cons_zero, List.getElem?_cons_succ] at t0 t1
        clear hn2 hb4 hg4
        go_wp2_with fail
        refine HN2.out.mono ?_
        rintro e w5 ⟨h, rfl, hb5, hg5⟩
        have hn3 := new_any (n := N) (a := none) (l := []) (c := 0) (w := w5) (.inl rfl) HCk.out.2.2
        simp only [List.length_nil] at hn3
        have HN3 := Lib.hid hn3
        have H6 := Lib.hid (And.intro (H5.out.2.1.under hb5) (And.intro hg5 (And.intro (H5.out.2.2.1.under hb5 H5.out.2.2.1.lt) (H5.out.2.2.2.trans (hb5.mono H5.out.2.2.2.size)))))
        have u0 := (H5.out.2.2.1.under hb5 H5.out.2.2.1.lt).cell 0
        simp only [List.getElem?_toArray, List.getElem?_cons_zero, List.getElem?_cons_succ] at u0
        clear hn3 hb5 hg5
        go_wp2_with fail
        refine HN3.out.mono ?_
        rintro e w6 ⟨z, rfl, hb6, hg6⟩
        have H7 := Lib.hid (And.intro (H6.out.1.under hb6) (And.intro (H6.out.2.1.under hb6) (And.intro hg6 (And.intro (H6.out.2.2.1.under hb6 H6.out.2.2.1.lt) (H6.out.2.2.2.trans (hb6.mono H6.out.2.2.2.size))))))
        obtain ⟨K1, hK1⟩ : ∃ K1, K1 = wr.heap.size := ⟨_, rfl⟩
        obtain ⟨M1, hM1⟩ : ∃ M1, M1 = w4.heap.size := ⟨_, rfl⟩
        obtain ⟨M2, hM2⟩ : ∃ M2, M2 = w5.heap.size := ⟨_, rfl⟩
        obtain ⟨M3, hM3⟩ : ∃ M3, M3 = w6.heap.size := ⟨_, rfl⟩
        rw [← hK1, ← hM1, ← hM2, ← hM3] at H7
        clear hb6 hg6 hK1 hM1 hM2 hM3 t0 t1 u0 m0 m1 r0 r1
        go_wp2
        go_loopw [14] (fun i wr => ∃ v : Nat, i = .int .i64 v ∧ v ≤ N ∧ Gra wr K1 M1 g N M ∧ Gra wr M1 M2 h N Q ∧ Gra wr M2 M3 z N [] ∧ Row wr w1.heap.size 24 #[.int .i64 (N : Nat), .slice am M.length cm] ∧ Below w.heap.size w wr) (fun i _ => N - (intOf i).toNat)
        case atStart => exact ⟨0, rfl, by omega, H7.out.1, H7.out.2.1, H7.out.2.2.1, H7.out.2.2.2.1, H7.out.2.2.2.2⟩
        case round =>
          obtain ⟨v, rfl, hv, hg, hh, hz, hm, hb⟩ := hrel
          have p0 := hm.cell 0
          simp only [List.getElem?_toArray, List.getElem?_cons_zero] at p0
          have HG := Lib.hid (And.intro hg (And.intro hh (And.intro hz (And.intro hm hb))))
          clear hg hh hz hm hb
          by_cases hlt : v < N
          · have hlt' : (v : Int) < (N : Int) := by omega
            have hw1' : IntKind.i64.wrap ((v : Int) + 1) = (v : Int) + 1 := by rw [IntKind.wrap_i64]; omega
            go_wp2_with fail
            refine (out_any HG.out.1 (v : Int)).mono ?_
            rintro e wa ⟨hba, xa, rfl, hxa⟩
            obtain ⟨aa, ca, rfl, hEa, _, _⟩ := EV.shape hxa
            have Ha := Lib.hid (And.intro hba (And.intro hEa (HG.out.2.1.under hba)))
            clear hba hxa hEa
            go_wp2_with fail
            refine (out_any Ha.out.2.2 (v : Int)).mono ?_
            rintro e wb ⟨hbb, xb, rfl, hxb⟩
            rw [HI.out.1] at hxb
            obtain ⟨ab, cb, rfl, hEb, _, _⟩ := EV.shape hxb
            have hse := sameedges_any aa ab _ _ ca cb wb (Ha.out.2.1.under hbb) hEb (by have := outI_len N M (v : Int) (by omega); omega)
            rw [decide_eq_true rfl] at hse
            have Hb := Lib.hid (And.intro (Ha.out.1.trans (hbb.mono Ha.out.1.size)) hse)
            clear hbb hxb hEb hse
            go_wp2_with fail
            refine Hb.out.2.mono ?_
            rintro e wd ⟨rfl, hbd⟩
            have Hd := Lib.hid (Hb.out.1.trans (hbd.mono Hb.out.1.size))
            clear hbd
            go_wp2_with fail
            refine (out_any (HG.out.2.2.1.under Hd.out) (v : Int)).mono ?_
            rintro e we ⟨hbe, xe, rfl, hxe⟩
            rw [out_nil_arcs] at hxe
            obtain ⟨ae, ce, rfl, _, _, _⟩ := EV.shape hxe
            have He := Lib.hid (Hd.out.trans (hbe.mono Hd.out.size))
            clear hbe hxe
            go_wp2_with fail
            refine (in_any (HG.out.2.2.1.under He.out) (v : Int)).mono ?_
            rintro e wf ⟨hbf, xf, rfl, hxf⟩
            rw [in_nil_arcs] at hxf
            obtain ⟨af, cf, rfl, _, _, _⟩ := EV.shape hxf
            have Hg := Lib.hid (He.out.trans (hbf.mono He.out.size))
            clear hbf hxf
            go_wp2
            go_roundw
            case rel => exact ⟨v + 1, by go_num, by omega, HG.out.1.under Hg.out, HG.out.2.1.under Hg.out, HG.out.2.2.1.under Hg.out, HG.out.2.2.2.1.under Hg.out HG.out.2.2.2.1.lt, HG.out.2.2.2.2.trans (Hg.out.mono HG.out.2.2.2.2.size)⟩
            case measure => simp [intOf]; omega
          · obtain rfl : v = N := by omega
            have hlt' : ¬ (v : Int) < (v : Int) := by omega
            go_wp2_with fail
            have hmr := HG.out.2.2.2.1
            have HG5 := Lib.hid (And.intro HG.out.1 (And.intro HG.out.2.1 HG.out.2.2.1))
            have HSt := Lib.hid (show ∀ W, Below wr.heap.size wr W → (W.cell? ⟨w1.heap.size, 0, none⟩ = some (.int .i64 (v : Nat))) from fun W hW => (hmr.under hW hmr.lt).cell 0)
            have HKl := Lib.hid (show ((keptL M).map fun k => ((k : Nat) : Int)).length ≤ 1000000000 by rw [List.length_map]; have := keptL_len M; have := HL.out; omega)
            have HKe := Lib.hid HI.out.2
            clear p0 hmr
            refine wp_region_held_drew (S := fun W => W.cell? ⟨w1.heap.size, 0, none⟩ = some (.int .i64 (v : Nat))) (by kernel_rfl) (HSt.out _ (Below.refl _ _).drew) (fun hHeld => ?_)
            refine wpAnyH_take (i := 0) (oi := ⟨some 87, _, _, _, _, _⟩) (v := ?_) rfl (by kernel_rfl) (by kernel_rfl) (by kernel_rfl) (fun _ _ _ h => h) (Or.inl ⟨by rfl, ?_⟩) hHeld ?_
            rotate_left
            · intro W hSw
              have s0 := hSw
              go_simp
              with_reducible rfl
            simp only [Act.put, List.setIfInBounds_toArray, List.set_cons_zero, List.set_cons_succ]
            refine wpAnyH_take (i := 2) (oi := ⟨some 89, _, _, _, _, _⟩) (v := ?_) rfl (by kernel_rfl) (by kernel_rfl) (by kernel_rfl) (fun _ _ _ h => h) (Or.inl ⟨by rfl, ?_⟩) hHeld ?_
            rotate_left
            · intro W hSw
              have s0 := hSw
              go_simp
              with_reducible rfl
            simp only [Act.put, List.setIfInBounds_toArray, List.set_cons_zero, List.set_cons_succ]
            refine wpAnyH_take (i := 3) (oi := ⟨some 90, _, _, _, _, _⟩) (v := ?_) rfl (by kernel_rfl) (by kernel_rfl) (by kernel_rfl) (fun _ _ _ h => h) (Or.inl ⟨by rfl, ?_⟩) hHeld ?_
            rotate_left
            · intro W hSw
              have s0 := hSw
              go_simp
              with_reducible rfl
            simp only [Act.put, List.setIfInBounds_toArray, List.set_cons_zero, List.set_cons_succ]
            refine wpAnyH_ready (rs := [1]) (by kernel_rfl) (by simp) ?_
            refine (AllReadyH.cons (o := ⟨some 88, _, _, _, _, _⟩) rfl (fun K hK => ?_) AllReadyH.nil)
            go_simp
            refine (n_any (HG5.out.2.2.under (Below.refl wr.heap.size wr).drew)).mono ?_
            rintro e W' ⟨rfl, hWW⟩
            subst hWW
            have hSn := HSt.out _ ((Below.refl _ _).drew)
            refine hK.out _ _ hSn (fun hHeld2 => ?_)
            clear hK hHeld hSn
            have hHeld := hHeld2
            clear hHeld2
            refine wpAnyH_take (i := 4) (oi := ⟨some 91, _, _, _, _, _⟩) (v := ?_) rfl (by kernel_rfl) (by kernel_rfl) (by kernel_rfl) (fun _ _ _ h => h) (Or.inl ⟨by rfl, ?_⟩) hHeld ?_
            rotate_left
            · intro W hSw
              have s0 := hSw
              go_simp
              with_reducible rfl
            simp only [Act.put, List.setIfInBounds_toArray, List.set_cons_zero, List.set_cons_succ]
            refine wpAnyH_take (i := 5) (oi := ⟨some 92, _, _, _, _, _⟩) (v := ?_) rfl (by kernel_rfl) (by kernel_rfl) (by kernel_rfl) (fun _ _ _ h => h) (Or.inl ⟨by rfl, ?_⟩) hHeld ?_
            rotate_left
            · intro W hSw
              have s0 := hSw
              go_simp
              with_reducible rfl
            simp only [Act.put, List.setIfInBounds_toArray, List.set_cons_zero, List.set_cons_succ]
            refine wpAnyH_take (i := 6) (oi := ⟨some 93, _, _, _, _, _⟩) (v := ?_) rfl (by kernel_rfl) (by kernel_rfl) (by kernel_rfl) (fun _ _ _ h => h) (Or.inl ⟨by rfl, ?_⟩) hHeld ?_
            rotate_left
            · intro W hSw
              have s0 := hSw
              go_simp
              with_reducible rfl
            simp only [Act.put, List.setIfInBounds_toArray, List.set_cons_zero, List.set_cons_succ]
            refine wpAnyH_ready (rs := [7]) (by kernel_rfl) (by simp) ?_
            refine (AllReadyH.cons (o := ⟨some 94, _, _, _, _, _⟩) rfl (fun K hK => ?_) AllReadyH.nil)
            go_simp
            refine (kept_any (HG5.out.2.2.under (Below.refl wr.heap.size wr).drew)).mono ?_
            rintro e wz ⟨hbz, xz, rfl, hxz⟩
            obtain ⟨az, cz, rfl, _, _⟩ := owns_shape hxz
            have hbz' : Below wr.heap.size wr wz := ((Below.refl wr.heap.size wr).drew).trans hbz
            have Hz := Lib.hid hbz'
            rw [keptL_nil]
            clear hbz hbz' hxz
            have hSn := HSt.out _ (Hz.out)
            refine hK.out _ _ hSn (fun hHeld2 => ?_)
            clear hK hHeld hSn
            have hHeld := hHeld2
            clear hHeld2
            refine wpAnyH_take (i := 8) (oi := ⟨some 95, _, _, _, _, _⟩) (v := ?_) rfl (by kernel_rfl) (by kernel_rfl) (by kernel_rfl) (fun _ _ _ h => h) (Or.inl ⟨by rfl, ?_⟩) hHeld ?_
            rotate_left
            · intro W hSw
              have s0 := hSw
              go_simp
              with_reducible rfl
            simp only [Act.put, List.setIfInBounds_toArray, List.set_cons_zero, List.set_cons_succ]
            refine wpAnyH_take (i := 9) (oi := ⟨some 96, _, _, _, _, _⟩) (v := ?_) rfl (by kernel_rfl) (by kernel_rfl) (by kernel_rfl) (fun _ _ _ h => h) (Or.inl ⟨by rfl, ?_⟩) hHeld ?_
            rotate_left
            · intro W hSw
              have s0 := hSw
              go_simp
              with_reducible rfl
            simp only [Act.put, List.setIfInBounds_toArray, List.set_cons_zero, List.set_cons_succ]
            refine wpAnyH_take (i := 10) (oi := ⟨some 97, _, _, _, _, _⟩) (v := ?_) rfl (by kernel_rfl) (by kernel_rfl) (by kernel_rfl) (fun _ _ _ h => h) (Or.inl ⟨by rfl, ?_⟩) hHeld ?_
            rotate_left
            · intro W hSw
              have s0 := hSw
              go_simp
              with_reducible rfl
            simp only [Act.put, List.setIfInBounds_toArray, List.set_cons_zero, List.set_cons_succ]
            refine wpAnyH_take (i := 11) (oi := ⟨some 98, _, _, _, _, _⟩) (v := ?_) rfl (by kernel_rfl) (by kernel_rfl) (by kernel_rfl) (fun _ _ _ h => h) (Or.inl ⟨by rfl, ?_⟩) hHeld ?_
            rotate_left
            · intro W hSw
              have s0 := hSw
              go_simp
              with_reducible rfl
            simp only [Act.put, List.setIfInBounds_toArray, List.set_cons_zero, List.set_cons_succ]
            refine wpAnyH_take (i := 12) (oi := ⟨some 99, _, _, _, _, _⟩) (v := ?_) rfl (by kernel_rfl) (by kernel_rfl) (by kernel_rfl) (fun _ _ _ h => h) (Or.inl ⟨by rfl, ?_⟩) hHeld ?_
            rotate_left
            · intro W hSw
              have s0 := hSw
              go_simp
              with_reducible rfl
            simp only [Act.put, List.setIfInBounds_toArray, List.set_cons_zero, List.set_cons_succ]
            refine wpAnyH_take (i := 14) (oi := ⟨some 101, _, _, _, _, _⟩) (v := ?_) rfl (by kernel_rfl) (by kernel_rfl) (by kernel_rfl) (fun _ _ _ h => h) (Or.inl ⟨by rfl, ?_⟩) hHeld ?_
            rotate_left
            · intro W hSw
              have s0 := hSw
              go_simp
              with_reducible rfl
            simp only [Act.put, List.setIfInBounds_toArray, List.set_cons_zero, List.set_cons_succ]
            refine wpAnyH_ready (rs := [13]) (by kernel_rfl) (by simp) ?_
            refine (AllReadyH.cons (o := ⟨some 100, _, _, _, _, _⟩) rfl (fun K hK => ?_) AllReadyH.nil)
            go_simp
            refine (kept_any (HG5.out.1.under Hz.out)).mono ?_
            rintro e w6 ⟨hb6, x6, rfl, hx6⟩
            obtain ⟨a6, c6, rfl, _, _⟩ := owns_shape hx6
            have hb6' : Below wr.heap.size wr w6 := Hz.out.trans (hb6.mono Hz.out.size)
            have H6 := Lib.hid (And.intro hb6' (And.intro (Zs.of hx6) (HG5.out.2.1.under hb6')))
            clear hb6'
            clear hx6
            have hSn := HSt.out _ (H6.out.1)
            refine hK.out _ _ hSn (fun hHeld2 => ?_)
            clear hK hHeld hSn
            have hHeld := hHeld2
            clear hHeld2
            refine wpAnyH_ready (rs := [15]) (by kernel_rfl) (by simp) ?_
            refine (AllReadyH.cons (o := ⟨some 102, _, _, _, _, _⟩) rfl (fun K hK => ?_) AllReadyH.nil)
            go_simp
            refine (kept_any H6.out.2.2).mono ?_
            rintro e w7 ⟨hb7, x7, rfl, hx7⟩
            obtain ⟨a7, c7, rfl, _, _⟩ := owns_shape hx7
            have H7 := Lib.hid (And.intro (H6.out.1.trans (hb7.mono H6.out.1.size)) (And.intro (H6.out.2.1.under hb7) (Zs.of hx7)))
            clear hx7 hb7 hb6
            have hSn := HSt.out _ (H7.out.1)
            refine hK.out _ _ hSn (fun hHeld2 => ?_)
            clear hK hHeld hSn
            have hHeld := hHeld2
            clear hHeld2
            refine wpAnyH_ready (rs := [16]) (by kernel_rfl) (by simp) ?_
            refine (AllReadyH.cons (o := ⟨some 103, _, _, _, _, _⟩) rfl (fun K hK => ?_) AllReadyH.nil)
            go_simp
            have hsi := sameints_any a6 a7 _ _ c6 c7 w7 H7.out.2.1 H7.out.2.2 HKl.out
            rw [HKe.out, decide_eq_true rfl] at hsi
            simp only [List.length_map] at hsi
            rw [HKe.out]
            refine hsi.mono ?_
            rintro e w8 ⟨rfl, hb8⟩
            have H8 := Lib.hid (H7.out.1.trans (hb8.mono H7.out.1.size))
            clear hsi hb8
            have hSn := HSt.out _ (H8.out)
            refine hK.out _ _ hSn (fun hHeld2 => ?_)
            clear hK hHeld hSn
            have hHeld := hHeld2
            clear hHeld2
            refine wpAnyH_take (i := 17) (oi := ⟨some 104, _, _, _, _, _⟩) (v := ?_) rfl (by kernel_rfl) (by kernel_rfl) (by kernel_rfl) (fun _ _ _ h => h) (Or.inl ⟨by rfl, ?_⟩) hHeld ?_
            rotate_left
            · intro W hSw
              have s0 := hSw
              go_simp
              with_reducible rfl
            simp only [Act.put, List.setIfInBounds_toArray, List.set_cons_zero, List.set_cons_succ]
            refine wpAnyH_take (i := 18) (oi := ⟨some 105, _, _, _, _, _⟩) (v := ?_) rfl (by kernel_rfl) (by kernel_rfl) (by kernel_rfl) (fun _ _ _ h => h) (Or.inl ⟨by rfl, ?_⟩) hHeld ?_
            rotate_left
            · intro W hSw
              have s0 := hSw
              go_simp
              with_reducible rfl
            simp only [Act.put, List.setIfInBounds_toArray, List.set_cons_zero, List.set_cons_succ]
            refine wpAnyH_ready (rs := [19]) (by kernel_rfl) (by simp) ?_
            refine (AllReadyH.cons (o := ⟨some 106, _, _, _, _, _⟩) rfl (fun K hK => ?_) AllReadyH.nil)
            go_simp
            refine (known_any _).mono ?_
            rintro e w9 ⟨rfl, hb9⟩
            have H9 := Lib.hid (H8.out.trans (hb9.mono H8.out.size))
            clear hb9
            have hSn := HSt.out _ (H9.out)
            refine hK.out _ _ hSn (fun hHeld2 => ?_)
            clear hK hHeld hSn
            have hHeld := hHeld2
            clear hHeld2
            refine wpAnyH_take (i := 20) (oi := ⟨some 107, _, _, _, _, _⟩) (v := ?_) rfl (by kernel_rfl) (by kernel_rfl) (by kernel_rfl) (fun _ _ _ h => h) (Or.inl ⟨by rfl, ?_⟩) hHeld ?_
            rotate_left
            · intro W hSw
              have s0 := hSw
              go_simp
              with_reducible rfl
            simp only [Act.put, List.setIfInBounds_toArray, List.set_cons_zero, List.set_cons_succ]
            refine wpAnyH_take (i := 21) (oi := ⟨some 6, _, _, _, _, _⟩) (v := ?_) rfl (by kernel_rfl) (by kernel_rfl) (by kernel_rfl) (fun _ _ _ h => h) (Or.inl ⟨by rfl, ?_⟩) hHeld ?_
            rotate_left
            · intro W hSw
              have s0 := hSw
              go_simp
              with_reducible rfl
            simp only [Act.put, List.setIfInBounds_toArray, List.set_cons_zero, List.set_cons_succ]
            refine wpAnyH_done (by kernel_rfl) ?_ _
            go_wp2
            go_ret
            exact ⟨rfl, HG.out.2.2.2.2.trans (H9.out.mono HG.out.2.2.2.2.size)⟩
end Go.Proofs.Ythljgkaigjokjaa
