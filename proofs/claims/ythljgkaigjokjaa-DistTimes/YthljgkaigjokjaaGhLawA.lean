/- GraphTurned (written by mkglawa.py). -/
import Derived.Test.YthljgkaigjokjaaGhZ
import Derived.Test.YthljgkaigjokjaaM5
namespace Go.Proofs.Ythljgkaigjokjaa
open Go.RowKit Go.Shelf Grm Lay

/-- All arcs turned round. -/
def turnA (x : Ar) : Ar := (x.2.1, x.1, x.2.2)
theorem turn_from (l : List Ar) (k : Nat) : fromN (l.map turnA) k = toN l k := by
  unfold fromN toN
  rw [List.getElem?_map]
  cases l[k]? <;> rfl
theorem turn_to (l : List Ar) (k : Nat) : toN (l.map turnA) k = fromN l k := by
  unfold fromN toN
  rw [List.getElem?_map]
  cases l[k]? <;> rfl
theorem turn_w (l : List Ar) (k : Nat) : wN (l.map turnA) k = wN l k := by
  unfold wN
  rw [List.getElem?_map]
  cases l[k]? <;> rfl
theorem turn_bst (l : List Ar) (b : Nat) (g : List Nat) : bst (l.map turnA) b g = bst l b g := by
  unfold bst
  congr 1
  funext b k
  rw [turn_w, turn_w]
theorem turn_uv (l : List Ar) (u v : Nat) : arcsUV (l.map turnA) u v = arcsUV l v u := by
  unfold arcsUV
  rw [List.length_map]
  congr 1
  funext k
  rw [turn_from, turn_to, Bool.and_comm]
theorem turn_best (l : List Ar) (u v : Nat) : bestArc (l.map turnA) u v = bestArc l v u := by
  unfold bestArc
  rw [turn_uv]
  by_cases h : u = v
  · rw [if_pos h, if_pos h.symm]
  · rw [if_neg h, if_neg (fun e => h e.symm)]
    cases (arcsUV l v u).head? with
    | none => rfl
    | some b => rw [Option.map_some, Option.map_some, turn_bst]
theorem turn_edge_in (l : List Ar) (k : Nat) : edge_in (l.map turnA) k = edge_out l k := by
  unfold edge_in edge_out
  rw [List.getElem?_map]
  cases l[k]? <;> rfl
theorem turn_edge_out (l : List Ar) (k : Nat) : edge_out (l.map turnA) k = edge_in l k := by
  unfold edge_in edge_out
  rw [List.getElem?_map]
  cases l[k]? <;> rfl
theorem turn_in (n : Nat) (l : List Ar) (v : Int) : inI n (l.map turnA) v = outI n l v := by
  unfold inI outI inE outE
  split
  · split
    · congr 1
      funext u
      rw [turn_best]
      cases bestArc l v.toNat u with
      | none => rfl
      | some k => rw [Option.map_some, Option.map_some, turn_edge_in]
    · rfl
  · rfl
theorem turn_out (n : Nat) (l : List Ar) (v : Int) : outI n (l.map turnA) v = inI n l v := by
  unfold inI outI inE outE
  split
  · split
    · congr 1
      funext u
      rw [turn_best]
      cases bestArc l u v.toNat with
      | none => rfl
      | some k => rw [Option.map_some, Option.map_some, turn_edge_out]
    · rfl
  · rfl
theorem turn_kept (l : List Ar) : keptL (l.map turnA) = keptL l := by
  unfold keptL
  rw [List.length_map]
  congr 1
  funext k
  rw [turn_best, turn_from, turn_to]
theorem check_of {n : Nat} {l : List Ar} (hn : n ≤ 16777216) (hl : l.length ≤ 67108864) (h : ∀ x ∈ l, 0 ≤ x.1 ∧ x.1 < (n : Int) ∧ 0 ≤ x.2.1 ∧ x.2.1 < (n : Int) ∧ 0 ≤ x.2.2 ∧ x.2.2 ≤ 2147483648) : checkL (n : Nat) l = 0 := by
  unfold checkL
  rw [if_neg (by omega), if_neg (by omega), if_neg]
  rw [List.any_eq_true]
  rintro ⟨x, hx, hb⟩
  have := h x hx
  simp [badA] at hb
  omega
theorem ofL_len (n : Int) (l : List Ar) : (ofL n l).length ≤ 40 := by
  unfold ofL
  rw [List.length_map, List.length_take]
  omega
theorem ofL_ok (n : Int) (l : List Ar) : ∀ x ∈ ofL n l, 0 ≤ x.1 ∧ x.1 < (ofN n : Int) ∧ 0 ≤ x.2.1 ∧ x.2.1 < (ofN n : Int) ∧ 0 ≤ x.2.2 ∧ x.2.2 ≤ 2147483648 := by
  intro x hx
  unfold ofL at hx
  obtain ⟨y, _, rfl⟩ := List.mem_map.1 hx
  have := ofN_le n
  unfold ofA
  refine ⟨Int.emod_nonneg _ (by omega), Int.emod_lt_of_pos _ (by omega), Int.emod_nonneg _ (by omega), Int.emod_lt_of_pos _ (by omega), Int.emod_nonneg _ (by omega), ?_⟩
  have := Int.emod_lt_of_pos y.2.2 (show (0 : Int) < 2147483649 by omega)
  simp only
  omega
theorem ofL_check (n : Int) (l : List Ar) : checkL (ofN n : Nat) (ofL n l) = 0 :=
  check_of (by have := ofN_le n; omega) (by have := ofL_len n l; omega) (ofL_ok n l)
theorem ofT_check (n : Int) (l : List Ar) : checkL (ofN n : Nat) ((ofL n l).map turnA) = 0 :=
  check_of (by have := ofN_le n; omega) (by have := ofL_len n l; rw [List.length_map]; omega) (fun x hx => by
    obtain ⟨y, hy, rfl⟩ := List.mem_map.1 hx
    have := ofL_ok n l y hy
    unfold turnA
    simp only
    omega)
set_option maxRecDepth 100000 in
set_option maxHeartbeats 4000000 in
theorem gturned_walk (n : Int) (a : Option Addr) (l : List Ar) (c : Nat) (w : World) (hA : Arcs w a l) (hF : ∀ y ∈ l, FitA y) : Calls Try.prog 6 #[.int .i64 n, .slice a l.length c] w fun e w' => e = .returned (.bool true) ∧ Below w.heap.size w w' := by
  have HO := Lib.hid (of_map n a l c w hA hF)
  have hLl := ofL_len n l
  have HCk := Lib.hid (And.intro (ofL_check n l) (ofT_check n l))
  have hN1 := ofN_le n
  clear hA hF
  generalize ofL n l = M at *
  generalize ofN n = N at *
  obtain ⟨i0, hi, hz0, hz1, hz2⟩ := info_partsC infoA
  go_enter Try.func6, Try.ntmps6
  go_upto_region 3 with (first | (go_at_call 28; refine HO.out.mono ?_; rintro e w1 ⟨hb1, am, cm, rfl, hv1⟩; have H1 := Lib.hid (And.intro hb1 hv1); clear hb1 hv1))
  obtain ⟨w3, hw3⟩ : ∃ w3, w3 = (w1.alloc (.cells #[.int .i64 (N : Nat), .slice am M.length cm] 24)).alloc (.cells #[.int .i64 (N : Nat), .slice none 0 0] 24) := ⟨_, rfl⟩
  have hb3 : Below w1.heap.size w1 w3 := by rw [hw3]; exact ((Below.refl _ _).alloc (Nat.le_refl _) _).alloc (by simp) _
  have hm3 : Row w3 w1.heap.size 24 #[.int .i64 (N : Nat), .slice am M.length cm] := by rw [hw3]; exact (Row.fresh w1 _ _).past _
  have ht3 : Row w3 (w1.heap.size + 1) 24 #[.int .i64 (N : Nat), .slice none 0 0] := by
    rw [hw3]
    have := Row.fresh (w1.alloc (.cells #[.int .i64 (N : Nat), .slice am M.length cm] 24)) 24 #[.int .i64 (N : Nat), .slice none 0 0]
    rwa [World.size_alloc] at this
  have hs3 : w3.heap.size = w1.heap.size + 2 := by rw [hw3]; simp
  rw [← hw3]
  have hab : ∀ b o, am = some ⟨b, o, none⟩ → w.heap.size ≤ b ∧ b < w1.heap.size := fun b o e => owns_lt H1.out.2 b (by rw [e]; rfl)
  have H3 := Lib.hid (And.intro (H1.out.1.trans (hb3.mono H1.out.1.size)) (And.intro ht3 (And.intro hm3 ((AV.arcs H1.out.2).under hb3))))
  have HS := Lib.hid (And.intro hs3 (And.intro H1.out.1.size hab))
  have HL := Lib.hid hLl
  clear hw3 hb3 hm3 ht3 hs3 hab
  go_wp2
  go_loopw [7] (fun i wr => ∃ (k : Nat) (v : Value), i = .int .i64 k ∧ k ≤ M.length ∧ Row wr (w1.heap.size + 1) 24 #[.int .i64 (N : Nat), v] ∧ AV wr w3.heap.size v ((M.take k).map turnA) ∧ Row wr w1.heap.size 24 #[.int .i64 (N : Nat), .slice am M.length cm] ∧ Arcs wr am M ∧ Below w.heap.size w wr ∧ w3.heap.size ≤ wr.heap.size) (fun i _ => M.length - (intOf i).toNat)
  case atStart => exact ⟨0, .slice none 0 0, rfl, by omega, H3.out.2.1, AV.nil _ _, H3.out.2.2.1, H3.out.2.2.2, H3.out.1, Nat.le_refl _⟩
  case round =>
    obtain ⟨k, v, rfl, hk, ht, hv, hm, hA, hb, hsz⟩ := hrel
    obtain ⟨at_, ct, rfl⟩ := hv.shape
    have hll : ((M.take k).map turnA).length = k := by rw [List.length_map, List.length_take]; omega
    have m0 := hm.cell 0
    have m1 := hm.cell 1
    have r0 := ht.cell 0
    have r1 := ht.cell 1
    simp only [List.getElem?_toArray, List.getElem?_cons_zero, List.getElem?_cons_succ] at m0 m1 r0 r1
    by_cases hlt : k < M.length
    · have hlt' : (k : Int) < (M.length : Int) := by omega
      have hw1' : IntKind.i64.wrap ((k : Int) + 1) = (k : Int) + 1 := by rw [IntKind.wrap_i64]; omega
      have htk : (M.take (k + 1)).map turnA = (M.take k).map turnA ++ [turnA (M[k]'hlt)] := by rw [List.take_succ_eq_append_getElem hlt, List.map_append]; rfl
      obtain ⟨ba, oa, rfl, y0, y1, y2⟩ := hA.at_ hlt
      generalize M[k]'hlt = x at *
      obtain ⟨x0, x1, x2⟩ := x
      simp only at y0 y1 y2
      have hbx := block_lt_of_cell y0
      have hmx := hm.lt
      have htx := ht.lt
      obtain ⟨L, hLe⟩ : ∃ L, L = (M.take k).map turnA := ⟨_, rfl⟩
      rw [← hLe] at hv ht hll htk r1
      have hv2 : wr.ownsRow w3.heap.size 33 3 (.slice at_ k ct) k (acells L) := by
        have h := hv
        unfold AV at h
        rw [hll] at h
        exact h
      rw [hll] at ht r1
      have HR := Lib.hid (And.intro ht (And.intro hv2 (And.intro hm (And.intro hA (And.intro hb (And.intro hsz (And.intro hll htk)))))))
      have HNo := Lib.hid (show ∀ q, (Value.slice at_ k ct).ownBlock = some q → w3.heap.size ≤ q ∧ q < wr.heap.size from fun q e => owns_lt hv2 q e)
      have HNw := Lib.hid (show ∀ (j : Nat) (u : Value), [Value.int .i64 x1, .int .i64 x0, .int .i64 x2][j]? = some u → ((wr.alloc (.cells #[.int .i64 x0, .int .i64 x1, .int .i64 x2] 33)).alloc (.cells #[.int .i64 x1, .int .i64 x0, .int .i64 x2] 33)).cell? ((⟨wr.heap.size + 1, 0, none⟩ : Addr).add j) = some u from fun j u h => by
        have := news3 (wr.alloc (.cells #[.int .i64 x0, .int .i64 x1, .int .i64 x2] 33)) (.int .i64 x1) (.int .i64 x0) (.int .i64 x2) 33 j u h
        rwa [World.size_alloc] at this)
      have HOn := Lib.hid (show ∀ w5, ((wr.alloc (.cells #[.int .i64 x0, .int .i64 x1, .int .i64 x2] 33)).alloc (.cells #[.int .i64 x1, .int .i64 x0, .int .i64 x2] 33)).grownBy w5 (Value.slice at_ k ct).ownBlock → Only (fun q => (Value.slice at_ k ct).ownBlock = some q) wr w5 from fun w5 hg => (((Only.refl (fun q => (Value.slice at_ k ct).ownBlock = some q) wr).alloc _).alloc _).grown hg (fun q e => .inl e))
      clear ht hv hv2 hm hA hb hsz hll htk hLe
      go_wp2_with (at_builtin; refine wpList_append_own_at _ rfl _ _ 22 rfl w3.heap.size 33 i0 (.agg #[.int .i64 0, .int .i64 0, .int .i64 0]) 3 24 Try.underlying22 hi hz0 hz1 hz2 rfl (by decide) _ k (acells L) rfl ((HR.out.2.1.alloc _).alloc _) ⟨wr.heap.size + 1, 0, none⟩ 1 1 [.int .i64 x1, .int .i64 x0, .int .i64 x2] rfl rfl HNw.out (by intro u hu; simp at hu; rcases hu with rfl | rfl | rfl <;> rfl) (by unfold maxLen; have := HL.out; omega) (by have := HL.out; omega) (by have := HR.out.2.2.2.2.2.1; simp; omega) ?_; intro v' w5 hown' hg5 _ hat5; obtain ⟨g', cap', rfl⟩ := ownsRow_succ hown'; have ho5 := HOn.out w5 hg5; have hr5 := HR.out.1.only ho5 (fun q => by have := HNo.out _ q; have := HS.out; omega); have t1 := hr5.cell 1; have t2 := hr5.thaw 1; simp only [List.getElem?_toArray, List.getElem?_cons_zero, List.getElem?_cons_succ] at t1; have HT := Lib.hid (And.intro hown' (And.intro ho5 hr5)); clear hown' hg5 hat5 ho5 hr5)
      have hs := HS.out
      have hno := HNo.out
      have hoS : Only (fun q => q = w1.heap.size + 1) w5 (w5.setCell ⟨w1.heap.size + 1, 1, none⟩ (.slice (some ⟨g', 0, none⟩) (k + 1) cap')) := (Only.refl (fun q => q = w1.heap.size + 1) w5).setCell (p := ⟨w1.heap.size + 1, 1, none⟩) (.inl rfl) _
      refine ⟨⟨k + 1, .slice (some ⟨g', 0, none⟩) (k + 1) cap', by go_num, by omega, ?_, ?_, ?_, ?_, ?_, ?_⟩, by simp [intOf]; omega⟩
      · have := HT.out.2.2.put 1 (.slice (some ⟨g', 0, none⟩) (k + 1) cap')
        simpa using this
      · show World.ownsRow _ _ _ _ _ (List.map turnA (M.take (k + 1))).length (acells (List.map turnA (M.take (k + 1))))
        rw [HR.out.2.2.2.2.2.2.2, List.length_append, HR.out.2.2.2.2.2.2.1, acells_append]
        exact owns_only HT.out.1 hoS (fun q e h => by have := (owns_lt HT.out.1 q e).1; omega)
      · exact (HR.out.2.2.1.only HT.out.2.1 (fun q => by have := (hno _ q).1; omega)).only hoS (by omega)
      · exact (HR.out.2.2.2.1.only HT.out.2.1 (fun b o e _ q => by have := (hno _ q).1; have := (hs.2.2 b o e).2; omega)).only hoS (fun b o e _ q => by have := (hs.2.2 b o e).2; omega)
      · exact HR.out.2.2.2.2.1.trans (((HT.out.2.1.mono (fun q e => .inl (.inl e)) : Only (fun q => (Value.slice at_ k ct).ownBlock = some q ∨ q = w1.heap.size + 1) _ _).trans hoS (fun q e => .inl (.inr e))).below (K := w.heap.size) (fun q h => by
          rcases h with h | h
          · have := (hno _ h).1; omega
          · omega) HR.out.2.2.2.2.1.size)
      · have h5 := HT.out.2.1.size
        have h6 := hoS.size
        have := HR.out.2.2.2.2.2.1
        omega
    · obtain rfl : k = M.length := by omega
      have hlt' : ¬ (M.length : Int) < (M.length : Int) := by omega
      rw [List.take_length] at hv hll ht r1
      have hn1 := new_any (n := N) (c := cm) hA HCk.out.1
      have hAt := AV.arcs hv
      have HE := Lib.hid (And.intro hm (And.intro hAt (And.intro hb ht)))
      have HN1 := Lib.hid hn1
      clear hv ht hm hA hb hsz hn1 hAt hlt
      go_wp2_with fail
      refine HN1.out.mono ?_
      rintro e w4 ⟨g, rfl, hb4, hg4⟩
      have hn2 := new_any (n := N) (c := ct) (HE.out.2.1.under hb4) HCk.out.2
      rw [List.length_map] at hn2
      have HN2 := Lib.hid hn2
      have H4 := Lib.hid (And.intro hb4 (And.intro hg4 (And.intro (HE.out.1.under hb4 HE.out.1.lt) (HE.out.2.2.1.trans (hb4.mono HE.out.2.2.1.size)))))
      have t0 := (HE.out.2.2.2.under hb4 HE.out.2.2.2.lt).cell 0
      have t1 := (HE.out.2.2.2.under hb4 HE.out.2.2.2.lt).cell 1
      simp only [List.getElem?_toArray, List.getElem?_cons_zero, List.getElem?_cons_succ] at t0 t1
      clear hn2 hb4 hg4
      go_wp2_with fail
      refine HN2.out.mono ?_
      rintro e w5 ⟨h, rfl, hb5, hg5⟩
      have H5 := Lib.hid (And.intro (H4.out.2.1.under hb5) (And.intro hg5 (And.intro (H4.out.2.2.1.under hb5 H4.out.2.2.1.lt) (H4.out.2.2.2.trans (hb5.mono H4.out.2.2.2.size)))))
      obtain ⟨K1, hK1⟩ : ∃ K1, K1 = wr.heap.size := ⟨_, rfl⟩
      obtain ⟨M1, hM1⟩ : ∃ M1, M1 = w4.heap.size := ⟨_, rfl⟩
      obtain ⟨M2, hM2⟩ : ∃ M2, M2 = w5.heap.size := ⟨_, rfl⟩
      rw [← hK1, ← hM1, ← hM2] at H5
      clear hb5 hg5 hK1 hM1 hM2
      go_wp2
      go_loopw [11] (fun i wr => ∃ v : Nat, i = .int .i64 v ∧ v ≤ N ∧ Gra wr K1 M1 g N M ∧ Gra wr M1 M2 h N (M.map turnA) ∧ Row wr w1.heap.size 24 #[.int .i64 (N : Nat), .slice am M.length cm] ∧ Below w.heap.size w wr) (fun i _ => N - (intOf i).toNat)
      case atStart => exact ⟨0, rfl, by omega, H5.out.1, H5.out.2.1, H5.out.2.2.1, H5.out.2.2.2⟩
      case round =>
        clear t0 t1 m0 m1 r0 r1
        obtain ⟨v, rfl, hv, hg, hh, hm, hb⟩ := hrel
        have p0 := hm.cell 0
        simp only [List.getElem?_toArray, List.getElem?_cons_zero] at p0
        have HG := Lib.hid (And.intro hg (And.intro hh (And.intro hm hb)))
        have hTI := Lib.hid (turn_in N M (v : Int))
        have hTO := Lib.hid (turn_out N M (v : Int))
        clear hg hh hm hb
        by_cases hlt : v < N
        · have hlt' : (v : Int) < (N : Int) := by omega
          have hw1' : IntKind.i64.wrap ((v : Int) + 1) = (v : Int) + 1 := by rw [IntKind.wrap_i64]; omega
          go_wp2_with fail
          refine (out_any HG.out.1 (v : Int)).mono ?_
          rintro e wa ⟨hba, xa, rfl, hxa⟩
          obtain ⟨aa, ca, rfl, hEa, _, _⟩ := EV.shape hxa
          have Ha := Lib.hid (And.intro hba (And.intro hEa (HG.out.2.1.under hba)))
          clear hba hxa hEa
          go_wp2_with fail
          refine (in_any Ha.out.2.2 (v : Int)).mono ?_
          rintro e wb ⟨hbb, xb, rfl, hxb⟩
          rw [hTI.out] at hxb
          obtain ⟨ab, cb, rfl, hEb, _, _⟩ := EV.shape hxb
          have hse := sameedges_any aa ab _ _ ca cb wb (Ha.out.2.1.under hbb) hEb (by have := outI_len N M (v : Int) (by omega); omega)
          rw [decide_eq_true rfl] at hse
          have Hb := Lib.hid (And.intro (Ha.out.1.trans (hbb.mono Ha.out.1.size)) hse)
          clear hbb hxb hEb hse
          go_wp2_with fail
          refine Hb.out.2.mono ?_
          rintro e wd ⟨rfl, hbd⟩
          have Hd := Lib.hid (Hb.out.1.trans (hbd.mono Hb.out.1.size))
          clear hbd
          go_wp2_with fail
          refine (in_any (HG.out.1.under Hd.out) (v : Int)).mono ?_
          rintro e we ⟨hbe, xe, rfl, hxe⟩
          obtain ⟨ae, ce, rfl, hEe, _, _⟩ := EV.shape hxe
          have He := Lib.hid (And.intro (Hd.out.trans (hbe.mono Hd.out.size)) hEe)
          clear hbe hxe hEe
          go_wp2_with fail
          refine (out_any (HG.out.2.1.under He.out.1) (v : Int)).mono ?_
          rintro e wf ⟨hbf, xf, rfl, hxf⟩
          rw [hTO.out] at hxf
          obtain ⟨af, cf, rfl, hEf, _, _⟩ := EV.shape hxf
          have hse := sameedges_any ae af _ _ ce cf wf (He.out.2.under hbf) hEf (by have := inI_len N M (v : Int) (by omega); omega)
          rw [decide_eq_true rfl] at hse
          have Hf := Lib.hid (And.intro (He.out.1.trans (hbf.mono He.out.1.size)) hse)
          clear hbf hxf hEf hse
          go_wp2_with fail
          refine Hf.out.2.mono ?_
          rintro e wg ⟨rfl, hbg⟩
          have Hg := Lib.hid (Hf.out.1.trans (hbg.mono Hf.out.1.size))
          clear hbg
          go_wp2
          go_roundw
          case rel => exact ⟨v + 1, by go_num, by omega, HG.out.1.under Hg.out, HG.out.2.1.under Hg.out, HG.out.2.2.1.under Hg.out HG.out.2.2.1.lt, HG.out.2.2.2.trans (Hg.out.mono HG.out.2.2.2.size)⟩
          case measure => simp [intOf]; omega
        · obtain rfl : v = N := by omega
          have hlt' : ¬ (v : Int) < (v : Int) := by omega
          go_wp2_with fail
          have hmr := HG.out.2.2.1
          have HG5 := Lib.hid (And.intro HG.out.1 HG.out.2.1)
          have HSt := Lib.hid (show ∀ W, Below wr.heap.size wr W → (W.cell? ⟨w1.heap.size, 0, none⟩ = some (.int .i64 (v : Nat))) from fun W hW => (hmr.under hW hmr.lt).cell 0)
          have HKl := Lib.hid (show ((keptL M).map fun k => ((k : Nat) : Int)).length ≤ 1000000000 by rw [List.length_map]; have := keptL_len M; have := HL.out; omega)
          have HKe := Lib.hid (turn_kept M)
          clear p0 hmr
          refine wp_region_held_drew (S := fun W => W.cell? ⟨w1.heap.size, 0, none⟩ = some (.int .i64 (v : Nat))) (by kernel_rfl) (HSt.out _ (Below.refl _ _).drew) (fun hHeld => ?_)
          refine wpAnyH_take (i := 0) (oi := ⟨some 70, _, _, _, _, _⟩) (v := ?_) rfl (by kernel_rfl) (by kernel_rfl) (by kernel_rfl) (fun _ _ _ h => h) (Or.inl ⟨by rfl, ?_⟩) hHeld ?_
          rotate_left
          · intro W hSw
            have s0 := hSw
            go_simp
            with_reducible rfl
          simp only [Act.put, List.setIfInBounds_toArray, List.set_cons_zero, List.set_cons_succ]
          refine wpAnyH_take (i := 2) (oi := ⟨some 72, _, _, _, _, _⟩) (v := ?_) rfl (by kernel_rfl) (by kernel_rfl) (by kernel_rfl) (fun _ _ _ h => h) (Or.inl ⟨by rfl, ?_⟩) hHeld ?_
          rotate_left
          · intro W hSw
            have s0 := hSw
            go_simp
            with_reducible rfl
          simp only [Act.put, List.setIfInBounds_toArray, List.set_cons_zero, List.set_cons_succ]
          refine wpAnyH_take (i := 3) (oi := ⟨some 73, _, _, _, _, _⟩) (v := ?_) rfl (by kernel_rfl) (by kernel_rfl) (by kernel_rfl) (fun _ _ _ h => h) (Or.inl ⟨by rfl, ?_⟩) hHeld ?_
          rotate_left
          · intro W hSw
            have s0 := hSw
            go_simp
            with_reducible rfl
          simp only [Act.put, List.setIfInBounds_toArray, List.set_cons_zero, List.set_cons_succ]
          refine wpAnyH_ready (rs := [1]) (by kernel_rfl) (by simp) ?_
          refine (AllReadyH.cons (o := ⟨some 71, _, _, _, _, _⟩) rfl (fun K hK => ?_) AllReadyH.nil)
          go_simp
          refine (n_any (HG5.out.1.under (Below.refl wr.heap.size wr).drew)).mono ?_
          rintro e W' ⟨rfl, hWW⟩
          subst hWW
          have hSn := HSt.out _ ((Below.refl _ _).drew)
          refine hK.out _ _ hSn (fun hHeld2 => ?_)
          clear hK hHeld hSn
          have hHeld := hHeld2
          clear hHeld2
          refine wpAnyH_take (i := 4) (oi := ⟨some 74, _, _, _, _, _⟩) (v := ?_) rfl (by kernel_rfl) (by kernel_rfl) (by kernel_rfl) (fun _ _ _ h => h) (Or.inl ⟨by rfl, ?_⟩) hHeld ?_
          rotate_left
          · intro W hSw
            have s0 := hSw
            go_simp
            with_reducible rfl
          simp only [Act.put, List.setIfInBounds_toArray, List.set_cons_zero, List.set_cons_succ]
          refine wpAnyH_take (i := 5) (oi := ⟨some 75, _, _, _, _, _⟩) (v := ?_) rfl (by kernel_rfl) (by kernel_rfl) (by kernel_rfl) (fun _ _ _ h => h) (Or.inl ⟨by rfl, ?_⟩) hHeld ?_
          rotate_left
          · intro W hSw
            have s0 := hSw
            go_simp
            with_reducible rfl
          simp only [Act.put, List.setIfInBounds_toArray, List.set_cons_zero, List.set_cons_succ]
          refine wpAnyH_take (i := 6) (oi := ⟨some 76, _, _, _, _, _⟩) (v := ?_) rfl (by kernel_rfl) (by kernel_rfl) (by kernel_rfl) (fun _ _ _ h => h) (Or.inl ⟨by rfl, ?_⟩) hHeld ?_
          rotate_left
          · intro W hSw
            have s0 := hSw
            go_simp
            with_reducible rfl
          simp only [Act.put, List.setIfInBounds_toArray, List.set_cons_zero, List.set_cons_succ]
          refine wpAnyH_take (i := 8) (oi := ⟨some 78, _, _, _, _, _⟩) (v := ?_) rfl (by kernel_rfl) (by kernel_rfl) (by kernel_rfl) (fun _ _ _ h => h) (Or.inl ⟨by rfl, ?_⟩) hHeld ?_
          rotate_left
          · intro W hSw
            have s0 := hSw
            go_simp
            with_reducible rfl
          simp only [Act.put, List.setIfInBounds_toArray, List.set_cons_zero, List.set_cons_succ]
          refine wpAnyH_ready (rs := [7]) (by kernel_rfl) (by simp) ?_
          refine (AllReadyH.cons (o := ⟨some 77, _, _, _, _, _⟩) rfl (fun K hK => ?_) AllReadyH.nil)
          go_simp
          refine (kept_any (HG5.out.1.under (Below.refl wr.heap.size wr).drew)).mono ?_
          rintro e w6 ⟨hb6, x6, rfl, hx6⟩
          obtain ⟨a6, c6, rfl, _, _⟩ := owns_shape hx6
          have hb6' : Below wr.heap.size wr w6 := ((Below.refl wr.heap.size wr).drew).trans hb6
          have H6 := Lib.hid (And.intro hb6' (And.intro (Zs.of hx6) (HG5.out.2.under hb6')))
          clear hb6'
          clear hx6
          have hSn := HSt.out _ (H6.out.1)
          refine hK.out _ _ hSn (fun hHeld2 => ?_)
          clear hK hHeld hSn
          have hHeld := hHeld2
          clear hHeld2
          refine wpAnyH_ready (rs := [9]) (by kernel_rfl) (by simp) ?_
          refine (AllReadyH.cons (o := ⟨some 79, _, _, _, _, _⟩) rfl (fun K hK => ?_) AllReadyH.nil)
          go_simp
          refine (kept_any H6.out.2.2).mono ?_
          rintro e w7 ⟨hb7, x7, rfl, hx7⟩
          obtain ⟨a7, c7, rfl, _, _⟩ := owns_shape hx7
          have H7 := Lib.hid (And.intro (H6.out.1.trans (hb7.mono H6.out.1.size)) (And.intro (H6.out.2.1.under hb7) (Zs.of hx7)))
          clear hx7 hb7 hb6
          have hSn := HSt.out _ (H7.out.1)
          refine hK.out _ _ hSn (fun hHeld2 => ?_)
          clear hK hHeld hSn
          have hHeld := hHeld2
          clear hHeld2
          refine wpAnyH_ready (rs := [10]) (by kernel_rfl) (by simp) ?_
          refine (AllReadyH.cons (o := ⟨some 80, _, _, _, _, _⟩) rfl (fun K hK => ?_) AllReadyH.nil)
          go_simp
          have hsi := sameints_any a6 a7 _ _ c6 c7 w7 H7.out.2.1 H7.out.2.2 HKl.out
          rw [HKe.out, decide_eq_true rfl] at hsi
          simp only [List.length_map] at hsi
          rw [HKe.out]
          refine hsi.mono ?_
          rintro e w8 ⟨rfl, hb8⟩
          have H8 := Lib.hid (H7.out.1.trans (hb8.mono H7.out.1.size))
          clear hsi hb8
          have hSn := HSt.out _ (H8.out)
          refine hK.out _ _ hSn (fun hHeld2 => ?_)
          clear hK hHeld hSn
          have hHeld := hHeld2
          clear hHeld2
          refine wpAnyH_take (i := 11) (oi := ⟨some 81, _, _, _, _, _⟩) (v := ?_) rfl (by kernel_rfl) (by kernel_rfl) (by kernel_rfl) (fun _ _ _ h => h) (Or.inl ⟨by rfl, ?_⟩) hHeld ?_
          rotate_left
          · intro W hSw
            have s0 := hSw
            go_simp
            with_reducible rfl
          simp only [Act.put, List.setIfInBounds_toArray, List.set_cons_zero, List.set_cons_succ]
          refine wpAnyH_take (i := 12) (oi := ⟨some 82, _, _, _, _, _⟩) (v := ?_) rfl (by kernel_rfl) (by kernel_rfl) (by kernel_rfl) (fun _ _ _ h => h) (Or.inl ⟨by rfl, ?_⟩) hHeld ?_
          rotate_left
          · intro W hSw
            have s0 := hSw
            go_simp
            with_reducible rfl
          simp only [Act.put, List.setIfInBounds_toArray, List.set_cons_zero, List.set_cons_succ]
          refine wpAnyH_ready (rs := [13]) (by kernel_rfl) (by simp) ?_
          refine (AllReadyH.cons (o := ⟨some 83, _, _, _, _, _⟩) rfl (fun K hK => ?_) AllReadyH.nil)
          go_simp
          refine (known_any _).mono ?_
          rintro e w9 ⟨rfl, hb9⟩
          have H9 := Lib.hid (H8.out.trans (hb9.mono H8.out.size))
          clear hb9
          have hSn := HSt.out _ (H9.out)
          refine hK.out _ _ hSn (fun hHeld2 => ?_)
          clear hK hHeld hSn
          have hHeld := hHeld2
          clear hHeld2
          refine wpAnyH_take (i := 14) (oi := ⟨some 84, _, _, _, _, _⟩) (v := ?_) rfl (by kernel_rfl) (by kernel_rfl) (by kernel_rfl) (fun _ _ _ h => h) (Or.inl ⟨by rfl, ?_⟩) hHeld ?_
          rotate_left
          · intro W hSw
            have s0 := hSw
            go_simp
            with_reducible rfl
          simp only [Act.put, List.setIfInBounds_toArray, List.set_cons_zero, List.set_cons_succ]
          refine wpAnyH_take (i := 15) (oi := ⟨some 4, _, _, _, _, _⟩) (v := ?_) rfl (by kernel_rfl) (by kernel_rfl) (by kernel_rfl) (fun _ _ _ h => h) (Or.inl ⟨by rfl, ?_⟩) hHeld ?_
          rotate_left
          · intro W hSw
            have s0 := hSw
            go_simp
            with_reducible rfl
          simp only [Act.put, List.setIfInBounds_toArray, List.set_cons_zero, List.set_cons_succ]
          refine wpAnyH_done (by kernel_rfl) ?_ _
          go_wp2
          go_ret
          exact ⟨rfl, HG.out.2.2.2.trans (H9.out.mono HG.out.2.2.2.size)⟩
end Go.Proofs.Ythljgkaigjokjaa
