/- DistJoins: the walk (written by mkdli.py). -/
import Derived.Test.YthljgkaigjokjaaDsLawH
import Derived.BigQuiet
namespace Go.Proofs.Ythljgkaigjokjaa
open Go.RowKit Go.Shelf Grm Lay
theorem dright_any (n : Int) (a : Option Addr) (l : List Ar) (c : Nat) (N A : Int) (w : World) (hA : Arcs w a l) : Calls Try.prog 31 #[.agg #[.int .i64 n, .slice a l.length c], .int .i64 N, .int .i64 A] w fun e w' => e = .returned (.bool (rightB n l N A)) ∧ Below w.heap.size w w' := by
  obtain ⟨w1, hw1⟩ : ∃ w1, w1 = w.alloc (.cells #[.int .i64 n, .slice a l.length c] 24) := ⟨_, rfl⟩
  have hb1 : Below w.heap.size w w1 := by rw [hw1]; exact (Below.refl _ _).alloc (Nat.le_refl _) _
  have HA := Lib.hid (And.intro (right_any n a l c N A w1 (hA.under hb1)) hb1)
  have HW := Lib.hid hw1
  clear hw1 hb1 hA
  go_enter Try.func31, Try.ntmps31
  go_wp2_with (first | (go_at_call 29; rw [← HW.out]; refine HA.out.1.mono ?_; rintro e w2 ⟨rfl, hb2⟩; have HB := Lib.hid (HA.out.2.trans (hb2.mono HA.out.2.size)); clear hb2))
  go_ret
  exact ⟨rfl, HB.out⟩
theorem zs_cells {w : World} {ad : Addr} {l : List Int} (h : Zs w (some ad) l) : ∀ (j : Nat) (u : Value), (l.map (Value.int .i64))[j]? = some u → w.cell? (ad.add j) = some u := by
  intro j u hj
  rcases h with rfl | ⟨b, o, e, h⟩
  · cases hj
  · cases e
    rw [add_addr]
    rw [List.getElem?_map] at hj
    cases hl : l[j]? with
    | none => rw [hl] at hj; cases hj
    | some y =>
      rw [hl] at hj
      injection hj with hj
      subst hj
      exact h j y hl
theorem owns_cap {w : World} {K : Nat} {e : TypeId} {size n m c : Nat} {a : Option Addr} {xs : List Value} (h : w.ownsRow K e size (.slice a n c) m xs) : n ≤ c := by
  rcases h.2 with ⟨e, _⟩ | ⟨g, cap, cur, e, _, _, h3, _⟩
  · cases e
    exact Nat.le_refl _
  · cases e
    exact h3
theorem ints_one (l : List Int) : ∀ u ∈ l.map (Value.int .i64), u.oneCell' = true := by
  intro u hu
  obtain ⟨y, _, rfl⟩ := List.mem_map.1 hu
  rfl
/-- A law's map and two lists of numbers, the map in block w.heap.size. -/
structure Jz (w : World) (n : Int) (a : Option Addr) (l : List Ar) (c : Nat) (ba : Option Addr) (ka : List Int) (bb : Option Addr) (kb : List Int) (W : World) : Prop where
  row : Row W w.heap.size 24 #[.int .i64 n, .slice a l.length c]
  arcs : Arcs W a l
  na : Zs W ba ka
  nb : Zs W bb kb
  bw : Below w.heap.size w W
theorem Jz.next {w W W' : World} {n : Int} {a ba bb : Option Addr} {l : List Ar} {c : Nat} {ka kb : List Int} (h : Jz w n a l c ba ka bb kb W) (hb : Below W.heap.size W W') : Jz w n a l c ba ka bb kb W' :=
  ⟨h.row.under hb h.row.lt, h.arcs.under hb, h.na.under hb, h.nb.under hb, h.bw.trans (hb.mono h.bw.size)⟩
/-- What was there at the law's call lies below the map's block. -/
structure Jk (w : World) (a : Option Addr) (l : List Ar) (ba : Option Addr) (ka : List Int) (bb : Option Addr) (kb : List Int) : Prop where
  la : ∀ b o, a = some ⟨b, o, none⟩ → l ≠ [] → b < w.heap.size
  lb : ∀ b o, ba = some ⟨b, o, none⟩ → ka ≠ [] → b < w.heap.size
  lc : ∀ b o, bb = some ⟨b, o, none⟩ → kb ≠ [] → b < w.heap.size
theorem Zs.lt {w : World} {a : Option Addr} {l : List Int} (h : Zs w a l) : ∀ b o, a = some ⟨b, o, none⟩ → l ≠ [] → b < w.heap.size := by
  intro b o e hne
  obtain ⟨b', o', e', hc⟩ := h.at_ (List.length_pos_iff.2 hne)
  rw [e] at e'
  cases e'
  exact block_lt_of_cell hc
theorem Arcs.lt {w : World} {a : Option Addr} {l : List Ar} (h : Arcs w a l) : ∀ b o, a = some ⟨b, o, none⟩ → l ≠ [] → b < w.heap.size := by
  intro b o e hne
  obtain ⟨b', o', e', hc, _⟩ := h.at_ (List.length_pos_iff.2 hne)
  rw [e] at e'
  cases e'
  exact block_lt_of_cell hc
theorem Jz.onlyK {S : Nat → Prop} {w W W' : World} {n : Int} {a ba bb : Option Addr} {l : List Ar} {c K : Nat} {ka kb : List Int} (h : Jz w n a l c ba ka bb kb W) (ho : Only S W W') (hS : ∀ q, S q → K ≤ q) (hk : Jk w a l ba ka bb kb ∧ w.heap.size < K) : Jz w n a l c ba ka bb kb W' :=
  ⟨h.row.only ho (fun s => by have := hS _ s; omega), h.arcs.only ho (fun b o e hne s => by have := hS _ s; have := hk.1.la b o e hne; omega), h.na.only ho (fun b o e hne s => by have := hS _ s; have := hk.1.lb b o e hne; omega), h.nb.only ho (fun b o e hne s => by have := hS _ s; have := hk.1.lc b o e hne; omega), h.bw.trans (ho.below (K := w.heap.size) (fun q s => by have := hS _ s; omega) h.bw.size)⟩
theorem Jz.start {w : World} {n : Int} {a ba bb : Option Addr} {l : List Ar} {c : Nat} {ka kb : List Int} (hA : Arcs w a l) (hK : Zs w ba ka) (hB : Zs w bb kb) : Jz w n a l c ba ka bb kb (w.alloc (.cells #[.int .i64 n, .slice a l.length c] 24)) := by
  have hb : Below w.heap.size w (w.alloc (.cells #[.int .i64 n, .slice a l.length c] 24)) := (Below.refl _ _).alloc (Nat.le_refl _) _
  exact ⟨Row.fresh w _ _, hA.under hb, hK.under hb, hB.under hb, hb⟩
theorem Jz.cells {w W : World} {n : Int} {a ba bb : Option Addr} {l : List Ar} {c : Nat} {ka kb : List Int} (h : Jz w n a l c ba ka bb kb W) : W.cell? ⟨w.heap.size, 0, none⟩ = some (.int .i64 n) ∧ W.cell? ⟨w.heap.size, 1, none⟩ = some (.slice a l.length c) := by
  have r0 := h.row.cell 0
  have r1 := h.row.cell 1
  simp only [List.getElem?_toArray, List.getElem?_cons_zero, List.getElem?_cons_succ] at r0 r1
  exact ⟨r0, r1⟩
set_option maxRecDepth 100000 in
set_option maxHeartbeats 8000000 in
theorem djoins_walk (n : Int) (a : Option Addr) (l : List Ar) (c : Nat) (s : Int) (ba : Option Addr) (ka : List Int) (da : Nat) (bb : Option Addr) (kb : List Int) (db : Nat) (q : Int) (w : World) (hA : Arcs w a l) (hK : Zs w ba ka) (hB : Zs w bb kb) (hka : ka.length ≤ 140737488351232) (hkb : kb.length ≤ 140737488351232) (hq : 0 ≤ q ∧ q < 65536) :
    Calls Try.prog 15 #[mV n a l.length c, .int .i64 s, .slice ba ka.length da, .slice bb kb.length db, .int .u16 q] w fun e w' => e = .returned (.bool true) ∧ Below w.heap.size w w' := by
  show Calls Try.prog 15 #[.agg #[.int .i64 n, .slice a l.length c], .int .i64 s, .slice ba ka.length da, .slice bb kb.length db, .int .u16 q] w _
  obtain ⟨w1, hw1⟩ : ∃ w1, w1 = w.alloc (.cells #[.int .i64 n, .slice a l.length c] 24) := ⟨_, rfl⟩
  have HJ := Lib.hid (show Jz w n a l c ba ka bb kb w1 by rw [hw1]; exact Jz.start hA hK hB)
  have HJk := Lib.hid (show Jk w a l ba ka bb kb from ⟨hA.lt, hK.lt, hB.lt⟩)
  have HS1 := Lib.hid (show w1.heap.size = w.heap.size + 1 by rw [hw1]; simp)
  have HW := Lib.hid hw1
  clear hw1 hA hK hB
  obtain ⟨R, hR⟩ : ∃ R, R = rightB n l 30 80 := ⟨_, rfl⟩
  have HR := Lib.hid hR
  clear hR
  have hqw : IntKind.i64.wrap q = q := by rw [IntKind.wrap_i64]; omega
  have hqw1 : IntKind.i64.wrap (q + 1) = q + 1 := by rw [IntKind.wrap_i64]; omega
  have hlw : IntKind.i64.wrap ((ka.length : Int) + (kb.length : Int)) = (ka.length : Int) + (kb.length : Int) := by rw [IntKind.wrap_i64]; omega
  cases R with
  | false =>
    clear hka hkb
    go_enter Try.func15, Try.ntmps15
    go_wp2_with (first
      | (go_at_call 31; rw [← HW.out]; refine (dright_any n a l c 30 80 _ HJ.out.arcs).mono ?_; rintro e w2 ⟨rfl, hb⟩; rw [← HR.out]; have r0 := HJ.out.cells.1; have r1 := HJ.out.cells.2; have HJ2 := Lib.hid (HJ.out.next hb); clear HJ r0 r1 hb; have HJ := HJ2; clear HJ2; have r0 := HJ.out.cells.1; have r1 := HJ.out.cells.2)
      | (go_at_call 30; refine (dknown_any _).mono ?_; rintro e w3 ⟨rfl, hb⟩; have HN := Lib.hid (HJ.out.next hb); clear hb))
    go_ret
    exact ⟨rfl, HN.out.bw⟩
  | true =>
    by_cases hl : (100 : Int) < (ka.length : Int) + (kb.length : Int)
    · have hl' : decide ((100 : Int) < (ka.length : Int) + (kb.length : Int)) = true := by simpa using hl
      clear hka hkb hl
      go_enter Try.func15, Try.ntmps15
      go_wp2_with (first
        | (go_at_call 31; rw [← HW.out]; refine (dright_any n a l c 30 80 _ HJ.out.arcs).mono ?_; rintro e w2 ⟨rfl, hb⟩; rw [← HR.out]; have r0 := HJ.out.cells.1; have r1 := HJ.out.cells.2; have HJ2 := Lib.hid (HJ.out.next hb); clear HJ r0 r1 hb; have HJ := HJ2; clear HJ2; have r0 := HJ.out.cells.1; have r1 := HJ.out.cells.2)
        | (go_at_call 30; refine (dknown_any _).mono ?_; rintro e w3 ⟨rfl, hb⟩; have HN := Lib.hid (HJ.out.next hb); clear hb))
      go_ret
      exact ⟨rfl, HN.out.bw⟩
    · have hl' : decide ((100 : Int) < (ka.length : Int) + (kb.length : Int)) = false := by simpa using hl
      have HL := Lib.hid (show ka.length + kb.length ≤ 100 by omega)
      clear hka hkb hl
      have hck : checkL n l = 0 := by
        have h := HR.out.symm
        unfold rightB at h
        simp only [Bool.and_eq_true, decide_eq_true_eq] at h
        exact h.2
      obtain ⟨N, hnN, hN, hll, hok, hln⟩ := checkL_zero hck
      obtain ⟨L, hL⟩ := FarI.ex (eds_arc hok hln) s
      have HNew := Lib.hid (show ∀ W, Arcs W a l → Calls Try.prog 18 #[.agg #[.int .i64 n, .slice a l.length c]] W fun e w' => ∃ g B, e = .returned (ptr g) ∧ Below W.heap.size W w' ∧ GV w' B (ptr g) N l ∧ B ≤ w'.heap.size from fun W hA => by
        subst hnN
        refine (new_any hA hck).mono ?_
        rintro e w3 ⟨g, rfl, hb3, hg⟩
        exact ⟨g, _, rfl, hb3, gv_of hck hg, Nat.le_refl _⟩)
      have HCk := Lib.hid (And.intro hck (And.intro hL hnN))
      have HLL := Lib.hid (show L.length ≤ 16777216 from Nat.le_trans hL.len hN)
      clear hck hN hll hok hln hL hnN
      obtain ⟨i0, hi, hz0, hz1, hz2⟩ := info_partsC infoIC
      cases h1 : walkR n l s ka with
      | none =>
        have h3 := walkR_none (kb := kb) h1
        cases h2 : walkR n l 0 kb with
        | none =>
          have H12 := Lib.hid (And.intro h1 (And.intro h2 h3))
          clear h1 h2 h3
          go_enter Try.func15, Try.ntmps15
          go_upto_region 6 with (first
            | (go_at_call 31; rw [← HW.out]; refine (dright_any n a l c 30 80 _ HJ.out.arcs).mono ?_; rintro e w2 ⟨rfl, hb⟩; rw [← HR.out]; have r0 := HJ.out.cells.1; have r1 := HJ.out.cells.2; have HJ2 := Lib.hid (HJ.out.next hb); clear HJ r0 r1 hb; have HJ := HJ2; clear HJ2; have r0 := HJ.out.cells.1; have r1 := HJ.out.cells.2)
            | (go_at_call 43; (with_reducible show Calls _ _ #[_, .int .i64 s, .slice ba ka.length da] _ _); refine (walk_any n a l c s ba ka da _ HJ.out.arcs HJ.out.na (by have := HL.out; omega)).mono ?_; rintro e w4 ⟨rfl, hb⟩; rw [H12.out.1]; simp only [walkV]; have HJ2 := Lib.hid (HJ.out.next hb); clear HJ r0 r1 hb; have HJ := HJ2; clear HJ2; have r0 := HJ.out.cells.1; have r1 := HJ.out.cells.2)
            | (go_at_call 43; refine (walk_any n a l c 0 bb kb db _ HJ.out.arcs HJ.out.nb (by have := HL.out; omega)).mono ?_; rintro e w5 ⟨rfl, hb⟩; rw [H12.out.2.1]; simp only [walkV]; have HJ2 := Lib.hid (HJ.out.next hb); clear HJ r0 r1 hb; have HJ := HJ2; clear HJ2; have r0 := HJ.out.cells.1; have r1 := HJ.out.cells.2))
          have HSz := Lib.hid (show w.heap.size < w5.heap.size from HJ.out.row.lt)
          obtain ⟨K1, hK1⟩ : ∃ K1, K1 = w5.heap.size := ⟨_, rfl⟩
          have HK1 := Lib.hid hK1
          clear hK1
          go_cut [17] from 54 to 56 (fun v wx => ∃ av cv, v = .slice av ka.length cv ∧ IsV wx K1 (.slice av ka.length cv) ka ∧ Jz w n a l c ba ka bb kb wx ∧ K1 ≤ wx.heap.size)
          case first =>
            cases ba with
            | none =>
              have h0 : ka = [] := by
                rcases HJ.out.na with h | ⟨b, o, e, _⟩
                · exact h
                · cases e
              subst h0
              go_wp2
              go_meet
              exact ⟨none, 0, rfl, World.ownsRow_nil _ _ _ _, HJ.out, by have := HK1.out; omega⟩
            | some ad =>
              have HC := Lib.hid (zs_cells HJ.out.na)
              have HLm := Lib.hid (show (ka.map (Value.int .i64)).length = ka.length by simp)
              go_wp2_with (at_builtin; refine wpList_append_own_at _ rfl _ _ 43 rfl K1 3 i0 (.int .i64 0) 1 8 Try.underlying43 hi hz0 hz1 hz2 rfl (by decide) (.slice none 0 0) 0 [] rfl (World.ownsRow_nil _ _ _ _) ad ka.length da (ka.map (Value.int .i64)) rfl (by rw [HLm.out]; omega) HC.out (ints_one ka) (by unfold maxLen; have := HL.out; omega) (by have := HL.out; omega) (by have := HK1.out; omega) ?_; intro v' w6 hown' hg6 _ _; rw [Nat.zero_add] at hown'; have ho6 := only_grown (S := fun q => False) hg6 (fun q e => by cases e); have HT := Lib.hid (And.intro hown' ho6); obtain ⟨av, cv, rfl, _, _⟩ := owns_shape hown'; clear hown' hg6 ho6)
              go_meet
              exact ⟨av, cv, rfl, by simpa [IsV] using HT.out.1, HJ.out.next (HT.out.2.below (fun _ h => h.elim) (Nat.le_refl _)), by have := HK1.out; have := HT.out.2.size; omega⟩
          case rest =>
            obtain ⟨av, cv, rfl, hown, hjz, hsz⟩ := hcut
            clear HJ r0 r1
            have HJ := Lib.hid hjz
            have HO1 := Lib.hid (And.intro hown hsz)
            clear hjz hown hsz
            obtain ⟨kc, hkc⟩ : ∃ kc, kc = ka ++ kb := ⟨_, rfl⟩
            have HKc := Lib.hid hkc
            have H3 := Lib.hid (show walkR n l s kc = none by rw [hkc]; exact H12.out.2.2)
            have HLc := Lib.hid (show kc.length = ka.length + kb.length by rw [hkc, List.length_append])
            clear hkc
            go_upto_region 7 with (fail)
            go_cut [17] from 57 to 59 (fun v wy => ∃ av2 cv2, v = .slice av2 kc.length cv2 ∧ IsV wy K1 (.slice av2 kc.length cv2) kc ∧ Jz w n a l c ba ka bb kb wy ∧ K1 ≤ wy.heap.size)
            case first =>
              cases bb with
              | none =>
                have h0 : kb = [] := by
                  rcases HJ.out.nb with h | ⟨b, o, e, _⟩
                  · exact h
                  · cases e
                subst h0
                have hvc := owns_cap HO1.out.1
                have hlk : ¬ (9223372036854775807 : Int) < (ka.length : Int) := by have := HL.out; omega
                have hav : av = none ∨ ∃ g, av = some ⟨g, 0, none⟩ := by
                  rcases HO1.out.1.2 with ⟨e, _⟩ | ⟨g, cap, cur, e, _⟩
                  · cases av with
                    | none => exact .inl rfl
                    | some x => cases e
                  · injection e with e1 _ _
                    exact .inr ⟨g, e1⟩
                rcases hav with rfl | ⟨g, rfl⟩
                · have h0 : ka.length = 0 := by
                    rcases HO1.out.1.2 with ⟨_, h⟩ | ⟨g, cap, cur, e, _⟩
                    · exact h
                    · cases e
                  obtain rfl : ka = [] := List.eq_nil_of_length_eq_zero h0
                  clear h0 hlk hvc
                  go_wp2
                  go_meet
                  exact ⟨none, cv, by rw [HKc.out]; rfl, by rw [HKc.out]; exact HO1.out.1, HJ.out, HO1.out.2⟩
                · go_wp2
                  go_meet
                  exact ⟨some ⟨g, 0, none⟩, cv, by rw [HKc.out, List.append_nil], by rw [HKc.out, List.append_nil]; exact HO1.out.1, HJ.out, HO1.out.2⟩
              | some ad =>
                have HC := Lib.hid (zs_cells HJ.out.nb)
                have HLm := Lib.hid (show (kb.map (Value.int .i64)).length = kb.length by simp)
                go_wp2_with (at_builtin; refine wpList_append_own_at _ rfl _ _ 43 rfl K1 3 i0 (.int .i64 0) 1 8 Try.underlying43 hi hz0 hz1 hz2 rfl (by decide) (.slice av ka.length cv) ka.length (ka.map (Value.int .i64)) rfl HO1.out.1 ad kb.length db (kb.map (Value.int .i64)) rfl (by rw [HLm.out]; omega) HC.out (ints_one kb) (by unfold maxLen; have := HL.out; omega) (by have := HL.out; omega) HO1.out.2 ?_; intro v' w6 hown' hg6 _ _; have ho6 := only_grown (S := fun q => (Value.slice av ka.length cv).ownBlock = some q) hg6 (fun q e => e); have HT := Lib.hid (And.intro hown' ho6); obtain ⟨av2, cv2, rfl, _, _⟩ := owns_shape hown'; clear hown' hg6 ho6)
                go_meet
                refine ⟨av2, cv2, by rw [HLc.out], ?_, HJ.out.onlyK HT.out.2 (fun q e => (owns_lt HO1.out.1 q e).1) (And.intro HJk.out (show w.heap.size < K1 by have := HK1.out; have := HS1.out; have := HSz.out; omega)), Nat.le_trans HO1.out.2 HT.out.2.size⟩
                rw [HLc.out, HKc.out]
                show World.ownsRow _ _ _ _ _ (ka ++ kb).length _
                rw [List.length_append, List.map_append]
                exact HT.out.1
            case rest =>
              obtain ⟨av2, cv2, rfl, hown, hjz, hsz⟩ := hcut
              clear HJ HO1
              have HJ := Lib.hid hjz
              have HO2 := Lib.hid (Zs.of hown)
              have r0 := HJ.out.cells.1
              have r1 := HJ.out.cells.2
              clear hjz hown hsz
              go_wp2_with (first
                | (go_at_call 43; refine (walk_any n a l c s av2 kc cv2 _ HJ.out.arcs HO2.out (by have := HLc.out; have := HL.out; omega)).mono ?_; rintro e w7 ⟨rfl, hb⟩; rw [H3.out]; simp only [walkV]; have HJ2 := Lib.hid (HJ.out.next hb); clear HJ r0 r1 hb; have HJ := HJ2; clear HJ2; have r0 := HJ.out.cells.1; have r1 := HJ.out.cells.2)
                | (go_at_call 18; refine (HNew.out _ HJ.out.arcs).mono ?_; rintro e w8 ⟨g, Bd, rfl, hb, hgv⟩; have HG := Lib.hid hgv; have HJ2 := Lib.hid (HJ.out.next hb); clear HJ r0 r1 hb hgv; have HJ := HJ2; clear HJ2)
                | (go_at_call 40; (with_reducible show Calls _ _ #[_, _, .int .i64 q] _ _); refine (around_any HG.out.1 HG.out.2 HCk.out.2.1).mono ?_; rintro e w9 ⟨hb, xv, rfl, hx⟩; obtain ⟨aa, ca, rfl, hza, _, _⟩ := IsV.shape hx; have HZa := Lib.hid hza; have HG2 := Lib.hid (HG.out.1.next HG.out.2 hb); have HJ2 := Lib.hid (HJ.out.next hb); clear HJ HG hx hza hb; have HJ := HJ2; have HG := HG2; clear HJ2 HG2)
                | (go_at_call 40; refine (around_any HG.out.1 HG.out.2 HCk.out.2.1).mono ?_; rintro e w10 ⟨hb, xv, rfl, hx⟩; obtain ⟨ab, cb, rfl, hzb, _, _⟩ := IsV.shape hx; have HZb := Lib.hid hzb; have HZa2 := Lib.hid (HZa.out.under hb); have HJ2 := Lib.hid (HJ.out.next hb); clear HJ HG HZa hx hzb hb; have HJ := HJ2; have HZa := HZa2; clear HJ2 HZa2))
              have HSub := Lib.hid (around_sub L q)
              have hla := around_len L q
              have hlb := around_len L (q + 1)
              generalize aroundL L q = A at *
              generalize aroundL L (q + 1) = B at *
              have HLab := Lib.hid (show A.length ≤ 16777216 ∧ B.length ≤ 16777216 by have := HLL.out; omega)
              clear hla hlb
              go_loopw [24, 25] (fun vj vi wr => ∃ i j : Nat, vj = .int .i64 (j : Nat) ∧ vi = .int .i64 (i : Nat) ∧ i ≤ B.length ∧ j ≤ A.length ∧ (A.drop j).Sublist (B.drop i) ∧ Jz w n a l c ba ka bb kb wr ∧ Zs wr aa A ∧ Zs wr ab B) (fun _ i _ => B.length - (intOf i).toNat)
              case atStart => exact ⟨0, 0, rfl, rfl, Nat.zero_le _, Nat.zero_le _, by rw [List.drop_zero, List.drop_zero]; exact HSub.out, HJ.out, HZa.out, HZb.out⟩
              case round =>
                obtain ⟨i, j, rfl, rfl, hi, hj, hsub, hjz, hza, hzb⟩ := hrel
                have hlens := HLab.out
                by_cases hlt : i < B.length
                · have hlt' : (i : Int) < (B.length : Int) := by omega
                  have hwi : IntKind.i64.wrap ((i : Int) + 1) = (i : Int) + 1 := by rw [IntKind.wrap_i64]; omega
                  have hwj : IntKind.i64.wrap ((j : Int) + 1) = (j : Int) + 1 := by rw [IntKind.wrap_i64]; omega
                  have hst := sub_step hlt hsub
                  obtain ⟨bb0, bo0, rfl, y0⟩ := hzb.at_ hlt
                  have hy := List.getElem?_eq_getElem hlt
                  generalize B[i]'hlt = y at *
                  by_cases hjl : j < A.length
                  · have hjl' : decide ((j : Int) < (A.length : Int)) = true := by simp; omega
                    have hjl2 : (j : Int) < (A.length : Int) := by omega
                    obtain ⟨ba0, ao0, rfl, x0⟩ := hza.at_ hjl
                    have hxx := List.getElem?_eq_getElem hjl
                    generalize A[j]'hjl = xx at *
                    have hs2 := hst.1 hjl xx y hxx hy
                    by_cases he : xx = y
                    · have he' : (xx == y) = true := by simpa using he
                      have HQ := Lib.hid (And.intro hjz (And.intro hza (And.intro hzb (And.intro (hs2.1 he) (And.intro hi hjl)))))
                      clear hjz hza hzb hs2 hst hsub hxx hy he hi hj hlens hjl
                      go_wp2
                      go_quiet (fail)
                      obtain ⟨w9, hw9⟩ : ∃ W, W = wr.drewN nq := ⟨_, rfl⟩
                      rw [← hw9]
                      have hb9 : Below wr.heap.size wr w9 := by rw [hw9]; exact below_dN (Below.refl _ _) _
                      clear hw9
                      go_wp2
                      exact ⟨⟨i + 1, j + 1, by go_num, by go_num, by omega, HQ.out.2.2.2.2.2, HQ.out.2.2.2.1, HQ.out.1.next hb9, HQ.out.2.1.under hb9, HQ.out.2.2.1.under hb9⟩, by simp [intOf]; omega⟩
                    · have he' : (xx == y) = false := by simpa using he
                      have HQ := Lib.hid (And.intro hjz (And.intro hza (And.intro hzb (And.intro (hs2.2 he) (And.intro hi hj)))))
                      clear hjz hza hzb hs2 hst hsub hxx hy he hi hj hlens hjl
                      go_wp2
                      go_quiet (fail)
                      obtain ⟨w9, hw9⟩ : ∃ W, W = wr.drewN nq := ⟨_, rfl⟩
                      rw [← hw9]
                      have hb9 : Below wr.heap.size wr w9 := by rw [hw9]; exact below_dN (Below.refl _ _) _
                      clear hw9
                      go_wp2
                      exact ⟨⟨i + 1, j, by go_num, by go_num, by omega, HQ.out.2.2.2.2.2, HQ.out.2.2.2.1, HQ.out.1.next hb9, HQ.out.2.1.under hb9, HQ.out.2.2.1.under hb9⟩, by simp [intOf]; omega⟩
                  · obtain rfl : j = A.length := by omega
                    have HQ := Lib.hid (And.intro hjz (And.intro hza (And.intro hzb (And.intro (hst.2 (by omega)) (And.intro hi hj)))))
                    clear hjz hza hzb hst hsub hy hi hj hlens hjl
                    go_wp2
                    go_quiet (fail)
                    obtain ⟨w9, hw9⟩ : ∃ W, W = wr.drewN nq := ⟨_, rfl⟩
                    rw [← hw9]
                    have hb9 : Below wr.heap.size wr w9 := by rw [hw9]; exact below_dN (Below.refl _ _) _
                    clear hw9
                    go_wp2
                    exact ⟨⟨i + 1, A.length, by go_num, by go_num, by omega, HQ.out.2.2.2.2.2, HQ.out.2.2.2.1, HQ.out.1.next hb9, HQ.out.2.1.under hb9, HQ.out.2.2.1.under hb9⟩, by simp [intOf]; omega⟩
                · obtain rfl : i = B.length := by omega
                  obtain rfl := sub_done hj hsub
                  have HQ := Lib.hid hjz
                  clear hjz hza hzb hsub hi hj HJ HZa HZb hlens
                  go_wp2_with (go_at_call 30; refine (dknown_any _).mono ?_; rintro e w11 ⟨rfl, hb⟩; have HN := Lib.hid (HQ.out.next hb); clear hb)
                  go_ret
                  exact ⟨rfl, HN.out.bw⟩
        | some p2 =>
          have H12 := Lib.hid (And.intro h1 (And.intro h2 h3))
          clear h1 h2 h3
          go_enter Try.func15, Try.ntmps15
          go_upto_region 6 with (first
            | (go_at_call 31; rw [← HW.out]; refine (dright_any n a l c 30 80 _ HJ.out.arcs).mono ?_; rintro e w2 ⟨rfl, hb⟩; rw [← HR.out]; have r0 := HJ.out.cells.1; have r1 := HJ.out.cells.2; have HJ2 := Lib.hid (HJ.out.next hb); clear HJ r0 r1 hb; have HJ := HJ2; clear HJ2; have r0 := HJ.out.cells.1; have r1 := HJ.out.cells.2)
            | (go_at_call 43; (with_reducible show Calls _ _ #[_, .int .i64 s, .slice ba ka.length da] _ _); refine (walk_any n a l c s ba ka da _ HJ.out.arcs HJ.out.na (by have := HL.out; omega)).mono ?_; rintro e w4 ⟨rfl, hb⟩; rw [H12.out.1]; simp only [walkV]; have HJ2 := Lib.hid (HJ.out.next hb); clear HJ r0 r1 hb; have HJ := HJ2; clear HJ2; have r0 := HJ.out.cells.1; have r1 := HJ.out.cells.2)
            | (go_at_call 43; refine (walk_any n a l c 0 bb kb db _ HJ.out.arcs HJ.out.nb (by have := HL.out; omega)).mono ?_; rintro e w5 ⟨rfl, hb⟩; rw [H12.out.2.1]; simp only [walkV]; have HJ2 := Lib.hid (HJ.out.next hb); clear HJ r0 r1 hb; have HJ := HJ2; clear HJ2; have r0 := HJ.out.cells.1; have r1 := HJ.out.cells.2))
          have HSz := Lib.hid (show w.heap.size < w5.heap.size from HJ.out.row.lt)
          obtain ⟨K1, hK1⟩ : ∃ K1, K1 = w5.heap.size := ⟨_, rfl⟩
          have HK1 := Lib.hid hK1
          clear hK1
          go_cut [17] from 54 to 56 (fun v wx => ∃ av cv, v = .slice av ka.length cv ∧ IsV wx K1 (.slice av ka.length cv) ka ∧ Jz w n a l c ba ka bb kb wx ∧ K1 ≤ wx.heap.size)
          case first =>
            cases ba with
            | none =>
              have h0 : ka = [] := by
                rcases HJ.out.na with h | ⟨b, o, e, _⟩
                · exact h
                · cases e
              subst h0
              go_wp2
              go_meet
              exact ⟨none, 0, rfl, World.ownsRow_nil _ _ _ _, HJ.out, by have := HK1.out; omega⟩
            | some ad =>
              have HC := Lib.hid (zs_cells HJ.out.na)
              have HLm := Lib.hid (show (ka.map (Value.int .i64)).length = ka.length by simp)
              go_wp2_with (at_builtin; refine wpList_append_own_at _ rfl _ _ 43 rfl K1 3 i0 (.int .i64 0) 1 8 Try.underlying43 hi hz0 hz1 hz2 rfl (by decide) (.slice none 0 0) 0 [] rfl (World.ownsRow_nil _ _ _ _) ad ka.length da (ka.map (Value.int .i64)) rfl (by rw [HLm.out]; omega) HC.out (ints_one ka) (by unfold maxLen; have := HL.out; omega) (by have := HL.out; omega) (by have := HK1.out; omega) ?_; intro v' w6 hown' hg6 _ _; rw [Nat.zero_add] at hown'; have ho6 := only_grown (S := fun q => False) hg6 (fun q e => by cases e); have HT := Lib.hid (And.intro hown' ho6); obtain ⟨av, cv, rfl, _, _⟩ := owns_shape hown'; clear hown' hg6 ho6)
              go_meet
              exact ⟨av, cv, rfl, by simpa [IsV] using HT.out.1, HJ.out.next (HT.out.2.below (fun _ h => h.elim) (Nat.le_refl _)), by have := HK1.out; have := HT.out.2.size; omega⟩
          case rest =>
            obtain ⟨av, cv, rfl, hown, hjz, hsz⟩ := hcut
            clear HJ r0 r1
            have HJ := Lib.hid hjz
            have HO1 := Lib.hid (And.intro hown hsz)
            clear hjz hown hsz
            obtain ⟨kc, hkc⟩ : ∃ kc, kc = ka ++ kb := ⟨_, rfl⟩
            have HKc := Lib.hid hkc
            have H3 := Lib.hid (show walkR n l s kc = none by rw [hkc]; exact H12.out.2.2)
            have HLc := Lib.hid (show kc.length = ka.length + kb.length by rw [hkc, List.length_append])
            clear hkc
            go_upto_region 7 with (fail)
            go_cut [17] from 57 to 59 (fun v wy => ∃ av2 cv2, v = .slice av2 kc.length cv2 ∧ IsV wy K1 (.slice av2 kc.length cv2) kc ∧ Jz w n a l c ba ka bb kb wy ∧ K1 ≤ wy.heap.size)
            case first =>
              cases bb with
              | none =>
                have h0 : kb = [] := by
                  rcases HJ.out.nb with h | ⟨b, o, e, _⟩
                  · exact h
                  · cases e
                subst h0
                have hvc := owns_cap HO1.out.1
                have hlk : ¬ (9223372036854775807 : Int) < (ka.length : Int) := by have := HL.out; omega
                have hav : av = none ∨ ∃ g, av = some ⟨g, 0, none⟩ := by
                  rcases HO1.out.1.2 with ⟨e, _⟩ | ⟨g, cap, cur, e, _⟩
                  · cases av with
                    | none => exact .inl rfl
                    | some x => cases e
                  · injection e with e1 _ _
                    exact .inr ⟨g, e1⟩
                rcases hav with rfl | ⟨g, rfl⟩
                · have h0 : ka.length = 0 := by
                    rcases HO1.out.1.2 with ⟨_, h⟩ | ⟨g, cap, cur, e, _⟩
                    · exact h
                    · cases e
                  obtain rfl : ka = [] := List.eq_nil_of_length_eq_zero h0
                  clear h0 hlk hvc
                  go_wp2
                  go_meet
                  exact ⟨none, cv, by rw [HKc.out]; rfl, by rw [HKc.out]; exact HO1.out.1, HJ.out, HO1.out.2⟩
                · go_wp2
                  go_meet
                  exact ⟨some ⟨g, 0, none⟩, cv, by rw [HKc.out, List.append_nil], by rw [HKc.out, List.append_nil]; exact HO1.out.1, HJ.out, HO1.out.2⟩
              | some ad =>
                have HC := Lib.hid (zs_cells HJ.out.nb)
                have HLm := Lib.hid (show (kb.map (Value.int .i64)).length = kb.length by simp)
                go_wp2_with (at_builtin; refine wpList_append_own_at _ rfl _ _ 43 rfl K1 3 i0 (.int .i64 0) 1 8 Try.underlying43 hi hz0 hz1 hz2 rfl (by decide) (.slice av ka.length cv) ka.length (ka.map (Value.int .i64)) rfl HO1.out.1 ad kb.length db (kb.map (Value.int .i64)) rfl (by rw [HLm.out]; omega) HC.out (ints_one kb) (by unfold maxLen; have := HL.out; omega) (by have := HL.out; omega) HO1.out.2 ?_; intro v' w6 hown' hg6 _ _; have ho6 := only_grown (S := fun q => (Value.slice av ka.length cv).ownBlock = some q) hg6 (fun q e => e); have HT := Lib.hid (And.intro hown' ho6); obtain ⟨av2, cv2, rfl, _, _⟩ := owns_shape hown'; clear hown' hg6 ho6)
                go_meet
                refine ⟨av2, cv2, by rw [HLc.out], ?_, HJ.out.onlyK HT.out.2 (fun q e => (owns_lt HO1.out.1 q e).1) (And.intro HJk.out (show w.heap.size < K1 by have := HK1.out; have := HS1.out; have := HSz.out; omega)), Nat.le_trans HO1.out.2 HT.out.2.size⟩
                rw [HLc.out, HKc.out]
                show World.ownsRow _ _ _ _ _ (ka ++ kb).length _
                rw [List.length_append, List.map_append]
                exact HT.out.1
            case rest =>
              obtain ⟨av2, cv2, rfl, hown, hjz, hsz⟩ := hcut
              clear HJ HO1
              have HJ := Lib.hid hjz
              have HO2 := Lib.hid (Zs.of hown)
              have r0 := HJ.out.cells.1
              have r1 := HJ.out.cells.2
              clear hjz hown hsz
              go_wp2_with (first
                | (go_at_call 43; refine (walk_any n a l c s av2 kc cv2 _ HJ.out.arcs HO2.out (by have := HLc.out; have := HL.out; omega)).mono ?_; rintro e w7 ⟨rfl, hb⟩; rw [H3.out]; simp only [walkV]; have HJ2 := Lib.hid (HJ.out.next hb); clear HJ r0 r1 hb; have HJ := HJ2; clear HJ2; have r0 := HJ.out.cells.1; have r1 := HJ.out.cells.2)
                | (go_at_call 18; refine (HNew.out _ HJ.out.arcs).mono ?_; rintro e w8 ⟨g, Bd, rfl, hb, hgv⟩; have HG := Lib.hid hgv; have HJ2 := Lib.hid (HJ.out.next hb); clear HJ r0 r1 hb hgv; have HJ := HJ2; clear HJ2)
                | (go_at_call 40; (with_reducible show Calls _ _ #[_, _, .int .i64 q] _ _); refine (around_any HG.out.1 HG.out.2 HCk.out.2.1).mono ?_; rintro e w9 ⟨hb, xv, rfl, hx⟩; obtain ⟨aa, ca, rfl, hza, _, _⟩ := IsV.shape hx; have HZa := Lib.hid hza; have HG2 := Lib.hid (HG.out.1.next HG.out.2 hb); have HJ2 := Lib.hid (HJ.out.next hb); clear HJ HG hx hza hb; have HJ := HJ2; have HG := HG2; clear HJ2 HG2)
                | (go_at_call 40; refine (around_any HG.out.1 HG.out.2 HCk.out.2.1).mono ?_; rintro e w10 ⟨hb, xv, rfl, hx⟩; obtain ⟨ab, cb, rfl, hzb, _, _⟩ := IsV.shape hx; have HZb := Lib.hid hzb; have HZa2 := Lib.hid (HZa.out.under hb); have HJ2 := Lib.hid (HJ.out.next hb); clear HJ HG HZa hx hzb hb; have HJ := HJ2; have HZa := HZa2; clear HJ2 HZa2))
              have HSub := Lib.hid (around_sub L q)
              have hla := around_len L q
              have hlb := around_len L (q + 1)
              generalize aroundL L q = A at *
              generalize aroundL L (q + 1) = B at *
              have HLab := Lib.hid (show A.length ≤ 16777216 ∧ B.length ≤ 16777216 by have := HLL.out; omega)
              clear hla hlb
              go_loopw [24, 25] (fun vj vi wr => ∃ i j : Nat, vj = .int .i64 (j : Nat) ∧ vi = .int .i64 (i : Nat) ∧ i ≤ B.length ∧ j ≤ A.length ∧ (A.drop j).Sublist (B.drop i) ∧ Jz w n a l c ba ka bb kb wr ∧ Zs wr aa A ∧ Zs wr ab B) (fun _ i _ => B.length - (intOf i).toNat)
              case atStart => exact ⟨0, 0, rfl, rfl, Nat.zero_le _, Nat.zero_le _, by rw [List.drop_zero, List.drop_zero]; exact HSub.out, HJ.out, HZa.out, HZb.out⟩
              case round =>
                obtain ⟨i, j, rfl, rfl, hi, hj, hsub, hjz, hza, hzb⟩ := hrel
                have hlens := HLab.out
                by_cases hlt : i < B.length
                · have hlt' : (i : Int) < (B.length : Int) := by omega
                  have hwi : IntKind.i64.wrap ((i : Int) + 1) = (i : Int) + 1 := by rw [IntKind.wrap_i64]; omega
                  have hwj : IntKind.i64.wrap ((j : Int) + 1) = (j : Int) + 1 := by rw [IntKind.wrap_i64]; omega
                  have hst := sub_step hlt hsub
                  obtain ⟨bb0, bo0, rfl, y0⟩ := hzb.at_ hlt
                  have hy := List.getElem?_eq_getElem hlt
                  generalize B[i]'hlt = y at *
                  by_cases hjl : j < A.length
                  · have hjl' : decide ((j : Int) < (A.length : Int)) = true := by simp; omega
                    have hjl2 : (j : Int) < (A.length : Int) := by omega
                    obtain ⟨ba0, ao0, rfl, x0⟩ := hza.at_ hjl
                    have hxx := List.getElem?_eq_getElem hjl
                    generalize A[j]'hjl = xx at *
                    have hs2 := hst.1 hjl xx y hxx hy
                    by_cases he : xx = y
                    · have he' : (xx == y) = true := by simpa using he
                      have HQ := Lib.hid (And.intro hjz (And.intro hza (And.intro hzb (And.intro (hs2.1 he) (And.intro hi hjl)))))
                      clear hjz hza hzb hs2 hst hsub hxx hy he hi hj hlens hjl
                      go_wp2
                      go_quiet (fail)
                      obtain ⟨w9, hw9⟩ : ∃ W, W = wr.drewN nq := ⟨_, rfl⟩
                      rw [← hw9]
                      have hb9 : Below wr.heap.size wr w9 := by rw [hw9]; exact below_dN (Below.refl _ _) _
                      clear hw9
                      go_wp2
                      exact ⟨⟨i + 1, j + 1, by go_num, by go_num, by omega, HQ.out.2.2.2.2.2, HQ.out.2.2.2.1, HQ.out.1.next hb9, HQ.out.2.1.under hb9, HQ.out.2.2.1.under hb9⟩, by simp [intOf]; omega⟩
                    · have he' : (xx == y) = false := by simpa using he
                      have HQ := Lib.hid (And.intro hjz (And.intro hza (And.intro hzb (And.intro (hs2.2 he) (And.intro hi hj)))))
                      clear hjz hza hzb hs2 hst hsub hxx hy he hi hj hlens hjl
                      go_wp2
                      go_quiet (fail)
                      obtain ⟨w9, hw9⟩ : ∃ W, W = wr.drewN nq := ⟨_, rfl⟩
                      rw [← hw9]
                      have hb9 : Below wr.heap.size wr w9 := by rw [hw9]; exact below_dN (Below.refl _ _) _
                      clear hw9
                      go_wp2
                      exact ⟨⟨i + 1, j, by go_num, by go_num, by omega, HQ.out.2.2.2.2.2, HQ.out.2.2.2.1, HQ.out.1.next hb9, HQ.out.2.1.under hb9, HQ.out.2.2.1.under hb9⟩, by simp [intOf]; omega⟩
                  · obtain rfl : j = A.length := by omega
                    have HQ := Lib.hid (And.intro hjz (And.intro hza (And.intro hzb (And.intro (hst.2 (by omega)) (And.intro hi hj)))))
                    clear hjz hza hzb hst hsub hy hi hj hlens hjl
                    go_wp2
                    go_quiet (fail)
                    obtain ⟨w9, hw9⟩ : ∃ W, W = wr.drewN nq := ⟨_, rfl⟩
                    rw [← hw9]
                    have hb9 : Below wr.heap.size wr w9 := by rw [hw9]; exact below_dN (Below.refl _ _) _
                    clear hw9
                    go_wp2
                    exact ⟨⟨i + 1, A.length, by go_num, by go_num, by omega, HQ.out.2.2.2.2.2, HQ.out.2.2.2.1, HQ.out.1.next hb9, HQ.out.2.1.under hb9, HQ.out.2.2.1.under hb9⟩, by simp [intOf]; omega⟩
                · obtain rfl : i = B.length := by omega
                  obtain rfl := sub_done hj hsub
                  have HQ := Lib.hid hjz
                  clear hjz hza hzb hsub hi hj HJ HZa HZb hlens
                  go_wp2_with (go_at_call 30; refine (dknown_any _).mono ?_; rintro e w11 ⟨rfl, hb⟩; have HN := Lib.hid (HQ.out.next hb); clear hb)
                  go_ret
                  exact ⟨rfl, HN.out.bw⟩
      | some p1 =>
        have h3 := walkR_join (kb := kb) h1
        have hx := walkR_le h1
        cases h2 : walkR n l p1.1 kb with
        | none =>
          rw [h2] at h3
          have H12 := Lib.hid (And.intro h1 (And.intro h2 h3))
          clear h1 h2 h3
          go_enter Try.func15, Try.ntmps15
          go_upto_region 6 with (first
            | (go_at_call 31; rw [← HW.out]; refine (dright_any n a l c 30 80 _ HJ.out.arcs).mono ?_; rintro e w2 ⟨rfl, hb⟩; rw [← HR.out]; have r0 := HJ.out.cells.1; have r1 := HJ.out.cells.2; have HJ2 := Lib.hid (HJ.out.next hb); clear HJ r0 r1 hb; have HJ := HJ2; clear HJ2; have r0 := HJ.out.cells.1; have r1 := HJ.out.cells.2)
            | (go_at_call 43; (with_reducible show Calls _ _ #[_, .int .i64 s, .slice ba ka.length da] _ _); refine (walk_any n a l c s ba ka da _ HJ.out.arcs HJ.out.na (by have := HL.out; omega)).mono ?_; rintro e w4 ⟨rfl, hb⟩; rw [H12.out.1]; simp only [walkV]; have HJ2 := Lib.hid (HJ.out.next hb); clear HJ r0 r1 hb; have HJ := HJ2; clear HJ2; have r0 := HJ.out.cells.1; have r1 := HJ.out.cells.2)
            | (go_at_call 43; refine (walk_any n a l c p1.1 bb kb db _ HJ.out.arcs HJ.out.nb (by have := HL.out; omega)).mono ?_; rintro e w5 ⟨rfl, hb⟩; rw [H12.out.2.1]; simp only [walkV]; have HJ2 := Lib.hid (HJ.out.next hb); clear HJ r0 r1 hb; have HJ := HJ2; clear HJ2; have r0 := HJ.out.cells.1; have r1 := HJ.out.cells.2))
          have HSz := Lib.hid (show w.heap.size < w5.heap.size from HJ.out.row.lt)
          obtain ⟨K1, hK1⟩ : ∃ K1, K1 = w5.heap.size := ⟨_, rfl⟩
          have HK1 := Lib.hid hK1
          clear hK1
          go_cut [17] from 54 to 56 (fun v wx => ∃ av cv, v = .slice av ka.length cv ∧ IsV wx K1 (.slice av ka.length cv) ka ∧ Jz w n a l c ba ka bb kb wx ∧ K1 ≤ wx.heap.size)
          case first =>
            cases ba with
            | none =>
              have h0 : ka = [] := by
                rcases HJ.out.na with h | ⟨b, o, e, _⟩
                · exact h
                · cases e
              subst h0
              go_wp2
              go_meet
              exact ⟨none, 0, rfl, World.ownsRow_nil _ _ _ _, HJ.out, by have := HK1.out; omega⟩
            | some ad =>
              have HC := Lib.hid (zs_cells HJ.out.na)
              have HLm := Lib.hid (show (ka.map (Value.int .i64)).length = ka.length by simp)
              go_wp2_with (at_builtin; refine wpList_append_own_at _ rfl _ _ 43 rfl K1 3 i0 (.int .i64 0) 1 8 Try.underlying43 hi hz0 hz1 hz2 rfl (by decide) (.slice none 0 0) 0 [] rfl (World.ownsRow_nil _ _ _ _) ad ka.length da (ka.map (Value.int .i64)) rfl (by rw [HLm.out]; omega) HC.out (ints_one ka) (by unfold maxLen; have := HL.out; omega) (by have := HL.out; omega) (by have := HK1.out; omega) ?_; intro v' w6 hown' hg6 _ _; rw [Nat.zero_add] at hown'; have ho6 := only_grown (S := fun q => False) hg6 (fun q e => by cases e); have HT := Lib.hid (And.intro hown' ho6); obtain ⟨av, cv, rfl, _, _⟩ := owns_shape hown'; clear hown' hg6 ho6)
              go_meet
              exact ⟨av, cv, rfl, by simpa [IsV] using HT.out.1, HJ.out.next (HT.out.2.below (fun _ h => h.elim) (Nat.le_refl _)), by have := HK1.out; have := HT.out.2.size; omega⟩
          case rest =>
            obtain ⟨av, cv, rfl, hown, hjz, hsz⟩ := hcut
            clear HJ r0 r1
            have HJ := Lib.hid hjz
            have HO1 := Lib.hid (And.intro hown hsz)
            clear hjz hown hsz
            obtain ⟨kc, hkc⟩ : ∃ kc, kc = ka ++ kb := ⟨_, rfl⟩
            have HKc := Lib.hid hkc
            have H3 := Lib.hid (show walkR n l s kc = none by rw [hkc]; exact H12.out.2.2)
            have HLc := Lib.hid (show kc.length = ka.length + kb.length by rw [hkc, List.length_append])
            clear hkc
            go_upto_region 7 with (fail)
            go_cut [17] from 57 to 59 (fun v wy => ∃ av2 cv2, v = .slice av2 kc.length cv2 ∧ IsV wy K1 (.slice av2 kc.length cv2) kc ∧ Jz w n a l c ba ka bb kb wy ∧ K1 ≤ wy.heap.size)
            case first =>
              cases bb with
              | none =>
                have h0 : kb = [] := by
                  rcases HJ.out.nb with h | ⟨b, o, e, _⟩
                  · exact h
                  · cases e
                subst h0
                have hvc := owns_cap HO1.out.1
                have hlk : ¬ (9223372036854775807 : Int) < (ka.length : Int) := by have := HL.out; omega
                have hav : av = none ∨ ∃ g, av = some ⟨g, 0, none⟩ := by
                  rcases HO1.out.1.2 with ⟨e, _⟩ | ⟨g, cap, cur, e, _⟩
                  · cases av with
                    | none => exact .inl rfl
                    | some x => cases e
                  · injection e with e1 _ _
                    exact .inr ⟨g, e1⟩
                rcases hav with rfl | ⟨g, rfl⟩
                · have h0 : ka.length = 0 := by
                    rcases HO1.out.1.2 with ⟨_, h⟩ | ⟨g, cap, cur, e, _⟩
                    · exact h
                    · cases e
                  obtain rfl : ka = [] := List.eq_nil_of_length_eq_zero h0
                  clear h0 hlk hvc
                  go_wp2
                  go_meet
                  exact ⟨none, cv, by rw [HKc.out]; rfl, by rw [HKc.out]; exact HO1.out.1, HJ.out, HO1.out.2⟩
                · go_wp2
                  go_meet
                  exact ⟨some ⟨g, 0, none⟩, cv, by rw [HKc.out, List.append_nil], by rw [HKc.out, List.append_nil]; exact HO1.out.1, HJ.out, HO1.out.2⟩
              | some ad =>
                have HC := Lib.hid (zs_cells HJ.out.nb)
                have HLm := Lib.hid (show (kb.map (Value.int .i64)).length = kb.length by simp)
                go_wp2_with (at_builtin; refine wpList_append_own_at _ rfl _ _ 43 rfl K1 3 i0 (.int .i64 0) 1 8 Try.underlying43 hi hz0 hz1 hz2 rfl (by decide) (.slice av ka.length cv) ka.length (ka.map (Value.int .i64)) rfl HO1.out.1 ad kb.length db (kb.map (Value.int .i64)) rfl (by rw [HLm.out]; omega) HC.out (ints_one kb) (by unfold maxLen; have := HL.out; omega) (by have := HL.out; omega) HO1.out.2 ?_; intro v' w6 hown' hg6 _ _; have ho6 := only_grown (S := fun q => (Value.slice av ka.length cv).ownBlock = some q) hg6 (fun q e => e); have HT := Lib.hid (And.intro hown' ho6); obtain ⟨av2, cv2, rfl, _, _⟩ := owns_shape hown'; clear hown' hg6 ho6)
                go_meet
                refine ⟨av2, cv2, by rw [HLc.out], ?_, HJ.out.onlyK HT.out.2 (fun q e => (owns_lt HO1.out.1 q e).1) (And.intro HJk.out (show w.heap.size < K1 by have := HK1.out; have := HS1.out; have := HSz.out; omega)), Nat.le_trans HO1.out.2 HT.out.2.size⟩
                rw [HLc.out, HKc.out]
                show World.ownsRow _ _ _ _ _ (ka ++ kb).length _
                rw [List.length_append, List.map_append]
                exact HT.out.1
            case rest =>
              obtain ⟨av2, cv2, rfl, hown, hjz, hsz⟩ := hcut
              clear HJ HO1
              have HJ := Lib.hid hjz
              have HO2 := Lib.hid (Zs.of hown)
              have r0 := HJ.out.cells.1
              have r1 := HJ.out.cells.2
              clear hjz hown hsz
              go_wp2_with (first
                | (go_at_call 43; refine (walk_any n a l c s av2 kc cv2 _ HJ.out.arcs HO2.out (by have := HLc.out; have := HL.out; omega)).mono ?_; rintro e w7 ⟨rfl, hb⟩; rw [H3.out]; simp only [walkV]; have HJ2 := Lib.hid (HJ.out.next hb); clear HJ r0 r1 hb; have HJ := HJ2; clear HJ2; have r0 := HJ.out.cells.1; have r1 := HJ.out.cells.2)
                | (go_at_call 18; refine (HNew.out _ HJ.out.arcs).mono ?_; rintro e w8 ⟨g, Bd, rfl, hb, hgv⟩; have HG := Lib.hid hgv; have HJ2 := Lib.hid (HJ.out.next hb); clear HJ r0 r1 hb hgv; have HJ := HJ2; clear HJ2)
                | (go_at_call 40; (with_reducible show Calls _ _ #[_, _, .int .i64 q] _ _); refine (around_any HG.out.1 HG.out.2 HCk.out.2.1).mono ?_; rintro e w9 ⟨hb, xv, rfl, hx⟩; obtain ⟨aa, ca, rfl, hza, _, _⟩ := IsV.shape hx; have HZa := Lib.hid hza; have HG2 := Lib.hid (HG.out.1.next HG.out.2 hb); have HJ2 := Lib.hid (HJ.out.next hb); clear HJ HG hx hza hb; have HJ := HJ2; have HG := HG2; clear HJ2 HG2)
                | (go_at_call 40; refine (around_any HG.out.1 HG.out.2 HCk.out.2.1).mono ?_; rintro e w10 ⟨hb, xv, rfl, hx⟩; obtain ⟨ab, cb, rfl, hzb, _, _⟩ := IsV.shape hx; have HZb := Lib.hid hzb; have HZa2 := Lib.hid (HZa.out.under hb); have HJ2 := Lib.hid (HJ.out.next hb); clear HJ HG HZa hx hzb hb; have HJ := HJ2; have HZa := HZa2; clear HJ2 HZa2))
              have HSub := Lib.hid (around_sub L q)
              have hla := around_len L q
              have hlb := around_len L (q + 1)
              generalize aroundL L q = A at *
              generalize aroundL L (q + 1) = B at *
              have HLab := Lib.hid (show A.length ≤ 16777216 ∧ B.length ≤ 16777216 by have := HLL.out; omega)
              clear hla hlb
              go_loopw [24, 25] (fun vj vi wr => ∃ i j : Nat, vj = .int .i64 (j : Nat) ∧ vi = .int .i64 (i : Nat) ∧ i ≤ B.length ∧ j ≤ A.length ∧ (A.drop j).Sublist (B.drop i) ∧ Jz w n a l c ba ka bb kb wr ∧ Zs wr aa A ∧ Zs wr ab B) (fun _ i _ => B.length - (intOf i).toNat)
              case atStart => exact ⟨0, 0, rfl, rfl, Nat.zero_le _, Nat.zero_le _, by rw [List.drop_zero, List.drop_zero]; exact HSub.out, HJ.out, HZa.out, HZb.out⟩
              case round =>
                obtain ⟨i, j, rfl, rfl, hi, hj, hsub, hjz, hza, hzb⟩ := hrel
                have hlens := HLab.out
                by_cases hlt : i < B.length
                · have hlt' : (i : Int) < (B.length : Int) := by omega
                  have hwi : IntKind.i64.wrap ((i : Int) + 1) = (i : Int) + 1 := by rw [IntKind.wrap_i64]; omega
                  have hwj : IntKind.i64.wrap ((j : Int) + 1) = (j : Int) + 1 := by rw [IntKind.wrap_i64]; omega
                  have hst := sub_step hlt hsub
                  obtain ⟨bb0, bo0, rfl, y0⟩ := hzb.at_ hlt
                  have hy := List.getElem?_eq_getElem hlt
                  generalize B[i]'hlt = y at *
                  by_cases hjl : j < A.length
                  · have hjl' : decide ((j : Int) < (A.length : Int)) = true := by simp; omega
                    have hjl2 : (j : Int) < (A.length : Int) := by omega
                    obtain ⟨ba0, ao0, rfl, x0⟩ := hza.at_ hjl
                    have hxx := List.getElem?_eq_getElem hjl
                    generalize A[j]'hjl = xx at *
                    have hs2 := hst.1 hjl xx y hxx hy
                    by_cases he : xx = y
                    · have he' : (xx == y) = true := by simpa using he
                      have HQ := Lib.hid (And.intro hjz (And.intro hza (And.intro hzb (And.intro (hs2.1 he) (And.intro hi hjl)))))
                      clear hjz hza hzb hs2 hst hsub hxx hy he hi hj hlens hjl
                      go_wp2
                      go_quiet (fail)
                      obtain ⟨w9, hw9⟩ : ∃ W, W = wr.drewN nq := ⟨_, rfl⟩
                      rw [← hw9]
                      have hb9 : Below wr.heap.size wr w9 := by rw [hw9]; exact below_dN (Below.refl _ _) _
                      clear hw9
                      go_wp2
                      exact ⟨⟨i + 1, j + 1, by go_num, by go_num, by omega, HQ.out.2.2.2.2.2, HQ.out.2.2.2.1, HQ.out.1.next hb9, HQ.out.2.1.under hb9, HQ.out.2.2.1.under hb9⟩, by simp [intOf]; omega⟩
                    · have he' : (xx == y) = false := by simpa using he
                      have HQ := Lib.hid (And.intro hjz (And.intro hza (And.intro hzb (And.intro (hs2.2 he) (And.intro hi hj)))))
                      clear hjz hza hzb hs2 hst hsub hxx hy he hi hj hlens hjl
                      go_wp2
                      go_quiet (fail)
                      obtain ⟨w9, hw9⟩ : ∃ W, W = wr.drewN nq := ⟨_, rfl⟩
                      rw [← hw9]
                      have hb9 : Below wr.heap.size wr w9 := by rw [hw9]; exact below_dN (Below.refl _ _) _
                      clear hw9
                      go_wp2
                      exact ⟨⟨i + 1, j, by go_num, by go_num, by omega, HQ.out.2.2.2.2.2, HQ.out.2.2.2.1, HQ.out.1.next hb9, HQ.out.2.1.under hb9, HQ.out.2.2.1.under hb9⟩, by simp [intOf]; omega⟩
                  · obtain rfl : j = A.length := by omega
                    have HQ := Lib.hid (And.intro hjz (And.intro hza (And.intro hzb (And.intro (hst.2 (by omega)) (And.intro hi hj)))))
                    clear hjz hza hzb hst hsub hy hi hj hlens hjl
                    go_wp2
                    go_quiet (fail)
                    obtain ⟨w9, hw9⟩ : ∃ W, W = wr.drewN nq := ⟨_, rfl⟩
                    rw [← hw9]
                    have hb9 : Below wr.heap.size wr w9 := by rw [hw9]; exact below_dN (Below.refl _ _) _
                    clear hw9
                    go_wp2
                    exact ⟨⟨i + 1, A.length, by go_num, by go_num, by omega, HQ.out.2.2.2.2.2, HQ.out.2.2.2.1, HQ.out.1.next hb9, HQ.out.2.1.under hb9, HQ.out.2.2.1.under hb9⟩, by simp [intOf]; omega⟩
                · obtain rfl : i = B.length := by omega
                  obtain rfl := sub_done hj hsub
                  have HQ := Lib.hid hjz
                  clear hjz hza hzb hsub hi hj HJ HZa HZb hlens
                  go_wp2_with (go_at_call 30; refine (dknown_any _).mono ?_; rintro e w11 ⟨rfl, hb⟩; have HN := Lib.hid (HQ.out.next hb); clear hb)
                  go_ret
                  exact ⟨rfl, HN.out.bw⟩
        | some p2 =>
          have hy := walkR_le h2
          rw [h2] at h3
          have hw12 : IntKind.i64.wrap (p1.2 + p2.2) = p1.2 + p2.2 := by have := HL.out; rw [IntKind.wrap_i64]; omega
          have H12 := Lib.hid (And.intro h1 (And.intro h2 h3))
          clear h1 h2 h3 hx hy
          go_enter Try.func15, Try.ntmps15
          go_upto_region 6 with (first
            | (go_at_call 31; rw [← HW.out]; refine (dright_any n a l c 30 80 _ HJ.out.arcs).mono ?_; rintro e w2 ⟨rfl, hb⟩; rw [← HR.out]; have r0 := HJ.out.cells.1; have r1 := HJ.out.cells.2; have HJ2 := Lib.hid (HJ.out.next hb); clear HJ r0 r1 hb; have HJ := HJ2; clear HJ2; have r0 := HJ.out.cells.1; have r1 := HJ.out.cells.2)
            | (go_at_call 43; (with_reducible show Calls _ _ #[_, .int .i64 s, .slice ba ka.length da] _ _); refine (walk_any n a l c s ba ka da _ HJ.out.arcs HJ.out.na (by have := HL.out; omega)).mono ?_; rintro e w4 ⟨rfl, hb⟩; rw [H12.out.1]; simp only [walkV]; have HJ2 := Lib.hid (HJ.out.next hb); clear HJ r0 r1 hb; have HJ := HJ2; clear HJ2; have r0 := HJ.out.cells.1; have r1 := HJ.out.cells.2)
            | (go_at_call 43; refine (walk_any n a l c p1.1 bb kb db _ HJ.out.arcs HJ.out.nb (by have := HL.out; omega)).mono ?_; rintro e w5 ⟨rfl, hb⟩; rw [H12.out.2.1]; simp only [walkV]; have HJ2 := Lib.hid (HJ.out.next hb); clear HJ r0 r1 hb; have HJ := HJ2; clear HJ2; have r0 := HJ.out.cells.1; have r1 := HJ.out.cells.2))
          have HSz := Lib.hid (show w.heap.size < w5.heap.size from HJ.out.row.lt)
          obtain ⟨K1, hK1⟩ : ∃ K1, K1 = w5.heap.size := ⟨_, rfl⟩
          have HK1 := Lib.hid hK1
          clear hK1
          go_cut [17] from 54 to 56 (fun v wx => ∃ av cv, v = .slice av ka.length cv ∧ IsV wx K1 (.slice av ka.length cv) ka ∧ Jz w n a l c ba ka bb kb wx ∧ K1 ≤ wx.heap.size)
          case first =>
            cases ba with
            | none =>
              have h0 : ka = [] := by
                rcases HJ.out.na with h | ⟨b, o, e, _⟩
                · exact h
                · cases e
              subst h0
              go_wp2
              go_meet
              exact ⟨none, 0, rfl, World.ownsRow_nil _ _ _ _, HJ.out, by have := HK1.out; omega⟩
            | some ad =>
              have HC := Lib.hid (zs_cells HJ.out.na)
              have HLm := Lib.hid (show (ka.map (Value.int .i64)).length = ka.length by simp)
              go_wp2_with (at_builtin; refine wpList_append_own_at _ rfl _ _ 43 rfl K1 3 i0 (.int .i64 0) 1 8 Try.underlying43 hi hz0 hz1 hz2 rfl (by decide) (.slice none 0 0) 0 [] rfl (World.ownsRow_nil _ _ _ _) ad ka.length da (ka.map (Value.int .i64)) rfl (by rw [HLm.out]; omega) HC.out (ints_one ka) (by unfold maxLen; have := HL.out; omega) (by have := HL.out; omega) (by have := HK1.out; omega) ?_; intro v' w6 hown' hg6 _ _; rw [Nat.zero_add] at hown'; have ho6 := only_grown (S := fun q => False) hg6 (fun q e => by cases e); have HT := Lib.hid (And.intro hown' ho6); obtain ⟨av, cv, rfl, _, _⟩ := owns_shape hown'; clear hown' hg6 ho6)
              go_meet
              exact ⟨av, cv, rfl, by simpa [IsV] using HT.out.1, HJ.out.next (HT.out.2.below (fun _ h => h.elim) (Nat.le_refl _)), by have := HK1.out; have := HT.out.2.size; omega⟩
          case rest =>
            obtain ⟨av, cv, rfl, hown, hjz, hsz⟩ := hcut
            clear HJ r0 r1
            have HJ := Lib.hid hjz
            have HO1 := Lib.hid (And.intro hown hsz)
            clear hjz hown hsz
            obtain ⟨kc, hkc⟩ : ∃ kc, kc = ka ++ kb := ⟨_, rfl⟩
            have HKc := Lib.hid hkc
            have H3 := Lib.hid (show walkR n l s kc = some (p2.1, p1.2 + p2.2) by rw [hkc]; exact H12.out.2.2)
            have HLc := Lib.hid (show kc.length = ka.length + kb.length by rw [hkc, List.length_append])
            clear hkc
            go_upto_region 7 with (fail)
            go_cut [17] from 57 to 59 (fun v wy => ∃ av2 cv2, v = .slice av2 kc.length cv2 ∧ IsV wy K1 (.slice av2 kc.length cv2) kc ∧ Jz w n a l c ba ka bb kb wy ∧ K1 ≤ wy.heap.size)
            case first =>
              cases bb with
              | none =>
                have h0 : kb = [] := by
                  rcases HJ.out.nb with h | ⟨b, o, e, _⟩
                  · exact h
                  · cases e
                subst h0
                have hvc := owns_cap HO1.out.1
                have hlk : ¬ (9223372036854775807 : Int) < (ka.length : Int) := by have := HL.out; omega
                have hav : av = none ∨ ∃ g, av = some ⟨g, 0, none⟩ := by
                  rcases HO1.out.1.2 with ⟨e, _⟩ | ⟨g, cap, cur, e, _⟩
                  · cases av with
                    | none => exact .inl rfl
                    | some x => cases e
                  · injection e with e1 _ _
                    exact .inr ⟨g, e1⟩
                rcases hav with rfl | ⟨g, rfl⟩
                · have h0 : ka.length = 0 := by
                    rcases HO1.out.1.2 with ⟨_, h⟩ | ⟨g, cap, cur, e, _⟩
                    · exact h
                    · cases e
                  obtain rfl : ka = [] := List.eq_nil_of_length_eq_zero h0
                  clear h0 hlk hvc
                  go_wp2
                  go_meet
                  exact ⟨none, cv, by rw [HKc.out]; rfl, by rw [HKc.out]; exact HO1.out.1, HJ.out, HO1.out.2⟩
                · go_wp2
                  go_meet
                  exact ⟨some ⟨g, 0, none⟩, cv, by rw [HKc.out, List.append_nil], by rw [HKc.out, List.append_nil]; exact HO1.out.1, HJ.out, HO1.out.2⟩
              | some ad =>
                have HC := Lib.hid (zs_cells HJ.out.nb)
                have HLm := Lib.hid (show (kb.map (Value.int .i64)).length = kb.length by simp)
                go_wp2_with (at_builtin; refine wpList_append_own_at _ rfl _ _ 43 rfl K1 3 i0 (.int .i64 0) 1 8 Try.underlying43 hi hz0 hz1 hz2 rfl (by decide) (.slice av ka.length cv) ka.length (ka.map (Value.int .i64)) rfl HO1.out.1 ad kb.length db (kb.map (Value.int .i64)) rfl (by rw [HLm.out]; omega) HC.out (ints_one kb) (by unfold maxLen; have := HL.out; omega) (by have := HL.out; omega) HO1.out.2 ?_; intro v' w6 hown' hg6 _ _; have ho6 := only_grown (S := fun q => (Value.slice av ka.length cv).ownBlock = some q) hg6 (fun q e => e); have HT := Lib.hid (And.intro hown' ho6); obtain ⟨av2, cv2, rfl, _, _⟩ := owns_shape hown'; clear hown' hg6 ho6)
                go_meet
                refine ⟨av2, cv2, by rw [HLc.out], ?_, HJ.out.onlyK HT.out.2 (fun q e => (owns_lt HO1.out.1 q e).1) (And.intro HJk.out (show w.heap.size < K1 by have := HK1.out; have := HS1.out; have := HSz.out; omega)), Nat.le_trans HO1.out.2 HT.out.2.size⟩
                rw [HLc.out, HKc.out]
                show World.ownsRow _ _ _ _ _ (ka ++ kb).length _
                rw [List.length_append, List.map_append]
                exact HT.out.1
            case rest =>
              obtain ⟨av2, cv2, rfl, hown, hjz, hsz⟩ := hcut
              clear HJ HO1
              have HJ := Lib.hid hjz
              have HO2 := Lib.hid (Zs.of hown)
              have r0 := HJ.out.cells.1
              have r1 := HJ.out.cells.2
              clear hjz hown hsz
              go_wp2_with (first
                | (go_at_call 43; refine (walk_any n a l c s av2 kc cv2 _ HJ.out.arcs HO2.out (by have := HLc.out; have := HL.out; omega)).mono ?_; rintro e w7 ⟨rfl, hb⟩; rw [H3.out]; simp only [walkV]; have HJ2 := Lib.hid (HJ.out.next hb); clear HJ r0 r1 hb; have HJ := HJ2; clear HJ2; have r0 := HJ.out.cells.1; have r1 := HJ.out.cells.2)
                | (go_at_call 18; refine (HNew.out _ HJ.out.arcs).mono ?_; rintro e w8 ⟨g, Bd, rfl, hb, hgv⟩; have HG := Lib.hid hgv; have HJ2 := Lib.hid (HJ.out.next hb); clear HJ r0 r1 hb hgv; have HJ := HJ2; clear HJ2)
                | (go_at_call 40; (with_reducible show Calls _ _ #[_, _, .int .i64 q] _ _); refine (around_any HG.out.1 HG.out.2 HCk.out.2.1).mono ?_; rintro e w9 ⟨hb, xv, rfl, hx⟩; obtain ⟨aa, ca, rfl, hza, _, _⟩ := IsV.shape hx; have HZa := Lib.hid hza; have HG2 := Lib.hid (HG.out.1.next HG.out.2 hb); have HJ2 := Lib.hid (HJ.out.next hb); clear HJ HG hx hza hb; have HJ := HJ2; have HG := HG2; clear HJ2 HG2)
                | (go_at_call 40; refine (around_any HG.out.1 HG.out.2 HCk.out.2.1).mono ?_; rintro e w10 ⟨hb, xv, rfl, hx⟩; obtain ⟨ab, cb, rfl, hzb, _, _⟩ := IsV.shape hx; have HZb := Lib.hid hzb; have HZa2 := Lib.hid (HZa.out.under hb); have HJ2 := Lib.hid (HJ.out.next hb); clear HJ HG HZa hx hzb hb; have HJ := HJ2; have HZa := HZa2; clear HJ2 HZa2))
              have HSub := Lib.hid (around_sub L q)
              have hla := around_len L q
              have hlb := around_len L (q + 1)
              generalize aroundL L q = A at *
              generalize aroundL L (q + 1) = B at *
              have HLab := Lib.hid (show A.length ≤ 16777216 ∧ B.length ≤ 16777216 by have := HLL.out; omega)
              clear hla hlb
              go_loopw [24, 25] (fun vj vi wr => ∃ i j : Nat, vj = .int .i64 (j : Nat) ∧ vi = .int .i64 (i : Nat) ∧ i ≤ B.length ∧ j ≤ A.length ∧ (A.drop j).Sublist (B.drop i) ∧ Jz w n a l c ba ka bb kb wr ∧ Zs wr aa A ∧ Zs wr ab B) (fun _ i _ => B.length - (intOf i).toNat)
              case atStart => exact ⟨0, 0, rfl, rfl, Nat.zero_le _, Nat.zero_le _, by rw [List.drop_zero, List.drop_zero]; exact HSub.out, HJ.out, HZa.out, HZb.out⟩
              case round =>
                obtain ⟨i, j, rfl, rfl, hi, hj, hsub, hjz, hza, hzb⟩ := hrel
                have hlens := HLab.out
                by_cases hlt : i < B.length
                · have hlt' : (i : Int) < (B.length : Int) := by omega
                  have hwi : IntKind.i64.wrap ((i : Int) + 1) = (i : Int) + 1 := by rw [IntKind.wrap_i64]; omega
                  have hwj : IntKind.i64.wrap ((j : Int) + 1) = (j : Int) + 1 := by rw [IntKind.wrap_i64]; omega
                  have hst := sub_step hlt hsub
                  obtain ⟨bb0, bo0, rfl, y0⟩ := hzb.at_ hlt
                  have hy := List.getElem?_eq_getElem hlt
                  generalize B[i]'hlt = y at *
                  by_cases hjl : j < A.length
                  · have hjl' : decide ((j : Int) < (A.length : Int)) = true := by simp; omega
                    have hjl2 : (j : Int) < (A.length : Int) := by omega
                    obtain ⟨ba0, ao0, rfl, x0⟩ := hza.at_ hjl
                    have hxx := List.getElem?_eq_getElem hjl
                    generalize A[j]'hjl = xx at *
                    have hs2 := hst.1 hjl xx y hxx hy
                    by_cases he : xx = y
                    · have he' : (xx == y) = true := by simpa using he
                      have HQ := Lib.hid (And.intro hjz (And.intro hza (And.intro hzb (And.intro (hs2.1 he) (And.intro hi hjl)))))
                      clear hjz hza hzb hs2 hst hsub hxx hy he hi hj hlens hjl
                      go_wp2
                      go_quiet (fail)
                      obtain ⟨w9, hw9⟩ : ∃ W, W = wr.drewN nq := ⟨_, rfl⟩
                      rw [← hw9]
                      have hb9 : Below wr.heap.size wr w9 := by rw [hw9]; exact below_dN (Below.refl _ _) _
                      clear hw9
                      go_wp2
                      exact ⟨⟨i + 1, j + 1, by go_num, by go_num, by omega, HQ.out.2.2.2.2.2, HQ.out.2.2.2.1, HQ.out.1.next hb9, HQ.out.2.1.under hb9, HQ.out.2.2.1.under hb9⟩, by simp [intOf]; omega⟩
                    · have he' : (xx == y) = false := by simpa using he
                      have HQ := Lib.hid (And.intro hjz (And.intro hza (And.intro hzb (And.intro (hs2.2 he) (And.intro hi hj)))))
                      clear hjz hza hzb hs2 hst hsub hxx hy he hi hj hlens hjl
                      go_wp2
                      go_quiet (fail)
                      obtain ⟨w9, hw9⟩ : ∃ W, W = wr.drewN nq := ⟨_, rfl⟩
                      rw [← hw9]
                      have hb9 : Below wr.heap.size wr w9 := by rw [hw9]; exact below_dN (Below.refl _ _) _
                      clear hw9
                      go_wp2
                      exact ⟨⟨i + 1, j, by go_num, by go_num, by omega, HQ.out.2.2.2.2.2, HQ.out.2.2.2.1, HQ.out.1.next hb9, HQ.out.2.1.under hb9, HQ.out.2.2.1.under hb9⟩, by simp [intOf]; omega⟩
                  · obtain rfl : j = A.length := by omega
                    have HQ := Lib.hid (And.intro hjz (And.intro hza (And.intro hzb (And.intro (hst.2 (by omega)) (And.intro hi hj)))))
                    clear hjz hza hzb hst hsub hy hi hj hlens hjl
                    go_wp2
                    go_quiet (fail)
                    obtain ⟨w9, hw9⟩ : ∃ W, W = wr.drewN nq := ⟨_, rfl⟩
                    rw [← hw9]
                    have hb9 : Below wr.heap.size wr w9 := by rw [hw9]; exact below_dN (Below.refl _ _) _
                    clear hw9
                    go_wp2
                    exact ⟨⟨i + 1, A.length, by go_num, by go_num, by omega, HQ.out.2.2.2.2.2, HQ.out.2.2.2.1, HQ.out.1.next hb9, HQ.out.2.1.under hb9, HQ.out.2.2.1.under hb9⟩, by simp [intOf]; omega⟩
                · obtain rfl : i = B.length := by omega
                  obtain rfl := sub_done hj hsub
                  have HQ := Lib.hid hjz
                  clear hjz hza hzb hsub hi hj HJ HZa HZb hlens
                  go_wp2_with (go_at_call 30; refine (dknown_any _).mono ?_; rintro e w11 ⟨rfl, hb⟩; have HN := Lib.hid (HQ.out.next hb); clear hb)
                  go_ret
                  exact ⟨rfl, HN.out.bw⟩
theorem u16_of {x : Int} (h : (Lit.int .u16 x).wf = true) : 0 ≤ x ∧ x < 65536 := by
  simp [Lit.wf] at h
  have h1 : IntKind.u16.min = 0 := rfl
  have h2 : IntKind.u16.max = 65535 := rfl
  omega
theorem djoins_row (n : Int) (a : Option Addr) (l : List Ar) (c : Nat) (s : Int) (ba : Option Addr) (ka : List Int) (da : Nat) (bb : Option Addr) (kb : List Int) (db : Nat) (q : Int) (w : World) (hA : Arcs w a l) (hK : Zs w ba ka) (hB : Zs w bb kb) (hka : ka.length ≤ 140737488351232) (hkb : kb.length ≤ 140737488351232) (hq : (Lit.int .u16 q).wf = true) :
    Calls Try.prog 15 #[mV n a l.length c, .int .i64 s, .slice ba ka.length da, .slice bb kb.length db, .int .u16 q] w fun e w' => e = .returned (.bool true) ∧ Below w.heap.size w w' :=
  djoins_walk n a l c s ba ka da bb kb db q w hA hK hB hka hkb (u16_of hq)
end Go.Proofs.Ythljgkaigjokjaa
