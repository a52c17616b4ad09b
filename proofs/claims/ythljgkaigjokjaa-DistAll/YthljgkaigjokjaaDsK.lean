/- dist.Walk, dist.Total; the document's. -/
import Derived.Test.YthljgkaigjokjaaM5
import Derived.BigQuiet
namespace Go.Proofs.Ythljgkaigjokjaa
open Go.RowKit Go.Shelf Grm Lay
/-- Where arcs lead from v, and how long they are together with d. -/
def walkL (l : List Ar) : Int → Int → List Int → Option (Int × Int)
  | v, d, [] => some (v, d)
  | v, d, k :: ks => if 0 ≤ k ∧ k < (l.length : Int) ∧ (l[k.toNat]?.getD (0, 0, 0)).1 = v then walkL l (l[k.toNat]?.getD (0, 0, 0)).2.1 (d + (l[k.toNat]?.getD (0, 0, 0)).2.2) ks else none
def walkR (n : Int) (l : List Ar) (s : Int) (ks : List Int) : Option (Int × Int) := if checkL n l = 0 ∧ 0 ≤ s ∧ s < n then walkL l s 0 ks else none
def walkV : Option (Int × Int) → Value
  | some x => .tuple #[.int .i64 x.1, .int .i64 x.2, .bool true]
  | none => .tuple #[.int .i64 0, .int .i64 0, .bool false]
theorem walkV_ret {a b : Option (Int × Int)} (h : a = b) : Ending.returned (walkV a) = .returned (walkV b) := by rw [h]
theorem walkL_step {l : List Ar} {v d : Int} {ks : List Int} {i : Nat} (hi : i < ks.length) : walkL l v d (ks.drop i) = if 0 ≤ ks[i]'hi ∧ ks[i]'hi < (l.length : Int) ∧ (l[(ks[i]'hi).toNat]?.getD (0, 0, 0)).1 = v then walkL l (l[(ks[i]'hi).toNat]?.getD (0, 0, 0)).2.1 (d + (l[(ks[i]'hi).toNat]?.getD (0, 0, 0)).2.2) (ks.drop (i + 1)) else none := by
  rw [List.drop_eq_getElem_cons hi]
  rfl
theorem len_of {n : Int} {l : List Ar} (h : checkL n l = 0) : Len l := by
  obtain ⟨_, _, _, _, _, h⟩ := checkL_zero h
  exact h
/-- What lies there in the walk. -/
def WkI (w : World) (mb : Nat) (n : Int) (a : Option Addr) (l : List Ar) (c : Nat) (ks : List Int) (s : Int) (va vs vi : Value) (wr : World) : Prop :=
  ∃ (i : Nat) (v d : Int), vi = .int .i64 (i : Nat) ∧ va = .int .i64 v ∧ vs = .int .i64 d ∧ i ≤ ks.length ∧ 0 ≤ d ∧ d ≤ (i : Int) * 2147483648 ∧ walkL l s 0 ks = walkL l v d (ks.drop i) ∧ Row wr mb 24 #[.int .i64 n, .slice a l.length c] ∧ Below w.heap.size w wr
set_option maxRecDepth 100000 in
set_option maxHeartbeats 4000000 in
theorem walk_any (n : Int) (a : Option Addr) (l : List Ar) (c : Nat) (s : Int) (b : Option Addr) (ks : List Int) (d : Nat) (w : World) (hA : Arcs w a l) (hK : Zs w b ks) (hl : ks.length ≤ 1000000) :
    Calls Try.prog 43 #[mV n a l.length c, .int .i64 s, .slice b ks.length d] w fun e w' => e = .returned (walkV (walkR n l s ks)) ∧ Below w.heap.size w w' := by
  show Calls Try.prog 43 #[.agg #[.int .i64 n, .slice a l.length c], .int .i64 s, .slice b ks.length d] w _
  obtain ⟨w1, hw1⟩ : ∃ w1, w1 = w.alloc (.cells #[.int .i64 n, .slice a l.length c] 24) := ⟨_, rfl⟩
  have hb1 : Below w.heap.size w w1 := by rw [hw1]; exact (Below.refl _ _).alloc (Nat.le_refl _) _
  have hr1 : Row w1 w.heap.size 24 #[.int .i64 n, .slice a l.length c] := by rw [hw1]; exact Row.fresh w _ _
  have HA := Lib.hid (And.intro hA (And.intro hK (And.intro hl (And.intro hb1 hr1))))
  have HCk := Lib.hid (check_any n a l c w1 (hA.under hb1))
  have HW := Lib.hid hw1
  obtain ⟨R, hR⟩ : ∃ R, R = walkR n l s ks := ⟨_, rfl⟩
  rw [← hR]
  have HRr := Lib.hid hR
  clear hR hA hK hl hb1 hr1 hw1
  by_cases hc : checkL n l = 0
  · by_cases hp : 0 ≤ s ∧ s < n
    · have hpd : decide (0 ≤ s ∧ s < n) = true := by simpa using hp
      have hwk : walkR n l s ks = walkL l s 0 ks := by unfold walkR; rw [if_pos ⟨hc, hp⟩]
      have HP := Lib.hid (And.intro hpd (And.intro hwk (And.intro hc (len_of hc))))
      have hnc := HA.out.2.2.2.2.cell 0
      simp only [List.getElem?_toArray, List.getElem?_cons_zero] at hnc
      clear hpd hwk hc
      go_enter Try.func43, Try.ntmps43
      go_wp2_with (first | (go_at_call 46; rw [← HW.out]; refine HCk.out.mono ?_; rintro e w2 ⟨rfl, hb2⟩; rw [HP.out.2.2.1]; have hr2 := HA.out.2.2.2.2.under hb2 HA.out.2.2.2.2.lt; have n2 := hr2.cell 0; simp only [List.getElem?_toArray, List.getElem?_cons_zero] at n2; have H2 := Lib.hid (And.intro hr2 (HA.out.2.2.2.1.trans (hb2.mono HA.out.2.2.2.1.size))); clear hr2 hb2) | (go_at_call 61; refine (isplace_any _ _ _).mono ?_; rintro e w3 ⟨rfl, rfl⟩; rw [HP.out.1]))
      have h0 : WkI w w.heap.size n a l c ks s (.int .i64 s) (.int .i64 0) (.int .i64 0) w3 := ⟨0, s, 0, rfl, rfl, rfl, Nat.zero_le _, by omega, by omega, by rw [List.drop_zero], H2.out.1, H2.out.2⟩
      have H0 := Lib.hid h0
      clear h0 n2 hnc
      go_loopw [9, 10, 26] (fun va vs vi wr => WkI w w.heap.size n a l c ks s va vs vi wr) (fun _ _ i _ => ks.length - (intOf i).toNat)
      case atStart => exact H0.out
      case round =>
        obtain ⟨i, v, d, rfl, rfl, rfl, hi, hd0, hd, hwl, hrow, hbel⟩ := hrel
        by_cases hlt : i < ks.length
        · have hlt' : (i : Int) < (ks.length : Int) := by omega
          obtain ⟨kb, ko, rfl, hk⟩ := (HA.out.2.1.under hbel).at_ hlt
          have hst := walkL_step (l := l) (v := v) (d := d) hlt
          have hw1 : IntKind.i64.wrap ((i : Int) + 1) = (i : Int) + 1 := by have := HA.out.2.2.1; rw [IntKind.wrap_i64]; omega
          have e1 := hrow.cell 1
          simp only [List.getElem?_toArray, List.getElem?_cons_zero, List.getElem?_cons_succ] at e1
          generalize ks[i]'hlt = k at *
          have hAr := HA.out.1.under hbel
          have HQ := Lib.hid (And.intro hi (And.intro hd0 (And.intro hd (And.intro hwl (And.intro hrow (And.intro hbel hst))))))
          by_cases h1 : k < 0
          · have h1' : decide (k < 0) = true := by simpa using h1
            have hn := hwl.trans (hst.trans (if_neg (by omega)))
            have HN := Lib.hid (HRr.out.trans (HP.out.2.1.trans hn))
            clear hi hd0 hd hwl hrow hbel hst h1 hn hAr
            go_wp2
            go_ret3
            exact ⟨by rw [HN.out]; rfl, HQ.out.2.2.2.2.2.1⟩
          · have h1' : decide (k < 0) = false := by simpa using h1
            by_cases h2 : (l.length : Int) ≤ k
            · have h2' : decide ((l.length : Int) ≤ k) = true := by simpa using h2
              have hn := hwl.trans (hst.trans (if_neg (by omega)))
              have HN := Lib.hid (HRr.out.trans (HP.out.2.1.trans hn))
              clear hi hd0 hd hwl hrow hbel hst h1 h2 hn hAr
              go_wp2
              go_ret3
              exact ⟨by rw [HN.out]; rfl, HQ.out.2.2.2.2.2.1⟩
            · have h2' : decide ((l.length : Int) ≤ k) = false := by simpa using h2
              obtain ⟨j, rfl⟩ : ∃ j : Nat, k = j := ⟨k.toNat, by omega⟩
              have hj : j < l.length := by omega
              have hj' : (j : Int) < (l.length : Int) := by omega
              obtain ⟨ab, ao, rfl, x0, x1, x2⟩ := hAr.at_ hj
              rw [Int.toNat_natCast, getD_ar hj] at hst
              have hL := HP.out.2.2.2 _ (List.getElem_mem hj)
              generalize l[j]'hj = x at *
              by_cases h3 : x.1 = v
              · have h3' : (x.1 != v) = false := by simpa using h3
                have hw2 : IntKind.i64.wrap (d + x.2.2) = d + x.2.2 := by have := HA.out.2.2.1; rw [IntKind.wrap_i64]; omega
                rw [if_pos ⟨by omega, by omega, h3⟩] at hst
                have HN := Lib.hid (And.intro (hwl.trans hst) hL)
                clear hi hd0 hd hwl hrow hbel hst h1 h2 h3 hAr hL
                go_wp2
                go_quiet (fail)
                obtain ⟨w5, hw5⟩ : ∃ w5, w5 = wr.drewN nq := ⟨_, rfl⟩
                rw [← hw5]
                have hb5 : Below wr.heap.size wr w5 := by rw [hw5]; exact below_dN (Below.refl _ _) _
                have HB5 := Lib.hid hb5
                clear hw5 hb5
                go_wp2
                have h5 := HQ.out
                have hN := HN.out
                refine ⟨⟨i + 1, x.2.1, d + x.2.2, by go_num, rfl, rfl, by omega, by omega, by omega, hN.1, h5.2.2.2.2.1.under HB5.out h5.2.2.2.2.1.lt, h5.2.2.2.2.2.1.trans (HB5.out.mono h5.2.2.2.2.2.1.size)⟩, by simp [intOf]; omega⟩
              · have h3' : (x.1 != v) = true := by simpa using h3
                have hn := hwl.trans (hst.trans (if_neg (fun e => h3 e.2.2)))
                have HN := Lib.hid (HRr.out.trans (HP.out.2.1.trans hn))
                clear hi hd0 hd hwl hrow hbel hst h1 h2 h3 hn hAr hL
                go_wp2
                go_ret3
                exact ⟨by rw [HN.out]; rfl, HQ.out.2.2.2.2.2.1⟩
        · obtain rfl : i = ks.length := by omega
          rw [List.drop_length] at hwl
          have HN := Lib.hid (HRr.out.trans (HP.out.2.1.trans hwl))
          have HB := Lib.hid hbel
          clear hi hd0 hd hwl hrow hbel
          go_wp2
          go_ret3
          exact ⟨by rw [HN.out]; rfl, HB.out⟩
    · have hpd : decide (0 ≤ s ∧ s < n) = false := by simpa using hp
      have hwk : walkR n l s ks = none := by unfold walkR; rw [if_neg (fun h => hp h.2)]
      have HP := Lib.hid (And.intro hpd (And.intro hwk hc))
      have hnc := HA.out.2.2.2.2.cell 0
      simp only [List.getElem?_toArray, List.getElem?_cons_zero] at hnc
      clear hpd hwk hc hp
      go_enter Try.func43, Try.ntmps43
      go_wp2_with (first | (go_at_call 46; rw [← HW.out]; refine HCk.out.mono ?_; rintro e w2 ⟨rfl, hb2⟩; rw [HP.out.2.2]; have hr2 := HA.out.2.2.2.2.under hb2 HA.out.2.2.2.2.lt; have n2 := hr2.cell 0; simp only [List.getElem?_toArray, List.getElem?_cons_zero] at n2; have H2 := Lib.hid (And.intro hr2 (HA.out.2.2.2.1.trans (hb2.mono HA.out.2.2.2.1.size))); clear hr2 hb2) | (go_at_call 61; refine (isplace_any _ _ _).mono ?_; rintro e w3 ⟨rfl, rfl⟩; rw [HP.out.1]))
      go_ret3
      exact ⟨by rw [HRr.out, HP.out.2.1]; rfl, H2.out.2⟩
  · have hcb : (checkL n l != 0) = true := by simpa using hc
    have hwk : walkR n l s ks = none := by unfold walkR; rw [if_neg (fun h => hc h.1)]
    have HP := Lib.hid hwk
    clear hwk hc
    go_enter Try.func43, Try.ntmps43
    go_wp2_with (go_at_call 46; rw [← HW.out]; refine HCk.out.mono ?_; rintro e w2 ⟨rfl, hb2⟩; have H2 := Lib.hid (HA.out.2.2.2.1.trans (hb2.mono HA.out.2.2.2.1.size)); clear hb2)
    go_ret3
    exact ⟨by rw [HRr.out, HP.out]; rfl, H2.out⟩
end Go.Proofs.Ythljgkaigjokjaa
