/- The document's Walk and Total; dist.Total. -/
import Derived.Test.YthljgkaigjokjaaDsK
import Derived.Test.YthljgkaigjokjaaArcH
namespace Go.Proofs.Ythljgkaigjokjaa
open Go.RowKit Go.Shelf Grm Lay
set_option maxRecDepth 100000 in
set_option maxHeartbeats 4000000 in
theorem rwalk_any (n : Int) (a : Option Addr) (l : List Ar) (c : Nat) (s : Int) (b : Option Addr) (ks : List Int) (d : Nat) (w : World) (hA : Arcs w a l) (hK : Zs w b ks) (hl : ks.length ≤ 1000000) :
    Calls Try.prog 44 #[mV n a l.length c, .int .i64 s, .slice b ks.length d] w fun e w' => e = .returned (walkV (walkR n l s ks)) ∧ Below w.heap.size w w' := by
  show Calls Try.prog 44 #[.agg #[.int .i64 n, .slice a l.length c], .int .i64 s, .slice b ks.length d] w _
  obtain ⟨w1, hw1⟩ : ∃ w1, w1 = w.alloc (.cells #[.int .i64 n, .slice a l.length c] 24) := ⟨_, rfl⟩
  have hb1 : Below w.heap.size w w1 := by rw [hw1]; exact (Below.refl _ _).alloc (Nat.le_refl _) _
  have hr1 : Row w1 w.heap.size 24 #[.int .i64 n, .slice a l.length c] := by rw [hw1]; exact Row.fresh w _ _
  have HA := Lib.hid (And.intro hA (And.intro hK (And.intro hl (And.intro hb1 hr1))))
  have HCk := Lib.hid (rcheck_any n a l c w1 (hA.under hb1))
  have HW := Lib.hid hw1
  obtain ⟨R, hR⟩ : ∃ R, R = walkR n l s ks := ⟨_, rfl⟩
  rw [← hR]
  have HRr := Lib.hid hR
  clear hR hA hK hl hb1 hr1 hw1
  by_cases hc : checkL n l = 0
  · by_cases hp : 0 ≤ s ∧ s < n
    · have hp1 : decide (s < 0) = false := by simp; omega
      have hp2 : decide (n ≤ s) = false := by simp; omega
      have hwk : walkR n l s ks = walkL l s 0 ks := by unfold walkR; rw [if_pos ⟨hc, hp⟩]
      have HP := Lib.hid (And.intro hp (And.intro hwk (And.intro hc (len_of hc))))
      have hnc := HA.out.2.2.2.2.cell 0
      simp only [List.getElem?_toArray, List.getElem?_cons_zero] at hnc
      clear hp hwk hc
      go_enter Try.func44, Try.ntmps44
      go_wp2_with (go_at_call 58; rw [← HW.out]; refine HCk.out.mono ?_; rintro e w3 ⟨rfl, hb2⟩; rw [HP.out.2.2.1]; have hr2 := HA.out.2.2.2.2.under hb2 HA.out.2.2.2.2.lt; have n2 := hr2.cell 0; simp only [List.getElem?_toArray, List.getElem?_cons_zero] at n2; have H2 := Lib.hid (And.intro hr2 (HA.out.2.2.2.1.trans (hb2.mono HA.out.2.2.2.1.size))); clear hr2 hb2)
      have h0 : WkI w w.heap.size n a l c ks s (.int .i64 s) (.int .i64 0) (.int .i64 0) w3 := ⟨0, s, 0, rfl, rfl, rfl, Nat.zero_le _, by omega, by omega, by rw [List.drop_zero], H2.out.1, H2.out.2⟩
      have H0 := Lib.hid h0
      clear h0 n2 hnc
      go_loopw [1, 9, 10] (fun va vs vi wr => WkI w w.heap.size n a l c ks s va vs vi wr) (fun _ _ i _ => ks.length - (intOf i).toNat)
      case atStart => exact H0.out
      case round =>
        obtain ⟨i, v, d, rfl, rfl, rfl, hi, hd0, hd, hwl, hrow, hbel⟩ := hrel
        by_cases hlt : i < ks.length
        · have hlt' : (i : Int) < (ks.length : Int) := by omega
          obtain ⟨kb, ko, rfl, hk⟩ := (HA.out.2.1.under hbel).at_ hlt
          have hst := walkL_step (l := l) (v := v) (d := d) hlt
          have hw1 : IntKind.i64.wrap ((i : Int) + 1) = (i : Int) + 1 := by have := HA.out.2.2.1; rw [IntKind.wrap_i64]; omega
          have e1 := hrow.cell 1
          simp only [List.getElem?_toArray, List.getElem?_cons_zero, List.getElem?_cons_succ] at e1
          generalize ks[i]'hlt = k at *
          have hAr := HA.out.1.under hbel
          have HQ := Lib.hid (And.intro hi (And.intro hd0 (And.intro hd (And.intro hwl (And.intro hrow (And.intro hbel hst))))))
          by_cases h1 : k < 0
          · have h1' : decide (k < 0) = true := by simpa using h1
            have hn := hwl.trans (hst.trans (if_neg (by omega)))
            have HN := Lib.hid (HRr.out.trans (HP.out.2.1.trans hn))
            clear hi hd0 hd hwl hrow hbel hst h1 hn hAr
            go_wp2
            go_ret3
            exact ⟨by rw [HN.out]; rfl, HQ.out.2.2.2.2.2.1⟩
          · have h1' : decide (k < 0) = false := by simpa using h1
            by_cases h2 : (l.length : Int) ≤ k
            · have h2' : decide ((l.length : Int) ≤ k) = true := by simpa using h2
              have hn := hwl.trans (hst.trans (if_neg (by omega)))
              have HN := Lib.hid (HRr.out.trans (HP.out.2.1.trans hn))
              clear hi hd0 hd hwl hrow hbel hst h1 h2 hn hAr
              go_wp2
              go_ret3
              exact ⟨by rw [HN.out]; rfl, HQ.out.2.2.2.2.2.1⟩
            · have h2' : decide ((l.length : Int) ≤ k) = false := by simpa using h2
              obtain ⟨j, rfl⟩ : ∃ j : Nat, k = j := ⟨k.toNat, by omega⟩
              have hj : j < l.length := by omega
              have hj' : (j : Int) < (l.length : Int) := by omega
              obtain ⟨ab, ao, rfl, x0, x1, x2⟩ := hAr.at_ hj
              rw [Int.toNat_natCast, getD_ar hj] at hst
              have hL := HP.out.2.2.2 _ (List.getElem_mem hj)
              generalize l[j]'hj = x at *
              by_cases h3 : x.1 = v
              · have h3' : (x.1 != v) = false := by simpa using h3
                have hw2 : IntKind.i64.wrap (d + x.2.2) = d + x.2.2 := by have := HA.out.2.2.1; rw [IntKind.wrap_i64]; omega
                rw [if_pos ⟨by omega, by omega, h3⟩] at hst
                have HN := Lib.hid (And.intro (hwl.trans hst) hL)
                clear hi hd0 hd hwl hrow hbel hst h1 h2 h3 hAr hL
                go_wp2
                have h5 := HQ.out
                have hN := HN.out
                refine ⟨⟨i + 1, x.2.1, d + x.2.2, by go_num, rfl, rfl, by omega, by omega, by omega, hN.1, h5.2.2.2.2.1, h5.2.2.2.2.2.1⟩, by simp [intOf]; omega⟩
              · have h3' : (x.1 != v) = true := by simpa using h3
                have hn := hwl.trans (hst.trans (if_neg (fun e => h3 e.2.2)))
                have HN := Lib.hid (HRr.out.trans (HP.out.2.1.trans hn))
                clear hi hd0 hd hwl hrow hbel hst h1 h2 h3 hn hAr hL
                go_wp2
                go_ret3
                exact ⟨by rw [HN.out]; rfl, HQ.out.2.2.2.2.2.1⟩
        · obtain rfl : i = ks.length := by omega
          rw [List.drop_length] at hwl
          have HN := Lib.hid (HRr.out.trans (HP.out.2.1.trans hwl))
          have HB := Lib.hid hbel
          clear hi hd0 hd hwl hrow hbel
          go_wp2
          go_ret3
          exact ⟨by rw [HN.out]; rfl, HB.out⟩
    · have hwk : walkR n l s ks = none := by unfold walkR; rw [if_neg (fun h => hp h.2)]
      have HP := Lib.hid (And.intro hp (And.intro hwk hc))
      have hnc := HA.out.2.2.2.2.cell 0
      simp only [List.getElem?_toArray, List.getElem?_cons_zero] at hnc
      clear hwk hc
      by_cases h1 : s < 0
      · have h1' : decide (s < 0) = true := by simpa using h1
        clear hp
        go_enter Try.func44, Try.ntmps44
        go_wp2_with (go_at_call 58; rw [← HW.out]; refine HCk.out.mono ?_; rintro e w3 ⟨rfl, hb2⟩; rw [HP.out.2.2]; have hr2 := HA.out.2.2.2.2.under hb2 HA.out.2.2.2.2.lt; have n2 := hr2.cell 0; simp only [List.getElem?_toArray, List.getElem?_cons_zero] at n2; have H2 := Lib.hid (And.intro hr2 (HA.out.2.2.2.1.trans (hb2.mono HA.out.2.2.2.1.size))); clear hr2 hb2)
        go_ret3
        exact ⟨by rw [HRr.out, HP.out.2.1]; rfl, H2.out.2⟩
      · have h1' : decide (s < 0) = false := by simpa using h1
        have h2' : decide (n ≤ s) = true := by simp; omega
        clear hp
        go_enter Try.func44, Try.ntmps44
        go_wp2_with (go_at_call 58; rw [← HW.out]; refine HCk.out.mono ?_; rintro e w3 ⟨rfl, hb2⟩; rw [HP.out.2.2]; have hr2 := HA.out.2.2.2.2.under hb2 HA.out.2.2.2.2.lt; have n2 := hr2.cell 0; simp only [List.getElem?_toArray, List.getElem?_cons_zero] at n2; have H2 := Lib.hid (And.intro hr2 (HA.out.2.2.2.1.trans (hb2.mono HA.out.2.2.2.1.size))); clear hr2 hb2)
        go_ret3
        exact ⟨by rw [HRr.out, HP.out.2.1]; rfl, H2.out.2⟩
  · have hcb : (checkL n l != 0) = true := by simpa using hc
    have hwk : walkR n l s ks = none := by unfold walkR; rw [if_neg (fun h => hc h.1)]
    have HP := Lib.hid hwk
    clear hwk hc
    go_enter Try.func44, Try.ntmps44
    go_wp2_with (go_at_call 58; rw [← HW.out]; refine HCk.out.mono ?_; rintro e w2 ⟨rfl, hb2⟩; have H2 := Lib.hid (HA.out.2.2.2.1.trans (hb2.mono HA.out.2.2.2.1.size)); clear hb2)
    go_ret3
    exact ⟨by rw [HRr.out, HP.out]; rfl, H2.out⟩
/-- How long all arcs are together. -/
def sumL (l : List Ar) : Int := l.foldl (fun s x => s + x.2.2) 0
theorem foldl_sum (l : List Ar) : ∀ s : Int, l.foldl (fun s x => s + x.2.2) s = s + sumL l := by
  unfold sumL
  induction l with
  | nil => intro s; simp
  | cons x l ih =>
    intro s
    simp only [List.foldl_cons]
    rw [ih (s + x.2.2), ih (0 + x.2.2)]
    omega
theorem sumL_succ {l : List Ar} {k : Nat} (hk : k < l.length) : sumL (l.take (k + 1)) = sumL (l.take k) + (l[k]'hk).2.2 := by
  unfold sumL
  rw [List.take_succ_eq_append_getElem hk, List.foldl_append]
  rfl
theorem sumL_le {l : List Ar} (h : Len l) : ∀ k : Nat, k ≤ l.length → 0 ≤ sumL (l.take k) ∧ sumL (l.take k) ≤ (k : Int) * 2147483648 := by
  intro k
  induction k with
  | zero => intro _; simp [sumL]
  | succ k ih =>
    intro hk
    obtain ⟨h1, h2⟩ := ih (by omega)
    have := h _ (List.getElem_mem (show k < l.length by omega))
    rw [sumL_succ (by omega)]
    omega
def totalR (n : Int) (l : List Ar) : Int := if checkL n l = 0 then sumL l else -1
end Go.Proofs.Ythljgkaigjokjaa
