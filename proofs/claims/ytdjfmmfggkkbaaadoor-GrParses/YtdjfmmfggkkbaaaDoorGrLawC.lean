/- GrSafe. -/
import Derived.Test.YtdjfmmfggkkbaaaDoorGrH
import Derived.Test.YtdjfmmfggkkbaaaDoorGrLawB
namespace Go.Proofs.YtdjfmmfggkkbaaaDoor
open Go.RowKit Go.Shelf Grm

set_option maxRecDepth 100000 in
set_option maxHeartbeats 2000000 in
theorem gsafe_big (s m : Tx) (w : World) (hb : 800 < s.length ∨ 300 < m.length) :
    Calls Tryd.prog 6 #[txV s, txV m] w fun e w' => e = .returned (.bool true) ∧ Below w.heap.size w w' := by
  have e1 := gr_size s
  have e2 := gr_size m
  by_cases h1 : 800 < s.length
  · have i1 : (800 : Int) < (s.length : Int) := by omega
    clear hb h1
    go_enter Tryd.func6, Tryd.ntmps6
    go_wp2_with fail
    refine (known_any _).mono ?_
    rintro e w2 ⟨rfl, hb2⟩
    have HB2 := Lib.hid hb2
    clear hb2
    go_wp2
    go_ret
    exact ⟨rfl, HB2.out⟩
  · have i1 : ¬ (800 : Int) < (s.length : Int) := by omega
    have i2 : (300 : Int) < (m.length : Int) := by omega
    clear hb h1
    go_enter Tryd.func6, Tryd.ntmps6
    go_wp2_with fail
    refine (known_any _).mono ?_
    rintro e w2 ⟨rfl, hb2⟩
    have HB2 := Lib.hid hb2
    clear hb2
    go_wp2
    go_ret
    exact ⟨rfl, HB2.out⟩
theorem feeds_succ (s : Tx) (k : Nat) (hk : k < s.length) : feeds (s.take (k + 1)) = feeds (s.take k) + (if s[k]'hk = 10 then 1 else 0) := by
  rw [List.take_succ_eq_append_getElem hk, feeds_app]
  by_cases q : s[k]'hk = 10 <;> simp [feeds, q]
theorem feeds_le (s : Tx) : feeds s ≤ s.length := List.length_filter_le _ _
set_option maxRecDepth 100000 in
set_option maxHeartbeats 4000000 in
theorem gsafe_walk (s m : Tx) (w : World) :
    Calls Tryd.prog 6 #[txV s, txV m] w fun e w' => e = .returned (.bool true) ∧ Below w.heap.size w w' := by
  by_cases hbig : 800 < s.length ∨ 300 < m.length
  · exact gsafe_big s m w hbig
  have e1 := gr_size s
  have e2 := gr_size m
  have i1 : ¬ (800 : Int) < (s.length : Int) := by omega
  have i2 : ¬ (300 : Int) < (m.length : Int) := by omega
  have i3 : (s.length : Int) ≤ 800 := by omega
  have HP := Lib.hid (parse_any s (by omega) w)
  have HN := Lib.hid hbig
  clear hbig
  obtain ⟨R, hR⟩ : ∃ R, R = parseL s := ⟨_, rfl⟩
  rw [← hR] at HP
  have HR := Lib.hid hR
  clear hR
  go_enter Tryd.func6, Tryd.ntmps6
  go_wp2_with fail
  refine HP.out.mono ?_
  rintro e w1 ⟨hb1, (⟨k, hk, rfl⟩ | ⟨n, arcs, v, hk, rfl, hav⟩)⟩
  · -- wrong
    have HK := Lib.hid (parse_where s k (HR.out.symm.trans hk))
    have hr2 := Row.fresh w1 25 #[.int .i64 0, .slice none 0 0]
    have HB1 := Lib.hid (hb1.alloc hb1.size (.cells #[.int .i64 0, .slice none 0 0] 25))
    have c0 := hr2.cell 0
    have c1 := hr2.cell 1
    simp only [List.getElem?_toArray, List.getElem?_cons_zero, List.getElem?_cons_succ] at c0 c1
    clear hb1 hk hr2
    go_wp2
    go_loopw [8, 9] (fun cn i wr => ∃ j : Nat, j ≤ s.length ∧ i = .int .i64 j ∧ cn = .int .i64 ((1 + feeds (s.take j) : Nat) : Int) ∧ wr = w1.alloc (.cells #[.int .i64 0, .slice none 0 0] 25)) (fun _ i _ => s.length - (intOf i).toNat)
    case atStart => exact ⟨0, by omega, rfl, rfl, rfl⟩
    case round =>
      obtain ⟨j, hj, rfl, rfl, rfl⟩ := hrel
      by_cases hlt : j < s.length
      · have hlt' : (j : Int) < (s.length : Int) := by omega
        have HF := Lib.hid (feeds_succ s j hlt)
        have hx : ((⟨s.toArray⟩ : ByteArray)[j]'(by rw [gr_size]; exact hlt)) = s[j]'hlt := rfl
        have hfl : feeds (s.take j) ≤ 800 := by have := feeds_le (s.take j); have := HN.out; simp at *; omega
        have hfl2 : (feeds (s.take j) : Int) ≤ 800 := by omega
        generalize feeds (s.take j) = F at *
        have hx2 : ((⟨s.toArray⟩ : ByteArray)[j]'(by rw [gr_size]; exact hlt)).toNat = (s[j]'hlt).toNat := by rw [hx]
        by_cases hq : s[j]'hlt = 10
        · rw [if_pos hq] at HF
          have hq2 : (s[j]'hlt).toNat = 10 := by rw [hq]; rfl
          rw [hq2] at hx2
          clear hx hq hq2
          go_wp2
          go_roundw
          case rel => exact ⟨j + 1, by omega, by go_num, by rw [HF.out]; go_num, trivial⟩
          case measure => simp [intOf]; omega
        · rw [if_neg hq] at HF
          have hq2 : ¬ (s[j]'hlt).toNat = 10 := fun e => hq (UInt8.toNat_inj.1 e)
          generalize (s[j]'hlt).toNat = y at *
          have hq3 : ¬ (y : Int) = 10 := by omega
          clear hx hq hq2
          go_wp2
          go_roundw
          case rel => exact ⟨j + 1, by omega, by go_num, by rw [HF.out]; rfl, trivial⟩
          case measure => simp [intOf]; omega
      · obtain rfl : j = s.length := by omega
        have hlt' : ¬ (s.length : Int) < (s.length : Int) := by omega
        rw [List.take_length]
        have hfl : feeds s ≤ 800 := by have := feeds_le s; have := HN.out; omega
        generalize hF : feeds s = F at *
        have hk3 := HK.out
        have q1 : ¬ (k : Int) < 1 := by omega
        have q2 : ¬ ((1 + F : Nat) : Int) + 1 < (k : Int) := by omega
        obtain ⟨G, hG⟩ : ∃ G : Int, G = ((1 + F : Nat) : Int) := ⟨_, rfl⟩
        rw [← hG] at q2 ⊢
        have q4 : (k : Int) ≤ G + 1 := by omega
        have q5 : G ≤ 801 := by omega
        have q6 : (1 : Int) ≤ G := by omega
        by_cases hge : G ≤ (k : Int)
        · clear hk3 hF hG
          go_wp2_with fail
          refine (known_any _).mono ?_
          rintro e w4 ⟨rfl, hb4⟩
          have HB4 := Lib.hid (HB1.out.trans (hb4.mono HB1.out.size))
          clear hb4
          go_wp2
          go_ret
          exact ⟨rfl, HB4.out⟩
        · have hs : s ≠ [] := fun e => by
            subst e
            have : F = 0 := by rw [← hF]; rfl
            omega
          have hk4 := hk3.2.2 hs (by omega) m
          have hs2 : (s == []) = false := beq_eq_false_iff_ne.2 hs
          have hlen := HN.out
          have hP := parse_any (s ++ 10 :: m) (by simp; omega) (w1.alloc (.cells #[.int .i64 0, .slice none 0 0] 25))
          rw [hk4] at hP
          unfold txV at hP
          rw [show s ++ 10 :: m = (s ++ [10]) ++ m by simp, ← cat_tx, ← cat_tx] at hP
          have HP2 := Lib.hid hP
          have e3 : ((⟨s.toArray⟩ : ByteArray) ++ ⟨#[10]⟩).size = s.length + 1 := by rw [show (⟨#[10]⟩ : ByteArray) = ⟨[10].toArray⟩ from rfl, cat_tx, gr_size]; simp
          have k1 : ¬ 9223372036854775807 < s.length + 1 := by omega
          have k2 : ¬ 9223372036854775807 < s.length + 1 + m.length := by omega
          have hne : ¬ (k : Int) = G := by omega
          clear hP hk3 hk4 hF hG hs hlen
          go_wp2_with fail
          refine HP2.out.mono ?_
          rintro e w5 ⟨hb5, (⟨k', hk', rfl⟩ | ⟨_, _, _, hk', _⟩)⟩
          · cases hk'
            have HB5 := Lib.hid ((HB1.out.trans (hb5.mono HB1.out.size)).alloc (HB1.out.trans (hb5.mono HB1.out.size)).size (.cells #[.int .i64 0, .slice none 0 0] 25))
            clear hb5
            go_wp2_with fail
            refine (known_any _).mono ?_
            rintro e w4 ⟨rfl, hb4⟩
            have HB4 := Lib.hid (HB5.out.trans (hb4.mono HB5.out.size))
            clear hb4
            go_wp2
            go_ret
            exact ⟨rfl, HB4.out⟩
          · cases hk'
  · obtain ⟨ad, cc, rfl⟩ := hav.shape
    have hg := parse_good s n arcs (HR.out.symm.trans hk)
    have hr2 := Row.fresh w1 25 #[.int .i64 (n : Nat), .slice ad arcs.length cc]
    have hb2 : Below w1.heap.size w1 (w1.alloc (.cells #[.int .i64 (n : Nat), .slice ad arcs.length cc] 25)) := (Below.refl _ _).alloc (Nat.le_refl _) _
    have HC := Lib.hid (check_any (n : Nat) ad arcs cc _ (hav.arcs.under hb2))
    rw [hg.1] at HC
    have HB1 := Lib.hid (hb1.trans (hb2.mono hb1.size))
    have c0 := hr2.cell 0
    have c1 := hr2.cell 1
    simp only [List.getElem?_toArray, List.getElem?_cons_zero, List.getElem?_cons_succ] at c0 c1
    clear hb1 hk hr2 hb2 hg hav
    go_wp2
    go_loopw [8, 9] (fun cn i wr => ∃ j : Nat, j ≤ s.length ∧ i = .int .i64 j ∧ cn = .int .i64 ((1 + feeds (s.take j) : Nat) : Int) ∧ wr = w1.alloc (.cells #[.int .i64 (n : Nat), .slice ad arcs.length cc] 25)) (fun _ i _ => s.length - (intOf i).toNat)
    case atStart => exact ⟨0, by omega, rfl, rfl, rfl⟩
    case round =>
      obtain ⟨j, hj, rfl, rfl, rfl⟩ := hrel
      by_cases hlt : j < s.length
      · have hlt' : (j : Int) < (s.length : Int) := by omega
        have HF := Lib.hid (feeds_succ s j hlt)
        have hx : ((⟨s.toArray⟩ : ByteArray)[j]'(by rw [gr_size]; exact hlt)) = s[j]'hlt := rfl
        have hfl : feeds (s.take j) ≤ 800 := by have := feeds_le (s.take j); have := HN.out; simp at *; omega
        have hfl2 : (feeds (s.take j) : Int) ≤ 800 := by omega
        generalize feeds (s.take j) = F at *
        have hx2 : ((⟨s.toArray⟩ : ByteArray)[j]'(by rw [gr_size]; exact hlt)).toNat = (s[j]'hlt).toNat := by rw [hx]
        by_cases hq : s[j]'hlt = 10
        · rw [if_pos hq] at HF
          have hq2 : (s[j]'hlt).toNat = 10 := by rw [hq]; rfl
          rw [hq2] at hx2
          clear hx hq hq2
          go_wp2
          go_roundw
          case rel => exact ⟨j + 1, by omega, by go_num, by rw [HF.out]; go_num, trivial⟩
          case measure => simp [intOf]; omega
        · rw [if_neg hq] at HF
          have hq2 : ¬ (s[j]'hlt).toNat = 10 := fun e => hq (UInt8.toNat_inj.1 e)
          generalize (s[j]'hlt).toNat = y at *
          have hq3 : ¬ (y : Int) = 10 := by omega
          clear hx hq hq2
          go_wp2
          go_roundw
          case rel => exact ⟨j + 1, by omega, by go_num, by rw [HF.out]; rfl, trivial⟩
          case measure => simp [intOf]; omega
      · obtain rfl : j = s.length := by omega
        have hlt' : ¬ (s.length : Int) < (s.length : Int) := by omega
        rw [List.take_length]
        have hfl : feeds s ≤ 800 := by have := feeds_le s; have := HN.out; omega
        generalize ((1 + feeds s : Nat) : Int) = G at *
        go_wp2_with fail
        refine HC.out.mono ?_
        rintro e w4 ⟨rfl, hb4⟩
        have HB4 := Lib.hid (HB1.out.trans (hb4.mono HB1.out.size))
        clear hb4
        go_wp2_with fail
        refine (known_any _).mono ?_
        rintro e w6 ⟨rfl, hb6⟩
        have HB6 := Lib.hid (HB4.out.trans (hb6.mono HB4.out.size))
        clear hb6
        go_wp2
        go_ret
        exact ⟨rfl, HB6.out⟩
end Go.Proofs.YtdjfmmfggkkbaaaDoor
