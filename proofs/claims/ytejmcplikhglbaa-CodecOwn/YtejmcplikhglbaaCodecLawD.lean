/- Walk of the law CodecBack. -/
import Derived.Test.YtejmcplikhglbaaCodecLawC
namespace Go.Proofs.Ytejmcplikhglbaa
open Go.RowKit
attribute [local go_sem] str_size

theorem back_big (x : BitVec 64) (a : Option Addr) (n c : Nat) (s : List (BitVec 8)) (m : Int) (w : World) (h : 100 < n ∨ 500 < s.length) :
    Calls Try.prog 5 #[.int .u64 (W x), .slice a n c, .string (str s), .int .u16 m] w fun e w' => e = .returned (.bool true) ∧ Below w.heap.size w w' := by
  by_cases h1 : 100 < n
  · have h2 : (100 : Int) < (n : Int) := by omega
    clear h
    go_enter Try.func5, Try.ntmps5
    go_wp2_with fail
    refine (known_any _).mono ?_
    rintro e w8 ⟨rfl, hb8⟩
    go_wp2
    go_ret
    exact ⟨rfl, hb8⟩
  · have h2 : (n : Int) ≤ 100 := by omega
    have hd : decide ((100 : Int) < (n : Int)) = false := decide_eq_false (by omega)
    have h3 : (500 : Int) < (s.length : Int) := by omega
    clear h
    go_enter Try.func5, Try.ntmps5
    go_wp2_with fail
    refine (known_any _).mono ?_
    rintro e w8 ⟨rfl, hb8⟩
    go_wp2
    go_ret
    exact ⟨rfl, hb8⟩

theorem Row.owns {w : World} {g K : Nat} {l : List (BitVec 8)} (h : Row w g 5 (cells l).toArray) (hK : K ≤ g) (hl : l.length ≤ 1000000000) : Owns w K (.slice (some ⟨g, 0, none⟩) l.length l.length) l :=
  ⟨by simp [cells_length], .inr ⟨g, l.length, _, rfl, hK, h, Nat.le_refl _, by simp only [maxLen]; omega, by simp [cells_length], by rw [List.take_of_length_le (by simp [cells_length])]⟩⟩
theorem num_st {K : Nat} (g : Nat) (s s' : Cod.St) (q : List (BitVec 8)) (z : Int) (k : Nat) (hk : Cod.clip z = k) (w : World) (h : Rd K w g s) (hq : Cod.takeQ s k = q) (hs : Cod.takeS s k = s') :
    Calls Try.prog 25 #[.pointer (some ⟨g, 0, none⟩), .int .i64 z] w fun e w' => e = .returned (.int .u64 (W (Cod.num q))) ∧ Rd K w' g s' ∧ w.grownBy w' (some g) := by
  subst hq
  subst hs
  exact num_at g s z k hk w h

set_option maxHeartbeats 1000000 in
set_option maxRecDepth 100000 in
theorem back_small (x : BitVec 64) (a : Option Addr) (l : List (BitVec 64)) (c : Nat) (s : List (BitVec 8)) (m : Int) (w : World) (hN : Nums w a l) (h1 : l.length ≤ 100) (h2 : s.length ≤ 500) (m0 : 0 ≤ m) (m1 : m < 65536) :
    Calls Try.prog 5 #[.int .u64 (W x), .slice a l.length c, .string (str s), .int .u16 m] w fun e w' => e = .returned (.bool true) ∧ Below w.heap.size w w' := by
  have HA := Lib.hid hN
  clear hN
  have hd : decide ((100 : Int) < (l.length : Int)) = false := decide_eq_false (by omega)
  have hd2 : decide ((500 : Int) < (s.length : Int)) = false := decide_eq_false (by omega)
  have HIl := Lib.hid (Cod.ints_length l)
  have HTl := Lib.hid (Cod.text_length s)
  have HAl := Cod.all_length x l s
  obtain ⟨N, hN⟩ : ∃ N, N = (Cod.all x l s).length := ⟨_, rfl⟩
  rw [← hN] at HAl
  have HN := Lib.hid hN.symm
  have hNs : N ≤ 2000 := by omega
  have hN0 : 0 < N := by omega
  have hNb : ((N : Int) != 16 + 8 * (l.length : Int) + (s.length : Int)) = false := by
    have : (N : Int) = 16 + 8 * (l.length : Int) + (s.length : Int) := by omega
    simp [this]
  clear HAl hN
  obtain ⟨k, hk⟩ : ∃ k : Nat, m % (N : Int) = (k : Int) := ⟨(m % (N : Int)).toNat, by have := Int.emod_nonneg m (show (N : Int) ≠ 0 by omega); omega⟩
  have hkN : k < N := by have := Int.emod_lt_of_pos m (show (0 : Int) < (N : Int) by omega); omega
  have HN8 := Lib.hid (Cod.num_leb8 x)
  have HQ1 := Lib.hid (Cod.takeQ_front (Cod.leb x 8) (Cod.ints l ++ Cod.text s) 8 (Cod.leb_length x 8))
  have HS1 := Lib.hid (Cod.takeS_front (Cod.leb x 8) (Cod.ints l ++ Cod.text s) 8 (Cod.leb_length x 8))
  have HI := Lib.hid (Cod.ints_take l (Cod.text s) (l.length : Int) (by omega) (by omega))
  have HT := Cod.text_take s [] (s.length : Int) (by omega) (by omega)
  rw [List.append_nil] at HT
  have HT := Lib.hid HT
  have HCut := Lib.hid (Cod.cut_short x l s k (by omega) (by omega) (by rw [HN.out]; exact hkN))
  go_enter Try.func5, Try.ntmps5
  go_wp2_with fail
  refine (put_at x 8 8 rfl w).mono ?_
  rintro e w1 ⟨g1, rfl, hg1, hr1, hb1⟩
  have O1 := hr1.owns hg1 (by rw [Cod.leb_length]; omega)
  rw [Cod.leb_length] at O1
  have O1 := Lib.hid O1
  have X1 := Lib.hid hb1
  clear hr1 hb1
  go_wp2_with fail
  refine (ints_at a l _ c rfl w1 (HA.out.under X1.out) (by omega)).mono ?_
  rintro e w2 ⟨g2, rfl, hg2, hr2, hb2⟩
  have R2 := Lib.hid hr2
  have X2 := Lib.hid (then_below X1.out hb2)
  have O2 := Lib.hid (O1.out.under hb2 (Nat.le_refl _))
  have z2 := X2.out.size
  clear hr2 hb2 O1 X1
  go_wp2_with (at_builtin; refine wpList_appendB rfl _ _ rfl w.heap.size _ (Cod.leb x 8) (Cod.ints l) (some ⟨g2, 0, none⟩) _ _ rfl rfl rfl O2.out R2.out.asBytes (by rw [Cod.leb_length]; have := HIl.out; omega) (by omega) ?_; intro v3 w3 HO3 hg3 hat3)
  have X3 := Lib.hid (X2.out.grown hg3 (by omega) (fun g hg => (O2.out.lt g hg).1))
  clear hg3 hat3 O2 R2 X2
  refine (text_at s w3 (by omega)).mono ?_
  rintro e w4 ⟨g4, rfl, hg4, hr4, hb4⟩
  have R4 := Lib.hid hr4
  have X4 := Lib.hid (then_below X3.out hb4)
  have O4 := Lib.hid (HO3.out.under hb4 (Nat.le_refl _))
  have z4 := X4.out.size
  clear hr4 hb4 HO3 X3
  go_wp2_with (at_builtin; refine wpList_appendB rfl _ _ rfl w.heap.size _ (Cod.leb x 8 ++ Cod.ints l) (Cod.text s) (some ⟨g4, 0, none⟩) _ _ rfl rfl rfl O4.out R4.out.asBytes (by rw [List.length_append, Cod.leb_length]; have := HIl.out; have := HTl.out; omega) (by omega) ?_; intro v5 w5 HO5 hg5 hat5; obtain ⟨ab, cb, hv5, hB5, hc5⟩ := HO5.out.shape; have HNx := HN.out; unfold Cod.all at HNx; rw [HNx] at hv5 hc5; clear HNx; subst hv5)
  have X5 := Lib.hid (X4.out.grown hg5 (by omega) (fun g hg => (O4.out.lt g hg).1))
  have BB := Lib.hid (show Bytes w5 ab (Cod.all x l s) from hB5)
  have hkc : (k : Int) ≤ (cb : Int) := by omega
  clear hg5 hat5 O4 R4 X4 HO5 hB5
  refine (new_at _ (Cod.all x l s) N _ w5 BB.out HN.out (by rw [HN.out]; omega)).mono ?_
  rintro e w6 ⟨gr, rfl, hgr, hR, hb6⟩
  have X6 := Lib.hid (then_below X5.out hb6)
  have Y6 := Lib.hid hb6
  have RR := Lib.hid (show Rd w5.heap.size w6 gr ⟨Cod.leb x 8 ++ (Cod.ints l ++ Cod.text s), 0⟩ by have := hR; unfold Cod.all at this; rw [List.append_assoc] at this; exact this)
  have s5 := X5.out.size
  have s6 := hb6.size
  have lr := hR.lt
  clear hR hb6 X5
  go_wp2_with fail
  refine (num_st gr _ _ _ 8 8 rfl w6 RR.out HQ1.out HS1.out).mono ?_
  rintro e w7 ⟨rfl, hR, hG⟩
  rw [HN8.out]
  have X7 := Lib.hid (grown_below X6.out hG X6.out.size (by omega))
  have Y7 := Lib.hid (grown_below Y6.out hG (by omega) hgr)
  have R7 := Lib.hid hR
  have s7 := hG.size
  clear hR hG X6 Y6 RR
  go_wp2_with fail
  refine (rInts_at gr _ _ l l.length _ w7 R7.out (by omega) (by rw [HI.out.1, Cod.row_eights]) rfl HI.out.2).mono ?_
  rintro e w8 ⟨⟨a8, c8, rfl, hN8, hat8⟩, hR, hG⟩
  have X8 := Lib.hid (grown_below X7.out hG X7.out.size (by omega))
  have Y8 := Lib.hid (grown_below Y7.out hG (by omega) hgr)
  have R8 := Lib.hid hR
  have N8 := Lib.hid hN8
  have AT := Lib.hid hat8
  have s8 := hG.size
  clear hR hG X7 Y7 R7 hN8 hat8
  go_wp2_with fail
  refine (rText_at gr _ _ s _ w8 R8.out (by omega) HT.out.1 HT.out.2).mono ?_
  rintro e w9 ⟨rfl, hR, hG⟩
  have X9 := Lib.hid (grown_below X8.out hG X8.out.size (by omega))
  have Y9 := Lib.hid (grown_below Y8.out hG (by omega) hgr)
  have R9 := Lib.hid hR
  have N9 := Lib.hid (N8.out.off hG (fun ad e => by have := AT.out ad e; omega))
  have s9 := hG.size
  clear hR hG X8 Y8 R8 N8 AT
  go_wp2_with fail
  refine (sameInts_any a8 a l c8 c w9 N9.out (HA.out.under X9.out) (by omega)).mono ?_
  rintro e w10 ⟨rfl, hb10⟩
  have X10 := Lib.hid (then_below X9.out hb10)
  have Y10 := Lib.hid (then_below Y9.out hb10)
  have R10 := Lib.hid (R9.out.under hb10)
  clear X9 Y9 R9 N9 hb10
  go_wp2_with fail
  refine (end_any gr _ w10 R10.out).mono ?_
  rintro e w11 ⟨rfl, rfl⟩
  rw [show Cod.endE ⟨[], 0⟩ = 0 from rfl]
  go_wp2_with fail
  refine (new_at _ ((Cod.all x l s).take k) k _ w10 ((BB.out.under Y10.out).take k) (by rw [List.length_take, HN.out]; omega) (by rw [List.length_take, HN.out]; omega)).mono ?_
  rintro e w11 ⟨gc, rfl, hgc, hR, hb11⟩
  have X11 := Lib.hid (then_below X10.out hb11)
  have R11 := Lib.hid hR
  have s10 := X10.out.size
  have s11 := hb11.size
  clear hR hb11 X10 Y10 R10
  go_wp2_with fail
  refine (num_st gc _ _ _ 8 8 rfl w11 R11.out rfl rfl).mono ?_
  rintro e w12 ⟨rfl, hR, hG⟩
  have X12 := Lib.hid (grown_below X11.out hG X11.out.size (by omega))
  have R12 := Lib.hid hR
  clear hR hG X11 R11
  generalize W (Cod.num (Cod.takeQ _ 8)) = j1
  go_wp2_with fail
  refine (rInts_at gc _ _ _ _ (l.length : Int) w12 R12.out (by omega) rfl rfl rfl).mono ?_
  rintro e w13 ⟨⟨a13, c13, rfl, _, _⟩, hR, hG⟩
  have X13 := Lib.hid (grown_below X12.out hG X12.out.size (by omega))
  have R13 := Lib.hid hR
  clear hR hG X12 R12
  generalize (Cod.row (Cod.rowQ _ _ 8)).length = j2
  go_wp2_with fail
  refine (rText_at gc _ _ _ (s.length : Int) w13 R13.out (by omega) rfl HCut.out).mono ?_
  rintro e w14 ⟨rfl, hR, hG⟩
  have X14 := Lib.hid (grown_below X13.out hG X13.out.size (by omega))
  have R14 := Lib.hid hR
  clear hR hG X13 R13
  generalize str (Cod.rowQ _ _ 1) = j3
  go_wp2_with fail
  refine (failed_any gc _ w14 R14.out).mono ?_
  rintro e w15 ⟨rfl, rfl⟩
  go_wp2_with fail
  refine (left_any gc _ w14 R14.out).mono ?_
  rintro e w15 ⟨rfl, rfl⟩
  go_wp2_with fail
  refine (known_any _).mono ?_
  rintro e w18 ⟨rfl, hb18⟩
  go_wp2
  go_ret
  exact ⟨rfl, then_below X14.out hb18⟩

theorem back_walk (x : BitVec 64) (a : Option Addr) (l : List (BitVec 64)) (c : Nat) (s : List (BitVec 8)) (m : Int) (w : World) (hN : Nums w a l) (wm : (Lit.int .u16 m).wf = true) :
    Calls Try.prog 5 #[.int .u64 (W x), .slice a l.length c, .string (str s), .int .u16 m] w fun e w' => e = .returned (.bool true) ∧ Below w.heap.size w w' := by
  have hm : 0 ≤ m ∧ m < 65536 := by
    simp [Lit.wf, IntKind.min, IntKind.max, IntKind.signed, IntKind.bits] at wm
    omega
  by_cases h : 100 < l.length ∨ 500 < s.length
  · exact back_big x a l.length c s _ w h
  · exact back_small x a l c s _ w hN (by omega) (by omega) hm.1 hm.2
end Go.Proofs.Ytejmcplikhglbaa
