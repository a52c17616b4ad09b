/- Walk of the law CodecOwn. -/
import Derived.Test.YtejmcplikhglbaaCodecLawD
namespace Go.Proofs.Ytejmcplikhglbaa
open Go.RowKit
attribute [local go_sem] str_size

theorem cown_big (a : Option Addr) (n c : Nat) (m : Int) (w : World) (h : 500 < n) :
    Calls Try.prog 6 #[.slice a n c, .int .u8 m] w fun e w' => e = .returned (.bool true) ∧ Below w.heap.size w w' := by
  have h2 : (500 : Int) < (n : Int) := by omega
  go_enter Try.func6, Try.ntmps6
  go_wp2_with fail
  refine (known_any _).mono ?_
  rintro e w8 ⟨rfl, hb8⟩
  go_wp2
  go_ret
  exact ⟨rfl, hb8⟩

/-- Room for n bytes, of the call's own, between K and M. -/
def Spoil (K M n : Nat) (a : Option Addr) (w : World) : Prop := n = 0 ∨ ∃ g cs, a = some ⟨g, 0, none⟩ ∧ K ≤ g ∧ g < M ∧ Row w g 5 cs ∧ n ≤ cs.size
theorem Spoil.of {w : World} {K : Nat} {a : Option Addr} {c : Nat} {l : List (BitVec 8)} (h : Owns w K (.slice a l.length c) l) : Spoil K w.heap.size l.length a w := by
  rcases h.2 with ⟨_, h0⟩ | ⟨g, cap, cur, hv, hg, hh, hc, hm, hs, ht⟩
  · exact .inl h0
  · injection hv with e1 e2 e3
    subst e1
    exact .inr ⟨g, cur, rfl, hg, (Array.getElem?_eq_some_iff.1 hh).1, hh, by omega⟩
theorem Spoil.under {w w' : World} {K n : Nat} {a : Option Addr} (h : Spoil K w.heap.size n a w) (hb : Below w.heap.size w w') : Spoil K w.heap.size n a w' := by
  rcases h with h | ⟨g, cs, rfl, h1, h2, hr, h3⟩
  · exact .inl h
  · exact .inr ⟨g, cs, rfl, h1, h2, hr.under hb h2, h3⟩

set_option maxHeartbeats 1000000 in
set_option maxRecDepth 100000 in
theorem cown_small (a : Option Addr) (l : List (BitVec 8)) (c : Nat) (m : Int) (w : World) (hB : Bytes w a l) (h1 : l.length ≤ 500) (m0 : 0 ≤ m) (m1 : m < 256) :
    Calls Try.prog 6 #[.slice a l.length c, .int .u8 m] w fun e w' => e = .returned (.bool true) ∧ Below w.heap.size w w' := by
  have HA := Lib.hid hB
  clear hB
  have h1' : (l.length : Int) ≤ 500 := by omega
  have HC8 := Lib.hid (show Cod.clip (8 + m) = 8 by unfold Cod.clip; split <;> split <;> omega)
  have HC0 := Lib.hid (show Cod.clip (-m) = 0 by unfold Cod.clip; split <;> split <;> omega)
  obtain ⟨n8, h8⟩ : ∃ n, Cod.num (Cod.takeQ ⟨l, 0⟩ 8) = n := ⟨_, rfl⟩
  obtain ⟨n3, h3⟩ : ∃ n, Cod.num (Cod.takeQ ⟨l, 0⟩ 3) = n := ⟨_, rfl⟩
  obtain ⟨st, hst⟩ : ∃ s, Cod.takeS ⟨l, 0⟩ 3 = s := ⟨_, rfl⟩
  obtain ⟨q, hq⟩ : ∃ q, Cod.rowQ st 100 1 = q := ⟨_, rfl⟩
  obtain ⟨su, hsu⟩ : ∃ s, Cod.rowS st 100 1 = s := ⟨_, rfl⟩
  have H8 := Lib.hid h8
  have H3 := Lib.hid h3
  have HST := Lib.hid hst
  have HQ := Lib.hid hq
  have HSU := Lib.hid hsu
  clear h8 h3 hst hq hsu
  have H0 := Lib.hid (show W (Cod.num (Cod.takeQ ⟨l, 0⟩ 0)) = 0 by simp [Cod.takeQ, Cod.num, W])
  go_enter Try.func6, Try.ntmps6
  go_wp2_with fail
  refine (copy_any a l c w HA.out (by omega)).mono ?_
  rintro e w1 ⟨v, rfl, hown, hb1⟩
  obtain ⟨ax, cx, rfl, hBx, hcx⟩ := hown.shape
  have P1 := Lib.hid (Spoil.of hown)
  have s1 := hb1.size
  clear hown
  go_wp2_with fail
  refine (new_any ax l cx w1 hBx (by omega)).mono ?_
  rintro e w2 ⟨gr, rfl, hgr, hR, hb2⟩
  have P2 := Lib.hid (P1.out.under hb2)
  have X2 := Lib.hid (then_below hb1 hb2)
  have Y2 := Lib.hid hb2
  have R2 := Lib.hid hR
  have s2 := hb2.size
  have lr := hR.lt
  clear hR hb2 P1 hb1 hBx
  go_wp2_with fail
  refine (new_any a l c w2 (HA.out.under X2.out) (by omega)).mono ?_
  rintro e w3 ⟨gs, rfl, hgs, hS, hb3⟩
  have X3 := Lib.hid (then_below X2.out hb3)
  have R3 := Lib.hid (R2.out.under hb3)
  have S3 := Lib.hid (hS.low s2)
  have P3 := Lib.hid (show Spoil w.heap.size w1.heap.size l.length ax w3 by
    rcases P2.out with h | ⟨g, cs, rfl, h1, h2, hr, h3⟩
    · exact .inl h
    · exact .inr ⟨g, cs, rfl, h1, h2, hr.under hb3 (by omega), h3⟩)
  have s3 := hb3.size
  have ls := hS.lt
  clear hS hb3 P2 X2 Y2 R2
  go_wp2
  go_loopw [8] (fun i wr => ∃ k : Nat, k ≤ l.length ∧ i = .int .i64 k ∧ Spoil w.heap.size w1.heap.size l.length ax wr ∧ Rd w1.heap.size wr gr ⟨l, 0⟩ ∧ Rd w1.heap.size wr gs ⟨l, 0⟩ ∧ Below w.heap.size w wr) (fun i _ => l.length - (intOf i).toNat)
  case atStart => exact ⟨0, by omega, rfl, P3.out, R3.out, S3.out, X3.out⟩
  case round =>
    obtain ⟨k, hk, rfl, hP, hR, hS, hX⟩ := hrel
    by_cases hlt : k < l.length
    · rcases hP with h | ⟨g, cs, rfl, hg1, hg2, hr, hcs⟩
      · omega
      · have hc := hr.cell k
        rw [Array.getElem?_eq_getElem (by omega)] at hc
        have hf := hr.thaw k
        have hG := grown_put' (World.grownBy.refl wr (some g)) k (.int .u8 77)
        have HR := Lib.hid (hR.away hG hg2 (by omega))
        have HS := Lib.hid (hS.away hG hg2 (by omega))
        have HP := Lib.hid (show Spoil w.heap.size w1.heap.size l.length (some ⟨g, 0, none⟩) (wr.setCell ⟨g, k, none⟩ (.int .u8 77)) from .inr ⟨g, _, rfl, hg1, hg2, hr.put k _, by simpa using hcs⟩)
        have HX := Lib.hid (hX.setCell (p := ⟨g, k, none⟩) hg1 (.int .u8 77))
        generalize cs[k]'_ = old at *
        clear hR hS hr hX hG P3 R3 S3
        go_wp2
        go_roundw
        case rel => exact ⟨k + 1, by omega, by go_num, HP.out, HR.out, HS.out, HX.out⟩
        case measure => simp [intOf]; omega
    · have HR := Lib.hid hR
      have HS := Lib.hid hS
      have HX := Lib.hid hX
      have lrr := hR.lt
      have lss := hS.lt
      have hle : (l.length : Int) ≤ (k : Int) := by omega
      clear hR hS hX hP P3 R3 S3 X3
      go_wp2_with fail
      refine (new_any a l c _ (HA.out.under HX.out) (by omega)).mono ?_
      rintro e w4 ⟨gn, rfl, hgn, hN, hb4⟩
      have X4 := Lib.hid (then_below HX.out hb4)
      have R4 := Lib.hid (HR.out.under hb4)
      have S4 := Lib.hid (HS.out.under hb4)
      have N4 := Lib.hid hN
      have s4 := hb4.size
      have sx := HX.out.size
      have ln := hN.lt
      clear hN hb4 HX HR HS
      go_wp2_with fail
      refine (num_st gn _ _ _ (8 + m) 8 HC8.out w4 N4.out rfl rfl).mono ?_
      rintro e w5 ⟨rfl, _, hG⟩
      have X5 := Lib.hid (grown_below X4.out hG X4.out.size (by omega))
      have R5 := Lib.hid (R4.out.beside N4.out hG (by omega))
      have S5 := Lib.hid (S4.out.beside N4.out hG (by omega))
      clear hG X4 R4 S4 N4
      rw [H8.out]
      go_wp2_with fail
      refine (num_st gr _ st _ 3 3 rfl w5 R5.out rfl HST.out).mono ?_
      rintro e w6 ⟨rfl, hR, hG⟩
      rw [H3.out]
      have X6 := Lib.hid (grown_below X5.out hG X5.out.size (by omega))
      have S6 := Lib.hid (S5.out.beside R5.out hG (by omega))
      have R6 := Lib.hid hR
      clear hR hG X5 R5 S5
      go_wp2_with fail
      refine (num_st gs _ st _ 3 3 rfl w6 S6.out rfl HST.out).mono ?_
      rintro e w7 ⟨rfl, hS, hG⟩
      rw [H3.out]
      have X7 := Lib.hid (grown_below X6.out hG X6.out.size (by omega))
      have R7 := Lib.hid (R6.out.beside S6.out hG (by omega))
      have S7 := Lib.hid hS
      clear hS hG X6 R6 S6
      go_wp2_with fail
      refine (rText_at gr st su q 100 w7 R7.out (by omega) HQ.out HSU.out).mono ?_
      rintro e w8 ⟨rfl, hR, hG⟩
      have X8 := Lib.hid (grown_below X7.out hG X7.out.size (by omega))
      have S8 := Lib.hid (S7.out.beside R7.out hG (by omega))
      have R8 := Lib.hid hR
      clear hR hG X7 R7 S7
      go_wp2_with fail
      refine (rText_at gs st su q 100 w8 S8.out (by omega) HQ.out HSU.out).mono ?_
      rintro e w9 ⟨rfl, hS, hG⟩
      have X9 := Lib.hid (grown_below X8.out hG X8.out.size (by omega))
      have R9 := Lib.hid (R8.out.beside S8.out hG (by omega))
      have S9 := Lib.hid hS
      clear hS hG X8 R8 S8
      go_wp2_with fail
      refine (failed_any gr su w9 R9.out).mono ?_
      rintro e w10 ⟨rfl, rfl⟩
      go_wp2_with fail
      refine (failed_any gs su w9 S9.out).mono ?_
      rintro e w10 ⟨rfl, rfl⟩
      clear R9 S9
      go_wp2_with fail
      refine (new_any a l c w9 (HA.out.under X9.out) (by omega)).mono ?_
      rintro e w10 ⟨g1, rfl, hg1, hN, hb10⟩
      have X10 := Lib.hid (then_below X9.out hb10)
      have N10 := Lib.hid hN
      have s9 := X9.out.size
      clear hN hb10 X9
      go_wp2_with fail
      refine (num_st g1 _ _ _ 8 8 rfl w10 N10.out rfl rfl).mono ?_
      rintro e w11 ⟨rfl, _, hG⟩
      rw [H8.out]
      have X11 := Lib.hid (grown_below X10.out hG X10.out.size (by omega))
      clear hG N10 X10
      go_wp2_with fail
      refine (new_any a l c w11 (HA.out.under X11.out) (by omega)).mono ?_
      rintro e w12 ⟨g2, rfl, hg2, hN, hb12⟩
      have X12 := Lib.hid (then_below X11.out hb12)
      have N12 := Lib.hid hN
      have s11 := X11.out.size
      clear hN hb12 X11
      go_wp2_with fail
      refine (num_st g2 _ _ _ (-m) 0 HC0.out w12 N12.out rfl rfl).mono ?_
      rintro e w13 ⟨rfl, _, hG⟩
      rw [H0.out]
      have X13 := Lib.hid (grown_below X12.out hG X12.out.size (by omega))
      clear hG N12 X12
      go_wp2_with fail
      refine (known_any _).mono ?_
      rintro e w18 ⟨rfl, hb18⟩
      go_wp2
      go_ret
      exact ⟨rfl, then_below X13.out hb18⟩

theorem cown_walk (a : Option Addr) (l : List (BitVec 8)) (c : Nat) (m : Int) (w : World) (hB : Bytes w a l) (wm : (Lit.int .u8 m).wf = true) :
    Calls Try.prog 6 #[.slice a l.length c, .int .u8 m] w fun e w' => e = .returned (.bool true) ∧ Below w.heap.size w w' := by
  obtain ⟨y, rfl⟩ := B_of m wm
  by_cases h : 500 < l.length
  · exact cown_big a l.length c _ w h
  · exact cown_small a l c _ w hB (by omega) (B_ge y) (B_lt y)
end Go.Proofs.Ytejmcplikhglbaa
