/- Walk of the law CodecStops. -/
import Derived.Test.YtejmcplikhglbaaCodecLawE
namespace Go.Proofs.Ytejmcplikhglbaa
open Go.RowKit
attribute [local go_sem] str_size

theorem stops_big (a b : Option Addr) (n m c d : Nat) (w : World) (h : 500 < n ∨ 30 < m) :
    Calls Try.prog 8 #[.slice a n c, .slice b m d] w fun e w' => e = .returned (.bool true) ∧ Below w.heap.size w w' := by
  by_cases h1 : 500 < n
  · have h2 : (500 : Int) < (n : Int) := by omega
    clear h
    go_enter Try.func8, Try.ntmps8
    go_wp2_with fail
    refine (known_any _).mono ?_
    rintro e w8 ⟨rfl, hb8⟩
    go_wp2
    go_ret
    exact ⟨rfl, hb8⟩
  · have h2 : (n : Int) ≤ 500 := by omega
    have hd : decide ((500 : Int) < (n : Int)) = false := decide_eq_false (by omega)
    have h3 : (30 : Int) < (m : Int) := by omega
    clear h
    go_enter Try.func8, Try.ntmps8
    go_wp2_with fail
    refine (known_any _).mono ?_
    rintro e w8 ⟨rfl, hb8⟩
    go_wp2
    go_ret
    exact ⟨rfl, hb8⟩

set_option maxHeartbeats 1000000 in
set_option maxRecDepth 100000 in
theorem stops_small (a b : Option Addr) (l : List (BitVec 8)) (k : List (BitVec 64)) (c d : Nat) (w : World) (hB : Bytes w a l) (hN : Nums w b k) (h1 : l.length ≤ 500) (h2 : k.length ≤ 30) :
    Calls Try.prog 8 #[.slice a l.length c, .slice b k.length d] w fun e w' => e = .returned (.bool true) ∧ Below w.heap.size w w' := by
  have HA := Lib.hid hB
  have HK := Lib.hid hN
  clear hB hN
  have hd : decide ((500 : Int) < (l.length : Int)) = false := decide_eq_false (by omega)
  have hd2 : decide ((30 : Int) < (k.length : Int)) = false := decide_eq_false (by omega)
  go_enter Try.func8, Try.ntmps8
  go_wp2_with fail
  refine (new_any a l c w HA.out (by omega)).mono ?_
  rintro e w1 ⟨g, rfl, hg, hR, hb1⟩
  have X1 := Lib.hid hb1
  have R1 := Lib.hid hR
  clear hR hb1
  go_wp2_with fail
  refine (num_st g _ _ _ 8 8 rfl w1 R1.out rfl rfl).mono ?_
  rintro e w2 ⟨rfl, hR, hG⟩
  have X2 := Lib.hid (grown_below X1.out hG X1.out.size (by omega))
  have R2 := Lib.hid hR
  clear hR hG X1 R1
  generalize W (Cod.num (Cod.takeQ _ 8)) = j1
  go_wp2_with fail
  refine (rInts_at g _ _ _ _ 2 w2 R2.out (by omega) rfl rfl rfl).mono ?_
  rintro e w3 ⟨⟨a3, c3, rfl, _, _⟩, hR, hG⟩
  have X3 := Lib.hid (grown_below X2.out hG X2.out.size (by omega))
  have R3 := Lib.hid hR
  clear hR hG X2 R2
  generalize (Cod.row (Cod.rowQ _ _ 8)).length = j2
  go_wp2_with fail
  refine (rText_at g _ _ _ 3 w3 R3.out (by omega) rfl rfl).mono ?_
  rintro e w4 ⟨rfl, hR, hG⟩
  have X4 := Lib.hid (grown_below X3.out hG X3.out.size (by omega))
  clear hG X3 R3
  generalize str (Cod.rowQ _ _ 1) = j3
  obtain ⟨s0, hs0⟩ : ∃ s, Cod.rowS (Cod.rowS (Cod.takeS ⟨l, 0⟩ 8) 2 8) 3 1 = s := ⟨_, rfl⟩
  rw [hs0] at hR
  have R4 := Lib.hid hR
  clear hs0 hR
  go_wp2_with fail
  refine (failed_any g s0 w4 R4.out).mono ?_
  rintro e w5 ⟨rfl, rfl⟩
  go_wp2
  clear hd hd2
  go_loopw [6, 7] (fun e i wr => ∃ (j : Nat) (s : Cod.St), j ≤ k.length ∧ i = .int .i64 j ∧ e = .int .i64 s.err ∧ Rd w.heap.size wr g s ∧ Below w.heap.size w wr) (fun _ i _ => k.length - (intOf i).toNat)
  case atStart => exact ⟨0, s0, by omega, rfl, rfl, R4.out, X4.out⟩
  case round =>
    obtain ⟨j, s, hj, rfl, rfl, hR, hX⟩ := hrel
    have HR := Lib.hid hR
    have HX := Lib.hid hX
    have hok := Lib.hid hR.ok
    clear hR hX X4 R4
    by_cases hlt : j < k.length
    · obtain ⟨bb, oo, rfl, hbb, hc⟩ := (HK.out).at_ (i := j) hlt
      obtain ⟨z, hz, HC⟩ : ∃ z : Int, z ≤ 9223372036854775807 ∧ Hid (w.cell? ⟨bb, oo + j, none⟩ = some (.int .i64 z)) := ⟨_, I_le (k[j]'hlt), hc⟩
      clear hc
      have hc := (HX.out.cell (p := ⟨bb, oo + j, none⟩) hbb).trans HC.out
      by_cases he : s.err = 0
      · have hbe : (s.err != 0) = false := by simp [he]
        clear he hok
        go_wp2_with fail
        refine (num_st g s _ _ z _ rfl _ HR.out rfl rfl).mono ?_
        rintro e w5 ⟨rfl, hR, hG⟩
        have X5 := Lib.hid (grown_below HX.out hG HX.out.size (by omega))
        have R5 := Lib.hid hR
        clear hR hG HX HR hc
        generalize W (Cod.num (Cod.takeQ s _)) = j4
        have hc := (X5.out.cell (p := ⟨bb, oo + j, none⟩) hbb).trans HC.out
        go_wp2_with fail
        refine (rInts_at g _ _ _ _ z w5 R5.out hz rfl rfl rfl).mono ?_
        rintro e w6 ⟨⟨a6, c6, rfl, _, _⟩, hR, hG⟩
        have X6 := Lib.hid (grown_below X5.out hG X5.out.size (by omega))
        have R6 := Lib.hid hR
        clear hR hG X5 R5 hc
        generalize (Cod.row (Cod.rowQ _ _ 8)).length = j5
        have hc := (X6.out.cell (p := ⟨bb, oo + j, none⟩) hbb).trans HC.out
        go_wp2_with fail
        refine (rText_at g _ _ _ z w6 R6.out hz rfl rfl).mono ?_
        rintro e w7 ⟨rfl, hR, hG⟩
        have X7 := Lib.hid (grown_below X6.out hG X6.out.size (by omega))
        clear hG X6 R6 hc
        generalize str (Cod.rowQ _ _ 1) = j6
        obtain ⟨s1, hs1⟩ : ∃ s', Cod.rowS (Cod.rowS (Cod.takeS s (Cod.clip z)) z 8) z 1 = s' := ⟨_, rfl⟩
        rw [hs1] at hR
        have R7 := Lib.hid hR
        clear hs1 hR
        go_wp2_with fail
        refine (failed_any g s1 w7 R7.out).mono ?_
        rintro e w8 ⟨rfl, rfl⟩
        go_wp2
        go_roundw
        case rel => exact ⟨j + 1, s1, by omega, by go_num, rfl, R7.out, X7.out⟩
        case measure => simp [intOf]; omega
      · have hbe : (s.err != 0) = true := by simpa using he
        have HE := Lib.hid he
        have H0 := Lib.hid (show ∀ n, W (Cod.num (Cod.takeQ s n)) = 0 by intro n; rw [Cod.takeQ_dead s n he]; rfl)
        have HL := Lib.hid (show s.rest.length = 0 by rw [hok.out he]; rfl)
        have HD := Lib.hid (show Cod.endE s = s.err by simp [Cod.endE, he])
        clear he hok
        go_wp2_with fail
        refine (num_st g s s _ z _ rfl _ HR.out rfl (Cod.takeS_dead s _ HE.out)).mono ?_
        rintro e w5 ⟨rfl, hR, hG⟩
        rw [H0.out]
        have X5 := Lib.hid (grown_below HX.out hG HX.out.size (by omega))
        have R5 := Lib.hid hR
        clear hR hG HX HR hc
        have hc := (X5.out.cell (p := ⟨bb, oo + j, none⟩) hbb).trans HC.out
        go_wp2_with fail
        refine (rInts_at g s s [] 0 z w5 R5.out hz (by rw [Cod.rowQ_dead s _ _ HE.out]; rfl) rfl (Cod.rowS_dead s _ _ HE.out)).mono ?_
        rintro e w6 ⟨⟨a6, c6, rfl, _, _⟩, hR, hG⟩
        have X6 := Lib.hid (grown_below X5.out hG X5.out.size (by omega))
        have R6 := Lib.hid hR
        clear hR hG X5 R5 hc
        have hc := (X6.out.cell (p := ⟨bb, oo + j, none⟩) hbb).trans HC.out
        go_wp2_with fail
        refine (rText_at g s s [] z w6 R6.out hz (Cod.rowQ_dead s _ _ HE.out) (Cod.rowS_dead s _ _ HE.out)).mono ?_
        rintro e w7 ⟨rfl, hR, hG⟩
        have X7 := Lib.hid (grown_below X6.out hG X6.out.size (by omega))
        have R7 := Lib.hid hR
        clear hG X6 R6 hc hR
        rw [show str [] = ⟨#[]⟩ from rfl]
        go_wp2_with fail
        refine (failed_any g s w7 R7.out).mono ?_
        rintro e w8 ⟨rfl, rfl⟩
        go_wp2_with fail
        refine (left_any g s w7 R7.out).mono ?_
        rintro e w8 ⟨rfl, rfl⟩
        rw [HL.out]
        go_wp2_with fail
        refine (end_any g s w7 R7.out).mono ?_
        rintro e w8 ⟨rfl, rfl⟩
        rw [HD.out]
        go_wp2_with fail
        refine (failed_any g s w7 R7.out).mono ?_
        rintro e w8 ⟨rfl, rfl⟩
        go_wp2
        go_roundw
        case rel => exact ⟨j + 1, s, by omega, by go_num, rfl, R7.out, X7.out⟩
        case measure => simp [intOf]; omega
    · have hge : (k.length : Int) ≤ (j : Int) := by omega
      go_wp2_with fail
      refine (known_any _).mono ?_
      rintro e w18 ⟨rfl, hb18⟩
      go_wp2
      go_ret
      exact ⟨rfl, then_below HX.out hb18⟩

theorem stops_walk (a b : Option Addr) (l : List (BitVec 8)) (k : List (BitVec 64)) (c d : Nat) (w : World) (hB : Bytes w a l) (hN : Nums w b k) :
    Calls Try.prog 8 #[.slice a l.length c, .slice b k.length d] w fun e w' => e = .returned (.bool true) ∧ Below w.heap.size w w' := by
  by_cases h : 500 < l.length ∨ 30 < k.length
  · exact stops_big a b l.length k.length c d w h
  · exact stops_small a b l k c d w hB hN (by omega) (by omega)
end Go.Proofs.Ytejmcplikhglbaa
