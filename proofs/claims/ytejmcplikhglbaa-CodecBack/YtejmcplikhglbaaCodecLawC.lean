/- Walk of the law CodecLong. -/
import Derived.Test.YtejmcplikhglbaaCodecG
import Derived.Test.YtejmcplikhglbaaCodecMath2
namespace Go.Proofs.Ytejmcplikhglbaa
open Go.RowKit
attribute [local go_sem] str_size

theorem Reads.off {α : Type} {f : α → Value} {w w' : World} {a : Option Addr} {l : List α} {k : Nat} (h : Reads f w a l) (hg : w.grownBy w' (some k)) (hk : ∀ ad, a = some ad → k ≠ ad.block) : Reads f w' a l := by
  rcases h with h | ⟨b, o, rfl, h⟩
  · exact .inl h
  · refine .inr ⟨b, o, rfl, fun i y hy => ?_⟩
    have hc := h i y hy
    rw [World.cell?_of_block (a := ⟨b, o + i, none⟩) (hg.block b (block_lt_of_cell hc) (by intro e; injection e with e; exact hk _ rfl e.symm))]
    exact hc
theorem ints_at (a : Option Addr) (l : List (BitVec 64)) (n c : Nat) (hn : l.length = n) (w : World) (hN : Nums w a l) (hl : l.length ≤ 100000000) :
    Calls Try.prog 14 #[.slice a n c] w fun e w' => ∃ g, e = .returned (.slice (some ⟨g, 0, none⟩) (Cod.ints l).length (Cod.ints l).length) ∧ w.heap.size ≤ g ∧ Row w' g 5 (cells (Cod.ints l)).toArray ∧ Below w.heap.size w w' := by
  subst hn
  rw [show (Cod.ints l).length = 4 + l.length * 8 by rw [Cod.ints_length]; omega]
  exact ints_any a l c w hN hl
theorem text_at (l : List (BitVec 8)) (w : World) (hl : l.length ≤ 100000000) :
    Calls Try.prog 16 #[.string (str l)] w fun e w' => ∃ g, e = .returned (.slice (some ⟨g, 0, none⟩) (Cod.text l).length (Cod.text l).length) ∧ w.heap.size ≤ g ∧ Row w' g 5 (cells (Cod.text l)).toArray ∧ Below w.heap.size w w' := by
  rw [Cod.text_length]
  exact text_any l w hl
/-- A reader's call, its states named. -/
theorem rText_at {K : Nat} (g : Nat) (s s' : Cod.St) (q : List (BitVec 8)) (z : Int) (w : World) (h : Rd K w g s) (hz : z ≤ 9223372036854775807) (hq : Cod.rowQ s z 1 = q) (hs : Cod.rowS s z 1 = s') :
    Calls Try.prog 20 #[.pointer (some ⟨g, 0, none⟩), .int .i64 z] w fun e w' => e = .returned (.string (str q)) ∧ Rd K w' g s' ∧ w.grownBy w' (some g) := by
  subst hq
  subst hs
  exact rText_any g s z w h hz
theorem rInts_at {K : Nat} (g : Nat) (s s' : Cod.St) (q : List (BitVec 64)) (n : Nat) (z : Int) (w : World) (h : Rd K w g s) (hz : z ≤ 9223372036854775807) (hq : Cod.row (Cod.rowQ s z 8) = q) (hn : q.length = n) (hs : Cod.rowS s z 8 = s') :
    Calls Try.prog 23 #[.pointer (some ⟨g, 0, none⟩), .int .i64 z] w fun e w' => (∃ a c, e = .returned (.slice a n c) ∧ Nums w' a q ∧ ∀ ad, a = some ad → w.heap.size ≤ ad.block) ∧ Rd K w' g s' ∧ w.grownBy w' (some g) := by
  subst hn
  subst hq
  subst hs
  exact rInts_any g s z w h hz

theorem long_big (a : Option Addr) (n c : Nat) (s : List (BitVec 8)) (m : Int) (w : World) (h : 100 < n ∨ 300 < s.length) :
    Calls Try.prog 9 #[.slice a n c, .string (str s), .int .u8 m] w fun e w' => e = .returned (.bool true) ∧ Below w.heap.size w w' := by
  by_cases h1 : 100 < n
  · have h2 : (100 : Int) < (n : Int) := by omega
    clear h
    go_enter Try.func9, Try.ntmps9
    go_wp2_with fail
    refine (known_any _).mono ?_
    rintro e w8 ⟨rfl, hb8⟩
    go_wp2
    go_ret
    exact ⟨rfl, hb8⟩
  · have h2 : (n : Int) ≤ 100 := by omega
    have hd : decide ((100 : Int) < (n : Int)) = false := decide_eq_false (by omega)
    have h3 : (300 : Int) < (s.length : Int) := by omega
    clear h
    go_enter Try.func9, Try.ntmps9
    go_wp2_with fail
    refine (known_any _).mono ?_
    rintro e w8 ⟨rfl, hb8⟩
    go_wp2
    go_ret
    exact ⟨rfl, hb8⟩

set_option maxHeartbeats 1000000 in
set_option maxRecDepth 100000 in
theorem long_small (a : Option Addr) (l : List (BitVec 64)) (c : Nat) (s : List (BitVec 8)) (m : Int) (w : World) (hN : Nums w a l) (h1 : l.length ≤ 100) (h2 : s.length ≤ 300) (m0 : 0 ≤ m) (m1 : m < 256) :
    Calls Try.prog 9 #[.slice a l.length c, .string (str s), .int .u8 m] w fun e w' => e = .returned (.bool true) ∧ Below w.heap.size w w' := by
  have HA := Lib.hid hN
  clear hN
  have hd : decide ((100 : Int) < (l.length : Int)) = false := decide_eq_false (by omega)
  have hd2 : decide ((300 : Int) < (s.length : Int)) = false := decide_eq_false (by omega)
  have HIl := Lib.hid (Cod.ints_length l)
  have HTl := Lib.hid (Cod.text_length s)
  go_enter Try.func9, Try.ntmps9
  go_wp2_with fail
  refine (ints_at a l _ c rfl w HA.out (by omega)).mono ?_
  rintro e w1 ⟨g1, rfl, hg1, hr1, hb1⟩
  go_wp2_with fail
  refine (new_at _ (Cod.ints l) _ _ w1 hr1.asBytes rfl (by have := HIl.out; omega)).mono ?_
  rintro e w2 ⟨ga, rfl, hga, hRa, hb2⟩
  have X2 := Lib.hid (then_below hb1 hb2)
  have A2 := Lib.hid hRa
  have s1 := hb1.size
  have s2 := hb2.size
  have la := hRa.lt
  clear hr1 hb1 hb2 hRa
  go_wp2_with fail
  refine (text_at s w2 (by omega)).mono ?_
  rintro e w3 ⟨g3, rfl, hg3, hr3, hb3⟩
  go_wp2_with fail
  refine (new_at _ (Cod.text s) _ _ w3 hr3.asBytes rfl (by have := HTl.out; omega)).mono ?_
  rintro e w4 ⟨gb, rfl, hgb, hRb, hb4⟩
  have X4 := Lib.hid (then_below (then_below X2.out hb3) hb4)
  have A4 := Lib.hid ((A2.out.under hb3).under hb4)
  have B4 := Lib.hid hRb
  have s3 := hb3.size
  have s4 := hb4.size
  have lb := hRb.lt
  clear hr3 hb3 hb4 hRb X2 A2
  go_wp2_with fail
  refine (ints_at a l _ c rfl w4 (HA.out.under X4.out) (by omega)).mono ?_
  rintro e w5 ⟨g5, rfl, hg5, hr5, hb5⟩
  go_wp2_with fail
  refine (new_at _ (Cod.ints l) _ _ w5 hr5.asBytes rfl (by have := HIl.out; omega)).mono ?_
  rintro e w6 ⟨gc, rfl, hgc, hRc, hb6⟩
  have X6 := Lib.hid (then_below (then_below X4.out hb5) hb6)
  have A6 := Lib.hid ((A4.out.under hb5).under hb6)
  have B6 := Lib.hid ((B4.out.under hb5).under hb6)
  have C6 := Lib.hid hRc
  have s5 := hb5.size
  have s6 := hb6.size
  have lc := hRc.lt
  clear hr5 hb5 hb6 hRc X4 A4 B4
  go_wp2_with fail
  refine (text_at s w6 (by omega)).mono ?_
  rintro e w7 ⟨g7, rfl, hg7, hr7, hb7⟩
  go_wp2_with fail
  refine (new_at _ (Cod.text s) _ _ w7 hr7.asBytes rfl (by have := HTl.out; omega)).mono ?_
  rintro e w8 ⟨gd, rfl, hgd, hRd, hb8⟩
  have X8 := Lib.hid (then_below (then_below X6.out hb7) hb8)
  have A8 := Lib.hid ((A6.out.under hb7).under hb8)
  have B8 := Lib.hid ((B6.out.under hb7).under hb8)
  have C8 := Lib.hid ((C6.out.under hb7).under hb8)
  have D8 := Lib.hid hRd
  have s7 := hb7.size
  have s8 := hb8.size
  have ld := hRd.lt
  clear hr7 hb7 hb8 hRd X6 A6 B6 C6
  go_wp2_with fail
  refine (rInts_at ga ⟨Cod.ints l, 0⟩ ⟨[], 3⟩ [] 0 _ w8 A8.out (by omega) (by rw [(Cod.ints_many l _ (by omega) (by omega)).1]; rfl) rfl (Cod.ints_many l _ (by omega) (by omega)).2).mono ?_
  rintro e w9 ⟨⟨a9, c9, rfl, _, _⟩, hRa, hG⟩
  have X9 := Lib.hid (grown_below X8.out hG X8.out.size (by omega))
  have A9 := Lib.hid hRa
  have B9 := Lib.hid (B8.out.beside A8.out hG (by omega))
  have C9 := Lib.hid (C8.out.beside A8.out hG (by omega))
  have D9 := Lib.hid (D8.out.beside A8.out hG (by omega))
  have s9 := hG.size
  clear hRa hG X8 A8 B8 C8 D8
  go_wp2_with fail
  refine (rText_at gb ⟨Cod.text s, 0⟩ ⟨[], 3⟩ [] _ w9 B9.out (by omega) (Cod.text_many s _ (by omega) (by omega)).1 (Cod.text_many s _ (by omega) (by omega)).2).mono ?_
  rintro e w10 ⟨rfl, hRb, hG⟩
  have X10 := Lib.hid (grown_below X9.out hG X9.out.size (by omega))
  have A10 := Lib.hid (A9.out.beside B9.out hG (by omega))
  have B10 := Lib.hid hRb
  have C10 := Lib.hid (C9.out.beside B9.out hG (by omega))
  have D10 := Lib.hid (D9.out.beside B9.out hG (by omega))
  have s10 := hG.size
  clear hRb hG X9 A9 B9 C9 D9
  have HC := Lib.hid (Cod.ints_take l [] ((l.length : Int) + m) (by omega) (by omega))
  have HD := Lib.hid (Cod.text_take s [] ((s.length : Int) + m) (by omega) (by omega))
  rw [List.append_nil] at HC HD
  go_wp2_with fail
  refine (rInts_at gc ⟨Cod.ints l, 0⟩ ⟨[], 0⟩ l l.length _ w10 C10.out (by omega) (by rw [HC.out.1, Cod.row_eights]) rfl HC.out.2).mono ?_
  rintro e w11 ⟨⟨a11, c11, rfl, hN11, hat11⟩, hRc, hG⟩
  have X11 := Lib.hid (grown_below X10.out hG X10.out.size (by omega))
  have A11 := Lib.hid (A10.out.beside C10.out hG (by omega))
  have B11 := Lib.hid (B10.out.beside C10.out hG (by omega))
  have C11 := Lib.hid hRc
  have D11 := Lib.hid (D10.out.beside C10.out hG (by omega))
  have N11 := Lib.hid hN11
  have AT := Lib.hid hat11
  have s11 := hG.size
  clear hRc hG X10 A10 B10 C10 D10 hN11 hat11
  go_wp2_with fail
  refine (rText_at gd ⟨Cod.text s, 0⟩ ⟨[], 0⟩ s _ w11 D11.out (by omega) HD.out.1 HD.out.2).mono ?_
  rintro e w12 ⟨rfl, hRd, hG⟩
  have X12 := Lib.hid (grown_below X11.out hG X11.out.size (by omega))
  have A12 := Lib.hid (A11.out.beside D11.out hG (by omega))
  have B12 := Lib.hid (B11.out.beside D11.out hG (by omega))
  have C12 := Lib.hid (C11.out.beside D11.out hG (by omega))
  have D12 := Lib.hid hRd
  have N12 := Lib.hid (N11.out.off hG (fun ad e => by have := AT.out ad e; omega))
  have s12 := hG.size
  clear hRd hG X11 A11 B11 C11 D11 N11 HC HD
  go_wp2_with fail
  refine (text_at s w12 (by omega)).mono ?_
  rintro e w13 ⟨g13, rfl, hg13, hr13, hb13⟩
  have HT := HTl.out
  rw [HT]
  have HR13 := Lib.hid hr13
  clear hr13 HT
  go_wp2_with fail
  refine (new_at _ ((Cod.text s).take (3 + s.length)) _ _ w13 (HR13.out.asBytes.take _) (by rw [List.length_take, HTl.out]; omega) (by rw [List.length_take]; have := HTl.out; omega)).mono ?_
  rintro e w14 ⟨ge, rfl, hge, hRe, hb14⟩
  have X14 := Lib.hid (then_below (then_below X12.out hb13) hb14)
  have A14 := Lib.hid ((A12.out.under hb13).under hb14)
  have B14 := Lib.hid ((B12.out.under hb13).under hb14)
  have C14 := Lib.hid ((C12.out.under hb13).under hb14)
  have D14 := Lib.hid ((D12.out.under hb13).under hb14)
  have Z14 := Lib.hid (then_below hb13 hb14)
  have E14 := Lib.hid hRe
  have s13 := hb13.size
  have s14 := hb14.size
  have le := hRe.lt
  clear HR13 hb13 hb14 hRe X12 A12 B12 C12 D12
  go_wp2_with fail
  refine (rText_at ge _ ⟨[], 10⟩ _ 1000 w14 E14.out (by omega) rfl (Cod.text_cut s _ 1000 (by omega) (by omega) (by rw [HTl.out]; omega))).mono ?_
  rintro e w15 ⟨rfl, hRe, hG⟩
  have X15 := Lib.hid (grown_below X14.out hG X14.out.size (by omega))
  have A15 := Lib.hid (A14.out.beside E14.out hG (by omega))
  have B15 := Lib.hid (B14.out.beside E14.out hG (by omega))
  have C15 := Lib.hid (C14.out.beside E14.out hG (by omega))
  have D15 := Lib.hid (D14.out.beside E14.out hG (by omega))
  have E15 := Lib.hid hRe
  have N15 := Lib.hid (N12.out.under (grown_below Z14.out hG Z14.out.size (by omega)))
  clear hRe hG X14 A14 B14 C14 D14 E14 N12 Z14
  rw [show str [] = ⟨#[]⟩ from rfl]
  generalize str (Cod.rowQ _ 1000 1) = junk
  go_wp2_with fail
  refine (failed_any ga _ w15 A15.out).mono ?_
  rintro e w16 ⟨rfl, rfl⟩
  go_wp2_with fail
  refine (failed_any gb _ w15 B15.out).mono ?_
  rintro e w16 ⟨rfl, rfl⟩
  go_wp2_with fail
  refine (sameInts_any a11 a l c11 c w15 N15.out (HA.out.under X15.out) (by omega)).mono ?_
  rintro e w16 ⟨rfl, hb16⟩
  have X16 := Lib.hid (then_below X15.out hb16)
  have C16 := Lib.hid (C15.out.under hb16)
  have D16 := Lib.hid (D15.out.under hb16)
  have E16 := Lib.hid (E15.out.under hb16)
  clear X15 A15 B15 C15 D15 E15 N15 hb16
  go_wp2_with fail
  refine (end_any gc _ w16 C16.out).mono ?_
  rintro e w17 ⟨rfl, rfl⟩
  rw [show Cod.endE ⟨[], 0⟩ = 0 from rfl]
  go_wp2_with fail
  refine (end_any gd _ w16 D16.out).mono ?_
  rintro e w17 ⟨rfl, rfl⟩
  rw [show Cod.endE ⟨[], 0⟩ = 0 from rfl]
  go_wp2_with fail
  refine (failed_any ge _ w16 E16.out).mono ?_
  rintro e w17 ⟨rfl, rfl⟩
  go_wp2_with fail
  refine (known_any _).mono ?_
  rintro e w18 ⟨rfl, hb18⟩
  go_wp2
  go_ret
  exact ⟨rfl, then_below X16.out hb18⟩

theorem long_walk (a : Option Addr) (l : List (BitVec 64)) (c : Nat) (s : List (BitVec 8)) (m : Int) (w : World) (hN : Nums w a l) (wm : (Lit.int .u8 m).wf = true) :
    Calls Try.prog 9 #[.slice a l.length c, .string (str s), .int .u8 m] w fun e w' => e = .returned (.bool true) ∧ Below w.heap.size w w' := by
  obtain ⟨y, rfl⟩ := B_of m wm
  by_cases h : 100 < l.length ∨ 300 < s.length
  · exact long_big a l.length c s _ w h
  · exact long_small a l c s _ w hN (by omega) (by omega) (B_ge y) (B_lt y)
end Go.Proofs.Ytejmcplikhglbaa
