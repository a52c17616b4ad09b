/- Walk of the law CodecTakes. -/
import Derived.Test.YtejmcplikhglbaaCodecK
import Derived.Test.YtejmcplikhglbaaRegions
namespace Go.Proofs.Ytejmcplikhglbaa
open Go.RowKit
attribute [local go_sem] str_size

theorem takes_big (a b : Option Addr) (n m c d : Nat) (w : World) (h : 1000 < n ∨ 50 < m) :
    Calls Try.prog 4 #[.slice a n c, .slice b m d] w fun e w' => e = .returned (.bool true) ∧ Below w.heap.size w w' := by
  by_cases h1 : 1000 < n
  · have h2 : (1000 : Int) < (n : Int) := by omega
    clear h
    go_enter Try.func4, Try.ntmps4
    go_wp2_with fail
    refine (known_any _).mono ?_
    rintro e w8 ⟨rfl, hb8⟩
    go_wp2
    go_ret
    exact ⟨rfl, hb8⟩
  · have h2 : (n : Int) ≤ 1000 := by omega
    have hd : decide ((1000 : Int) < (n : Int)) = false := decide_eq_false (by omega)
    have h3 : (50 : Int) < (m : Int) := by omega
    clear h
    go_enter Try.func4, Try.ntmps4
    go_wp2_with fail
    refine (known_any _).mono ?_
    rintro e w8 ⟨rfl, hb8⟩
    go_wp2
    go_ret
    exact ⟨rfl, hb8⟩

/-- What the loop keeps: both readers are in the state s. -/
def Both (w : World) (g t : Nat) (s : Cod.St) (wr : World) : Prop :=
  Rd w.heap.size wr g s ∧ (∃ a c, Row wr t 35 #[.slice a s.rest.length c, .int .i64 s.err] ∧ Tv w (.agg #[.slice a s.rest.length c, .int .i64 s.err]) s) ∧ Below w.heap.size w wr

/-- A reader stays as it is where a struct of a slice and a number is written. -/
theorem Rd.aside {K : Nat} {w w' : World} {g k : Nat} {s : Cod.St} {ty : TypeId} {x : Option Addr} {n c : Nat} {e : Int} (h : Rd K w g s) (h' : Row w k ty #[.slice x n c, .int .i64 e]) (hg : w.grownBy w' (some k)) (hkg : k ≠ g) : Rd K w' g s := by
  have hl := h.lt
  have hne : some g ≠ some k := by intro e; injection e with e; exact hkg e.symm
  rcases h with ⟨h0, b, o, c, hK, hr, hB, hc, hs⟩ | ⟨h0, h1, hr⟩
  · exact .inl ⟨h0, b, o, c, hK, (hg.block g hl hne).trans hr, hB.apart h' hg, hc, hs⟩
  · exact .inr ⟨h0, h1, (hg.block g hl hne).trans hr⟩

theorem rowQ_rest (s : Cod.St) (z : Int) (n : Nat) : (Cod.rowQ s z n).length ≤ s.rest.length := by
  unfold Cod.rowQ
  split
  · simp
  · split
    · simp
    · exact Nat.le_trans (takeQ_rest _ _) (takeS_rest s 4)

set_option maxHeartbeats 2000000 in
set_option maxRecDepth 100000 in
theorem takes_small (a b : Option Addr) (l : List (BitVec 8)) (k : List (BitVec 64)) (c d : Nat) (w : World) (hB : Bytes w a l) (hc : l.length ≤ c) (hN : Nums w b k) (h1 : l.length ≤ 1000) (h2 : k.length ≤ 50) :
    Calls Try.prog 4 #[.slice a l.length c, .slice b k.length d] w fun e w' => e = .returned (.bool true) ∧ Below w.heap.size w w' := by
  have HA := Lib.hid hB
  have HK := Lib.hid hN
  have HT0 := Lib.hid (show Tv w (.agg #[.slice a l.length c, .int .i64 0]) ⟨l, 0⟩ from ⟨a, c, rfl, hB, hc, by show l.length ≤ _; omega, fun h => absurd rfl h⟩)
  clear hB hN
  have hd : decide ((1000 : Int) < (l.length : Int)) = false := decide_eq_false (by omega)
  have hd2 : decide ((50 : Int) < (k.length : Int)) = false := decide_eq_false (by omega)
  go_enter Try.func4, Try.ntmps4
  go_wp2_with fail
  refine (new_any a l c w HA.out (by omega)).mono ?_
  rintro e w1 ⟨g, rfl, hg, hR, hb1⟩
  have B0 := Lib.hid (show Both w g w1.heap.size ⟨l, 0⟩ (w1.alloc (.cells #[.slice a l.length c, .int .i64 0] 35)) from ⟨hR.under ((Below.refl _ _).alloc (Nat.le_refl _) _), ⟨a, c, Row.fresh w1 _ _, HT0.out⟩, hb1.alloc hb1.size _⟩)
  have lg := hR.lt
  have s1 := hb1.size
  clear hR hb1 HT0
  go_wp2
  clear hd hd2
  obtain ⟨t, ht⟩ : ∃ t, t = w1.heap.size := ⟨_, rfl⟩
  rw [← ht] at B0 lg s1 ⊢
  have HTt := Lib.hid ht
  clear ht
  go_loopw [7] (fun i wr => ∃ (j : Nat) (s : Cod.St), j ≤ k.length ∧ i = .int .i64 j ∧ Both w g t s wr ∧ t < wr.heap.size) (fun i _ => k.length - (intOf i).toNat)
  case atStart => exact ⟨0, ⟨l, 0⟩, by omega, rfl, B0.out, by rw [HTt.out]; simp⟩
  case round =>
    obtain ⟨j, s, hj, rfl, ⟨hR, ⟨a2, c2, hrow, hT⟩, hX⟩, htl⟩ := hrel
    have HR := Lib.hid hR
    have HX := Lib.hid hX
    have HT := Lib.hid hT
    have HW := Lib.hid hrow
    have t0 : wr.cell? ⟨t, 0, none⟩ = some (.slice a2 s.rest.length c2) := hrow.cell 0
    have t1 : wr.cell? ⟨t, 1, none⟩ = some (.int .i64 s.err) := hrow.cell 1
    clear hR hX hT hrow B0
    by_cases hlt : j < k.length
    · obtain ⟨bb, oo, rfl, hbb, hc⟩ := (HK.out).at_ (i := j) hlt
      obtain ⟨z, hz, HC⟩ : ∃ z : Int, z ≤ 9223372036854775807 ∧ Hid (w.cell? ⟨bb, oo + j, none⟩ = some (.int .i64 z)) := ⟨_, I_le (k[j]'hlt), hc⟩
      clear hc
      have hc := (HX.out.cell (p := ⟨bb, oo + j, none⟩) hbb).trans HC.out
      by_cases hz6 : 1000000 ≤ z
      · obtain ⟨s', hs'⟩ : ∃ s', Cod.rowS s (z - 1000001) 1 = s' := ⟨_, rfl⟩
        obtain ⟨q, hq⟩ : ∃ q, Cod.rowQ s (z - 1000001) 1 = q := ⟨_, rfl⟩
        have H1 := ttext_any w _ s (z - 1000001) wr HT.out HX.out (by omega)
        rw [hq, hs'] at H1
        have H1 := Lib.hid H1
        have HQ := Lib.hid hq
        have HS := Lib.hid hs'
        clear hq hs'
        go_wp2_with fail
        refine H1.out.mono ?_
        rintro e w2 ⟨⟨v2, rfl, a3, c3, rfl, hT3⟩, hb2⟩
        have HT3 := Lib.hid (show Tv w (.agg #[.slice a3 s'.rest.length c3, .int .i64 s'.err]) s' from ⟨a3, c3, rfl, hT3⟩)
        have X2 := Lib.hid (then_below HX.out hb2)
        have R2 := Lib.hid (HR.out.under hb2)
        have W2 := Lib.hid (HW.out.under hb2 htl)
        have s2 := hb2.size
        clear hT3 hb2 H1 HX HR HW HT t0 t1 hc
        go_wp2_with fail
        refine (rText_at g s s' q (z - 1000001) _ (R2.out.under ((Below.refl _ _).alloc (Nat.le_refl _) _)) (by omega) HQ.out HS.out).mono ?_
        rintro e w3 ⟨rfl, hR3, hG3⟩
        have hgt : g ≠ t := by omega
        have hru : Row w3 w2.heap.size 35 #[.slice a3 s'.rest.length c3, .int .i64 s'.err] := (hG3.block w2.heap.size (by simp) (by intro e; injection e with e; omega)).trans (Row.fresh w2 _ _)
        have hrt : Row w3 t 35 #[.slice a2 s.rest.length c2, .int .i64 s.err] := (hG3.block t (by simp; omega) (by intro e; injection e with e; omega)).trans (W2.out.past _)
        have u0 : w3.cell? ⟨w2.heap.size, 0, none⟩ = some (.slice a3 s'.rest.length c3) := hru.cell 0
        have u1 : w3.cell? ⟨w2.heap.size, 1, none⟩ = some (.int .i64 s'.err) := hru.cell 1
        have t0 : w3.cell? ⟨t, 0, none⟩ = some (.slice a2 s.rest.length c2) := hrt.cell 0
        have t1 : w3.cell? ⟨t, 1, none⟩ = some (.int .i64 s.err) := hrt.cell 1
        have ft0 := hrt.thaw 0
        have ft1 := hrt.thaw 1
        have hG4 := grown_put' (grown_put' (World.grownBy.refl w3 (some t)) 0 (.slice a3 s'.rest.length c3)) 1 (.int .i64 s'.err)
        have R4 := Lib.hid (hR3.aside hrt hG4 (Ne.symm hgt))
        have W4 := Lib.hid ((hrt.put 0 (.slice a3 s'.rest.length c3)).put 1 (.int .i64 s'.err))
        rw [row2_set0, row2_set1] at W4
        have X3 := grown_below (X2.out.alloc X2.out.size _) hG3 (by have := X2.out.size; simp; omega) hg
        have X4 := Lib.hid (grown_below X3 hG4 X3.size s1)
        have s3 := hG3.size
        have htl4 : t < ((w3.setCell ⟨t, 0, none⟩ (.slice a3 s'.rest.length c3)).setCell ⟨t, 1, none⟩ (.int .i64 s'.err)).heap.size := by simp at s3 ⊢; omega
        clear hR3 hG3 hru hrt hG4 X3 X2 R2 W2
        go_wp2
        generalize (w3.setCell ⟨t, 0, none⟩ (.slice a3 s'.rest.length c3)).setCell ⟨t, 1, none⟩ (.int .i64 s'.err) = wq at *
        clear u0 u1 t0 t1 ft0 ft1
        have hc0 : ∀ W, Above wq W → W.cell? ⟨t, 0, none⟩ = some (.slice a3 s'.rest.length c3) := fun W hW => (W4.out.under hW htl4).cell 0
        have hc1 : ∀ W, Above wq W → W.cell? ⟨t, 1, none⟩ = some (.int .i64 s'.err) := fun W hW => (W4.out.under hW htl4).cell 1
        have HC0 := Lib.hid hc0
        have HC1 := Lib.hid hc1
        clear hc0 hc1
        refine region_in (Above wq) (by kernel_rfl) (by kernel_rfl) (Above.start wq) ?_
        refine in_pure (o := ⟨some 85, _, _, _, _, _⟩) rfl ?_ (fun W hW => by go_simp; with_reducible rfl) ?_
        simp only [Act.put, List.setIfInBounds_toArray, List.set_cons_zero, List.set_cons_succ]
        refine in_pure (o := ⟨some 86, _, _, _, _, _⟩) rfl ?_ (fun W hW => by go_simp; with_reducible rfl) ?_
        simp only [Act.put, List.setIfInBounds_toArray, List.set_cons_zero, List.set_cons_succ]
        refine in_pure (o := ⟨some 87, _, _, _, _, _⟩) rfl ?_ (fun W hW => by go_simp; with_reducible rfl) ?_
        simp only [Act.put, List.setIfInBounds_toArray, List.set_cons_zero, List.set_cons_succ]
        refine in_pure (o := ⟨some 88, _, _, _, _, _⟩) rfl ?_ (fun W hW => by go_simp; with_reducible rfl) ?_
        simp only [Act.put, List.setIfInBounds_toArray, List.set_cons_zero, List.set_cons_succ]
        refine in_call (o := ⟨some 89, _, _, _, _, _⟩) rfl 26 _ (.int .i64 s'.err) (fun W hW => by go_simp) (fun W hW => (failed_any g s' W (R4.out.under hW)).mono (fun e w' ⟨he, hb⟩ => ⟨he, hb ▸ hW⟩)) ?_
        simp only [Act.put, List.setIfInBounds_toArray, List.set_cons_zero, List.set_cons_succ]
        refine in_pure (o := ⟨some 90, _, _, _, _, _⟩) rfl ?_ (fun W hW => by go_simp; with_reducible rfl) ?_
        simp only [Act.put, List.setIfInBounds_toArray, List.set_cons_zero, List.set_cons_succ]
        refine in_pure (o := ⟨some 91, _, _, _, _, _⟩) rfl ?_ (fun W hW => by have h := HC1.out W hW; go_simp; with_reducible rfl) ?_
        simp only [Act.put, List.setIfInBounds_toArray, List.set_cons_zero, List.set_cons_succ]
        refine in_pure (o := ⟨some 92, _, _, _, _, _⟩) rfl ?_ (fun W hW => by go_simp; with_reducible rfl) ?_
        simp only [Act.put, List.setIfInBounds_toArray, List.set_cons_zero, List.set_cons_succ]
        refine in_pure (o := ⟨some 93, _, _, _, _, _⟩) rfl ?_ (fun W hW => by go_simp; with_reducible rfl) ?_
        simp only [Act.put, List.setIfInBounds_toArray, List.set_cons_zero, List.set_cons_succ]
        refine in_pure (o := ⟨some 94, _, _, _, _, _⟩) rfl ?_ (fun W hW => by go_simp; with_reducible rfl) ?_
        simp only [Act.put, List.setIfInBounds_toArray, List.set_cons_zero, List.set_cons_succ]
        refine in_pure (o := ⟨some 95, _, _, _, _, _⟩) rfl ?_ (fun W hW => by go_simp; with_reducible rfl) ?_
        simp only [Act.put, List.setIfInBounds_toArray, List.set_cons_zero, List.set_cons_succ]
        refine in_call (o := ⟨some 96, _, _, _, _, _⟩) rfl 27 _ (.int .i64 s'.rest.length) (fun W hW => by go_simp) (fun W hW => (left_any g s' W (R4.out.under hW)).mono (fun e w' ⟨he, hb⟩ => ⟨he, hb ▸ hW⟩)) ?_
        simp only [Act.put, List.setIfInBounds_toArray, List.set_cons_zero, List.set_cons_succ]
        refine in_pure (o := ⟨some 97, _, _, _, _, _⟩) rfl ?_ (fun W hW => by go_simp; with_reducible rfl) ?_
        simp only [Act.put, List.setIfInBounds_toArray, List.set_cons_zero, List.set_cons_succ]
        refine in_pure (o := ⟨some 98, _, _, _, _, _⟩) rfl ?_ (fun W hW => by have h := HC0.out W hW; go_simp; with_reducible rfl) ?_
        simp only [Act.put, List.setIfInBounds_toArray, List.set_cons_zero, List.set_cons_succ]
        refine in_pure (o := ⟨some 99, _, _, _, _, _⟩) rfl ?_ (fun W hW => by go_simp; with_reducible rfl) ?_
        simp only [Act.put, List.setIfInBounds_toArray, List.set_cons_zero, List.set_cons_succ]
        refine in_pure (o := ⟨some 100, _, _, _, _, _⟩) rfl ?_ (fun W hW => by go_simp; with_reducible rfl) ?_
        simp only [Act.put, List.setIfInBounds_toArray, List.set_cons_zero, List.set_cons_succ]
        refine in_pure (o := ⟨some 101, _, _, _, _, _⟩) rfl ?_ (fun W hW => by go_simp; with_reducible rfl) ?_
        simp only [Act.put, List.setIfInBounds_toArray, List.set_cons_zero, List.set_cons_succ]
        refine in_pure (o := ⟨some 102, _, _, _, _, _⟩) rfl ?_ (fun W hW => by go_simp; with_reducible rfl) ?_
        simp only [Act.put, List.setIfInBounds_toArray, List.set_cons_zero, List.set_cons_succ]
        refine in_pure (o := ⟨some 103, _, _, _, _, _⟩) rfl ?_ (fun W hW => by go_simp; with_reducible rfl) ?_
        simp only [Act.put, List.setIfInBounds_toArray, List.set_cons_zero, List.set_cons_succ]
        refine in_call (o := ⟨some 104, _, _, _, _, _⟩) rfl 28 _ (.int .i64 (Cod.endE s')) (fun W hW => by go_simp) (fun W hW => (end_any g s' W (R4.out.under hW)).mono (fun e w' ⟨he, hb⟩ => ⟨he, hb ▸ hW⟩)) ?_
        simp only [Act.put, List.setIfInBounds_toArray, List.set_cons_zero, List.set_cons_succ]
        refine in_pure (o := ⟨some 105, _, _, _, _, _⟩) rfl ?_ (fun W hW => by have h := HC0.out W hW; have h2 := HC1.out W hW; go_simp; with_reducible rfl) ?_
        simp only [Act.put, List.setIfInBounds_toArray, List.set_cons_zero, List.set_cons_succ]
        refine in_call (o := ⟨some 106, _, _, _, _, _⟩) rfl 29 _ (.int .i64 (Cod.endE s')) (fun W hW => by go_simp) (fun W hW => (rend_any w _ s' W HT3.out).mono (fun e w' ⟨he, hb⟩ => ⟨he, Above.call hW hb⟩)) ?_
        simp only [Act.put, List.setIfInBounds_toArray, List.set_cons_zero, List.set_cons_succ]
        refine in_pure (o := ⟨some 107, _, _, _, _, _⟩) rfl ?_ (fun W hW => by go_simp; with_reducible rfl) ?_
        simp only [Act.put, List.setIfInBounds_toArray, List.set_cons_zero, List.set_cons_succ]
        refine in_pure (o := ⟨some 108, _, _, _, _, _⟩) rfl ?_ (fun W hW => by go_simp; with_reducible rfl) ?_
        simp only [Act.put, List.setIfInBounds_toArray, List.set_cons_zero, List.set_cons_succ]
        refine wpQuiet_nil fun w5 hb5 => ?_
        have hs5 := hb5.size
        have R5 := Lib.hid (R4.out.under hb5)
        have W5 := Lib.hid (W4.out.under hb5 htl4)
        have X5 := Lib.hid (X4.out.trans (Below.mono hb5 X4.out.size))
        go_wp2
        go_roundw
        case rel => exact ⟨j + 1, s', by omega, by go_num, ⟨R5.out, ⟨a3, c3, W5.out, HT3.out⟩, X5.out⟩, by omega⟩
        case measure => simp [intOf]; omega
      · by_cases hz3 : 1000 ≤ z
        · obtain ⟨s', hs'⟩ : ∃ s', Cod.rowS s (z - 1001) 8 = s' := ⟨_, rfl⟩
          obtain ⟨q, hq⟩ : ∃ q, Cod.row (Cod.rowQ s (z - 1001) 8) = q := ⟨_, rfl⟩
          have H1 := tints_any w _ s (z - 1001) wr HT.out HX.out (by omega)
          rw [hq, hs'] at H1
          have H1 := Lib.hid H1
          have HQ := Lib.hid hq
          have HS := Lib.hid hs'
          have hql : q.length ≤ 1000000000 := by
            rw [← hq, Cod.row_length]
            have h3 : (Cod.rowQ s (z - 1001) 8).length ≤ s.rest.length := rowQ_rest s _ _
            have := HR.out.small
            omega
          clear hq hs'
          go_wp2_with fail
          refine H1.out.mono ?_
          rintro e w2 ⟨⟨v2, a4, c4, rfl, ⟨a3, c3, rfl, hT3⟩, hN4, hat4⟩, hb2⟩
          have HT3 := Lib.hid (show Tv w (.agg #[.slice a3 s'.rest.length c3, .int .i64 s'.err]) s' from ⟨a3, c3, rfl, hT3⟩)
          have X2 := Lib.hid (then_below HX.out hb2)
          have R2 := Lib.hid (HR.out.under hb2)
          have W2 := Lib.hid (HW.out.under hb2 htl)
          have N2 := Lib.hid hN4
          have AT := Lib.hid hat4
          have s2 := hb2.size
          clear hT3 hb2 H1 HX HR HW HT t0 t1 hc hN4 hat4
          go_wp2_with fail
          refine (rInts_at g s s' q q.length (z - 1001) _ (R2.out.under ((Below.refl _ _).alloc (Nat.le_refl _) _)) (by omega) HQ.out rfl HS.out).mono ?_
          rintro e w3' ⟨⟨a5, c5, rfl, hN5, _⟩, hR3', hG3'⟩
          have N5 := Lib.hid hN5
          have R3' := Lib.hid hR3'
          have G3' := Lib.hid hG3'
          have N3 := Lib.hid ((N2.out.under ((Below.refl _ _).alloc (Nat.le_refl _) _)).off hG3' (fun ad e => by have := AT.out ad e; omega))
          clear hN5 hR3' hG3' N2
          go_wp2_with fail
          refine (sameInts_any a5 a4 q c5 c4 w3' N5.out N3.out hql).mono ?_
          rintro e w3 ⟨rfl, hb3⟩
          have hG3 := grown_then G3'.out hb3
          have hR3 := R3'.out.under hb3
          clear N5 N3 G3' R3' hb3
          have hgt : g ≠ t := by omega
          have hru : Row w3 w2.heap.size 35 #[.slice a3 s'.rest.length c3, .int .i64 s'.err] := (hG3.block w2.heap.size (by simp) (by intro e; injection e with e; omega)).trans (Row.fresh w2 _ _)
          have hrt : Row w3 t 35 #[.slice a2 s.rest.length c2, .int .i64 s.err] := (hG3.block t (by simp; omega) (by intro e; injection e with e; omega)).trans (W2.out.past _)
          have u0 : w3.cell? ⟨w2.heap.size, 0, none⟩ = some (.slice a3 s'.rest.length c3) := hru.cell 0
          have u1 : w3.cell? ⟨w2.heap.size, 1, none⟩ = some (.int .i64 s'.err) := hru.cell 1
          have t0 : w3.cell? ⟨t, 0, none⟩ = some (.slice a2 s.rest.length c2) := hrt.cell 0
          have t1 : w3.cell? ⟨t, 1, none⟩ = some (.int .i64 s.err) := hrt.cell 1
          have ft0 := hrt.thaw 0
          have ft1 := hrt.thaw 1
          have hG4 := grown_put' (grown_put' (World.grownBy.refl w3 (some t)) 0 (.slice a3 s'.rest.length c3)) 1 (.int .i64 s'.err)
          have R4 := Lib.hid (hR3.aside hrt hG4 (Ne.symm hgt))
          have W4 := Lib.hid ((hrt.put 0 (.slice a3 s'.rest.length c3)).put 1 (.int .i64 s'.err))
          rw [row2_set0, row2_set1] at W4
          have X3 := grown_below (X2.out.alloc X2.out.size _) hG3 (by have := X2.out.size; simp; omega) hg
          have X4 := Lib.hid (grown_below X3 hG4 X3.size s1)
          have s3 := hG3.size
          have htl4 : t < ((w3.setCell ⟨t, 0, none⟩ (.slice a3 s'.rest.length c3)).setCell ⟨t, 1, none⟩ (.int .i64 s'.err)).heap.size := by simp at s3 ⊢; omega
          clear hR3 hG3 hru hrt hG4 X3 X2 R2 W2
          go_wp2
          generalize (w3.setCell ⟨t, 0, none⟩ (.slice a3 s'.rest.length c3)).setCell ⟨t, 1, none⟩ (.int .i64 s'.err) = wq at *
          clear u0 u1 t0 t1 ft0 ft1
          have hc0 : ∀ W, Above wq W → W.cell? ⟨t, 0, none⟩ = some (.slice a3 s'.rest.length c3) := fun W hW => (W4.out.under hW htl4).cell 0
          have hc1 : ∀ W, Above wq W → W.cell? ⟨t, 1, none⟩ = some (.int .i64 s'.err) := fun W hW => (W4.out.under hW htl4).cell 1
          have HC0 := Lib.hid hc0
          have HC1 := Lib.hid hc1
          clear hc0 hc1
          refine region_in (Above wq) (by kernel_rfl) (by kernel_rfl) (Above.start wq) ?_
          refine in_pure (o := ⟨some 85, _, _, _, _, _⟩) rfl ?_ (fun W hW => by go_simp; with_reducible rfl) ?_
          simp only [Act.put, List.setIfInBounds_toArray, List.set_cons_zero, List.set_cons_succ]
          refine in_pure (o := ⟨some 86, _, _, _, _, _⟩) rfl ?_ (fun W hW => by go_simp; with_reducible rfl) ?_
          simp only [Act.put, List.setIfInBounds_toArray, List.set_cons_zero, List.set_cons_succ]
          refine in_pure (o := ⟨some 87, _, _, _, _, _⟩) rfl ?_ (fun W hW => by go_simp; with_reducible rfl) ?_
          simp only [Act.put, List.setIfInBounds_toArray, List.set_cons_zero, List.set_cons_succ]
          refine in_pure (o := ⟨some 88, _, _, _, _, _⟩) rfl ?_ (fun W hW => by go_simp; with_reducible rfl) ?_
          simp only [Act.put, List.setIfInBounds_toArray, List.set_cons_zero, List.set_cons_succ]
          refine in_call (o := ⟨some 89, _, _, _, _, _⟩) rfl 26 _ (.int .i64 s'.err) (fun W hW => by go_simp) (fun W hW => (failed_any g s' W (R4.out.under hW)).mono (fun e w' ⟨he, hb⟩ => ⟨he, hb ▸ hW⟩)) ?_
          simp only [Act.put, List.setIfInBounds_toArray, List.set_cons_zero, List.set_cons_succ]
          refine in_pure (o := ⟨some 90, _, _, _, _, _⟩) rfl ?_ (fun W hW => by go_simp; with_reducible rfl) ?_
          simp only [Act.put, List.setIfInBounds_toArray, List.set_cons_zero, List.set_cons_succ]
          refine in_pure (o := ⟨some 91, _, _, _, _, _⟩) rfl ?_ (fun W hW => by have h := HC1.out W hW; go_simp; with_reducible rfl) ?_
          simp only [Act.put, List.setIfInBounds_toArray, List.set_cons_zero, List.set_cons_succ]
          refine in_pure (o := ⟨some 92, _, _, _, _, _⟩) rfl ?_ (fun W hW => by go_simp; with_reducible rfl) ?_
          simp only [Act.put, List.setIfInBounds_toArray, List.set_cons_zero, List.set_cons_succ]
          refine in_pure (o := ⟨some 93, _, _, _, _, _⟩) rfl ?_ (fun W hW => by go_simp; with_reducible rfl) ?_
          simp only [Act.put, List.setIfInBounds_toArray, List.set_cons_zero, List.set_cons_succ]
          refine in_pure (o := ⟨some 94, _, _, _, _, _⟩) rfl ?_ (fun W hW => by go_simp; with_reducible rfl) ?_
          simp only [Act.put, List.setIfInBounds_toArray, List.set_cons_zero, List.set_cons_succ]
          refine in_pure (o := ⟨some 95, _, _, _, _, _⟩) rfl ?_ (fun W hW => by go_simp; with_reducible rfl) ?_
          simp only [Act.put, List.setIfInBounds_toArray, List.set_cons_zero, List.set_cons_succ]
          refine in_call (o := ⟨some 96, _, _, _, _, _⟩) rfl 27 _ (.int .i64 s'.rest.length) (fun W hW => by go_simp) (fun W hW => (left_any g s' W (R4.out.under hW)).mono (fun e w' ⟨he, hb⟩ => ⟨he, hb ▸ hW⟩)) ?_
          simp only [Act.put, List.setIfInBounds_toArray, List.set_cons_zero, List.set_cons_succ]
          refine in_pure (o := ⟨some 97, _, _, _, _, _⟩) rfl ?_ (fun W hW => by go_simp; with_reducible rfl) ?_
          simp only [Act.put, List.setIfInBounds_toArray, List.set_cons_zero, List.set_cons_succ]
          refine in_pure (o := ⟨some 98, _, _, _, _, _⟩) rfl ?_ (fun W hW => by have h := HC0.out W hW; go_simp; with_reducible rfl) ?_
          simp only [Act.put, List.setIfInBounds_toArray, List.set_cons_zero, List.set_cons_succ]
          refine in_pure (o := ⟨some 99, _, _, _, _, _⟩) rfl ?_ (fun W hW => by go_simp; with_reducible rfl) ?_
          simp only [Act.put, List.setIfInBounds_toArray, List.set_cons_zero, List.set_cons_succ]
          refine in_pure (o := ⟨some 100, _, _, _, _, _⟩) rfl ?_ (fun W hW => by go_simp; with_reducible rfl) ?_
          simp only [Act.put, List.setIfInBounds_toArray, List.set_cons_zero, List.set_cons_succ]
          refine in_pure (o := ⟨some 101, _, _, _, _, _⟩) rfl ?_ (fun W hW => by go_simp; with_reducible rfl) ?_
          simp only [Act.put, List.setIfInBounds_toArray, List.set_cons_zero, List.set_cons_succ]
          refine in_pure (o := ⟨some 102, _, _, _, _, _⟩) rfl ?_ (fun W hW => by go_simp; with_reducible rfl) ?_
          simp only [Act.put, List.setIfInBounds_toArray, List.set_cons_zero, List.set_cons_succ]
          refine in_pure (o := ⟨some 103, _, _, _, _, _⟩) rfl ?_ (fun W hW => by go_simp; with_reducible rfl) ?_
          simp only [Act.put, List.setIfInBounds_toArray, List.set_cons_zero, List.set_cons_succ]
          refine in_call (o := ⟨some 104, _, _, _, _, _⟩) rfl 28 _ (.int .i64 (Cod.endE s')) (fun W hW => by go_simp) (fun W hW => (end_any g s' W (R4.out.under hW)).mono (fun e w' ⟨he, hb⟩ => ⟨he, hb ▸ hW⟩)) ?_
          simp only [Act.put, List.setIfInBounds_toArray, List.set_cons_zero, List.set_cons_succ]
          refine in_pure (o := ⟨some 105, _, _, _, _, _⟩) rfl ?_ (fun W hW => by have h := HC0.out W hW; have h2 := HC1.out W hW; go_simp; with_reducible rfl) ?_
          simp only [Act.put, List.setIfInBounds_toArray, List.set_cons_zero, List.set_cons_succ]
          refine in_call (o := ⟨some 106, _, _, _, _, _⟩) rfl 29 _ (.int .i64 (Cod.endE s')) (fun W hW => by go_simp) (fun W hW => (rend_any w _ s' W HT3.out).mono (fun e w' ⟨he, hb⟩ => ⟨he, Above.call hW hb⟩)) ?_
          simp only [Act.put, List.setIfInBounds_toArray, List.set_cons_zero, List.set_cons_succ]
          refine in_pure (o := ⟨some 107, _, _, _, _, _⟩) rfl ?_ (fun W hW => by go_simp; with_reducible rfl) ?_
          simp only [Act.put, List.setIfInBounds_toArray, List.set_cons_zero, List.set_cons_succ]
          refine in_pure (o := ⟨some 108, _, _, _, _, _⟩) rfl ?_ (fun W hW => by go_simp; with_reducible rfl) ?_
          simp only [Act.put, List.setIfInBounds_toArray, List.set_cons_zero, List.set_cons_succ]
          refine wpQuiet_nil fun w5 hb5 => ?_
          have hs5 := hb5.size
          have R5 := Lib.hid (R4.out.under hb5)
          have W5 := Lib.hid (W4.out.under hb5 htl4)
          have X5 := Lib.hid (X4.out.trans (Below.mono hb5 X4.out.size))
          go_wp2
          go_roundw
          case rel => exact ⟨j + 1, s', by omega, by go_num, ⟨R5.out, ⟨a3, c3, W5.out, HT3.out⟩, X5.out⟩, by omega⟩
          case measure => simp [intOf]; omega
        · obtain ⟨s', hs'⟩ : ∃ s', Cod.takeS s (Cod.clip z) = s' := ⟨_, rfl⟩
          obtain ⟨q, hq⟩ : ∃ q, Cod.takeQ s (Cod.clip z) = q := ⟨_, rfl⟩
          have H1 := rnum_any w _ s z wr HT.out HX.out
          rw [hq, hs'] at H1
          have H1 := Lib.hid H1
          have HQ := Lib.hid hq
          have HS := Lib.hid hs'
          clear hq hs'
          go_wp2_with fail
          refine H1.out.mono ?_
          rintro e w2 ⟨⟨v2, rfl, a3, c3, rfl, hT3⟩, hb2⟩
          have HT3 := Lib.hid (show Tv w (.agg #[.slice a3 s'.rest.length c3, .int .i64 s'.err]) s' from ⟨a3, c3, rfl, hT3⟩)
          have X2 := Lib.hid (then_below HX.out hb2)
          have R2 := Lib.hid (HR.out.under hb2)
          have W2 := Lib.hid (HW.out.under hb2 htl)
          have s2 := hb2.size
          clear hT3 hb2 H1 HX HR HW HT t0 t1 hc
          go_wp2_with fail
          refine (num_st g s s' q z _ rfl _ (R2.out.under ((Below.refl _ _).alloc (Nat.le_refl _) _)) HQ.out HS.out).mono ?_
          rintro e w3 ⟨rfl, hR3, hG3⟩
          have hgt : g ≠ t := by omega
          have hru : Row w3 w2.heap.size 35 #[.slice a3 s'.rest.length c3, .int .i64 s'.err] := (hG3.block w2.heap.size (by simp) (by intro e; injection e with e; omega)).trans (Row.fresh w2 _ _)
          have hrt : Row w3 t 35 #[.slice a2 s.rest.length c2, .int .i64 s.err] := (hG3.block t (by simp; omega) (by intro e; injection e with e; omega)).trans (W2.out.past _)
          have u0 : w3.cell? ⟨w2.heap.size, 0, none⟩ = some (.slice a3 s'.rest.length c3) := hru.cell 0
          have u1 : w3.cell? ⟨w2.heap.size, 1, none⟩ = some (.int .i64 s'.err) := hru.cell 1
          have t0 : w3.cell? ⟨t, 0, none⟩ = some (.slice a2 s.rest.length c2) := hrt.cell 0
          have t1 : w3.cell? ⟨t, 1, none⟩ = some (.int .i64 s.err) := hrt.cell 1
          have ft0 := hrt.thaw 0
          have ft1 := hrt.thaw 1
          have hG4 := grown_put' (grown_put' (World.grownBy.refl w3 (some t)) 0 (.slice a3 s'.rest.length c3)) 1 (.int .i64 s'.err)
          have R4 := Lib.hid (hR3.aside hrt hG4 (Ne.symm hgt))
          have W4 := Lib.hid ((hrt.put 0 (.slice a3 s'.rest.length c3)).put 1 (.int .i64 s'.err))
          rw [row2_set0, row2_set1] at W4
          have X3 := grown_below (X2.out.alloc X2.out.size _) hG3 (by have := X2.out.size; simp; omega) hg
          have X4 := Lib.hid (grown_below X3 hG4 X3.size s1)
          have s3 := hG3.size
          have htl4 : t < ((w3.setCell ⟨t, 0, none⟩ (.slice a3 s'.rest.length c3)).setCell ⟨t, 1, none⟩ (.int .i64 s'.err)).heap.size := by simp at s3 ⊢; omega
          clear hR3 hG3 hru hrt hG4 X3 X2 R2 W2
          go_wp2
          generalize (w3.setCell ⟨t, 0, none⟩ (.slice a3 s'.rest.length c3)).setCell ⟨t, 1, none⟩ (.int .i64 s'.err) = wq at *
          clear u0 u1 t0 t1 ft0 ft1
          have hc0 : ∀ W, Above wq W → W.cell? ⟨t, 0, none⟩ = some (.slice a3 s'.rest.length c3) := fun W hW => (W4.out.under hW htl4).cell 0
          have hc1 : ∀ W, Above wq W → W.cell? ⟨t, 1, none⟩ = some (.int .i64 s'.err) := fun W hW => (W4.out.under hW htl4).cell 1
          have HC0 := Lib.hid hc0
          have HC1 := Lib.hid hc1
          clear hc0 hc1
          refine region_in (Above wq) (by kernel_rfl) (by kernel_rfl) (Above.start wq) ?_
          refine in_pure (o := ⟨some 85, _, _, _, _, _⟩) rfl ?_ (fun W hW => by go_simp; with_reducible rfl) ?_
          simp only [Act.put, List.setIfInBounds_toArray, List.set_cons_zero, List.set_cons_succ]
          refine in_pure (o := ⟨some 86, _, _, _, _, _⟩) rfl ?_ (fun W hW => by go_simp; with_reducible rfl) ?_
          simp only [Act.put, List.setIfInBounds_toArray, List.set_cons_zero, List.set_cons_succ]
          refine in_pure (o := ⟨some 87, _, _, _, _, _⟩) rfl ?_ (fun W hW => by go_simp; with_reducible rfl) ?_
          simp only [Act.put, List.setIfInBounds_toArray, List.set_cons_zero, List.set_cons_succ]
          refine in_pure (o := ⟨some 88, _, _, _, _, _⟩) rfl ?_ (fun W hW => by go_simp; with_reducible rfl) ?_
          simp only [Act.put, List.setIfInBounds_toArray, List.set_cons_zero, List.set_cons_succ]
          refine in_call (o := ⟨some 89, _, _, _, _, _⟩) rfl 26 _ (.int .i64 s'.err) (fun W hW => by go_simp) (fun W hW => (failed_any g s' W (R4.out.under hW)).mono (fun e w' ⟨he, hb⟩ => ⟨he, hb ▸ hW⟩)) ?_
          simp only [Act.put, List.setIfInBounds_toArray, List.set_cons_zero, List.set_cons_succ]
          refine in_pure (o := ⟨some 90, _, _, _, _, _⟩) rfl ?_ (fun W hW => by go_simp; with_reducible rfl) ?_
          simp only [Act.put, List.setIfInBounds_toArray, List.set_cons_zero, List.set_cons_succ]
          refine in_pure (o := ⟨some 91, _, _, _, _, _⟩) rfl ?_ (fun W hW => by have h := HC1.out W hW; go_simp; with_reducible rfl) ?_
          simp only [Act.put, List.setIfInBounds_toArray, List.set_cons_zero, List.set_cons_succ]
          refine in_pure (o := ⟨some 92, _, _, _, _, _⟩) rfl ?_ (fun W hW => by go_simp; with_reducible rfl) ?_
          simp only [Act.put, List.setIfInBounds_toArray, List.set_cons_zero, List.set_cons_succ]
          refine in_pure (o := ⟨some 93, _, _, _, _, _⟩) rfl ?_ (fun W hW => by go_simp; with_reducible rfl) ?_
          simp only [Act.put, List.setIfInBounds_toArray, List.set_cons_zero, List.set_cons_succ]
          refine in_pure (o := ⟨some 94, _, _, _, _, _⟩) rfl ?_ (fun W hW => by go_simp; with_reducible rfl) ?_
          simp only [Act.put, List.setIfInBounds_toArray, List.set_cons_zero, List.set_cons_succ]
          refine in_pure (o := ⟨some 95, _, _, _, _, _⟩) rfl ?_ (fun W hW => by go_simp; with_reducible rfl) ?_
          simp only [Act.put, List.setIfInBounds_toArray, List.set_cons_zero, List.set_cons_succ]
          refine in_call (o := ⟨some 96, _, _, _, _, _⟩) rfl 27 _ (.int .i64 s'.rest.length) (fun W hW => by go_simp) (fun W hW => (left_any g s' W (R4.out.under hW)).mono (fun e w' ⟨he, hb⟩ => ⟨he, hb ▸ hW⟩)) ?_
          simp only [Act.put, List.setIfInBounds_toArray, List.set_cons_zero, List.set_cons_succ]
          refine in_pure (o := ⟨some 97, _, _, _, _, _⟩) rfl ?_ (fun W hW => by go_simp; with_reducible rfl) ?_
          simp only [Act.put, List.setIfInBounds_toArray, List.set_cons_zero, List.set_cons_succ]
          refine in_pure (o := ⟨some 98, _, _, _, _, _⟩) rfl ?_ (fun W hW => by have h := HC0.out W hW; go_simp; with_reducible rfl) ?_
          simp only [Act.put, List.setIfInBounds_toArray, List.set_cons_zero, List.set_cons_succ]
          refine in_pure (o := ⟨some 99, _, _, _, _, _⟩) rfl ?_ (fun W hW => by go_simp; with_reducible rfl) ?_
          simp only [Act.put, List.setIfInBounds_toArray, List.set_cons_zero, List.set_cons_succ]
          refine in_pure (o := ⟨some 100, _, _, _, _, _⟩) rfl ?_ (fun W hW => by go_simp; with_reducible rfl) ?_
          simp only [Act.put, List.setIfInBounds_toArray, List.set_cons_zero, List.set_cons_succ]
          refine in_pure (o := ⟨some 101, _, _, _, _, _⟩) rfl ?_ (fun W hW => by go_simp; with_reducible rfl) ?_
          simp only [Act.put, List.setIfInBounds_toArray, List.set_cons_zero, List.set_cons_succ]
          refine in_pure (o := ⟨some 102, _, _, _, _, _⟩) rfl ?_ (fun W hW => by go_simp; with_reducible rfl) ?_
          simp only [Act.put, List.setIfInBounds_toArray, List.set_cons_zero, List.set_cons_succ]
          refine in_pure (o := ⟨some 103, _, _, _, _, _⟩) rfl ?_ (fun W hW => by go_simp; with_reducible rfl) ?_
          simp only [Act.put, List.setIfInBounds_toArray, List.set_cons_zero, List.set_cons_succ]
          refine in_call (o := ⟨some 104, _, _, _, _, _⟩) rfl 28 _ (.int .i64 (Cod.endE s')) (fun W hW => by go_simp) (fun W hW => (end_any g s' W (R4.out.under hW)).mono (fun e w' ⟨he, hb⟩ => ⟨he, hb ▸ hW⟩)) ?_
          simp only [Act.put, List.setIfInBounds_toArray, List.set_cons_zero, List.set_cons_succ]
          refine in_pure (o := ⟨some 105, _, _, _, _, _⟩) rfl ?_ (fun W hW => by have h := HC0.out W hW; have h2 := HC1.out W hW; go_simp; with_reducible rfl) ?_
          simp only [Act.put, List.setIfInBounds_toArray, List.set_cons_zero, List.set_cons_succ]
          refine in_call (o := ⟨some 106, _, _, _, _, _⟩) rfl 29 _ (.int .i64 (Cod.endE s')) (fun W hW => by go_simp) (fun W hW => (rend_any w _ s' W HT3.out).mono (fun e w' ⟨he, hb⟩ => ⟨he, Above.call hW hb⟩)) ?_
          simp only [Act.put, List.setIfInBounds_toArray, List.set_cons_zero, List.set_cons_succ]
          refine in_pure (o := ⟨some 107, _, _, _, _, _⟩) rfl ?_ (fun W hW => by go_simp; with_reducible rfl) ?_
          simp only [Act.put, List.setIfInBounds_toArray, List.set_cons_zero, List.set_cons_succ]
          refine in_pure (o := ⟨some 108, _, _, _, _, _⟩) rfl ?_ (fun W hW => by go_simp; with_reducible rfl) ?_
          simp only [Act.put, List.setIfInBounds_toArray, List.set_cons_zero, List.set_cons_succ]
          refine wpQuiet_nil fun w5 hb5 => ?_
          have hs5 := hb5.size
          have R5 := Lib.hid (R4.out.under hb5)
          have W5 := Lib.hid (W4.out.under hb5 htl4)
          have X5 := Lib.hid (X4.out.trans (Below.mono hb5 X4.out.size))
          go_wp2
          go_roundw
          case rel => exact ⟨j + 1, s', by omega, by go_num, ⟨R5.out, ⟨a3, c3, W5.out, HT3.out⟩, X5.out⟩, by omega⟩
          case measure => simp [intOf]; omega
    · have hge : (k.length : Int) ≤ (j : Int) := by omega
      go_wp2_with fail
      refine (known_any _).mono ?_
      rintro e w18 ⟨rfl, hb18⟩
      go_wp2
      go_ret
      exact ⟨rfl, then_below HX.out hb18⟩

theorem takes_walk (a b : Option Addr) (l : List (BitVec 8)) (k : List (BitVec 64)) (c d : Nat) (w : World) (hB : Bytes w a l) (hc : l.length ≤ c) (hN : Nums w b k) :
    Calls Try.prog 4 #[.slice a l.length c, .slice b k.length d] w fun e w' => e = .returned (.bool true) ∧ Below w.heap.size w w' := by
  by_cases h : 1000 < l.length ∨ 50 < k.length
  · exact takes_big a b l.length k.length c d w h
  · exact takes_small a b l k c d w hB hc hN (by omega) (by omega)
end Go.Proofs.Ytejmcplikhglbaa
