/- Walks: the document's many. -/
import Derived.Test.YtejmcplikhglbaaCodecH
namespace Go.Proofs.Ytejmcplikhglbaa
open Go.RowKit
attribute [local go_sem] W_wrap64

theorem rnum4 (w0 : World) (v : Value) (s : Cod.St) (w : World) (h : Tv w0 v s) (hb0 : Below w0.heap.size w0 w) :
    Calls Try.prog 24 #[v, .int .i64 4] w fun e' w' => (∃ v', e' = .returned (.tuple #[v', .int .u64 (W (Cod.headN s))]) ∧ Tv w0 v' (Cod.headS s)) ∧ Below w.heap.size w w' := rnum_any w0 v s 4 w h hb0

theorem many1_head (w0 : World) (v : Value) (s : Cod.St) (z : Int) (w : World) (h : Tv w0 v s) (hb0 : Below w0.heap.size w0 w) (he : (Cod.headS s).err ≠ 0) :
    Calls Try.prog 36 #[v, .int .i64 z, .int .i64 1] w fun e' w' => (∃ v', e' = .returned (.tuple #[v', .int .i64 (-1)]) ∧ Tv w0 v' (Cod.headS s)) ∧ Below w.heap.size w w' := by
  have hbe : ((Cod.headS s).err != 0) = true := by simpa using he
  obtain ⟨a, c, rfl, hB, hc0, hs0, hok⟩ := h
  have HT := Lib.hid (show Tv w0 (.agg #[.slice a s.rest.length c, .int .i64 s.err]) s from ⟨a, c, rfl, hB, hc0, hs0, hok⟩)
  have HB0 := Lib.hid hb0
  clear hB hc0 hs0 hok hb0
  generalize s.rest.length = n0 at HT ⊢
  generalize s.err = e0 at HT ⊢
  go_enter Try.func36, Try.ntmps36
  go_wp2_with fail
  refine (rnum4 w0 _ s _ HT.out ((HB0.out.alloc HB0.out.size _).alloc (by have := HB0.out.size; simp; omega) _)).mono ?_
  rintro e w1 ⟨⟨v1, rfl, hT1⟩, hb1⟩
  obtain ⟨a1, c1, rfl, hB1, hc1, hs1, hok1⟩ := hT1
  have HT1 := Lib.hid (show Tv w0 (.agg #[.slice a1 (Cod.headS s).rest.length c1, .int .i64 (Cod.headS s).err]) (Cod.headS s) from ⟨a1, c1, rfl, hB1, hc1, hs1, hok1⟩)
  have hrow := Row.laid hb1
  have k0 : w1.cell? ⟨w.heap.size + 1, 0, none⟩ = some (.slice none 0 0) := hrow.cell 0
  have k1 : w1.cell? ⟨w.heap.size + 1, 1, none⟩ = some (.int .i64 0) := hrow.cell 1
  have f0 := hrow.thaw 0
  have f1 := hrow.thaw 1
  have hz : w.heap.size + 1 < w1.heap.size := hrow.lt
  have HX := Lib.hid ((((Below.refl w.heap.size w).alloc (Nat.le_refl _) _).alloc (by simp) _).trans (hb1.mono (by simp; omega)))
  clear hb1 hB1 hok1
  go_wp2
  refine bodyPost_ret (v := .tuple #[.agg #[.slice a1 (Cod.headS s).rest.length c1, .int .i64 (Cod.headS s).err], .int .i64 (-1)]) (by simp [results, Try.results36, go_sem, World.cell?_alloc_lt, hz, k0, k1]) rfl ?_
  exact ⟨⟨_, rfl, HT1.out⟩, ((HX.out.setCell (by simp) _).setCell (by simp) _).alloc (by simp; omega) _⟩

theorem many1_long (w0 : World) (v : Value) (s : Cod.St) (z : Int) (w : World) (h : Tv w0 v s) (hb0 : Below w0.heap.size w0 w) (he : (Cod.headS s).err = 0) (hz0 : z ≤ 9223372036854775807) (hl : z < 0 ∨ z < W (Cod.headN s)) :
    Calls Try.prog 36 #[v, .int .i64 z, .int .i64 1] w fun e' w' => (∃ v', e' = .returned (.tuple #[v', .int .i64 (-1)]) ∧ Tv w0 v' ⟨[], 3⟩) ∧ Below w.heap.size w w' := by
  have HE := Lib.hid he
  clear he
  have hlt := W_ge (Cod.headN s)
  have hlt2 : W (Cod.headN s) < 4294967296 := by have := Cod.headN_lt s; unfold W; omega
  have H4 := Lib.hid (fun (v : Value) (w : World) (h : Tv w0 v s) (hb0 : Below w0.heap.size w0 w) => rnum4 w0 v s w h hb0)
  generalize W (Cod.headN s) = n at *
  by_cases h0 : z < 0
  · clear hl
    obtain ⟨a, c, rfl, hB, hc0, hs0, hok⟩ := h
    have HT := Lib.hid (show Tv w0 (.agg #[.slice a s.rest.length c, .int .i64 s.err]) s from ⟨a, c, rfl, hB, hc0, hs0, hok⟩)
    have HB0 := Lib.hid hb0
    clear hB hc0 hs0 hok hb0
    generalize s.rest.length = n0 at HT ⊢
    generalize s.err = e0 at HT ⊢
    go_enter Try.func36, Try.ntmps36
    go_wp2_with fail
    refine (H4.out _ _ HT.out ((HB0.out.alloc HB0.out.size _).alloc (by have := HB0.out.size; simp; omega) _)).mono ?_
    rintro e w1 ⟨⟨v1, rfl, hT1⟩, hb1⟩
    obtain ⟨a1, c1, rfl, hB1, hc1, hs1, hok1⟩ := hT1
    have HT1 := Lib.hid (show Tv w0 (.agg #[.slice a1 (Cod.headS s).rest.length c1, .int .i64 (Cod.headS s).err]) (Cod.headS s) from ⟨a1, c1, rfl, hB1, hc1, hs1, hok1⟩)
    rw [HE.out]
    have hrow := Row.laid hb1
    have k0 : w1.cell? ⟨w.heap.size + 1, 0, none⟩ = some (.slice none 0 0) := hrow.cell 0
    have k1 : w1.cell? ⟨w.heap.size + 1, 1, none⟩ = some (.int .i64 0) := hrow.cell 1
    have f0 := hrow.thaw 0
    have f1 := hrow.thaw 1
    have hz : w.heap.size + 1 < w1.heap.size := hrow.lt
    have HX := Lib.hid ((((Below.refl w.heap.size w).alloc (Nat.le_refl _) _).alloc (by simp) _).trans (hb1.mono (by simp; omega)))
    clear hb1 hB1 hok1
    go_wp2_with fail
    refine (rfail_any 3 _).mono ?_
    rintro e w3 ⟨rfl, hb3⟩
    have hrow3 := (hrow.past _).under hb3 (by simp; omega)
    clear k0 k1 f0 f1
    have k0 : w3.cell? ⟨w.heap.size + 1, 0, none⟩ = some (.slice none 0 0) := hrow3.cell 0
    have k1 : w3.cell? ⟨w.heap.size + 1, 1, none⟩ = some (.int .i64 0) := hrow3.cell 1
    have f0 := hrow3.thaw 0
    have f1 := hrow3.thaw 1
    have HX3 := Lib.hid ((HX.out.alloc HX.out.size _).trans (hb3.mono (by simp; omega)))
    clear hb3 HX hrow3
    go_wp2
    refine bodyPost_ret (v := .tuple #[.agg #[.slice none 0 0, .int .i64 3], .int .i64 (-1)]) (by simp [results, Try.results36, go_sem, k0, k1]) rfl ?_
    exact ⟨⟨_, rfl, none, 0, rfl, Bytes.nil _ _, Nat.le_refl _, by simp, fun _ => rfl⟩, (HX3.out.setCell (by simp) _).setCell (by simp) _⟩
  · have hl' : z < n := by rcases hl with h | h; exact absurd h h0; exact h
    have h0' : 0 ≤ z := by omega
    have hd : decide (z < 0) = false := decide_eq_false h0
    clear hl
    obtain ⟨a, c, rfl, hB, hc0, hs0, hok⟩ := h
    have HT := Lib.hid (show Tv w0 (.agg #[.slice a s.rest.length c, .int .i64 s.err]) s from ⟨a, c, rfl, hB, hc0, hs0, hok⟩)
    have HB0 := Lib.hid hb0
    clear hB hc0 hs0 hok hb0
    generalize s.rest.length = n0 at HT ⊢
    generalize s.err = e0 at HT ⊢
    go_enter Try.func36, Try.ntmps36
    go_wp2_with fail
    refine (H4.out _ _ HT.out ((HB0.out.alloc HB0.out.size _).alloc (by have := HB0.out.size; simp; omega) _)).mono ?_
    rintro e w1 ⟨⟨v1, rfl, hT1⟩, hb1⟩
    obtain ⟨a1, c1, rfl, hB1, hc1, hs1, hok1⟩ := hT1
    have HT1 := Lib.hid (show Tv w0 (.agg #[.slice a1 (Cod.headS s).rest.length c1, .int .i64 (Cod.headS s).err]) (Cod.headS s) from ⟨a1, c1, rfl, hB1, hc1, hs1, hok1⟩)
    rw [HE.out]
    have hrow := Row.laid hb1
    have k0 : w1.cell? ⟨w.heap.size + 1, 0, none⟩ = some (.slice none 0 0) := hrow.cell 0
    have k1 : w1.cell? ⟨w.heap.size + 1, 1, none⟩ = some (.int .i64 0) := hrow.cell 1
    have f0 := hrow.thaw 0
    have f1 := hrow.thaw 1
    have hz : w.heap.size + 1 < w1.heap.size := hrow.lt
    have HX := Lib.hid ((((Below.refl w.heap.size w).alloc (Nat.le_refl _) _).alloc (by simp) _).trans (hb1.mono (by simp; omega)))
    clear hb1 hB1 hok1
    go_wp2_with fail
    refine (rfail_any 3 _).mono ?_
    rintro e w3 ⟨rfl, hb3⟩
    have hrow3 := (hrow.past _).under hb3 (by simp; omega)
    clear k0 k1 f0 f1
    have k0 : w3.cell? ⟨w.heap.size + 1, 0, none⟩ = some (.slice none 0 0) := hrow3.cell 0
    have k1 : w3.cell? ⟨w.heap.size + 1, 1, none⟩ = some (.int .i64 0) := hrow3.cell 1
    have f0 := hrow3.thaw 0
    have f1 := hrow3.thaw 1
    have HX3 := Lib.hid ((HX.out.alloc HX.out.size _).trans (hb3.mono (by simp; omega)))
    clear hb3 HX hrow3
    go_wp2
    refine bodyPost_ret (v := .tuple #[.agg #[.slice none 0 0, .int .i64 3], .int .i64 (-1)]) (by simp [results, Try.results36, go_sem, k0, k1]) rfl ?_
    exact ⟨⟨_, rfl, none, 0, rfl, Bytes.nil _ _, Nat.le_refl _, by simp, fun _ => rfl⟩, (HX3.out.setCell (by simp) _).setCell (by simp) _⟩

theorem many1_short (w0 : World) (v : Value) (s : Cod.St) (z : Int) (w : World) (h : Tv w0 v s) (hb0 : Below w0.heap.size w0 w) (he : (Cod.headS s).err = 0) (hz0 : z ≤ 9223372036854775807) (h0 : ¬ z < 0) (hl : ¬ z < W (Cod.headN s)) (hs : ((Cod.headS s).rest.length : Int) / 1 < W (Cod.headN s)) :
    Calls Try.prog 36 #[v, .int .i64 z, .int .i64 1] w fun e' w' => (∃ v', e' = .returned (.tuple #[v', .int .i64 (-1)]) ∧ Tv w0 v' ⟨[], 10⟩) ∧ Below w.heap.size w w' := by
  have HE := Lib.hid he
  clear he
  have hd : decide (z < 0) = false := decide_eq_false h0
  have h0' : 0 ≤ z := by omega
  have hlt := W_ge (Cod.headN s)
  have hlt2 : W (Cod.headN s) < 4294967296 := by have := Cod.headN_lt s; unfold W; omega
  have H4 := Lib.hid (fun (v : Value) (w : World) (h : Tv w0 v s) (hb0 : Below w0.heap.size w0 w) => rnum4 w0 v s w h hb0)
  generalize W (Cod.headN s) = n at *
  obtain ⟨a, c, rfl, hB, hc0, hs0, hok⟩ := h
  have HT := Lib.hid (show Tv w0 (.agg #[.slice a s.rest.length c, .int .i64 s.err]) s from ⟨a, c, rfl, hB, hc0, hs0, hok⟩)
  have HB0 := Lib.hid hb0
  clear hB hc0 hs0 hok hb0
  generalize s.rest.length = n0 at HT ⊢
  generalize s.err = e0 at HT ⊢
  go_enter Try.func36, Try.ntmps36
  go_wp2_with fail
  refine (H4.out _ _ HT.out ((HB0.out.alloc HB0.out.size _).alloc (by have := HB0.out.size; simp; omega) _)).mono ?_
  rintro e w1 ⟨⟨v1, rfl, hT1⟩, hb1⟩
  obtain ⟨a1, c1, rfl, hB1, hc1, hs1, hok1⟩ := hT1
  have HT1 := Lib.hid (show Tv w0 (.agg #[.slice a1 (Cod.headS s).rest.length c1, .int .i64 (Cod.headS s).err]) (Cod.headS s) from ⟨a1, c1, rfl, hB1, hc1, hs1, hok1⟩)
  rw [HE.out]
  have hrow := Row.laid hb1
  have k0 : w1.cell? ⟨w.heap.size + 1, 0, none⟩ = some (.slice none 0 0) := hrow.cell 0
  have k1 : w1.cell? ⟨w.heap.size + 1, 1, none⟩ = some (.int .i64 0) := hrow.cell 1
  have f0 := hrow.thaw 0
  have f1 := hrow.thaw 1
  have hz : w.heap.size + 1 < w1.heap.size := hrow.lt
  have HX := Lib.hid ((((Below.refl w.heap.size w).alloc (Nat.le_refl _) _).alloc (by simp) _).trans (hb1.mono (by simp; omega)))
  clear hb1 hB1 hok1
  go_wp2_with fail
  refine (rfail_any 10 _).mono ?_
  rintro e w3 ⟨rfl, hb3⟩
  have hrow3 := (hrow.past _).under hb3 (by simp; omega)
  clear k0 k1 f0 f1
  have k0 : w3.cell? ⟨w.heap.size + 1, 0, none⟩ = some (.slice none 0 0) := hrow3.cell 0
  have k1 : w3.cell? ⟨w.heap.size + 1, 1, none⟩ = some (.int .i64 0) := hrow3.cell 1
  have f0 := hrow3.thaw 0
  have f1 := hrow3.thaw 1
  have HX3 := Lib.hid ((HX.out.alloc HX.out.size _).trans (hb3.mono (by simp; omega)))
  clear hb3 HX hrow3
  go_wp2
  refine bodyPost_ret (v := .tuple #[.agg #[.slice none 0 0, .int .i64 10], .int .i64 (-1)]) (by simp [results, Try.results36, go_sem, k0, k1]) rfl ?_
  exact ⟨⟨_, rfl, none, 0, rfl, Bytes.nil _ _, Nat.le_refl _, by simp, fun _ => rfl⟩, (HX3.out.setCell (by simp) _).setCell (by simp) _⟩

theorem many1_good (w0 : World) (v : Value) (s : Cod.St) (z : Int) (w : World) (h : Tv w0 v s) (hb0 : Below w0.heap.size w0 w) (he : (Cod.headS s).err = 0) (hz0 : z ≤ 9223372036854775807) (h0 : ¬ z < 0) (hl : ¬ z < W (Cod.headN s)) (hs : ¬ ((Cod.headS s).rest.length : Int) / 1 < W (Cod.headN s)) :
    Calls Try.prog 36 #[v, .int .i64 z, .int .i64 1] w fun e' w' => (∃ v', e' = .returned (.tuple #[v', .int .i64 (W (Cod.headN s))]) ∧ Tv w0 v' (Cod.headS s)) ∧ Below w.heap.size w w' := by
  have HE := Lib.hid he
  clear he
  have hd : decide (z < 0) = false := decide_eq_false h0
  have h0' : 0 ≤ z := by omega
  have hlt := W_ge (Cod.headN s)
  have hlt2 : W (Cod.headN s) < 4294967296 := by have := Cod.headN_lt s; unfold W; omega
  have H4 := Lib.hid (fun (v : Value) (w : World) (h : Tv w0 v s) (hb0 : Below w0.heap.size w0 w) => rnum4 w0 v s w h hb0)
  generalize W (Cod.headN s) = n at *
  obtain ⟨a, c, rfl, hB, hc0, hs0, hok⟩ := h
  have HT := Lib.hid (show Tv w0 (.agg #[.slice a s.rest.length c, .int .i64 s.err]) s from ⟨a, c, rfl, hB, hc0, hs0, hok⟩)
  have HB0 := Lib.hid hb0
  clear hB hc0 hs0 hok hb0
  generalize s.rest.length = n0 at HT ⊢
  generalize s.err = e0 at HT ⊢
  go_enter Try.func36, Try.ntmps36
  go_wp2_with fail
  refine (H4.out _ _ HT.out ((HB0.out.alloc HB0.out.size _).alloc (by have := HB0.out.size; simp; omega) _)).mono ?_
  rintro e w1 ⟨⟨v1, rfl, hT1⟩, hb1⟩
  obtain ⟨a1, c1, rfl, hB1, hc1, hs1, hok1⟩ := hT1
  have HT1 := Lib.hid (show Tv w0 (.agg #[.slice a1 (Cod.headS s).rest.length c1, .int .i64 (Cod.headS s).err]) (Cod.headS s) from ⟨a1, c1, rfl, hB1, hc1, hs1, hok1⟩)
  rw [HE.out]
  have hrow := Row.laid hb1
  have k0 : w1.cell? ⟨w.heap.size + 1, 0, none⟩ = some (.slice none 0 0) := hrow.cell 0
  have k1 : w1.cell? ⟨w.heap.size + 1, 1, none⟩ = some (.int .i64 0) := hrow.cell 1
  have f0 := hrow.thaw 0
  have f1 := hrow.thaw 1
  have hz : w.heap.size + 1 < w1.heap.size := hrow.lt
  have HX := Lib.hid ((((Below.refl w.heap.size w).alloc (Nat.le_refl _) _).alloc (by simp) _).trans (hb1.mono (by simp; omega)))
  clear hb1 hB1 hok1
  go_wp2
  refine bodyPost_ret (v := .tuple #[.agg #[.slice a1 (Cod.headS s).rest.length c1, .int .i64 0], .int .i64 n]) (by simp [results, Try.results36, go_sem, World.cell?_alloc_lt, hz, k0, k1]) rfl ?_
  have hT := HT1.out
  rw [HE.out] at hT
  exact ⟨⟨_, rfl, hT⟩, ((HX.out.setCell (by simp) _).setCell (by simp) _).alloc (by simp; omega) _⟩

theorem many8_head (w0 : World) (v : Value) (s : Cod.St) (z : Int) (w : World) (h : Tv w0 v s) (hb0 : Below w0.heap.size w0 w) (he : (Cod.headS s).err ≠ 0) :
    Calls Try.prog 36 #[v, .int .i64 z, .int .i64 8] w fun e' w' => (∃ v', e' = .returned (.tuple #[v', .int .i64 (-1)]) ∧ Tv w0 v' (Cod.headS s)) ∧ Below w.heap.size w w' := by
  have hbe : ((Cod.headS s).err != 0) = true := by simpa using he
  obtain ⟨a, c, rfl, hB, hc0, hs0, hok⟩ := h
  have HT := Lib.hid (show Tv w0 (.agg #[.slice a s.rest.length c, .int .i64 s.err]) s from ⟨a, c, rfl, hB, hc0, hs0, hok⟩)
  have HB0 := Lib.hid hb0
  clear hB hc0 hs0 hok hb0
  generalize s.rest.length = n0 at HT ⊢
  generalize s.err = e0 at HT ⊢
  go_enter Try.func36, Try.ntmps36
  go_wp2_with fail
  refine (rnum4 w0 _ s _ HT.out ((HB0.out.alloc HB0.out.size _).alloc (by have := HB0.out.size; simp; omega) _)).mono ?_
  rintro e w1 ⟨⟨v1, rfl, hT1⟩, hb1⟩
  obtain ⟨a1, c1, rfl, hB1, hc1, hs1, hok1⟩ := hT1
  have HT1 := Lib.hid (show Tv w0 (.agg #[.slice a1 (Cod.headS s).rest.length c1, .int .i64 (Cod.headS s).err]) (Cod.headS s) from ⟨a1, c1, rfl, hB1, hc1, hs1, hok1⟩)
  have hrow := Row.laid hb1
  have k0 : w1.cell? ⟨w.heap.size + 1, 0, none⟩ = some (.slice none 0 0) := hrow.cell 0
  have k1 : w1.cell? ⟨w.heap.size + 1, 1, none⟩ = some (.int .i64 0) := hrow.cell 1
  have f0 := hrow.thaw 0
  have f1 := hrow.thaw 1
  have hz : w.heap.size + 1 < w1.heap.size := hrow.lt
  have HX := Lib.hid ((((Below.refl w.heap.size w).alloc (Nat.le_refl _) _).alloc (by simp) _).trans (hb1.mono (by simp; omega)))
  clear hb1 hB1 hok1
  go_wp2
  refine bodyPost_ret (v := .tuple #[.agg #[.slice a1 (Cod.headS s).rest.length c1, .int .i64 (Cod.headS s).err], .int .i64 (-1)]) (by simp [results, Try.results36, go_sem, World.cell?_alloc_lt, hz, k0, k1]) rfl ?_
  exact ⟨⟨_, rfl, HT1.out⟩, ((HX.out.setCell (by simp) _).setCell (by simp) _).alloc (by simp; omega) _⟩

theorem many8_long (w0 : World) (v : Value) (s : Cod.St) (z : Int) (w : World) (h : Tv w0 v s) (hb0 : Below w0.heap.size w0 w) (he : (Cod.headS s).err = 0) (hz0 : z ≤ 9223372036854775807) (hl : z < 0 ∨ z < W (Cod.headN s)) :
    Calls Try.prog 36 #[v, .int .i64 z, .int .i64 8] w fun e' w' => (∃ v', e' = .returned (.tuple #[v', .int .i64 (-1)]) ∧ Tv w0 v' ⟨[], 3⟩) ∧ Below w.heap.size w w' := by
  have HE := Lib.hid he
  clear he
  have hlt := W_ge (Cod.headN s)
  have hlt2 : W (Cod.headN s) < 4294967296 := by have := Cod.headN_lt s; unfold W; omega
  have H4 := Lib.hid (fun (v : Value) (w : World) (h : Tv w0 v s) (hb0 : Below w0.heap.size w0 w) => rnum4 w0 v s w h hb0)
  generalize W (Cod.headN s) = n at *
  by_cases h0 : z < 0
  · clear hl
    obtain ⟨a, c, rfl, hB, hc0, hs0, hok⟩ := h
    have HT := Lib.hid (show Tv w0 (.agg #[.slice a s.rest.length c, .int .i64 s.err]) s from ⟨a, c, rfl, hB, hc0, hs0, hok⟩)
    have HB0 := Lib.hid hb0
    clear hB hc0 hs0 hok hb0
    generalize s.rest.length = n0 at HT ⊢
    generalize s.err = e0 at HT ⊢
    go_enter Try.func36, Try.ntmps36
    go_wp2_with fail
    refine (H4.out _ _ HT.out ((HB0.out.alloc HB0.out.size _).alloc (by have := HB0.out.size; simp; omega) _)).mono ?_
    rintro e w1 ⟨⟨v1, rfl, hT1⟩, hb1⟩
    obtain ⟨a1, c1, rfl, hB1, hc1, hs1, hok1⟩ := hT1
    have HT1 := Lib.hid (show Tv w0 (.agg #[.slice a1 (Cod.headS s).rest.length c1, .int .i64 (Cod.headS s).err]) (Cod.headS s) from ⟨a1, c1, rfl, hB1, hc1, hs1, hok1⟩)
    rw [HE.out]
    have hrow := Row.laid hb1
    have k0 : w1.cell? ⟨w.heap.size + 1, 0, none⟩ = some (.slice none 0 0) := hrow.cell 0
    have k1 : w1.cell? ⟨w.heap.size + 1, 1, none⟩ = some (.int .i64 0) := hrow.cell 1
    have f0 := hrow.thaw 0
    have f1 := hrow.thaw 1
    have hz : w.heap.size + 1 < w1.heap.size := hrow.lt
    have HX := Lib.hid ((((Below.refl w.heap.size w).alloc (Nat.le_refl _) _).alloc (by simp) _).trans (hb1.mono (by simp; omega)))
    clear hb1 hB1 hok1
    go_wp2_with fail
    refine (rfail_any 3 _).mono ?_
    rintro e w3 ⟨rfl, hb3⟩
    have hrow3 := (hrow.past _).under hb3 (by simp; omega)
    clear k0 k1 f0 f1
    have k0 : w3.cell? ⟨w.heap.size + 1, 0, none⟩ = some (.slice none 0 0) := hrow3.cell 0
    have k1 : w3.cell? ⟨w.heap.size + 1, 1, none⟩ = some (.int .i64 0) := hrow3.cell 1
    have f0 := hrow3.thaw 0
    have f1 := hrow3.thaw 1
    have HX3 := Lib.hid ((HX.out.alloc HX.out.size _).trans (hb3.mono (by simp; omega)))
    clear hb3 HX hrow3
    go_wp2
    refine bodyPost_ret (v := .tuple #[.agg #[.slice none 0 0, .int .i64 3], .int .i64 (-1)]) (by simp [results, Try.results36, go_sem, k0, k1]) rfl ?_
    exact ⟨⟨_, rfl, none, 0, rfl, Bytes.nil _ _, Nat.le_refl _, by simp, fun _ => rfl⟩, (HX3.out.setCell (by simp) _).setCell (by simp) _⟩
  · have hl' : z < n := by rcases hl with h | h; exact absurd h h0; exact h
    have h0' : 0 ≤ z := by omega
    have hd : decide (z < 0) = false := decide_eq_false h0
    clear hl
    obtain ⟨a, c, rfl, hB, hc0, hs0, hok⟩ := h
    have HT := Lib.hid (show Tv w0 (.agg #[.slice a s.rest.length c, .int .i64 s.err]) s from ⟨a, c, rfl, hB, hc0, hs0, hok⟩)
    have HB0 := Lib.hid hb0
    clear hB hc0 hs0 hok hb0
    generalize s.rest.length = n0 at HT ⊢
    generalize s.err = e0 at HT ⊢
    go_enter Try.func36, Try.ntmps36
    go_wp2_with fail
    refine (H4.out _ _ HT.out ((HB0.out.alloc HB0.out.size _).alloc (by have := HB0.out.size; simp; omega) _)).mono ?_
    rintro e w1 ⟨⟨v1, rfl, hT1⟩, hb1⟩
    obtain ⟨a1, c1, rfl, hB1, hc1, hs1, hok1⟩ := hT1
    have HT1 := Lib.hid (show Tv w0 (.agg #[.slice a1 (Cod.headS s).rest.length c1, .int .i64 (Cod.headS s).err]) (Cod.headS s) from ⟨a1, c1, rfl, hB1, hc1, hs1, hok1⟩)
    rw [HE.out]
    have hrow := Row.laid hb1
    have k0 : w1.cell? ⟨w.heap.size + 1, 0, none⟩ = some (.slice none 0 0) := hrow.cell 0
    have k1 : w1.cell? ⟨w.heap.size + 1, 1, none⟩ = some (.int .i64 0) := hrow.cell 1
    have f0 := hrow.thaw 0
    have f1 := hrow.thaw 1
    have hz : w.heap.size + 1 < w1.heap.size := hrow.lt
    have HX := Lib.hid ((((Below.refl w.heap.size w).alloc (Nat.le_refl _) _).alloc (by simp) _).trans (hb1.mono (by simp; omega)))
    clear hb1 hB1 hok1
    go_wp2_with fail
    refine (rfail_any 3 _).mono ?_
    rintro e w3 ⟨rfl, hb3⟩
    have hrow3 := (hrow.past _).under hb3 (by simp; omega)
    clear k0 k1 f0 f1
    have k0 : w3.cell? ⟨w.heap.size + 1, 0, none⟩ = some (.slice none 0 0) := hrow3.cell 0
    have k1 : w3.cell? ⟨w.heap.size + 1, 1, none⟩ = some (.int .i64 0) := hrow3.cell 1
    have f0 := hrow3.thaw 0
    have f1 := hrow3.thaw 1
    have HX3 := Lib.hid ((HX.out.alloc HX.out.size _).trans (hb3.mono (by simp; omega)))
    clear hb3 HX hrow3
    go_wp2
    refine bodyPost_ret (v := .tuple #[.agg #[.slice none 0 0, .int .i64 3], .int .i64 (-1)]) (by simp [results, Try.results36, go_sem, k0, k1]) rfl ?_
    exact ⟨⟨_, rfl, none, 0, rfl, Bytes.nil _ _, Nat.le_refl _, by simp, fun _ => rfl⟩, (HX3.out.setCell (by simp) _).setCell (by simp) _⟩

theorem many8_short (w0 : World) (v : Value) (s : Cod.St) (z : Int) (w : World) (h : Tv w0 v s) (hb0 : Below w0.heap.size w0 w) (he : (Cod.headS s).err = 0) (hz0 : z ≤ 9223372036854775807) (h0 : ¬ z < 0) (hl : ¬ z < W (Cod.headN s)) (hs : ((Cod.headS s).rest.length : Int) / 8 < W (Cod.headN s)) :
    Calls Try.prog 36 #[v, .int .i64 z, .int .i64 8] w fun e' w' => (∃ v', e' = .returned (.tuple #[v', .int .i64 (-1)]) ∧ Tv w0 v' ⟨[], 10⟩) ∧ Below w.heap.size w w' := by
  have HE := Lib.hid he
  clear he
  have hd : decide (z < 0) = false := decide_eq_false h0
  have h0' : 0 ≤ z := by omega
  have hlt := W_ge (Cod.headN s)
  have hlt2 : W (Cod.headN s) < 4294967296 := by have := Cod.headN_lt s; unfold W; omega
  have H4 := Lib.hid (fun (v : Value) (w : World) (h : Tv w0 v s) (hb0 : Below w0.heap.size w0 w) => rnum4 w0 v s w h hb0)
  generalize W (Cod.headN s) = n at *
  obtain ⟨a, c, rfl, hB, hc0, hs0, hok⟩ := h
  have HT := Lib.hid (show Tv w0 (.agg #[.slice a s.rest.length c, .int .i64 s.err]) s from ⟨a, c, rfl, hB, hc0, hs0, hok⟩)
  have HB0 := Lib.hid hb0
  clear hB hc0 hs0 hok hb0
  generalize s.rest.length = n0 at HT ⊢
  generalize s.err = e0 at HT ⊢
  go_enter Try.func36, Try.ntmps36
  go_wp2_with fail
  refine (H4.out _ _ HT.out ((HB0.out.alloc HB0.out.size _).alloc (by have := HB0.out.size; simp; omega) _)).mono ?_
  rintro e w1 ⟨⟨v1, rfl, hT1⟩, hb1⟩
  obtain ⟨a1, c1, rfl, hB1, hc1, hs1, hok1⟩ := hT1
  have HT1 := Lib.hid (show Tv w0 (.agg #[.slice a1 (Cod.headS s).rest.length c1, .int .i64 (Cod.headS s).err]) (Cod.headS s) from ⟨a1, c1, rfl, hB1, hc1, hs1, hok1⟩)
  rw [HE.out]
  have hrow := Row.laid hb1
  have k0 : w1.cell? ⟨w.heap.size + 1, 0, none⟩ = some (.slice none 0 0) := hrow.cell 0
  have k1 : w1.cell? ⟨w.heap.size + 1, 1, none⟩ = some (.int .i64 0) := hrow.cell 1
  have f0 := hrow.thaw 0
  have f1 := hrow.thaw 1
  have hz : w.heap.size + 1 < w1.heap.size := hrow.lt
  have HX := Lib.hid ((((Below.refl w.heap.size w).alloc (Nat.le_refl _) _).alloc (by simp) _).trans (hb1.mono (by simp; omega)))
  clear hb1 hB1 hok1
  go_wp2_with fail
  refine (rfail_any 10 _).mono ?_
  rintro e w3 ⟨rfl, hb3⟩
  have hrow3 := (hrow.past _).under hb3 (by simp; omega)
  clear k0 k1 f0 f1
  have k0 : w3.cell? ⟨w.heap.size + 1, 0, none⟩ = some (.slice none 0 0) := hrow3.cell 0
  have k1 : w3.cell? ⟨w.heap.size + 1, 1, none⟩ = some (.int .i64 0) := hrow3.cell 1
  have f0 := hrow3.thaw 0
  have f1 := hrow3.thaw 1
  have HX3 := Lib.hid ((HX.out.alloc HX.out.size _).trans (hb3.mono (by simp; omega)))
  clear hb3 HX hrow3
  go_wp2
  refine bodyPost_ret (v := .tuple #[.agg #[.slice none 0 0, .int .i64 10], .int .i64 (-1)]) (by simp [results, Try.results36, go_sem, k0, k1]) rfl ?_
  exact ⟨⟨_, rfl, none, 0, rfl, Bytes.nil _ _, Nat.le_refl _, by simp, fun _ => rfl⟩, (HX3.out.setCell (by simp) _).setCell (by simp) _⟩

theorem many8_good (w0 : World) (v : Value) (s : Cod.St) (z : Int) (w : World) (h : Tv w0 v s) (hb0 : Below w0.heap.size w0 w) (he : (Cod.headS s).err = 0) (hz0 : z ≤ 9223372036854775807) (h0 : ¬ z < 0) (hl : ¬ z < W (Cod.headN s)) (hs : ¬ ((Cod.headS s).rest.length : Int) / 8 < W (Cod.headN s)) :
    Calls Try.prog 36 #[v, .int .i64 z, .int .i64 8] w fun e' w' => (∃ v', e' = .returned (.tuple #[v', .int .i64 (W (Cod.headN s))]) ∧ Tv w0 v' (Cod.headS s)) ∧ Below w.heap.size w w' := by
  have HE := Lib.hid he
  clear he
  have hd : decide (z < 0) = false := decide_eq_false h0
  have h0' : 0 ≤ z := by omega
  have hlt := W_ge (Cod.headN s)
  have hlt2 : W (Cod.headN s) < 4294967296 := by have := Cod.headN_lt s; unfold W; omega
  have H4 := Lib.hid (fun (v : Value) (w : World) (h : Tv w0 v s) (hb0 : Below w0.heap.size w0 w) => rnum4 w0 v s w h hb0)
  generalize W (Cod.headN s) = n at *
  obtain ⟨a, c, rfl, hB, hc0, hs0, hok⟩ := h
  have HT := Lib.hid (show Tv w0 (.agg #[.slice a s.rest.length c, .int .i64 s.err]) s from ⟨a, c, rfl, hB, hc0, hs0, hok⟩)
  have HB0 := Lib.hid hb0
  clear hB hc0 hs0 hok hb0
  generalize s.rest.length = n0 at HT ⊢
  generalize s.err = e0 at HT ⊢
  go_enter Try.func36, Try.ntmps36
  go_wp2_with fail
  refine (H4.out _ _ HT.out ((HB0.out.alloc HB0.out.size _).alloc (by have := HB0.out.size; simp; omega) _)).mono ?_
  rintro e w1 ⟨⟨v1, rfl, hT1⟩, hb1⟩
  obtain ⟨a1, c1, rfl, hB1, hc1, hs1, hok1⟩ := hT1
  have HT1 := Lib.hid (show Tv w0 (.agg #[.slice a1 (Cod.headS s).rest.length c1, .int .i64 (Cod.headS s).err]) (Cod.headS s) from ⟨a1, c1, rfl, hB1, hc1, hs1, hok1⟩)
  rw [HE.out]
  have hrow := Row.laid hb1
  have k0 : w1.cell? ⟨w.heap.size + 1, 0, none⟩ = some (.slice none 0 0) := hrow.cell 0
  have k1 : w1.cell? ⟨w.heap.size + 1, 1, none⟩ = some (.int .i64 0) := hrow.cell 1
  have f0 := hrow.thaw 0
  have f1 := hrow.thaw 1
  have hz : w.heap.size + 1 < w1.heap.size := hrow.lt
  have HX := Lib.hid ((((Below.refl w.heap.size w).alloc (Nat.le_refl _) _).alloc (by simp) _).trans (hb1.mono (by simp; omega)))
  clear hb1 hB1 hok1
  go_wp2
  refine bodyPost_ret (v := .tuple #[.agg #[.slice a1 (Cod.headS s).rest.length c1, .int .i64 0], .int .i64 n]) (by simp [results, Try.results36, go_sem, World.cell?_alloc_lt, hz, k0, k1]) rfl ?_
  have hT := HT1.out
  rw [HE.out] at hT
  exact ⟨⟨_, rfl, hT⟩, ((HX.out.setCell (by simp) _).setCell (by simp) _).alloc (by simp; omega) _⟩
end Go.Proofs.Ytejmcplikhglbaa
