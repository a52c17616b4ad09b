/- Walks: the document's TakeText. -/
import Derived.Test.YtejmcplikhglbaaCodecI
import Derived.RegionTactic
import Derived.StillTailTactics
namespace Go.Proofs.Ytejmcplikhglbaa
open Go.RowKit

/-- Nothing is taken: the error is told. -/
theorem ttext_none (w0 : World) (v : Value) (s s' : Cod.St) (z : Int) (w : World) (h : Tv w0 v s) (hb0 : Below w0.heap.size w0 w)
    (hm : ∀ W, Below w0.heap.size w0 W → Calls Try.prog 36 #[v, .int .i64 z, .int .i64 1] W fun e' w' => (∃ v', e' = .returned (.tuple #[v', .int .i64 (-1)]) ∧ Tv w0 v' s') ∧ Below W.heap.size W w') :
    Calls Try.prog 19 #[v, .int .i64 z] w fun e' w' => (∃ v', e' = .returned (.tuple #[v', .string (str [])]) ∧ Tv w0 v' s') ∧ Below w.heap.size w w' := by
  obtain ⟨a, c, rfl, hB, hc0, hs0, hok⟩ := h
  have HM := Lib.hid hm
  have HB0 := Lib.hid hb0
  clear hB hc0 hs0 hok hb0 hm
  generalize s.rest.length = n0 at HM ⊢
  generalize s.err = e0 at HM ⊢
  go_enter Try.func19, Try.ntmps19
  go_wp2_with fail
  refine (HM.out _ ((HB0.out.alloc HB0.out.size _).alloc (by have := HB0.out.size; simp; omega) _)).mono ?_
  rintro e w1 ⟨⟨v1, rfl, hT1⟩, hb1⟩
  obtain ⟨a1, c1, rfl, hB1, hc1, hs1, hok1⟩ := hT1
  have HT1 := Lib.hid (show Tv w0 (.agg #[.slice a1 s'.rest.length c1, .int .i64 s'.err]) s' from ⟨a1, c1, rfl, hB1, hc1, hs1, hok1⟩)
  have hrow := Row.laid hb1
  have k0 : w1.cell? ⟨w.heap.size + 1, 0, none⟩ = some (.slice none 0 0) := hrow.cell 0
  have k1 : w1.cell? ⟨w.heap.size + 1, 1, none⟩ = some (.int .i64 0) := hrow.cell 1
  have f0 := hrow.thaw 0
  have f1 := hrow.thaw 1
  have hz : w.heap.size + 1 < w1.heap.size := hrow.lt
  have HX := Lib.hid ((((Below.refl w.heap.size w).alloc (Nat.le_refl _) _).alloc (by simp) _).trans (hb1.mono (by simp; omega)))
  clear hb1 hB1 hok1 hrow
  go_wp2
  refine bodyPost_ret (v := .tuple #[.agg #[.slice a1 s'.rest.length c1, .int .i64 s'.err], .string (str [])]) (by simp [results, Try.results19, go_sem, World.cell?_alloc_lt, hz, k0, k1]; rfl) rfl ?_
  exact ⟨⟨_, rfl, HT1.out⟩, ((HX.out.setCell (by simp) _).setCell (by simp) _).alloc (by simp; omega) _⟩

theorem ttext_good (w0 : World) (v : Value) (s : Cod.St) (l : List (BitVec 8)) (k : Nat) (z : Int) (w : World) (h : Tv w0 v s) (hb0 : Below w0.heap.size w0 w) (hk : k ≤ l.length)
    (hm : ∀ W, Below w0.heap.size w0 W → Calls Try.prog 36 #[v, .int .i64 z, .int .i64 1] W fun e' w' => (∃ v', e' = .returned (.tuple #[v', .int .i64 k]) ∧ Tv w0 v' ⟨l, 0⟩) ∧ Below W.heap.size W w') :
    Calls Try.prog 19 #[v, .int .i64 z] w fun e' w' => (∃ v', e' = .returned (.tuple #[v', .string (str (l.take k))]) ∧ Tv w0 v' ⟨l.drop k, 0⟩) ∧ Below w.heap.size w w' := by
  obtain ⟨a, c, rfl, hB, hc0, hs0, hok⟩ := h
  have HM := Lib.hid hm
  have HB0 := Lib.hid hb0
  clear hB hc0 hs0 hok hb0 hm
  generalize s.rest.length = n0 at HM ⊢
  generalize s.err = e0 at HM ⊢
  have hk' : (k : Int) ≤ (l.length : Int) := by omega
  have HTk := Lib.hid (show (l.take k).length = k by rw [List.length_take]; omega)
  go_enter Try.func19, Try.ntmps19
  go_wp2_with fail
  refine (HM.out _ ((HB0.out.alloc HB0.out.size _).alloc (by have := HB0.out.size; simp; omega) _)).mono ?_
  rintro e w1 ⟨⟨v1, rfl, a1, c1, rfl, hB1, hlc, hl, _⟩, hb1⟩
  change Bytes w0 a1 l at hB1
  change l.length ≤ c1 at hlc
  change l.length ≤ 1000000000 at hl
  have hrow := Row.laid hb1
  have k0 : w1.cell? ⟨w.heap.size + 1, 0, none⟩ = some (.slice none 0 0) := hrow.cell 0
  have k1 : w1.cell? ⟨w.heap.size + 1, 1, none⟩ = some (.int .i64 0) := hrow.cell 1
  have f0 := hrow.thaw 0
  have f1 := hrow.thaw 1
  have hz : w.heap.size + 1 < w1.heap.size := hrow.lt
  have HX := Lib.hid ((((Below.refl w.heap.size w).alloc (Nat.le_refl _) _).alloc (by simp) _).trans (hb1.mono (by simp; omega)))
  have HY := Lib.hid (then_below ((HB0.out.alloc HB0.out.size _).alloc (by have := HB0.out.size; simp; omega) _) hb1)
  clear hb1 hrow
  have hkc : (k : Int) ≤ (c1 : Int) := by omega
  rcases hB1 with h0 | ⟨b, o, ha1, hB1⟩
  · subst h0
    obtain rfl : k = 0 := by simpa using hk
    have HB1 := Lib.hid (Bytes.nil w0 a1)
    clear hk' hkc hlc hl
    go_wp2
    have hcv := conv_str (w1.alloc (.cells #[.slice a1 0 c1, .int .i64 0] 35)).drew a1 [] c1 ((HB1.out.under (HY.out.alloc HY.out.size _).drew))
    have hcv2 := conv_str (((w1.setCell ⟨w.heap.size + 1, 0, none⟩ (.slice a1 (0) (c1))).setCell ⟨w.heap.size + 1, 1, none⟩ (.int .i64 0)).alloc (.cells #[.slice a1 0 c1, .int .i64 0] 35)).drew a1 [] c1
      ((HB1.out.under ((((HY.out.setCell (p := ⟨w.heap.size + 1, 0, none⟩) (by have := HB0.out.size; show _ ≤ w.heap.size + 1; omega) _).setCell (p := ⟨w.heap.size + 1, 1, none⟩) (by have := HB0.out.size; show _ ≤ w.heap.size + 1; omega) _).alloc (by have := HY.out.size; simp; omega) _).drew)))
    rw [List.length_nil] at hcv hcv2
    go_region
    go_wp2
    refine bodyPost_ret (v := .tuple #[.agg #[.slice a1 (0) (c1), .int .i64 0], .string (str [])]) (by simp [results, Try.results19, go_sem, World.cell?_alloc_lt, hz, k0, k1]) rfl ?_
    exact ⟨⟨_, rfl, a1, c1, rfl, Bytes.nil _ _, by simp, by simp, fun _ => rfl⟩, (((HX.out.setCell (by simp) _).setCell (by simp) _).alloc (by simp; omega) _).drew⟩
  · subst ha1
    have HB1 := Lib.hid (show Bytes w0 (some ⟨b, o, none⟩) l from .inr ⟨b, o, rfl, hB1⟩)
    clear hB1
    by_cases hck : c1 = k
    · subst hck
      have HD := Lib.hid (show l.drop c1 = [] from List.drop_of_length_le (by omega))
      go_wp2
      have hcv := conv_str (w1.alloc (.cells #[.slice (some ⟨b, o, none⟩) l.length c1, .int .i64 0] 35)).drew (some ⟨b, o, none⟩) (l.take c1) c1 ((HB1.out.under (HY.out.alloc HY.out.size _).drew).take c1)
      have hcv2 := conv_str (((w1.setCell ⟨w.heap.size + 1, 0, none⟩ (.slice (some ⟨b, o, none⟩) (0) (0))).setCell ⟨w.heap.size + 1, 1, none⟩ (.int .i64 0)).alloc (.cells #[.slice (some ⟨b, o, none⟩) l.length c1, .int .i64 0] 35)).drew (some ⟨b, o, none⟩) (l.take c1) c1
        ((HB1.out.under ((((HY.out.setCell (p := ⟨w.heap.size + 1, 0, none⟩) (by have := HB0.out.size; show _ ≤ w.heap.size + 1; omega) _).setCell (p := ⟨w.heap.size + 1, 1, none⟩) (by have := HB0.out.size; show _ ≤ w.heap.size + 1; omega) _).alloc (by have := HY.out.size; simp; omega) _).drew)).take c1)
      rw [HTk.out] at hcv hcv2
      go_region
      go_wp2
      refine bodyPost_ret (v := .tuple #[.agg #[.slice (some ⟨b, o, none⟩) (0) (0), .int .i64 0], .string (str (l.take c1))]) (by simp [results, Try.results19, go_sem, World.cell?_alloc_lt, hz, k0, k1]) rfl ?_
      exact ⟨⟨_, rfl, some ⟨b, o, none⟩, 0, by rw [HD.out]; rfl, by rw [HD.out]; exact Bytes.nil _ _, by rw [HD.out]; simp, by rw [HD.out]; simp, fun x => absurd rfl x⟩, (((HX.out.setCell (by simp) _).setCell (by simp) _).alloc (by simp; omega) _).drew⟩
    · go_wp2
      have hcv := conv_str (w1.alloc (.cells #[.slice (some ⟨b, o, none⟩) l.length c1, .int .i64 0] 35)).drew (some ⟨b, o, none⟩) (l.take k) c1 ((HB1.out.under (HY.out.alloc HY.out.size _).drew).take k)
      have hcv2 := conv_str (((w1.setCell ⟨w.heap.size + 1, 0, none⟩ (.slice (some ⟨b, o + k, none⟩) (l.length - k) (c1 - k))).setCell ⟨w.heap.size + 1, 1, none⟩ (.int .i64 0)).alloc (.cells #[.slice (some ⟨b, o, none⟩) l.length c1, .int .i64 0] 35)).drew (some ⟨b, o, none⟩) (l.take k) c1
        ((HB1.out.under ((((HY.out.setCell (p := ⟨w.heap.size + 1, 0, none⟩) (by have := HB0.out.size; show _ ≤ w.heap.size + 1; omega) _).setCell (p := ⟨w.heap.size + 1, 1, none⟩) (by have := HB0.out.size; show _ ≤ w.heap.size + 1; omega) _).alloc (by have := HY.out.size; simp; omega) _).drew)).take k)
      rw [HTk.out] at hcv hcv2
      go_region
      go_wp2
      refine bodyPost_ret (v := .tuple #[.agg #[.slice (some ⟨b, o + k, none⟩) (l.length - k) (c1 - k), .int .i64 0], .string (str (l.take k))]) (by simp [results, Try.results19, go_sem, World.cell?_alloc_lt, hz, k0, k1]) rfl ?_
      exact ⟨⟨_, rfl, some ⟨b, o + k, none⟩, c1 - k, by simp, HB1.out.drop k, by simp; omega, by simp; omega, fun x => absurd rfl x⟩, (((HX.out.setCell (by simp) _).setCell (by simp) _).alloc (by simp; omega) _).drew⟩

theorem ttext_any (w0 : World) (v : Value) (s : Cod.St) (z : Int) (w : World) (h : Tv w0 v s) (hb0 : Below w0.heap.size w0 w) (hz : z ≤ 9223372036854775807) :
    Calls Try.prog 19 #[v, .int .i64 z] w fun e' w' => (∃ v', e' = .returned (.tuple #[v', .string (str (Cod.rowQ s z 1))]) ∧ Tv w0 v' (Cod.rowS s z 1)) ∧ Below w.heap.size w w' := by
  by_cases he : (Cod.headS s).err = 0
  · by_cases hl : z < 0 ∨ z < W (Cod.headN s)
    · obtain ⟨e1, e2⟩ := rowQ_long s z 1 he hl
      rw [e1, e2]
      exact ttext_none w0 v s _ z w h hb0 (fun W hW => many1_long w0 v s z W h hW he hz hl)
    · obtain ⟨e1, e2⟩ := rowQ_take s z 1 he (fun x => hl (.inl x)) (fun x => hl (.inr x))
      rw [e1, e2, Nat.mul_one]
      by_cases hs : ((Cod.headS s).rest.length : Int) / 1 < W (Cod.headN s)
      · have hs' : (Cod.headS s).rest.length < (Cod.headN s).toNat := by unfold W at hs; omega
        have e3 : Cod.takeQ (Cod.headS s) (Cod.headN s).toNat = [] := by simp [Cod.takeQ, he, hs']
        have e4 : Cod.takeS (Cod.headS s) (Cod.headN s).toNat = ⟨[], 10⟩ := by simp [Cod.takeS, he, hs']
        rw [e3, e4]
        exact ttext_none w0 v s _ z w h hb0 (fun W hW => many1_short w0 v s z W h hW he hz (fun x => hl (.inl x)) (fun x => hl (.inr x)) hs)
      · have hs' : ¬ (Cod.headS s).rest.length < (Cod.headN s).toNat := by unfold W at hs; omega
        have e3 : Cod.takeQ (Cod.headS s) (Cod.headN s).toNat = (Cod.headS s).rest.take (Cod.headN s).toNat := by simp [Cod.takeQ, he, hs']
        have e4 : Cod.takeS (Cod.headS s) (Cod.headN s).toNat = ⟨(Cod.headS s).rest.drop (Cod.headN s).toNat, 0⟩ := by simp [Cod.takeS, he, hs']
        rw [e3, e4]
        have e5 : Cod.headS s = ⟨(Cod.headS s).rest, 0⟩ := by rw [← he]
        refine ttext_good w0 v s (Cod.headS s).rest (Cod.headN s).toNat z w h hb0 (by omega) (fun W hW => ?_)
        rw [← e5]
        exact many1_good w0 v s z W h hW he hz (fun x => hl (.inl x)) (fun x => hl (.inr x)) hs
  · obtain ⟨e1, e2⟩ := rowQ_head s z 1 he
    rw [e1, e2]
    exact ttext_none w0 v s _ z w h hb0 (fun W hW => many1_head w0 v s z W h hW he)
end Go.Proofs.Ytejmcplikhglbaa
