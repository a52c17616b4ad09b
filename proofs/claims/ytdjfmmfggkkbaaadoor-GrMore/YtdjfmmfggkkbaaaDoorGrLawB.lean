/- GrNumbers. -/
import Derived.Test.YtdjfmmfggkkbaaaDoorGrE
namespace Go.Proofs.YtdjfmmfggkkbaaaDoor
open Go.RowKit Go.Shelf Grm

theorem toU8 (z : Nat) (h : z < 256) : (z.toUInt8).toNat = z := by
  show z % 256 = z
  omega
theorem digL_val (n : Nat) : val (digL n) = n := by
  induction n using Nat.strongRecOn with
  | ind n ih =>
    rw [digL]
    split
    · rename_i h
      simp only [val, List.foldl_cons, List.foldl_nil]
      rw [toU8 _ (by omega)]
      omega
    · rename_i h
      have := ih (n / 10) (by omega)
      unfold val at this ⊢
      rw [List.foldl_append, this]
      simp only [List.foldl_cons, List.foldl_nil]
      rw [toU8 _ (by omega)]
      omega
theorem digL_dig (n : Nat) : (digL n).all dig = true := by
  induction n using Nat.strongRecOn with
  | ind n ih =>
    rw [digL]
    split
    · rename_i h
      have : (48 + n).toUInt8.toNat = 48 + n := toU8 _ (by omega)
      simp only [List.all_cons, List.all_nil, Bool.and_true, dig, decide_eq_true_eq]
      omega
    · rename_i h
      rw [List.all_append, ih (n / 10) (by omega)]
      have : (48 + n % 10).toUInt8.toNat = 48 + n % 10 := toU8 _ (by omega)
      simp only [List.all_cons, List.all_nil, Bool.and_true, Bool.true_and, dig, decide_eq_true_eq]
      omega
theorem digL_pos (n : Nat) : 1 ≤ (digL n).length := by
  rw [digL]
  split <;> simp
/-- No nought ahead. -/
theorem digL_head (n : Nat) : n ≠ 0 → (digL n).head? ≠ some 48 := by
  induction n using Nat.strongRecOn with
  | ind n ih =>
    intro h0 e
    rw [digL] at e
    split at e
    · rename_i h
      simp only [List.head?_cons, Option.some.injEq] at e
      have h1 := congrArg UInt8.toNat e
      rw [toU8 _ (by omega)] at h1
      have : (48 : UInt8).toNat = 48 := rfl
      omega
    · rename_i h
      have hp := digL_pos (n / 10)
      rw [List.head?_append] at e
      cases hh : (digL (n / 10)).head? with
      | none => rw [List.head?_eq_none_iff] at hh; rw [hh] at hp; simp at hp
      | some b => rw [hh] at e; exact ih (n / 10) (by omega) (by omega) (by rw [hh]; simpa using e)
theorem digL_one (n : Nat) (h : n = 0) : (digL n).length = 1 := by rw [digL]; simp [h]
theorem digL_form (n : Nat) (h : n < 10000000000) : form (digL n) := by
  refine ⟨digL_pos n, digL_len 9 n h, fun q => ?_⟩
  by_cases h0 : n = 0
  · have := digL_one n h0; omega
  · exact digL_head n h0 q.2
theorem num_dig (n : Nat) (most : Int) (h : n < 10000000000) : numL (digL n) most = if (n : Int) ≤ most then some n else none := by
  unfold numL
  rw [digL_val]
  by_cases hm : (n : Int) ≤ most
  · rw [if_pos ⟨digL_form n h, digL_dig n, hm⟩, if_pos hm]
  · rw [if_neg (fun q => hm q.2.2), if_neg hm]
theorem num_nought (n : Nat) (most : Int) : numL (48 :: digL n) most = none := by
  unfold numL
  refine if_neg (fun q => q.1.2.2 ⟨?_, rfl⟩)
  have := digL_pos n
  simp; omega
theorem num_bad (l : Tx) (c : UInt8) (most : Int) (h : dig c = false) : numL (l ++ [c]) most = none := by
  unfold numL
  refine if_neg (fun q => ?_)
  have := q.2.1
  rw [List.all_append] at this
  simp [h] at this
theorem cat_tx (a b : Tx) : (⟨a.toArray⟩ : ByteArray) ++ ⟨b.toArray⟩ = ⟨(a ++ b).toArray⟩ := by apply ByteArray.ext; simp
set_option maxRecDepth 100000 in
set_option maxHeartbeats 4000000 in
theorem gnum_walk (n most c : Nat) (hn : n < 4294967296) (hm : most < 4294967296) (hc : c < 256) (w : World) :
    Calls Tryd.prog 8 #[.int .u32 (n : Nat), .int .u32 (most : Nat), .int .u8 (c : Nat)] w fun e w' => e = .returned (.bool true) ∧ Below w.heap.size w w' := by
  have hlen := digL_len 9 n (by omega)
  have HD := Lib.hid (digits_any n (by omega))
  have h1 := fun w => number_any (digL n) (most : Int) w (by omega)
  have h2 := fun w => number_any (48 :: digL n) (most : Int) w (by simp; omega)
  have h3 := fun w => number_any (digL n ++ [c.toUInt8]) 4294967295 w (by simp; omega)
  have hcv := fun w b => conv1 w b c hc
  have hb3 : (¬ (48 ≤ c ∧ c ≤ 57)) → numL (digL n ++ [c.toUInt8]) 4294967295 = none := fun q => num_bad _ _ _ (by
    have : c.toUInt8.toNat = c := toU8 c hc
    simp only [dig, this, decide_eq_false_iff_not]
    exact q)
  rw [num_dig n _ (by omega)] at h1
  rw [num_nought] at h2
  have e2 : (⟨(48 :: digL n).toArray⟩ : ByteArray) = ⟨#[48]⟩ ++ ⟨(digL n).toArray⟩ := (cat_tx [48] (digL n)).symm
  have e3 : (⟨(digL n ++ [c.toUInt8]).toArray⟩ : ByteArray) = ⟨(digL n).toArray⟩ ++ ⟨[c.toUInt8].toArray⟩ := (cat_tx _ _).symm
  rw [e2] at h2
  rw [e3] at h3
  have hs : (⟨(digL n).toArray⟩ : ByteArray).size ≤ 10 := by rw [gr_size]; exact hlen
  have hV : (⟨[c.toUInt8].toArray⟩ : ByteArray).size = 1 := rfl
  have k1 : ¬ 9223372036854775807 < 1 + (⟨(digL n).toArray⟩ : ByteArray).size := by omega
  have k2 : ¬ 9223372036854775807 < (⟨(digL n).toArray⟩ : ByteArray).size + 1 := by omega
  have j1 : (n : Int) < 4294967296 := by omega
  have j2 : (most : Int) < 4294967296 := by omega
  have j3 : (c : Int) < 256 := by omega
  unfold txV at HD hcv
  generalize numL (digL n ++ [c.toUInt8]) 4294967295 = R3 at *
  clear e2 e3 hs hlen
  generalize (⟨(digL n).toArray⟩ : ByteArray) = D at *
  generalize (⟨[c.toUInt8].toArray⟩ : ByteArray) = V at *
  have H2 := Lib.hid h2
  have H3 := Lib.hid h3
  have HV := Lib.hid hcv
  have p1 : (0 : Int) ≤ (n : Int) := by omega
  have p2 : (0 : Int) ≤ (most : Int) := by omega
  have p3 : (0 : Int) ≤ (c : Int) := by omega
  have HB3 := Lib.hid (show ¬ ((48 : Int) ≤ (c : Int) ∧ (c : Int) ≤ 57) → R3 = none from fun q => hb3 (by omega))
  have H1 := Lib.hid (show ∀ w, Calls Tryd.prog 16 #[.string D, .int .i64 (most : Int)] w fun e w' => e = .returned (.tuple #[.int .i64 (if (n : Int) ≤ (most : Int) then (n : Int) else 0), .bool (decide ((n : Int) ≤ (most : Int)))]) ∧ w' = w from fun w => by
    have := h1 w
    by_cases q : (n : Int) ≤ (most : Int)
    · simpa [q] using this
    · simpa [q] using this)
  clear h1 h2 h3 hcv hb3 hn hm hc
  generalize (n : Int) = N at *
  generalize (most : Int) = M at *
  generalize (c : Int) = C at *
  by_cases hle : N ≤ M
  · simp only [if_pos hle, decide_eq_true hle] at H1
    simp only [Option.getD_none, Option.isSome_none, Int.natCast_zero] at H2
    go_enter Tryd.func8, Tryd.ntmps8
    go_wp2_with fail
    refine (HD.out _).mono ?_
    rintro e w1 ⟨rfl, hb1⟩
    have HB1 := Lib.hid hb1
    clear hb1
    go_wp2_with fail
    refine (H1.out _).mono ?_
    rintro e w9 ⟨rfl, hw9⟩; subst w9
    go_wp2_with fail
    refine (H2.out _).mono ?_
    rintro e w9 ⟨rfl, hw9⟩; subst w9
    by_cases d1 : (48 : Int) ≤ C
    · by_cases d2 : C ≤ 57
      · skip
        go_wp2_with fail
        refine (known_any _).mono ?_
        rintro e w4 ⟨rfl, hb4⟩
        have HB4 := Lib.hid (HB1.out.trans (hb4.mono HB1.out.size))
        clear hb4
        go_wp2
        go_ret
        exact ⟨rfl, HB4.out⟩
      · skip
        rw [HB3.out (by omega)] at H3
        simp only [Option.getD_none, Option.isSome_none] at H3
        have hcv := HV.out (w1.alloc (.cells #[.int .u8 C] 5)) w1.heap.size ((Row.fresh w1 5 #[.int .u8 C]).cell 0)
        have HB2 := Lib.hid (HB1.out.alloc HB1.out.size (.cells #[.int .u8 C] 5))
        go_wp2_with fail
        refine (H3.out _).mono ?_
        rintro e w9 ⟨rfl, hw9⟩; subst w9
        go_wp2_with fail
        refine (known_any _).mono ?_
        rintro e w4 ⟨rfl, hb4⟩
        have HB4 := Lib.hid (HB2.out.trans (hb4.mono HB2.out.size))
        clear hb4
        go_wp2
        go_ret
        exact ⟨rfl, HB4.out⟩
    · skip
      rw [HB3.out (by omega)] at H3
      simp only [Option.getD_none, Option.isSome_none] at H3
      have hcv := HV.out (w1.alloc (.cells #[.int .u8 C] 5)) w1.heap.size ((Row.fresh w1 5 #[.int .u8 C]).cell 0)
      have HB2 := Lib.hid (HB1.out.alloc HB1.out.size (.cells #[.int .u8 C] 5))
      go_wp2_with fail
      refine (H3.out _).mono ?_
      rintro e w9 ⟨rfl, hw9⟩; subst w9
      go_wp2_with fail
      refine (known_any _).mono ?_
      rintro e w4 ⟨rfl, hb4⟩
      have HB4 := Lib.hid (HB2.out.trans (hb4.mono HB2.out.size))
      clear hb4
      go_wp2
      go_ret
      exact ⟨rfl, HB4.out⟩
  · simp only [if_neg hle, decide_eq_false hle] at H1
    simp only [Option.getD_none, Option.isSome_none, Int.natCast_zero] at H2
    go_enter Tryd.func8, Tryd.ntmps8
    go_wp2_with fail
    refine (HD.out _).mono ?_
    rintro e w1 ⟨rfl, hb1⟩
    have HB1 := Lib.hid hb1
    clear hb1
    go_wp2_with fail
    refine (H1.out _).mono ?_
    rintro e w9 ⟨rfl, hw9⟩; subst w9
    go_wp2_with fail
    refine (H2.out _).mono ?_
    rintro e w9 ⟨rfl, hw9⟩; subst w9
    by_cases d1 : (48 : Int) ≤ C
    · by_cases d2 : C ≤ 57
      · skip
        go_wp2_with fail
        refine (known_any _).mono ?_
        rintro e w4 ⟨rfl, hb4⟩
        have HB4 := Lib.hid (HB1.out.trans (hb4.mono HB1.out.size))
        clear hb4
        go_wp2
        go_ret
        exact ⟨rfl, HB4.out⟩
      · skip
        rw [HB3.out (by omega)] at H3
        simp only [Option.getD_none, Option.isSome_none] at H3
        have hcv := HV.out (w1.alloc (.cells #[.int .u8 C] 5)) w1.heap.size ((Row.fresh w1 5 #[.int .u8 C]).cell 0)
        have HB2 := Lib.hid (HB1.out.alloc HB1.out.size (.cells #[.int .u8 C] 5))
        go_wp2_with fail
        refine (H3.out _).mono ?_
        rintro e w9 ⟨rfl, hw9⟩; subst w9
        go_wp2_with fail
        refine (known_any _).mono ?_
        rintro e w4 ⟨rfl, hb4⟩
        have HB4 := Lib.hid (HB2.out.trans (hb4.mono HB2.out.size))
        clear hb4
        go_wp2
        go_ret
        exact ⟨rfl, HB4.out⟩
    · skip
      rw [HB3.out (by omega)] at H3
      simp only [Option.getD_none, Option.isSome_none] at H3
      have hcv := HV.out (w1.alloc (.cells #[.int .u8 C] 5)) w1.heap.size ((Row.fresh w1 5 #[.int .u8 C]).cell 0)
      have HB2 := Lib.hid (HB1.out.alloc HB1.out.size (.cells #[.int .u8 C] 5))
      go_wp2_with fail
      refine (H3.out _).mono ?_
      rintro e w9 ⟨rfl, hw9⟩; subst w9
      go_wp2_with fail
      refine (known_any _).mono ?_
      rintro e w4 ⟨rfl, hb4⟩
      have HB4 := Lib.hid (HB2.out.trans (hb4.mono HB2.out.size))
      clear hb4
      go_wp2
      go_ret
      exact ⟨rfl, HB4.out⟩
end Go.Proofs.YtdjfmmfggkkbaaaDoor
