/- The document's Digits (written by mkgre.py). -/
import Derived.Test.YtdjfmmfggkkbaaaDoorGrArg
import Derived.Laws.BytesString
namespace Go.Proofs.YtdjfmmfggkkbaaaDoor
open Go.RowKit Go.Shelf Grm

def digL (n : Nat) : Tx := if h : n < 10 then [(48 + n).toUInt8] else digL (n / 10) ++ [(48 + n % 10).toUInt8]
termination_by n
theorem digL_len : ∀ (k n : Nat), n < 10 ^ (k + 1) → (digL n).length ≤ k + 1
  | 0, n, h => by rw [digL]; simp at h; simp [h]
  | k + 1, n, h => by
    rw [digL]
    split
    · simp
    · have := digL_len k (n / 10) (by rw [Nat.pow_succ] at h; omega)
      simp
      omega
theorem digL_len19 (n : Nat) (h : n < 9223372036854775808) : (digL n).length ≤ 19 := digL_len 18 n (by omega)
/-- 'string([]byte{x})'. -/
theorem conv1 (w : World) (b x : Nat) (hx : x < 256) (h : w.cell? ⟨b, 0, none⟩ = some (.int .u8 (x : Nat))) :
    (convert 47 9 (.slice (some ⟨b, 0, none⟩) 1 1)).run Tryd.prog w = .ok (txV [x.toUInt8]) w := by
  rw [run_convert_bytes_string w 47 9 5 (some ⟨b, 0, none⟩) 1 1 Tryd.underlying47 Tryd.underlying5 Tryd.underlying9]
  have hl := run_loadCells_list (P := Tryd.prog) w ⟨b, 0, none⟩ [.int .u8 (x : Nat)] (fun j v hv => by
    match j, hv with
    | 0, hv => injection hv with hv; subst hv; exact h
    | j + 1, hv => simp at hv)
  have := run_bytesToString (P := Tryd.prog) w ⟨b, 0, none⟩ 1 1 [(x : Int)] hl
  rw [this]
  rfl
theorem dig_byte (z : Nat) (h : z < 10) : IntKind.u8.wrap (48 + (z : Int)) = ((48 + z : Nat) : Int) := by
  unfold IntKind.wrap
  simp [IntKind.bits, IntKind.signed]
  omega
set_option maxRecDepth 100000 in
set_option maxHeartbeats 2000000 in
theorem digits_one (n : Nat) (h : n < 10) (w : World) : Calls Tryd.prog 21 #[.int .i64 (n : Nat)] w fun e w' => e = .returned (txV (digL n)) ∧ Below w.heap.size w w' := by
  have e1 : digL n = [(48 + n).toUInt8] := by rw [digL]; simp [h]
  rw [e1]
  have i1 : (n : Int) < 10 := by omega
  have hc : (convert 47 9 (.slice (some ⟨w.heap.size, 0, none⟩) 1 1)).run Tryd.prog (w.alloc (.cells #[.int .u8 (48 + (n : Int))] 5)) = .ok (txV [(48 + n).toUInt8]) (w.alloc (.cells #[.int .u8 (48 + (n : Int))] 5)) := by
    refine conv1 _ _ _ (by omega) ?_
    have := (Row.fresh w 5 #[.int .u8 (48 + (n : Int))]).cell 0
    rw [this]
    simp
  generalize txV [(48 + n).toUInt8] = V at *
  go_enter Tryd.func21, Tryd.ntmps21
  go_wp2
  go_ret
  exact ⟨rfl, (Below.refl _ _).alloc (Nat.le_refl _) _⟩
set_option maxRecDepth 100000 in
set_option maxHeartbeats 4000000 in
theorem digits_more (n : Nat) (h : ¬ n < 10) (h9 : n < 9223372036854775808) (w : World) (HC : Hid (∀ w : World, Calls Tryd.prog 21 #[.int .i64 ((n / 10 : Nat) : Int)] w fun e w' => e = .returned (txV (digL (n / 10))) ∧ Below w.heap.size w w')) : Calls Tryd.prog 21 #[.int .i64 (n : Nat)] w fun e w' => e = .returned (txV (digL n)) ∧ Below w.heap.size w w' := by
  have e1 : digL n = digL (n / 10) ++ [(48 + n % 10).toUInt8] := by rw [digL]; simp [h]
  rw [e1]
  have i1 : ¬ (n : Int) < 10 := by omega
  have i2 : (n : Int) < 9223372036854775808 := by omega
  obtain ⟨x, hxe⟩ : ∃ x, x = 48 + n % 10 := ⟨_, rfl⟩
  have hx : x < 256 := by omega
  rw [← hxe]
  obtain ⟨q, hq⟩ : ∃ q, q = n / 10 := ⟨_, rfl⟩
  rw [← hq] at HC ⊢
  have hq1 : (n : Int).tdiv 10 = (q : Int) := by rw [Int.tdiv_eq_ediv_of_nonneg (by omega)]; omega
  have hq2 : (n : Int) / 10 = (q : Int) := by omega
  have hm1 : (n : Int).tmod 10 = (x : Int) - 48 := by rw [Int.tmod_eq_emod_of_nonneg (by omega)]; omega
  have hm2 : (n : Int) % 10 = (x : Int) - 48 := by omega
  have hx48 : (48 : Int) ≤ (x : Int) := by omega
  have hx57 : (x : Int) ≤ 57 := by omega
  have hwq : IntKind.i64.wrap (q : Int) = (q : Int) := by rw [IntKind.wrap_i64]; omega
  have hw48 : IntKind.i64.wrap (48 + ((x : Int) - 48)) = (x : Int) := by rw [IntKind.wrap_i64]; omega
  have hu8 : IntKind.u8.wrap (x : Int) = (x : Int) := by
    unfold IntKind.wrap
    simp [IntKind.bits, IntKind.signed]
    omega
  have he : ∀ A B : Tx, (⟨A.toArray⟩ : ByteArray) ++ ⟨B.toArray⟩ = ⟨(A ++ B).toArray⟩ := fun A B => by apply ByteArray.ext; simp
  show Calls Tryd.prog 21 #[.int .i64 (n : Nat)] w fun e w' => e = .returned (.string ⟨(digL q ++ [x.toUInt8]).toArray⟩) ∧ Below w.heap.size w w'
  rw [← he]
  have HV := Lib.hid (fun w b => conv1 w b x hx)
  have hD : (⟨(digL q).toArray⟩ : ByteArray).size ≤ 19 := by rw [gr_size]; exact digL_len19 q (by omega)
  have hV : (⟨[x.toUInt8].toArray⟩ : ByteArray).size = 1 := rfl
  have hcat : ¬ 9223372036854775807 < (⟨(digL q).toArray⟩ : ByteArray).size + 1 := by omega
  clear hD
  unfold txV at HC HV
  generalize (⟨(digL q).toArray⟩ : ByteArray) = D at *
  generalize (⟨[x.toUInt8].toArray⟩ : ByteArray) = V at *
  clear hxe h h9 e1 hq he
  go_enter Tryd.func21, Tryd.ntmps21
  go_upto_region 3 with (fail)
  refine wp_region_held_drew (S := fun _ => True) (by kernel_rfl) trivial (fun _ => ?_)
  refine wpAnyH_take (i := 0) (oi := ⟨some 10, _, _, _, _, _⟩) (v := ?_) rfl (by kernel_rfl) (by kernel_rfl) (by kernel_rfl) (fun _ _ _ h => h) (Or.inl ⟨by rfl, ?_⟩) trivial ?_
  rotate_left
  · intro W _
    go_simp
    with_reducible rfl
  simp only [Act.put, List.setIfInBounds_toArray, List.set_cons_zero, List.set_cons_succ]
  refine wpAnyH_take (i := 1) (oi := ⟨some 11, _, _, _, _, _⟩) (v := ?_) rfl (by kernel_rfl) (by kernel_rfl) (by kernel_rfl) (fun _ _ _ h => h) (Or.inl ⟨by rfl, ?_⟩) trivial ?_
  rotate_left
  · intro W _
    go_simp
    with_reducible rfl
  simp only [Act.put, List.setIfInBounds_toArray, List.set_cons_zero, List.set_cons_succ]
  refine wpAnyH_take (i := 3) (oi := ⟨some 13, _, _, _, _, _⟩) (v := ?_) rfl (by kernel_rfl) (by kernel_rfl) (by kernel_rfl) (fun _ _ _ h => h) (Or.inl ⟨by rfl, ?_⟩) trivial ?_
  rotate_left
  · intro W _
    go_simp
    with_reducible rfl
  simp only [Act.put, List.setIfInBounds_toArray, List.set_cons_zero, List.set_cons_succ]
  refine wpAnyH_take (i := 4) (oi := ⟨some 14, _, _, _, _, _⟩) (v := ?_) rfl (by kernel_rfl) (by kernel_rfl) (by kernel_rfl) (fun _ _ _ h => h) (Or.inl ⟨by rfl, ?_⟩) trivial ?_
  rotate_left
  · intro W _
    go_simp
    with_reducible rfl
  simp only [Act.put, List.setIfInBounds_toArray, List.set_cons_zero, List.set_cons_succ]
  refine wpAnyH_take (i := 5) (oi := ⟨some 15, _, _, _, _, _⟩) (v := ?_) rfl (by kernel_rfl) (by kernel_rfl) (by kernel_rfl) (fun _ _ _ h => h) (Or.inl ⟨by rfl, ?_⟩) trivial ?_
  rotate_left
  · intro W _
    go_simp
    with_reducible rfl
  simp only [Act.put, List.setIfInBounds_toArray, List.set_cons_zero, List.set_cons_succ]
  refine wpAnyH_take (i := 6) (oi := ⟨some 16, _, _, _, _, _⟩) (v := ?_) rfl (by kernel_rfl) (by kernel_rfl) (by kernel_rfl) (fun _ _ _ h => h) (Or.inl ⟨by rfl, ?_⟩) trivial ?_
  rotate_left
  · intro W _
    go_simp
    with_reducible rfl
  simp only [Act.put, List.setIfInBounds_toArray, List.set_cons_zero, List.set_cons_succ]
  refine wpAnyH_ready (rs := [2, 7]) (by kernel_rfl) (by simp) ?_
  refine (AllReadyH.cons (o := ⟨some 12, _, _, _, _, _⟩) rfl (fun K hK => ?_) (AllReadyH.cons (o := ⟨some 17, _, _, _, _, _⟩) rfl (fun K hK => ?_) AllReadyH.nil))
  · skip
    go_simp
    refine (HC.out w.drew).mono ?_
    rintro e w2 ⟨rfl, hb9⟩
    have HB2 := Lib.hid (show Below w.heap.size w w2 from ⟨hb9.os, hb9.tape, hb9.output, hb9.size, hb9.block⟩)
    have hcv := HV.out (w2.alloc (.cells #[.int .u8 (x : Nat)] 5)) w2.heap.size ((Row.fresh w2 5 #[.int .u8 (x : Nat)]).cell 0)
    clear hb9
    refine hK.out _ _ trivial (fun _ => ?_)
    clear hK K
    refine wpAnyH_ready (rs := [7]) (by kernel_rfl) (by simp) ?_
    refine (AllReadyH.cons (o := ⟨some 17, _, _, _, _, _⟩) rfl (fun K hK => ?_) AllReadyH.nil)
    go_simp
    refine hK.out _ _ trivial (fun _ => ?_)
    clear hK K
    refine wpAnyH_ready (rs := [8]) (by kernel_rfl) (by simp) ?_
    refine (AllReadyH.cons (o := ⟨some 18, _, _, _, _, _⟩) rfl (fun K hK => ?_) AllReadyH.nil)
    go_simp
    refine hK.out _ _ trivial (fun _ => ?_)
    clear hK K
    refine wpAnyH_take (i := 9) (oi := ⟨some 19, _, _, _, _, _⟩) (v := ?_) rfl (by kernel_rfl) (by kernel_rfl) (by kernel_rfl) (fun _ _ _ h => h) (Or.inl ⟨by rfl, ?_⟩) trivial ?_
    rotate_left
    · intro W _
      go_simp
      with_reducible rfl
    simp only [Act.put, List.setIfInBounds_toArray, List.set_cons_zero, List.set_cons_succ]
    refine wpAnyH_take (i := 10) (oi := ⟨some 2, _, _, _, _, _⟩) (v := ?_) rfl (by kernel_rfl) (by kernel_rfl) (by kernel_rfl) (fun _ _ _ h => h) (Or.inl ⟨by rfl, ?_⟩) trivial ?_
    rotate_left
    · intro W _
      go_simp
      with_reducible rfl
    simp only [Act.put, List.setIfInBounds_toArray, List.set_cons_zero, List.set_cons_succ]
    refine wpAnyH_done (by kernel_rfl) ?_ _
    go_wp2
    go_ret
    exact ⟨rfl, HB2.out.alloc HB2.out.size _⟩
  · skip
    have hcv0 := HV.out (w.alloc (.cells #[.int .u8 (x : Nat)] 5)).drew w.heap.size ((Row.fresh w 5 #[.int .u8 (x : Nat)]).cell 0)
    go_simp
    refine hK.out _ _ trivial (fun _ => ?_)
    clear hK K
    refine wpAnyH_ready (rs := [2, 8]) (by kernel_rfl) (by simp) ?_
    refine (AllReadyH.cons (o := ⟨some 12, _, _, _, _, _⟩) rfl (fun K hK => ?_) (AllReadyH.cons (o := ⟨some 18, _, _, _, _, _⟩) rfl (fun K hK => ?_) AllReadyH.nil))
    · skip
      go_simp
      refine (HC.out (w.alloc (.cells #[.int .u8 (x : Nat)] 5)).drew).mono ?_
      rintro e w2 ⟨rfl, hb9⟩
      have HB2 := Lib.hid (show Below w.heap.size w w2 from ((Below.refl w.heap.size w).alloc (Nat.le_refl _) (.cells #[.int .u8 (x : Nat)] 5)).trans ⟨hb9.os, hb9.tape, hb9.output, by have := hb9.size; exact this, fun k hk => hb9.block k (by show k < (w.alloc (.cells #[.int .u8 (x : Nat)] 5)).heap.size; rw [World.size_alloc]; omega)⟩)
      have hcv := HV.out w2 w.heap.size ((hb9.cell (p := ⟨w.heap.size, 0, none⟩) (show w.heap.size < (w.alloc (.cells #[.int .u8 (x : Nat)] 5)).heap.size by rw [World.size_alloc]; omega)).trans ((Row.fresh w 5 #[.int .u8 (x : Nat)]).cell 0))
      clear hb9
      refine hK.out _ _ trivial (fun _ => ?_)
      clear hK K
      refine wpAnyH_ready (rs := [8]) (by kernel_rfl) (by simp) ?_
      refine (AllReadyH.cons (o := ⟨some 18, _, _, _, _, _⟩) rfl (fun K hK => ?_) AllReadyH.nil)
      go_simp
      refine hK.out _ _ trivial (fun _ => ?_)
      clear hK K
      refine wpAnyH_take (i := 9) (oi := ⟨some 19, _, _, _, _, _⟩) (v := ?_) rfl (by kernel_rfl) (by kernel_rfl) (by kernel_rfl) (fun _ _ _ h => h) (Or.inl ⟨by rfl, ?_⟩) trivial ?_
      rotate_left
      · intro W _
        go_simp
        with_reducible rfl
      simp only [Act.put, List.setIfInBounds_toArray, List.set_cons_zero, List.set_cons_succ]
      refine wpAnyH_take (i := 10) (oi := ⟨some 2, _, _, _, _, _⟩) (v := ?_) rfl (by kernel_rfl) (by kernel_rfl) (by kernel_rfl) (fun _ _ _ h => h) (Or.inl ⟨by rfl, ?_⟩) trivial ?_
      rotate_left
      · intro W _
        go_simp
        with_reducible rfl
      simp only [Act.put, List.setIfInBounds_toArray, List.set_cons_zero, List.set_cons_succ]
      refine wpAnyH_done (by kernel_rfl) ?_ _
      go_wp2
      go_ret
      exact ⟨rfl, HB2.out⟩
    · skip
      go_simp
      refine hK.out _ _ trivial (fun _ => ?_)
      clear hK K
      refine wpAnyH_ready (rs := [2]) (by kernel_rfl) (by simp) ?_
      refine (AllReadyH.cons (o := ⟨some 12, _, _, _, _, _⟩) rfl (fun K hK => ?_) AllReadyH.nil)
      go_simp
      refine (HC.out (w.alloc (.cells #[.int .u8 (x : Nat)] 5)).drew).mono ?_
      rintro e w2 ⟨rfl, hb9⟩
      have HB2 := Lib.hid (show Below w.heap.size w w2 from ((Below.refl w.heap.size w).alloc (Nat.le_refl _) (.cells #[.int .u8 (x : Nat)] 5)).trans ⟨hb9.os, hb9.tape, hb9.output, by have := hb9.size; exact this, fun k hk => hb9.block k (by show k < (w.alloc (.cells #[.int .u8 (x : Nat)] 5)).heap.size; rw [World.size_alloc]; omega)⟩)
      clear hb9
      refine hK.out _ _ trivial (fun _ => ?_)
      clear hK K
      refine wpAnyH_take (i := 9) (oi := ⟨some 19, _, _, _, _, _⟩) (v := ?_) rfl (by kernel_rfl) (by kernel_rfl) (by kernel_rfl) (fun _ _ _ h => h) (Or.inl ⟨by rfl, ?_⟩) trivial ?_
      rotate_left
      · intro W _
        go_simp
        with_reducible rfl
      simp only [Act.put, List.setIfInBounds_toArray, List.set_cons_zero, List.set_cons_succ]
      refine wpAnyH_take (i := 10) (oi := ⟨some 2, _, _, _, _, _⟩) (v := ?_) rfl (by kernel_rfl) (by kernel_rfl) (by kernel_rfl) (fun _ _ _ h => h) (Or.inl ⟨by rfl, ?_⟩) trivial ?_
      rotate_left
      · intro W _
        go_simp
        with_reducible rfl
      simp only [Act.put, List.setIfInBounds_toArray, List.set_cons_zero, List.set_cons_succ]
      refine wpAnyH_done (by kernel_rfl) ?_ _
      go_wp2
      go_ret
      exact ⟨rfl, HB2.out⟩
theorem digits_any : ∀ (n : Nat), n < 9223372036854775808 → ∀ w : World, Calls Tryd.prog 21 #[.int .i64 (n : Nat)] w fun e w' => e = .returned (txV (digL n)) ∧ Below w.heap.size w w' := by
  intro n
  induction n using Nat.strongRecOn with
  | ind n ih =>
    intro h9 w
    by_cases h : n < 10
    · exact digits_one n h w
    · exact digits_more n h h9 w (Lib.hid (ih (n / 10) (by omega) (by omega)))
end Go.Proofs.YtdjfmmfggkkbaaaDoor
