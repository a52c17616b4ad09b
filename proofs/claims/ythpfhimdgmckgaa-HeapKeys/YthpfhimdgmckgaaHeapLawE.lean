/- Walk of the law HeapKeys. -/
import Derived.Test.YthpfhimdgmckgaaHeapP
namespace Go.Proofs.Ythpfhimdgmckgaa
open Go.RowKit Hp

set_option maxRecDepth 100000 in
theorem keys_big (a : Option Addr) (n c : Nat) (w : World) (h : 60 < n) : Calls Try.prog 6 #[.slice a n c] w fun e w' => e = .returned (.bool true) ∧ Below w.heap.size w w' := by
  have h2 : (60 : Int) < (n : Int) := by omega
  go_enter Try.func6, Try.ntmps6
  go_wp2_with fail
  refine (known_any _).mono ?_
  rintro e w8 ⟨rfl, hb8⟩
  have HB := Lib.hid hb8
  clear hb8
  go_wp2
  go_ret
  exact ⟨rfl, HB.out⟩
/-- The best of the first v. -/
def Best (f : Nat → Option Int) (v : Nat) (best : Value) : Prop :=
  (best = .int .i64 (-1) ∧ ∀ i, i < v → f i = none) ∨ ∃ (p : Nat) (kp : Int), best = .int .i64 p ∧ p < v ∧ f p = some kp ∧ ∀ i, i < v → ∀ k, f i = some k → kp < k ∨ (kp = k ∧ p ≤ i)
theorem Best.skip {f : Nat → Option Int} {v : Nat} {best : Value} (h : Best f v best) (hf : f v = none) : Best f (v + 1) best := by
  rcases h with ⟨rfl, h⟩ | ⟨p, kp, rfl, h1, h2, h3⟩
  · refine .inl ⟨rfl, fun i hi => ?_⟩
    by_cases e : i = v
    · rw [e, hf]
    · exact h i (by omega)
  · refine .inr ⟨p, kp, rfl, by omega, h2, fun i hi k hk => ?_⟩
    by_cases e : i = v
    · rw [e, hf] at hk; cases hk
    · exact h3 i (by omega) k hk
theorem Best.one {f : Nat → Option Int} {v : Nat} {k : Int} (h : ∀ i, i < v → f i = none) (hf : f v = some k) : Best f (v + 1) (.int .i64 v) := by
  refine .inr ⟨v, k, rfl, by omega, hf, fun i hi k' hk => ?_⟩
  by_cases e : i = v
  · rw [e, hf] at hk; injection hk with hk; omega
  · rw [h i (by omega)] at hk; cases hk
theorem Best.less {f : Nat → Option Int} {v p : Nat} {k kp : Int} (h3 : ∀ i, i < v → ∀ k, f i = some k → kp < k ∨ (kp = k ∧ p ≤ i)) (hf : f v = some k) (hk : k < kp) : Best f (v + 1) (.int .i64 v) := by
  refine .inr ⟨v, k, rfl, by omega, hf, fun i hi k' hk' => ?_⟩
  by_cases e : i = v
  · rw [e, hf] at hk'; injection hk' with hk'; omega
  · have := h3 i (by omega) k' hk'; omega
theorem Best.more {f : Nat → Option Int} {v p : Nat} {k kp : Int} (h1 : p < v) (h2 : f p = some kp) (h3 : ∀ i, i < v → ∀ k, f i = some k → kp < k ∨ (kp = k ∧ p ≤ i)) (hf : f v = some k) (hk : ¬ k < kp) : Best f (v + 1) (.int .i64 p) := by
  refine .inr ⟨p, kp, rfl, by omega, h2, fun i hi k' hk' => ?_⟩
  by_cases e : i = v
  · rw [e, hf] at hk'; injection hk' with hk'; omega
  · exact h3 i (by omega) k' hk'
theorem cnt_some (v : Nat) (f : Nat → Option Int) (k : Int) (h : f v = some k) : cnt (v + 1) f = cnt v f + 1 := by rw [cnt_succ, h]; rfl
theorem cnt_skip (v : Nat) (f : Nat → Option Int) (h : f v = none) : cnt (v + 1) f = cnt v f := by rw [cnt_succ, h]; rfl
set_option maxHeartbeats 4000000 in
set_option maxRecDepth 100000 in
theorem keys_small (a : Option Addr) (l : List (Int × Int × Int)) (c : Nat) (w : World) (hD : Dos w a l) (h : l.length ≤ 60) : Calls Try.prog 6 #[.slice a l.length c] w fun e w' => e = .returned (.bool true) ∧ Below w.heap.size w w' := by
  have h2 : ¬ (60 : Int) < (l.length : Int) := by omega
  have HD := Lib.hid hD
  clear hD
  go_enter Try.func6, Try.ntmps6
  go_wp2_with fail
  refine (Own.new 8 w (by omega)).mono ?_
  rintro e w1 ⟨x, rfl, h1⟩
  have H1 := Lib.hid h1
  clear h1
  go_wp2_with (first
    | ((with_reducible show wpList _ _ _ (Oper.mk (some 21) (Op.makeSlice _ _ _) _ _ _ _ :: _) _ _); refine wpList_makeZ rfl _ _ rfl 8 rfl rfl ?_ ?_; omega; intro w2 HR2 HW2)
    | ((with_reducible show wpList _ _ _ (Oper.mk (some 22) (Op.makeSlice _ _ _) _ _ _ _ :: _) _ _); refine wpList_makeZ rfl _ _ rfl 8 rfl rfl ?_ ?_; omega; intro w3 HR3 HW3))
  have hK : KG w x w1.heap.size w2.heap.size (fun _ => none) (fun _ => 0) (ins fun _ => none) w3 := by
    rw [HW3.out, ins_none]
    have h2 : OwnR w x 8 (fun _ => none) w1.heap.size 8 (fun _ => 0) w2 := by rw [HW2.out]; exact H1.out.beside
    exact h2.two
  have H3 := Lib.hid hK
  clear hK HR2 HW2 HR3 HW3 H1
  generalize w1.heap.size = kb at *
  generalize w2.heap.size = ib at *
  go_loopw [6] (fun i wr => ∃ (r : Nat) (f : Nat → Option Int) (kv : Nat → Int), r ≤ l.length ∧ i = .int .i64 r ∧ KG w x kb ib f kv (ins f) wr ∧ Keys f kv) (fun i _ => l.length - (intOf i).toNat)
  case atStart => exact ⟨0, _, _, by omega, rfl, H3.out, fun i k h => by cases h⟩
  case round =>
    obtain ⟨r, f, kv, hr, rfl, hO, hK⟩ := hrel
    have HO := Lib.hid hO
    have HKs := Lib.hid hK
    clear hO hK H3
    by_cases hlt : r < l.length
    · have hlt' : (r : Int) < (l.length : Int) := by omega
      obtain ⟨b, o, rfl, hb, c0, c1, c2⟩ := HD.out.at_ HO.out.b hlt
      generalize l[r]'hlt = d at *
      obtain ⟨kd, id, ky⟩ := d
      dsimp only at c0 c1 c2
      have hbw : b < wr.heap.size := Nat.lt_of_lt_of_le hb HO.out.b.size
      by_cases hid : id < 0 ∨ ((8 : Nat) : Int) ≤ id
      · have hid' := hid
        have HZ := Lib.hid hid
        clear hid
        have HB2 := Lib.hid (show Below wr.heap.size wr (wr.alloc (.cells #[.int .i64 kd, .int .i64 id, .int .i64 ky] 37)) from (Below.refl _ _).alloc (Nat.le_refl _) _)
        have HS := Lib.hid (HO.out.setOut HB2.out ky HZ.out)
        have HDr := Lib.hid (HO.out.dropOut HB2.out HZ.out)
        have HU := Lib.hid (HO.out.under HB2.out)
        by_cases hneg : id < 0
        · clear hid'
          go_wp2_with fail
          refine HS.out.mono ?_
          rintro e w3 ⟨rfl, rfl⟩
          go_wp2_with fail
          refine HDr.out.mono ?_
          rintro e w3 ⟨rfl, rfl⟩
          go_wp2
          go_roundw
          case rel => exact ⟨r + 1, f, kv, by omega, by go_num, HU.out, HKs.out⟩
          case measure => simp [intOf]; omega
        · have hn1 : decide (id < 0) = false := decide_eq_false hneg
          have hn2 : (7 : Int) < id := by omega
          clear hid' hneg
          go_wp2_with fail
          refine HS.out.mono ?_
          rintro e w3 ⟨rfl, rfl⟩
          go_wp2_with fail
          refine HDr.out.mono ?_
          rintro e w3 ⟨rfl, rfl⟩
          go_wp2
          go_roundw
          case rel => exact ⟨r + 1, f, kv, by omega, by go_num, HU.out, HKs.out⟩
          case measure => simp [intOf]; omega
      · obtain ⟨i, rfl⟩ : ∃ i : Nat, id = i := ⟨id.toNat, by omega⟩
        have hi8 : i < 8 := by omega
        have hi8' : (i : Int) < 8 := by omega
        have hn1 : decide ((i : Int) < 0) = false := decide_eq_false (by omega)
        have hn2 : decide ((7 : Int) < (i : Int)) = false := decide_eq_false (by omega)
        clear hid
        by_cases hk3 : kd = 3
        · subst hk3
          cases hf : f i with
          | none =>
            have HIV := Lib.hid (show ins f i = 0 by simp [ins, hf])
            have HF := Lib.hid hf
            clear hf
            have HB2 := Lib.hid (show Below wr.heap.size wr (wr.alloc (.cells #[.int .i64 3, .int .i64 i, .int .i64 ky] 37)).drew from ((Below.refl _ _).alloc (Nat.le_refl _) _).drew)
            have HBx := Lib.hid (show Row (wr.alloc (.cells #[.int .i64 3, .int .i64 i, .int .i64 ky] 37)).drew wr.heap.size 37 #[.int .i64 3, .int .i64 i, .int .i64 ky] from Row.fresh wr _ _)
            have d1 : (wr.alloc (.cells #[.int .i64 3, .int .i64 i, .int .i64 ky] 37)).drew.cell? ⟨wr.heap.size, 1, none⟩ = some (.int .i64 i) := HBx.out.cell 1
            have i0 : (wr.alloc (.cells #[.int .i64 3, .int .i64 i, .int .i64 ky] 37)).drew.cell? ⟨ib, i, none⟩ = some (.int .i64 0) := by
              have := ((HO.out.under HB2.out).ic hi8).1
              rw [HIV.out] at this
              exact this
            go_wp2
            refine wp_region_held_drew (S := fun W => W.cell? ⟨wr.heap.size, 1, none⟩ = some (.int .i64 i) ∧ W.cell? ⟨ib, i, none⟩ = some (.int .i64 0)) (by kernel_rfl) ⟨d1, i0⟩ (fun hHeld => ?_)
            clear d1 i0
            refine wpAnyH_take (i := 0) (oi := ⟨some 56, _, _, _, _, _⟩) (v := ?_) rfl (by kernel_rfl) (by kernel_rfl) (by kernel_rfl) (fun _ _ _ h => h) (Or.inl ⟨by rfl, ?_⟩) (by assumption) ?_
            rotate_left
            · intro W hSw
              obtain ⟨f0, f1⟩ := hSw
              go_simp
              with_reducible rfl
            simp only [Act.put, List.setIfInBounds_toArray, List.set_cons_zero, List.set_cons_succ]
            refine wpAnyH_take (i := 1) (oi := ⟨some 57, _, _, _, _, _⟩) (v := ?_) rfl (by kernel_rfl) (by kernel_rfl) (by kernel_rfl) (fun _ _ _ h => h) (Or.inl ⟨by rfl, ?_⟩) (by assumption) ?_
            rotate_left
            · intro W hSw
              obtain ⟨f0, f1⟩ := hSw
              go_simp
              with_reducible rfl
            simp only [Act.put, List.setIfInBounds_toArray, List.set_cons_zero, List.set_cons_succ]
            refine wpAnyH_take (i := 2) (oi := ⟨some 58, _, _, _, _, _⟩) (v := ?_) rfl (by kernel_rfl) (by kernel_rfl) (by kernel_rfl) (fun _ _ _ h => h) (Or.inl ⟨by rfl, ?_⟩) (by assumption) ?_
            rotate_left
            · intro W hSw
              obtain ⟨f0, f1⟩ := hSw
              go_simp
              with_reducible rfl
            simp only [Act.put, List.setIfInBounds_toArray, List.set_cons_zero, List.set_cons_succ]
            refine wpAnyH_take (i := 4) (oi := ⟨some 60, _, _, _, _, _⟩) (v := ?_) rfl (by kernel_rfl) (by kernel_rfl) (by kernel_rfl) (fun _ _ _ h => h) (Or.inl ⟨by rfl, ?_⟩) (by assumption) ?_
            rotate_left
            · intro W hSw
              obtain ⟨f0, f1⟩ := hSw
              go_simp
              with_reducible rfl
            simp only [Act.put, List.setIfInBounds_toArray, List.set_cons_zero, List.set_cons_succ]
            refine wpAnyH_take (i := 5) (oi := ⟨some 61, _, _, _, _, _⟩) (v := ?_) rfl (by kernel_rfl) (by kernel_rfl) (by kernel_rfl) (fun _ _ _ h => h) (Or.inl ⟨by rfl, ?_⟩) (by assumption) ?_
            rotate_left
            · intro W hSw
              obtain ⟨f0, f1⟩ := hSw
              go_simp
              with_reducible rfl
            simp only [Act.put, List.setIfInBounds_toArray, List.set_cons_zero, List.set_cons_succ]
            refine wpAnyH_take (i := 6) (oi := ⟨some 62, _, _, _, _, _⟩) (v := ?_) rfl (by kernel_rfl) (by kernel_rfl) (by kernel_rfl) (fun _ _ _ h => h) (Or.inl ⟨by rfl, ?_⟩) (by assumption) ?_
            rotate_left
            · intro W hSw
              obtain ⟨f0, f1⟩ := hSw
              go_simp
              with_reducible rfl
            simp only [Act.put, List.setIfInBounds_toArray, List.set_cons_zero, List.set_cons_succ]
            refine wpAnyH_take (i := 7) (oi := ⟨some 63, _, _, _, _, _⟩) (v := ?_) rfl (by kernel_rfl) (by kernel_rfl) (by kernel_rfl) (fun _ _ _ h => h) (Or.inl ⟨by rfl, ?_⟩) (by assumption) ?_
            rotate_left
            · intro W hSw
              obtain ⟨f0, f1⟩ := hSw
              go_simp
              with_reducible rfl
            simp only [Act.put, List.setIfInBounds_toArray, List.set_cons_zero, List.set_cons_succ]
            refine wpAnyH_take (i := 8) (oi := ⟨some 64, _, _, _, _, _⟩) (v := ?_) rfl (by kernel_rfl) (by kernel_rfl) (by kernel_rfl) (fun _ _ _ h => h) (Or.inl ⟨by rfl, ?_⟩) (by assumption) ?_
            rotate_left
            · intro W hSw
              obtain ⟨f0, f1⟩ := hSw
              go_simp
              with_reducible rfl
            simp only [Act.put, List.setIfInBounds_toArray, List.set_cons_zero, List.set_cons_succ]
            refine wpAnyH_take (i := 9) (oi := ⟨some 65, _, _, _, _, _⟩) (v := ?_) rfl (by kernel_rfl) (by kernel_rfl) (by kernel_rfl) (fun _ _ _ h => h) (Or.inl ⟨by rfl, ?_⟩) (by assumption) ?_
            rotate_left
            · intro W hSw
              obtain ⟨f0, f1⟩ := hSw
              go_simp
              with_reducible rfl
            simp only [Act.put, List.setIfInBounds_toArray, List.set_cons_zero, List.set_cons_succ]
            refine wpAnyH_ready (rs := [3]) (by kernel_rfl) (by simp) ?_
            refine AllReadyH.cons (o := ⟨some 59, _, _, _, _, _⟩) rfl (fun K hK => ?_) AllReadyH.nil
            go_simp
            refine (HO.out.dropNo HB2.out hi8 HF.out).mono ?_
            rintro e w3 ⟨rfl, h3, hk3⟩
            have hB3 := hk3 wr.heap.size _ _ (Nat.le_refl _) HBx.out
            have j1 : w3.cell? ⟨wr.heap.size, 1, none⟩ = some (.int .i64 i) := hB3.cell 1
            obtain ⟨j0, jl, jf⟩ := h3.ic hi8
            rw [HIV.out] at j0
            refine hK.out _ _ ⟨j1, j0⟩ (fun hHeld2 => ?_)
            clear hK K hHeld
            have HP3 := h3.putI i 0
            rw [ins_drop] at HP3
            have HP3 := Lib.hid HP3
            clear h3 hk3 hB3
            refine wpAnyH_take (i := 10) (oi := ⟨some 66, _, _, _, _, _⟩) (v := ?_) rfl (by kernel_rfl) (by kernel_rfl) (by kernel_rfl) (fun _ _ _ h => h) (Or.inl ⟨by rfl, ?_⟩) (by assumption) ?_
            rotate_left
            · intro W hSw
              obtain ⟨f0, f1⟩ := hSw
              go_simp
              with_reducible rfl
            simp only [Act.put, List.setIfInBounds_toArray, List.set_cons_zero, List.set_cons_succ]
            refine wpAnyH_done (by kernel_rfl) ?_ _
            clear hHeld2 HIV
            go_wp2
            go_roundw
            case rel => exact ⟨r + 1, _, kv, by omega, by go_num, HP3.out, HKs.out.drop i⟩
            case measure => simp [intOf]; omega
          | some kk =>
            have HIV := Lib.hid (show ins f i = 1 by simp [ins, hf])
            have HF := Lib.hid hf
            clear hf
            have HB2 := Lib.hid (show Below wr.heap.size wr (wr.alloc (.cells #[.int .i64 3, .int .i64 i, .int .i64 ky] 37)).drew from ((Below.refl _ _).alloc (Nat.le_refl _) _).drew)
            have HBx := Lib.hid (show Row (wr.alloc (.cells #[.int .i64 3, .int .i64 i, .int .i64 ky] 37)).drew wr.heap.size 37 #[.int .i64 3, .int .i64 i, .int .i64 ky] from Row.fresh wr _ _)
            have d1 : (wr.alloc (.cells #[.int .i64 3, .int .i64 i, .int .i64 ky] 37)).drew.cell? ⟨wr.heap.size, 1, none⟩ = some (.int .i64 i) := HBx.out.cell 1
            have i0 : (wr.alloc (.cells #[.int .i64 3, .int .i64 i, .int .i64 ky] 37)).drew.cell? ⟨ib, i, none⟩ = some (.int .i64 1) := by
              have := ((HO.out.under HB2.out).ic hi8).1
              rw [HIV.out] at this
              exact this
            go_wp2
            refine wp_region_held_drew (S := fun W => W.cell? ⟨wr.heap.size, 1, none⟩ = some (.int .i64 i) ∧ W.cell? ⟨ib, i, none⟩ = some (.int .i64 1)) (by kernel_rfl) ⟨d1, i0⟩ (fun hHeld => ?_)
            clear d1 i0
            refine wpAnyH_take (i := 0) (oi := ⟨some 56, _, _, _, _, _⟩) (v := ?_) rfl (by kernel_rfl) (by kernel_rfl) (by kernel_rfl) (fun _ _ _ h => h) (Or.inl ⟨by rfl, ?_⟩) (by assumption) ?_
            rotate_left
            · intro W hSw
              obtain ⟨f0, f1⟩ := hSw
              go_simp
              with_reducible rfl
            simp only [Act.put, List.setIfInBounds_toArray, List.set_cons_zero, List.set_cons_succ]
            refine wpAnyH_take (i := 1) (oi := ⟨some 57, _, _, _, _, _⟩) (v := ?_) rfl (by kernel_rfl) (by kernel_rfl) (by kernel_rfl) (fun _ _ _ h => h) (Or.inl ⟨by rfl, ?_⟩) (by assumption) ?_
            rotate_left
            · intro W hSw
              obtain ⟨f0, f1⟩ := hSw
              go_simp
              with_reducible rfl
            simp only [Act.put, List.setIfInBounds_toArray, List.set_cons_zero, List.set_cons_succ]
            refine wpAnyH_take (i := 2) (oi := ⟨some 58, _, _, _, _, _⟩) (v := ?_) rfl (by kernel_rfl) (by kernel_rfl) (by kernel_rfl) (fun _ _ _ h => h) (Or.inl ⟨by rfl, ?_⟩) (by assumption) ?_
            rotate_left
            · intro W hSw
              obtain ⟨f0, f1⟩ := hSw
              go_simp
              with_reducible rfl
            simp only [Act.put, List.setIfInBounds_toArray, List.set_cons_zero, List.set_cons_succ]
            refine wpAnyH_take (i := 4) (oi := ⟨some 60, _, _, _, _, _⟩) (v := ?_) rfl (by kernel_rfl) (by kernel_rfl) (by kernel_rfl) (fun _ _ _ h => h) (Or.inl ⟨by rfl, ?_⟩) (by assumption) ?_
            rotate_left
            · intro W hSw
              obtain ⟨f0, f1⟩ := hSw
              go_simp
              with_reducible rfl
            simp only [Act.put, List.setIfInBounds_toArray, List.set_cons_zero, List.set_cons_succ]
            refine wpAnyH_take (i := 5) (oi := ⟨some 61, _, _, _, _, _⟩) (v := ?_) rfl (by kernel_rfl) (by kernel_rfl) (by kernel_rfl) (fun _ _ _ h => h) (Or.inl ⟨by rfl, ?_⟩) (by assumption) ?_
            rotate_left
            · intro W hSw
              obtain ⟨f0, f1⟩ := hSw
              go_simp
              with_reducible rfl
            simp only [Act.put, List.setIfInBounds_toArray, List.set_cons_zero, List.set_cons_succ]
            refine wpAnyH_take (i := 6) (oi := ⟨some 62, _, _, _, _, _⟩) (v := ?_) rfl (by kernel_rfl) (by kernel_rfl) (by kernel_rfl) (fun _ _ _ h => h) (Or.inl ⟨by rfl, ?_⟩) (by assumption) ?_
            rotate_left
            · intro W hSw
              obtain ⟨f0, f1⟩ := hSw
              go_simp
              with_reducible rfl
            simp only [Act.put, List.setIfInBounds_toArray, List.set_cons_zero, List.set_cons_succ]
            refine wpAnyH_take (i := 7) (oi := ⟨some 63, _, _, _, _, _⟩) (v := ?_) rfl (by kernel_rfl) (by kernel_rfl) (by kernel_rfl) (fun _ _ _ h => h) (Or.inl ⟨by rfl, ?_⟩) (by assumption) ?_
            rotate_left
            · intro W hSw
              obtain ⟨f0, f1⟩ := hSw
              go_simp
              with_reducible rfl
            simp only [Act.put, List.setIfInBounds_toArray, List.set_cons_zero, List.set_cons_succ]
            refine wpAnyH_take (i := 8) (oi := ⟨some 64, _, _, _, _, _⟩) (v := ?_) rfl (by kernel_rfl) (by kernel_rfl) (by kernel_rfl) (fun _ _ _ h => h) (Or.inl ⟨by rfl, ?_⟩) (by assumption) ?_
            rotate_left
            · intro W hSw
              obtain ⟨f0, f1⟩ := hSw
              go_simp
              with_reducible rfl
            simp only [Act.put, List.setIfInBounds_toArray, List.set_cons_zero, List.set_cons_succ]
            refine wpAnyH_take (i := 9) (oi := ⟨some 65, _, _, _, _, _⟩) (v := ?_) rfl (by kernel_rfl) (by kernel_rfl) (by kernel_rfl) (fun _ _ _ h => h) (Or.inl ⟨by rfl, ?_⟩) (by assumption) ?_
            rotate_left
            · intro W hSw
              obtain ⟨f0, f1⟩ := hSw
              go_simp
              with_reducible rfl
            simp only [Act.put, List.setIfInBounds_toArray, List.set_cons_zero, List.set_cons_succ]
            refine wpAnyH_ready (rs := [3]) (by kernel_rfl) (by simp) ?_
            refine AllReadyH.cons (o := ⟨some 59, _, _, _, _, _⟩) rfl (fun K hK => ?_) AllReadyH.nil
            go_simp
            refine (HO.out.dropYes HB2.out HF.out).mono ?_
            rintro e w3 ⟨rfl, h3, hk3⟩
            have hB3 := hk3 wr.heap.size _ _ (Nat.le_refl _) HBx.out
            have j1 : w3.cell? ⟨wr.heap.size, 1, none⟩ = some (.int .i64 i) := hB3.cell 1
            obtain ⟨j0, jl, jf⟩ := h3.ic hi8
            rw [HIV.out] at j0
            refine hK.out _ _ ⟨j1, j0⟩ (fun hHeld2 => ?_)
            clear hK K hHeld
            have HP3 := h3.putI i 0
            rw [ins_drop] at HP3
            have HP3 := Lib.hid HP3
            clear h3 hk3 hB3
            refine wpAnyH_take (i := 10) (oi := ⟨some 66, _, _, _, _, _⟩) (v := ?_) rfl (by kernel_rfl) (by kernel_rfl) (by kernel_rfl) (fun _ _ _ h => h) (Or.inl ⟨by rfl, ?_⟩) (by assumption) ?_
            rotate_left
            · intro W hSw
              obtain ⟨f0, f1⟩ := hSw
              go_simp
              with_reducible rfl
            simp only [Act.put, List.setIfInBounds_toArray, List.set_cons_zero, List.set_cons_succ]
            refine wpAnyH_done (by kernel_rfl) ?_ _
            clear hHeld2 HIV
            go_wp2
            go_roundw
            case rel => exact ⟨r + 1, _, kv, by omega, by go_num, HP3.out, HKs.out.drop i⟩
            case measure => simp [intOf]; omega
        · have hk3' : (kd == 3) = false := by simpa using hk3
          clear hk3
          have HB2 := Lib.hid (show Below wr.heap.size wr (wr.alloc (.cells #[.int .i64 kd, .int .i64 i, .int .i64 ky] 37)) from (Below.refl _ _).alloc (Nat.le_refl _) _)
          have HBx := Lib.hid (show Row (wr.alloc (.cells #[.int .i64 kd, .int .i64 i, .int .i64 ky] 37)) wr.heap.size 37 #[.int .i64 kd, .int .i64 i, .int .i64 ky] from Row.fresh wr _ _)
          go_wp2_with fail
          refine (HO.out.set HB2.out ky hi8).mono ?_
          rintro e w3 ⟨rfl, h3, hk3⟩
          have hB3 := hk3 wr.heap.size _ _ (Nat.le_refl _) HBx.out
          have j1 : w3.cell? ⟨wr.heap.size, 1, none⟩ = some (.int .i64 i) := hB3.cell 1
          have j2 : w3.cell? ⟨wr.heap.size, 2, none⟩ = some (.int .i64 ky) := hB3.cell 2
          obtain ⟨ji, jil, jif⟩ := h3.ic hi8
          obtain ⟨jk, jkl, jkf⟩ := h3.kc hi8
          have hne : ib ≠ wr.heap.size := fun e => by
            obtain ⟨_, hh, _⟩ := HO.out.ic hi8
            omega
          have hnk : kb ≠ wr.heap.size := fun e => by
            obtain ⟨_, hh, _⟩ := HO.out.kc hi8
            omega
          have hkb : kb ≠ ib := by obtain ⟨_, _, _, _, _, h, _⟩ := h3; exact h
          have HP := (h3.putI i 1).putK i ky
          rw [ins_set f i ky] at HP
          have HP := Lib.hid HP
          clear h3 hk3 hB3
          go_wp2
          go_roundw
          case rel => exact ⟨r + 1, _, _, by omega, by go_num, HP.out, HKs.out.set i ky⟩
          case measure => simp [intOf]; omega
    · have hge : ¬ (r : Int) < (l.length : Int) := by omega
      go_wp2
      go_loopw [8, 9, 10] (fun best n v wr => ∃ q : Nat, q ≤ 8 ∧ v = .int .i64 q ∧ n = .int .i64 (cnt q f) ∧ Best f q best ∧ KG w x kb ib f kv (ins f) wr) (fun _ _ v _ => 8 - (intOf v).toNat)
      case atStart => exact ⟨0, by omega, rfl, rfl, .inl ⟨rfl, fun i hi => by omega⟩, HO.out⟩
      case round =>
        obtain ⟨q, hq, rfl, rfl, hBe, hG⟩ := hrel
        have HG := Lib.hid hG
        have HBe := Lib.hid hBe
        clear hG hBe HO
        have hcq := cnt_le q f
        by_cases hq8 : q < 8
        · have hq8' : (q : Int) < 8 := by omega
          cases hf : f q with
          | none =>
            have HK := Lib.hid (HG.out.own.keyNo hq8 hf)
            obtain ⟨i0, _, _⟩ := HG.out.ic hq8
            rw [show ins f q = 0 by simp [ins, hf]] at i0
            have HC := Lib.hid (cnt_skip q f hf)
            have HB1 := Lib.hid (HBe.out.skip hf)
            clear hf
            generalize cnt q f = cc at *
            go_wp2_with fail
            refine HK.out.mono ?_
            rintro e w4 ⟨rfl, rfl⟩
            unfold keyed
            go_wp2
            go_roundw
            case rel => exact ⟨q + 1, by omega, by go_num, by rw [HC.out], HB1.out, HG.out⟩
            case measure => simp [intOf]; omega
          | some k =>
            have HK := Lib.hid (HG.out.keyYes hf)
            have HC := Lib.hid (cnt_some q f k hf)
            have HF := Lib.hid hf
            have hi1 : ins f q = 1 := by simp [ins, hf]
            have hkq := HKs.out q k hf
            clear hf
            have HI := Lib.hid (And.intro hi1 hkq)
            clear hi1 hkq
            rcases HBe.out with ⟨rfl, hnone⟩ | ⟨p, kp, rfl, h1, h2, h3⟩
            · have HB1 := Lib.hid (Best.one hnone HF.out)
              clear hnone HBe
              go_wp2_with fail
              refine HK.out.mono ?_
              rintro e w4 ⟨rfl, h4⟩
              obtain ⟨i0, _, _⟩ := h4.ic hq8
              rw [HI.out.1] at i0
              obtain ⟨q0, _, _⟩ := h4.kc hq8
              rw [HI.out.2] at q0
              have H4 := Lib.hid h4
              clear h4
              unfold keyed
              go_wp2
              go_roundw
              case rel => exact ⟨q + 1, by omega, by go_num, by rw [HC.out]; rfl, HB1.out, H4.out⟩
              case measure => simp [intOf]; omega
            · have hp8 : p < 8 := by omega
              have hp8' : (p : Int) < 8 := by omega
              have hp0 : decide ((p : Int) < 0) = false := decide_eq_false (by omega)
              have hkp := HKs.out p kp h2
              have HKP := Lib.hid hkp
              clear hkp
              by_cases hlt2 : k < kp
              · have HB1 := Lib.hid (Best.less h3 HF.out hlt2)
                have hd : decide (k < kp) = true := decide_eq_true hlt2
                clear h1 h2 h3 HBe hlt2
                go_wp2_with fail
                refine HK.out.mono ?_
                rintro e w4 ⟨rfl, h4⟩
                obtain ⟨i0, _, _⟩ := h4.ic hq8
                rw [HI.out.1] at i0
                obtain ⟨q0, _, _⟩ := h4.kc hq8
                rw [HI.out.2] at q0
                obtain ⟨p0, _, _⟩ := h4.kc hp8
                rw [HKP.out] at p0
                have H4 := Lib.hid h4
                clear h4
                unfold keyed
                go_wp2
                go_roundw
                case rel => exact ⟨q + 1, by omega, by go_num, by rw [HC.out]; rfl, HB1.out, H4.out⟩
                case measure => simp [intOf]; omega
              · have HB1 := Lib.hid (Best.more h1 h2 h3 HF.out hlt2)
                have hd : decide (k < kp) = false := decide_eq_false hlt2
                clear h1 h2 h3 HBe hlt2
                go_wp2_with fail
                refine HK.out.mono ?_
                rintro e w4 ⟨rfl, h4⟩
                obtain ⟨i0, _, _⟩ := h4.ic hq8
                rw [HI.out.1] at i0
                obtain ⟨q0, _, _⟩ := h4.kc hq8
                rw [HI.out.2] at q0
                obtain ⟨p0, _, _⟩ := h4.kc hp8
                rw [HKP.out] at p0
                have H4 := Lib.hid h4
                clear h4
                unfold keyed
                go_wp2
                go_roundw
                case rel => exact ⟨q + 1, by omega, by go_num, by rw [HC.out]; rfl, HB1.out, H4.out⟩
                case measure => simp [intOf]; omega
        · obtain rfl : q = 8 := by omega
          rcases HBe.out with ⟨rfl, hnone⟩ | ⟨p, kp, rfl, h1, h2, h3⟩
          · have HNo := Lib.hid hnone
            have hc8 : cnt 8 f = 0 := cnt_none 8 f hnone
            have HC8 := Lib.hid hc8
            rw [hc8]
            clear hnone HBe hcq hc8
            go_wp2_with fail
            refine HG.out.first.mono ?_
            rintro e w4 ⟨⟨v, rfl, hv⟩, h4⟩
            have hL := h4.own.len
            rw [HC8.out] at hL
            have HL := Lib.hid hL
            have H4 := Lib.hid h4
            obtain rfl : v = told 0 0 false := by
              rcases hv with ⟨rfl, _⟩ | ⟨i, k, rfl, hf⟩
              · rfl
              · have := HNo.out i (h4.own.some_lt hf.1); rw [hf.1] at this; cases this
            clear hv h4 hL
            unfold told
            go_wp2_with fail
            refine HL.out.mono ?_
            rintro e w5 ⟨rfl, rfl⟩
            go_wp2_with fail
            refine (known_any _).mono ?_
            rintro e w8 ⟨rfl, hb8⟩
            have HB := Lib.hid (then_below H4.out.b hb8)
            clear hb8
            go_wp2
            go_ret
            exact ⟨rfl, HB.out⟩
          · have HFi := Lib.hid (show isFirst f p kp from ⟨h2, fun i k hk => h3 i (HG.out.own.some_lt hk) k hk⟩)
            have hp8' : (p : Int) < 8 := by omega
            have hp0 : decide ((p : Int) < 0) = false := decide_eq_false (by omega)
            have hp1 : decide ((0 : Int) ≤ (p : Int)) = true := decide_eq_true (by omega)
            have HP8 := Lib.hid h1
            have HKP := Lib.hid (HKs.out p kp h2)
            clear h1 h2 h3 HBe hcq
            go_wp2_with fail
            refine HG.out.first.mono ?_
            rintro e w4 ⟨⟨v, rfl, hv⟩, h4⟩
            have HL := Lib.hid h4.own.len
            obtain ⟨p0, _, _⟩ := h4.kc HP8.out
            rw [HKP.out] at p0
            have H4 := Lib.hid h4
            obtain rfl : v = told p kp true := by
              rcases hv with ⟨_, hn⟩ | ⟨i, k, rfl, hf⟩
              · have := HFi.out.1; rw [hn] at this; cases this
              · obtain ⟨rfl, rfl⟩ := HFi.out.unique hf
                rfl
            clear hv h4
            generalize cnt 8 f = cc at *
            unfold told
            go_wp2_with fail
            refine HL.out.mono ?_
            rintro e w5 ⟨rfl, rfl⟩
            go_wp2_with fail
            refine (known_any _).mono ?_
            rintro e w8 ⟨rfl, hb8⟩
            have HB := Lib.hid (then_below H4.out.b hb8)
            clear hb8
            go_wp2
            go_ret
            exact ⟨rfl, HB.out⟩
theorem keys_walk (a : Option Addr) (l : List (Int × Int × Int)) (c : Nat) (w : World) (hD : Dos w a l) : Calls Try.prog 6 #[.slice a l.length c] w fun e w' => e = .returned (.bool true) ∧ Below w.heap.size w w' := by
  by_cases h : 60 < l.length
  · exact keys_big a l.length c w h
  · exact keys_small a l c w hD (by omega)
end Go.Proofs.Ythpfhimdgmckgaa
