/- Walks: apply, square, bits.Len, Join. -/
import Derived.Test.YtiibmfajckkklaaCrcWalkB
import Derived.Deep.RegionHeld3
namespace Go.Proofs.Ytiibmfajckkklaa
open Go.RowKit
attribute [local go_sem] U_xor U_xor_ones U_xor_poly U_and1 U_shr1 U_shr8 B_xor U_low U_mod2 B_mod32 U_mod32

theorem U_shr (n : BitVec 32) (k : Nat) : U n / (2 : Int) ^ k = U (n >>> k) := by
  unfold U
  rw [BitVec.toNat_ushiftRight, Nat.shiftRight_eq_div_pow]
  simp
theorem U_bitAt (n : BitVec 32) (k : Nat) : (bits BinOp.and IntKind.u32 (U n / (2 : Int) ^ k) 1 == 1) = n.getLsbD k := by
  rw [U_shr, U_and1]
  unfold Crc.odd
  rw [BitVec.getLsbD_ushiftRight]
  rfl

theorem apply_any (m : Nat → BitVec 32) (n : BitVec 32) (w : World) :
    Calls Try.prog 30 #[.agg (words 32 m), .int .u32 (U n)] w fun e w' => e = .returned (.int .u32 (U (Crc.appTo m n 32))) ∧ Below w.heap.size w w' := by
  go_enter Try.func30, Try.ntmps30
  go_wp2
  have hrow := Row.fresh w 48 (words 32 m)
  have hbel : Below w.heap.size w (w.alloc (.cells (words 32 m) 48)) := (Below.refl _ _).alloc (Nat.le_refl _) _
  generalize w.alloc (.cells (words 32 m) 48) = W at *
  go_loop [5, 7] (fun v i => ∃ k : Nat, k ≤ 32 ∧ i = .int .i64 k ∧ v = .int .u32 (U (Crc.appTo m n k))) (fun _ i => 32 - (intOf i).toNat)
  case atStart => exact ⟨0, by omega, rfl, rfl⟩
  case round =>
    obtain ⟨k, hk, rfl, rfl⟩ := hrel
    by_cases hlt : k < 32
    · have hc := hrow.cell k
      rw [words_get _ _ _ hlt] at hc
      have hbit := U_bitAt n k
      cases hb : n.getLsbD k
      · rw [hb] at hbit
        have HR := Lib.hid (show Crc.appTo m n (k + 1) = Crc.appTo m n k by simp only [Crc.appTo, hb]; rfl)
        clear hb
        go_wp2
        go_round
        case rel => exact ⟨k + 1, by omega, by go_num, by rw [HR.out]⟩
        case measure => simp [intOf]; omega
      · rw [hb] at hbit
        have HR := Lib.hid (show Crc.appTo m n (k + 1) = Crc.appTo m n k ^^^ m k by simp only [Crc.appTo, hb]; rfl)
        clear hb
        go_wp2
        go_round
        case rel => exact ⟨k + 1, by omega, by go_num, by rw [HR.out]⟩
        case measure => simp [intOf]; omega
    · obtain rfl : k = 32 := by omega
      go_wp2
      go_ret
      exact ⟨rfl, hbel⟩

/-- A whole array is read in whatever world holds it. -/
theorem yields_load_row {P : Program} {ops : Array Oper} {S : World → Prop} {o : Oper} {a : Act} (hg : o.guard = none) (ty : TypeId) (x : Operand) (ho : o.op = .load ty x) (g : Nat) (hx : a.eval x = .pointer (some ⟨g, 0, none⟩))
    (v : Value) (hrun : ∀ W, S W → (loadVar ty ⟨g, 0, none⟩).run P W = .ok v W) : YieldsIf P ops S o v a := by
  refine Or.inl ⟨by simp [Region.wanted, hg], fun W hS => ?_⟩
  unfold execOp
  simp only [ho, hx, Instr.loadAt, Instr.sureAddr, Sem.run_bind, Sem.run_pure, Result.andThen_ok, hrun W hS]

set_option maxRecDepth 100000 in
theorem square_any (m : Nat → BitVec 32) (w : World) :
    Calls Try.prog 31 #[.agg (words 32 m)] w fun e w' => e = .returned (.agg (words 32 fun i => Crc.appTo m (m i) 32)) ∧ Below w.heap.size w w' := by
  obtain ⟨hz, hs⟩ := zero_of_info info32
  have HS := Lib.hid hs
  clear hs
  go_enter Try.func31, Try.ntmps31
  go_wp2
  go_loopw [5] (fun i wr => ∃ k : Nat, k ≤ 32 ∧ i = .int .i64 k ∧ Row wr w.heap.size 48 (words 32 m) ∧ Row wr (w.heap.size + 1) 48 (words 32 (upTo (Crc.mapOf 8) 0)) ∧ Row wr (w.heap.size + 1 + 1) 48 (words 32 (upTo (fun i => Crc.appTo m (m i) 32) k)) ∧ Below w.heap.size w wr)
    (fun i _ => 32 - (intOf i).toNat)
  case atStart =>
    refine ⟨0, by omega, rfl, ((Row.fresh w _ _).past _).past _, ?_, ?_, (((Below.refl _ _).alloc (Nat.le_refl _) _).alloc (by simp) _).alloc (by simp; omega) _⟩
    · have e : (w.alloc (.cells (words 32 m) 48)).heap.size = w.heap.size + 1 := by simp
      exact (e ▸ Row.fresh (w.alloc (.cells (words 32 m) 48)) 48 (words 32 (upTo (Crc.mapOf 8) 0))).past _
    · have e : ((w.alloc (.cells (words 32 m) 48)).alloc (.cells (words 32 (upTo (Crc.mapOf 8) 0)) 48)).heap.size = w.heap.size + 1 + 1 := by simp
      exact e ▸ Row.fresh _ 48 _
  case round =>
    obtain ⟨k, hk, rfl, hr0, hr1, hr2, hbel⟩ := hrel
    by_cases hlt : k < 32
    · have hc := hr2.cell k
      rw [words_get _ _ _ hlt] at hc
      have hf := hr2.thaw k
      have hc0 := hr0.cell k
      rw [words_get _ _ _ hlt] at hc0
      go_wp2
      have hS0 : wr.drew.cell? ⟨w.heap.size, k, none⟩ = some (.int .u32 (U (m k))) ∧ Row wr.drew w.heap.size 48 (words 32 m) := ⟨hc0, hr0⟩
      clear hc0
      refine wp_region_held_drew (S := fun W => W.cell? ⟨w.heap.size, k, none⟩ = some (.int .u32 (U (m k))) ∧ Row W w.heap.size 48 (words 32 m)) (by kernel_rfl) hS0 (fun hHeld => ?_)
      refine wpAnyH_take (i := 0) (oi := ⟨some 8, _, _, _, _, _⟩) (v := ?_) rfl (by kernel_rfl) (by kernel_rfl) (by kernel_rfl) (fun _ _ _ h => h) (Or.inl ⟨by rfl, ?_⟩) (by assumption) ?_
      rotate_left
      · intro W hSw
        have hc0 := hSw.1
        go_simp
        with_reducible rfl
      simp only [Act.put, List.setIfInBounds_toArray, List.set_cons_zero, List.set_cons_succ]
      refine wpAnyH_take (i := 2) (oi := ⟨some 10, _, _, _, _, _⟩) (v := ?_) rfl (by kernel_rfl) (by kernel_rfl) (by kernel_rfl) (fun _ _ _ h => h) (Or.inl ⟨by rfl, ?_⟩) (by assumption) ?_
      rotate_left
      · intro W hSw
        have hc0 := hSw.1
        go_simp
        with_reducible rfl
      simp only [Act.put, List.setIfInBounds_toArray, List.set_cons_zero, List.set_cons_succ]
      refine wpAnyH_take (i := 3) (oi := ⟨some 11, _, _, _, _, _⟩) (v := ?_) rfl (by kernel_rfl) (by kernel_rfl) (by kernel_rfl) (fun _ _ _ h => h) (Or.inl ⟨by rfl, ?_⟩) (by assumption) ?_
      rotate_left
      · intro W hSw
        have hc0 := hSw.1
        go_simp
        with_reducible rfl
      simp only [Act.put, List.setIfInBounds_toArray, List.set_cons_zero, List.set_cons_succ]
      refine wpAnyH_take (i := 4) (oi := ⟨some 12, _, _, _, _, _⟩) (v := ?_) rfl (by kernel_rfl) (by kernel_rfl) (by kernel_rfl) (fun _ _ _ h => h) (Or.inl ⟨by rfl, ?_⟩) (by assumption) ?_
      rotate_left
      · intro W hSw
        have hc0 := hSw.1
        go_simp
        with_reducible rfl
      simp only [Act.put, List.setIfInBounds_toArray, List.set_cons_zero, List.set_cons_succ]
      refine wpAnyH_take (i := 1) (oi := ⟨some 9, _, _, _, _, _⟩) (v := .agg (words 32 m)) rfl (by kernel_rfl) (by kernel_rfl) (by kernel_rfl) (fun _ _ _ h => h)
        (yields_load_row rfl 48 _ rfl w.heap.size rfl _ (fun W hSw => run_loadVar_row (P := Try.prog) W w.heap.size 48 48 (words 32 m) (0, 0) _ hSw.2 Try.underlying48 rfl (by rw [words_size]; exact HS.out))) (by assumption) ?_
      simp only [Act.put, List.setIfInBounds_toArray, List.set_cons_zero, List.set_cons_succ]
      refine wpAnyH_ready (rs := [5]) (by kernel_rfl) (by simp) ?_
      refine AllReadyH.cons (o := ⟨some 13, _, _, _, _, _⟩) rfl (fun K hK => ?_) AllReadyH.nil
      go_simp
      refine (apply_any m _ _).mono ?_
      rintro e w' ⟨rfl, hb'⟩
      have hbw : Below wr.heap.size wr w' := ⟨hb'.os, hb'.tape, hb'.output, hb'.size, hb'.block⟩
      have hS1 : w'.cell? ⟨w.heap.size, k, none⟩ = some (.int .u32 (U (m k))) ∧ Row w' w.heap.size 48 (words 32 m) := ⟨(hbw.cell (p := ⟨w.heap.size, k, none⟩) hr0.lt).trans hS0.1, hr0.under hbw hr0.lt⟩
      refine hK.out _ _ hS1 (fun hHeld1 => ?_)
      clear hK K hHeld hS0
      have hc' := (hbw.cell (p := ⟨w.heap.size + 1 + 1, k, none⟩) hr2.lt).trans hc
      have hf' := (hbw.frozen (p := ⟨w.heap.size + 1 + 1, k, none⟩) hr2.lt).trans hf
      refine wpAnyH_take (i := 6) (oi := ⟨some 14, _, _, _, _, _⟩) (v := ?_) rfl (by kernel_rfl) (by kernel_rfl) (by kernel_rfl) (fun _ _ _ h => h) (Or.inl ⟨by rfl, ?_⟩) (by assumption) ?_
      rotate_left
      · intro W hSw
        go_simp
        with_reducible rfl
      simp only [Act.put, List.setIfInBounds_toArray, List.set_cons_zero, List.set_cons_succ]
      refine wpAnyH_ready (rs := [7]) (by kernel_rfl) (by simp) ?_
      refine AllReadyH.cons (o := ⟨none, _, _, _, _, _⟩) rfl (fun K hK => ?_) AllReadyH.nil
      go_simp
      refine hK.out _ _ ⟨?_, ?_⟩ (fun hHeld2 => ?_)
      · exact (World.cell?_setCell_far w' ⟨w.heap.size + 1 + 1, k, none⟩ ⟨w.heap.size, k, none⟩ _ (by simp; omega)).trans hS1.1
      · exact hS1.2.away (by simp; omega) _
      clear hK K hHeld1 hS1
      refine wpAnyH_done (by kernel_rfl) ?_ _
      have q0 := hr0.under hbw hr0.lt
      have q1 := hr1.under hbw hr1.lt
      have q2 := hr2.under hbw hr2.lt
      have qb := hbel.trans (hbw.mono hbel.size)
      clear hr0 hr1 hr2 hbel hbw hb' hc hf
      go_wp2
      go_roundw
      case rel => exact ⟨k + 1, by omega, by go_num, q0.away (by simp; omega) _, q1.away (by simp) _, (words_upTo 32 (fun i => Crc.appTo m (m i) 32) k) ▸ q2.put k _, qb.setCell (by simp; omega) _⟩
      case measure => simp [intOf]; omega
    · obtain rfl : k = 32 := by omega
      rw [words_full] at hr2
      generalize hsq : (fun i => Crc.appTo m (m i) 32) = sq at *
      have HSZ := Lib.hid (show (Try.prog.info? 48).map (·.size) = some (words 32 sq).size by rw [words_size]; exact HS.out)
      have HZZ := Lib.hid (show (words 32 (upTo (Crc.mapOf 8) 0)).size = (words 32 sq).size by rw [words_size, words_size])
      have HSQ := Lib.hid hsq
      clear hsq
      go_wp2_with (first | ((with_reducible show wpList _ _ _ (Oper.mk _ (Op.load 48 _) _ _ _ _ :: _) _ _); refine wpList_load_row rfl 48 _ rfl (w.heap.size + 1 + 1) rfl _ (words 32 sq) (0, 0) _ hr2 Try.underlying48 rfl HSZ.out ?_) | ((with_reducible show wpList _ _ _ (Oper.mk _ (Op.store 48 _ _) _ _ _ _ :: _) _ _); refine wpList_store_row rfl 48 _ _ rfl (w.heap.size + 1) (words 32 sq) rfl rfl 48 (words 32 (upTo (Crc.mapOf 8) 0)) hr1 HSZ.out HZZ.out (words_cells _ _) ?_))
      exact bodyPost_ret (v := .agg (words 32 sq)) (results_cell_row rfl _ _ (w.heap.size + 1) 48 (words 32 sq) (0, 0) _ rfl (hr1.whole _) Try.underlying48 rfl HSZ.out) rfl ⟨by rw [HSQ.out], below_setRow' hbel (by omega) _⟩
end Go.Proofs.Ytiibmfajckkklaa
