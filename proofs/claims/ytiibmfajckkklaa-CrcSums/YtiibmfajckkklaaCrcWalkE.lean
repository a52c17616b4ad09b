/- Walks: apply, square, bits.Len, Join. -/
import Derived.Test.YtiibmfajckkklaaCrcWalkB
import Derived.StillTailTactics
import Derived.Deep.RegionWith
namespace Go.Proofs.Ytiibmfajckkklaa
open Go.RowKit
attribute [local go_sem] U_xor U_xor_ones U_xor_poly U_and1 U_shr1 U_shr8 B_xor U_low U_mod2 B_mod32 U_mod32

theorem U_shr (n : BitVec 32) (k : Nat) : U n / (2 : Int) ^ k = U (n >>> k) := by
  unfold U
  rw [BitVec.toNat_ushiftRight, Nat.shiftRight_eq_div_pow]
  simp
theorem U_bitAt (n : BitVec 32) (k : Nat) : (bits BinOp.and IntKind.u32 (U n / (2 : Int) ^ k) 1 == 1) = n.getLsbD k := by
  rw [U_shr, U_and1]
  unfold Crc.odd
  rw [BitVec.getLsbD_ushiftRight]
  rfl

theorem apply_any (m : Nat → BitVec 32) (n : BitVec 32) (w : World) :
    Calls Try.prog 30 #[.agg (words 32 m), .int .u32 (U n)] w fun e w' => e = .returned (.int .u32 (U (Crc.appTo m n 32))) ∧ Below w.heap.size w w' := by
  go_enter Try.func30, Try.ntmps30
  go_wp2
  have hrow := Row.fresh w 48 (words 32 m)
  have hbel : Below w.heap.size w (w.alloc (.cells (words 32 m) 48)) := (Below.refl _ _).alloc (Nat.le_refl _) _
  generalize w.alloc (.cells (words 32 m) 48) = W at *
  go_loop [5, 7] (fun v i => ∃ k : Nat, k ≤ 32 ∧ i = .int .i64 k ∧ v = .int .u32 (U (Crc.appTo m n k))) (fun _ i => 32 - (intOf i).toNat)
  case atStart => exact ⟨0, by omega, rfl, rfl⟩
  case round =>
    obtain ⟨k, hk, rfl, rfl⟩ := hrel
    by_cases hlt : k < 32
    · have hc := hrow.cell k
      rw [words_get _ _ _ hlt] at hc
      have hbit := U_bitAt n k
      cases hb : n.getLsbD k
      · rw [hb] at hbit
        have HR := Lib.hid (show Crc.appTo m n (k + 1) = Crc.appTo m n k by simp only [Crc.appTo, hb]; rfl)
        clear hb
        go_wp2
        go_round
        case rel => exact ⟨k + 1, by omega, by go_num, by rw [HR.out]⟩
        case measure => simp [intOf]; omega
      · rw [hb] at hbit
        have HR := Lib.hid (show Crc.appTo m n (k + 1) = Crc.appTo m n k ^^^ m k by simp only [Crc.appTo, hb]; rfl)
        clear hb
        go_wp2
        go_round
        case rel => exact ⟨k + 1, by omega, by go_num, by rw [HR.out]⟩
        case measure => simp [intOf]; omega
    · obtain rfl : k = 32 := by omega
      go_wp2
      go_ret
      exact ⟨rfl, hbel⟩

/-- square's whole array, read among operations of open order: slot 1 leads to the row that slot 0 holds. -/
def LoadOk (a : Act) (w : World) : Prop := ∃ g m, a.eval (.tmp 1) = .pointer (some ⟨g, 0, none⟩) ∧ a.eval (.tmp 0) = .agg (words 32 m) ∧ Row w g 48 (words 32 m)
def LoadOp (o : Oper) (a : Act) (w : World) : Prop := o.op = .load 48 (.tmp 1) ∧ LoadOk a w
theorem loadOp_lit {d : Option Tmp} {ty : TypeId} {pos : String} {after : Array Edge} {m : Nat → BitVec 32} {g : Nat} {v2 v3 v4 v5 v6 v7 v8 v9 v10 v11 v12 v13 v14 v15 v16 : Value} {df : List Deferred} {w : World} :
    LoadOp ⟨d, Op.load 48 (.tmp 1), ty, pos, after, none⟩ ⟨#[.agg (words 32 m), .pointer (some ⟨g, 0, none⟩), v2, v3, v4, v5, v6, v7, v8, v9, v10, v11, v12, v13, v14, v15, v16], df⟩ w = Row w g 48 (words 32 m) := by
  apply propext
  constructor
  · rintro ⟨_, g', m', hx, h0, h⟩
    have e1 : Value.pointer (some ⟨g, 0, none⟩) = .pointer (some ⟨g', 0, none⟩) := hx
    have e2 : Value.agg (words 32 m) = .agg (words 32 m') := h0
    injection e1 with e1
    injection e1 with e1
    injection e1 with e1
    injection e2 with e2
    rw [e1, e2]
    exact h
  · intro h
    exact ⟨rfl, g, m, rfl, rfl, h⟩
theorem square_load {o : Oper} {a : Act} {w : World} {K : Act → World → Prop} {Q : Exit → Act → World → Prop} (h : LoadOp o a w) :
    Oper.wp Try.prog o a w K Q = K (a.put o.dst (a.eval (.tmp 0))) w := by
  obtain ⟨ho, g, m, hx, h0, h⟩ := h
  have hs := (zero_of_info info32).2
  have hrun := run_loadVar_row (P := Try.prog) w g 48 48 (words 32 m) (0, 0) _ h Try.underlying48 rfl (by rw [words_size]; exact hs)
  unfold Oper.wp execOp
  simp only [ho, hx, h0, Instr.loadAt, Instr.sureAddr, Sem.run_bind, Sem.run_pure, Result.andThen_ok, hrun]
  rfl
attribute [local go_sem ↓] square_load
attribute [local go_sem] loadOp_lit

set_option maxRecDepth 100000 in
theorem square_any (m : Nat → BitVec 32) (w : World) :
    Calls Try.prog 31 #[.agg (words 32 m)] w fun e w' => e = .returned (.agg (words 32 fun i => Crc.appTo m (m i) 32)) ∧ Below w.heap.size w w' := by
  obtain ⟨hz, hs⟩ := zero_of_info info32
  have HS := Lib.hid hs
  clear hs
  go_enter Try.func31, Try.ntmps31
  go_wp2
  go_loopw [5] (fun i wr => ∃ k : Nat, k ≤ 32 ∧ i = .int .i64 k ∧ Row wr w.heap.size 48 (words 32 m) ∧ Row wr (w.heap.size + 1) 48 (words 32 (upTo (Crc.mapOf 8) 0)) ∧ Row wr (w.heap.size + 1 + 1) 48 (words 32 (upTo (fun i => Crc.appTo m (m i) 32) k)) ∧ Below w.heap.size w wr)
    (fun i _ => 32 - (intOf i).toNat)
  case atStart =>
    refine ⟨0, by omega, rfl, ((Row.fresh w _ _).past _).past _, ?_, ?_, (((Below.refl _ _).alloc (Nat.le_refl _) _).alloc (by simp) _).alloc (by simp; omega) _⟩
    · have e : (w.alloc (.cells (words 32 m) 48)).heap.size = w.heap.size + 1 := by simp
      exact (e ▸ Row.fresh (w.alloc (.cells (words 32 m) 48)) 48 (words 32 (upTo (Crc.mapOf 8) 0))).past _
    · have e : ((w.alloc (.cells (words 32 m) 48)).alloc (.cells (words 32 (upTo (Crc.mapOf 8) 0)) 48)).heap.size = w.heap.size + 1 + 1 := by simp
      exact e ▸ Row.fresh _ 48 _
  case round =>
    obtain ⟨k, hk, rfl, hr0, hr1, hr2, hbel⟩ := hrel
    by_cases hlt : k < 32
    · have hc := hr2.cell k
      rw [words_get _ _ _ hlt] at hc
      have hf := hr2.thaw k
      have hc0 := hr0.cell k
      rw [words_get _ _ _ hlt] at hc0
      have hr0' : Row wr.drew w.heap.size 48 (words 32 m) := hr0
      go_wp2
      go_region_with ((go_at_call 30; refine (apply_any m _ _).mono ?_; rintro e w' ⟨rfl, hb'⟩; have hc' := (hb'.cell (p := ⟨w.heap.size + 1 + 1, k, none⟩) hr2.lt).trans hc; have hf' := (hb'.frozen (p := ⟨w.heap.size + 1 + 1, k, none⟩) hr2.lt).trans hf))
      all_goals
        have hbw : Below wr.heap.size wr w' := ⟨hb'.os, hb'.tape, hb'.output, hb'.size, hb'.block⟩
        have q0 := hr0.under hbw hr0.lt
        have q1 := hr1.under hbw hr1.lt
        have q2 := hr2.under hbw hr2.lt
        have qb := hbel.trans (hbw.mono hbel.size)
        clear hr0 hr1 hr2 hbel hbw hb' hr0' hc hf hc0
        go_wp2
        go_roundw
        case rel => exact ⟨k + 1, by omega, by go_num, q0.away (by simp; omega) _, q1.away (by simp) _, (words_upTo 32 (fun i => Crc.appTo m (m i) 32) k) ▸ q2.put k _, qb.setCell (by simp; omega) _⟩
        case measure => simp [intOf]; omega
    · obtain rfl : k = 32 := by omega
      rw [words_full] at hr2
      generalize hsq : (fun i => Crc.appTo m (m i) 32) = sq at *
      have HSZ := Lib.hid (show (Try.prog.info? 48).map (·.size) = some (words 32 sq).size by rw [words_size]; exact HS.out)
      have HZZ := Lib.hid (show (words 32 (upTo (Crc.mapOf 8) 0)).size = (words 32 sq).size by rw [words_size, words_size])
      have HSQ := Lib.hid hsq
      clear hsq
      go_wp2_with (first | ((with_reducible show wpList _ _ _ (Oper.mk _ (Op.load 48 _) _ _ _ _ :: _) _ _); refine wpList_load_row rfl 48 _ rfl (w.heap.size + 1 + 1) rfl _ (words 32 sq) (0, 0) _ hr2 Try.underlying48 rfl HSZ.out ?_) | ((with_reducible show wpList _ _ _ (Oper.mk _ (Op.store 48 _ _) _ _ _ _ :: _) _ _); refine wpList_store_row rfl 48 _ _ rfl (w.heap.size + 1) (words 32 sq) rfl rfl 48 (words 32 (upTo (Crc.mapOf 8) 0)) hr1 HSZ.out HZZ.out (words_cells _ _) ?_))
      exact bodyPost_ret (v := .agg (words 32 sq)) (results_cell_row rfl _ _ (w.heap.size + 1) 48 (words 32 sq) (0, 0) _ rfl (hr1.whole _) Try.underlying48 rfl HSZ.out) rfl ⟨by rw [HSQ.out], below_setRow' hbel (by omega) _⟩
end Go.Proofs.Ytiibmfajckkklaa
