/- strings.SplitSeq at a separator of one byte. -/
import Derived.Test.YtdjfmmfggkkbaaaDoorGrR
import Derived.Test.YtdjfmmfggkkbaaaDoorShelf
namespace Go.Proofs.YtdjfmmfggkkbaaaDoor
open Go.RowKit Go.Shelf Grm
attribute [local go_sem] Oper.semAt_some

abbrev txV (m : Tx) : Value := .string ⟨m.toArray⟩
theorem ex_take (s : Tx) (i : Nat) : (⟨s.toArray⟩ : ByteArray).extract 0 i = ⟨(s.take i).toArray⟩ := by
  apply ByteArray.ext
  simp [ByteArray.data_extract]
theorem ex_drop (s : Tx) (i : Nat) : (⟨s.toArray⟩ : ByteArray).extract i s.length = ⟨(s.drop i).toArray⟩ := by
  apply ByteArray.ext
  simp [ByteArray.data_extract, List.extract_eq_take_drop]
  exact List.take_of_length_le (by simp)
def slen : Option Value → Nat
  | some (.string s) => s.size
  | _ => 0
set_option maxRecDepth 100000 in
set_option maxHeartbeats 1000000 in
theorem split_round (n l b : Nat) (hn : 1 ≤ n) (c : UInt8) (m : Tx) (hm : m.length ≤ 140737488351232) (J Jx : List Tx → World → Prop) (W : World)
    (hJ : ∀ s A B, J s A → A.grownBy B (some b) → J s B)
    (hY : ∀ pre x W1, J pre W1 → (pre ++ [x]) <+: cut c m → YieldAt Fence.wide (n - 1) Tryd.prog l #[txV x] W1 fun e W' =>
      (e = .returned (.bool true) ∧ J (pre ++ [x]) W' ∧ Keep3 b W1 W') ∨ (e = .returned (.bool false) ∧ Jx (pre ++ [x]) W'))
    (h0 : J [] W) (hs : Boxed W b 9 (txV m)) (hp : Boxed W (b + 1) 9 (.string ⟨#[c]⟩)) (hv : Boxed W (b + 2) 3 (.int .i64 0)) :
    CallsIn Fence.wide n Tryd.prog 49 #[.func (.yield l) #[] #[], .pointer (some ⟨b + 1, 0, none⟩), .pointer (some ⟨b, 0, none⟩), .pointer (some ⟨b + 2, 0, none⟩)] W fun e W' => (∃ v, e = .returned v) ∧
      ((∃ xs, xs = cut c m ∧ J xs W') ∨ (∃ pre, Jx pre W')) := by
  refine callsIn_of_wp Tryd.func49 rfl trivial ?_ rfl
  simp only [Tryd.ntmps49, List.size_toArray, List.length_cons, List.length_nil, Nat.reduceAdd, Nat.reduceSub, Array.replicate_succ, Array.replicate_zero, List.push_toArray, List.append_toArray, List.nil_append, List.cons_append]
  have hsep : (⟨#[c]⟩ : ByteArray).size = 1 := rfl
  have hpc := hp.cell
  have hfI : Fence.wide.fn 51 := trivial
  gi_wp2
  gi_loopw [7] (fun _ wr => ∃ (pre : List Tx) (s : Tx), Boxed wr b 9 (txV s) ∧ Boxed wr (b + 1) 9 (.string ⟨#[c]⟩) ∧ Boxed wr (b + 2) 3 (.int .i64 0) ∧ pre ++ cut c s = cut c m ∧ s.length ≤ m.length ∧ J pre wr) (fun _ wr => slen (wr.cell? ⟨b, 0, none⟩))
  case atStart => exact ⟨[], m, hs, hp, hv, rfl, Nat.le_refl _, h0⟩
  case round =>
    obtain ⟨pre, s, bs, bp, bv, hcut, hsl, hJs⟩ := hrel
    have ks := bs.cell
    have kp := bp.cell
    have kv := bv.cell
    have ms := bs.frozen
    have e1 := gr_size s
    have i9 : (s.length : Int) ≤ 140737488351232 := by omega
    obtain ⟨z, hz⟩ : ∃ z, z = Lib.indexByte s c := ⟨_, rfl⟩
    have HC := Lib.hid (callsIn_wide (n := n - 1).2 (Tryd.strings_Index_one ⟨s.toArray⟩ c wr))
    rw [show (⟨s.toArray⟩ : ByteArray).data.toList = s from rfl, ← hz] at HC
    have hge := Lib.indexByte_ge s c
    rw [← hz] at hge
    by_cases hneg : z < 0
    · have HP := Lib.hid (show pre ++ [s] = cut c m by rw [← hcut, cut_none (by omega)])
      obtain ⟨fn, tmps, assign, body, hy, hR⟩ := hY pre s wr hJs (by rw [HP.out]; exact List.prefix_refl _)
      have HR := Lib.hid hR
      have HJ := Lib.hid hJs
      clear hz hcut hJs hR hge hY
      gi_wp2_with (gi_at_call 51; refine HC.out.mono ?_; rintro e w' ⟨rfl, rfl⟩)
      refine HR.out.mono ?_
      rintro e W3 (⟨rfl, hJ3, hk3⟩ | ⟨rfl, hJx3⟩)
      · gi_wp2
        go_end0
        exact ⟨⟨_, rfl⟩, .inl ⟨_, HP.out, hJ3⟩⟩
      · gi_wp2
        go_end0
        exact ⟨⟨_, rfl⟩, .inr ⟨_, hJx3⟩⟩
    · obtain ⟨i, rfl⟩ : ∃ i : Nat, z = (i : Int) := ⟨z.toNat, by omega⟩
      obtain ⟨hi, hce⟩ := cut_some hz.symm
      have HP := Lib.hid (show (pre ++ [s.take i]) ++ cut c (s.drop (i + 1)) = cut c m by rw [← hcut, hce]; simp)
      obtain ⟨fn, tmps, assign, body, hy, hR⟩ := hY pre (s.take i) wr hJs (by rw [← HP.out]; exact List.prefix_append _ _)
      have hy' : (Instr.yield l #[.string ((⟨s.toArray⟩ : ByteArray).extract 0 i)]).run Tryd.prog wr = .ok (.round l fn tmps assign body) wr := by rw [ex_take]; exact hy
      have HR := Lib.hid hR
      have HJ := Lib.hid hJs
      have hi1 : (i : Int) < (s.length : Int) := by omega
      have hi2 : ((i : Int) + 1) ≤ (s.length : Int) := by omega
      have HS := Lib.hid hsl
      have HI := Lib.hid hi
      clear hz hcut hJs hR hge hY hce hy hsl hi
      gi_wp2_with (gi_at_call 51; refine HC.out.mono ?_; rintro e w' ⟨rfl, rfl⟩)
      refine HR.out.mono ?_
      rintro e W3 (⟨rfl, hJ3, hk3⟩ | ⟨rfl, hJx3⟩)
      · have bs3 : Boxed W3 b 9 (txV s) := (hk3 b (by omega) (by omega)).trans bs
        have bp3 : Boxed W3 (b + 1) 9 (.string ⟨#[c]⟩) := (hk3 (b + 1) (by omega) (by omega)).trans bp
        have bv3 : Boxed W3 (b + 2) 3 (.int .i64 0) := (hk3 (b + 2) (by omega) (by omega)).trans bv
        have ks3 := bs3.cell
        have kp3 := bp3.cell
        have ms3 := bs3.frozen
        have HJ3 := Lib.hid hJ3
        clear hJ3 hk3
        gi_wp2
        go_roundw
        case rel =>
          refine ⟨pre ++ [s.take i], s.drop (i + 1), ?_, bp3.kept (grownBy_setCell' W3 b _) (by simp), bv3.kept (grownBy_setCell' W3 b _) (by simp), HP.out, by have := HS.out; simp; omega, hJ _ _ _ HJ3.out (grownBy_setCell' W3 b _)⟩
          rw [show txV (s.drop (i + 1)) = .string ((⟨s.toArray⟩ : ByteArray).extract (i + 1) s.length) by rw [ex_drop]]
          exact bs3.set _
        case measure =>
          have hb4 := (bs3.set (.string ((⟨s.toArray⟩ : ByteArray).extract (i + 1) s.length))).cell
          rw [ks]
          refine Nat.lt_of_le_of_lt (Nat.le_of_eq (congrArg slen hb4)) ?_
          rw [ex_drop]
          show (⟨(s.drop (i + 1)).toArray⟩ : ByteArray).size < (⟨s.toArray⟩ : ByteArray).size
          rw [gr_size, gr_size]
          have := HI.out
          simp
          omega
      · gi_wp2
        refine bodyPost_ret (results_none rfl _ _ _) rfl ?_
        exact ⟨⟨_, rfl⟩, .inr ⟨_, hJx3⟩⟩
theorem split_seq (n b : Nat) (hn : 1 ≤ n) (c : UInt8) (m : Tx) (hm : m.length ≤ 140737488351232) (w : World) (hs : Boxed w b 9 (txV m)) (hp : Boxed w (b + 1) 9 (.string ⟨#[c]⟩)) (hv : Boxed w (b + 2) 3 (.int .i64 0)) :
    SeqSt Fence.wide n Tryd.prog 49 #[.pointer (some ⟨b + 1, 0, none⟩), .pointer (some ⟨b, 0, none⟩), .pointer (some ⟨b + 2, 0, none⟩)] (fun x : Tx => #[txV x]) b (fun pre x => (pre ++ [x]) <+: cut c m) (fun xs => xs = cut c m) w :=
  fun l J Jx W hk hJ _ hY h0 => split_round n l b hn c m hm J Jx W hJ hY h0 ((hk b (by omega) (by omega)).trans hs) ((hk (b + 1) (by omega) (by omega)).trans hp) ((hk (b + 2) (by omega) (by omega)).trans hv)
/-- The world with the iterator's three boxes. -/
def splitW (m : Tx) (c : UInt8) (w : World) : World := ((w.alloc (.cells #[txV m] 9)).alloc (.cells #[.string ⟨#[c]⟩] 9)).alloc (.cells #[.int .i64 0] 3)
abbrev splitV (b : Nat) : Value := .func (.func 49) #[] #[.pointer (some ⟨b + 1, 0, none⟩), .pointer (some ⟨b, 0, none⟩), .pointer (some ⟨b + 2, 0, none⟩)]
theorem splitW_size (m : Tx) (c : UInt8) (w : World) : (splitW m c w).heap.size = w.heap.size + 3 := by simp [splitW]
theorem splitW_below (m : Tx) (c : UInt8) (w : World) : Below w.heap.size w (splitW m c w) := (((Below.refl _ w).alloc (Nat.le_refl _) _).alloc (by simp) _).alloc (by simp; omega) _
theorem splitW_box (m : Tx) (c : UInt8) (w : World) : Boxed (splitW m c w) w.heap.size 9 (txV m) ∧ Boxed (splitW m c w) (w.heap.size + 1) 9 (.string ⟨#[c]⟩) ∧ Boxed (splitW m c w) (w.heap.size + 2) 3 (.int .i64 0) := by
  have h2 := Boxed.new (w.alloc (.cells #[txV m] 9)) 9 (.string ⟨#[c]⟩)
  have h3 := Boxed.new ((w.alloc (.cells #[txV m] 9)).alloc (.cells #[.string ⟨#[c]⟩] 9)) 3 (.int .i64 0)
  rw [World.size_alloc] at h2 h3
  rw [World.size_alloc] at h3
  exact ⟨((Boxed.new w _ _).alloc _).alloc _, h2.alloc _, h3⟩
theorem split1_any (m : Tx) (c : UInt8) (w : World) :
    Calls Tryd.prog 44 #[txV m, .string ⟨#[c]⟩, .int .i64 0] w fun e w' => e = .returned (splitV w.heap.size) ∧ w' = splitW m c w := by
  unfold splitW
  go_enter Tryd.func44, Tryd.ntmps44
  go_wp2
  go_ret
  exact ⟨by simp, rfl⟩
theorem splitseq_any (m : Tx) (c : UInt8) (w : World) :
    Calls Tryd.prog 35 #[txV m, .string ⟨#[c]⟩] w fun e w' => e = .returned (splitV w.heap.size) ∧ w' = splitW m c w := by
  have HC := Lib.hid (split1_any m c w)
  go_enter Tryd.func35, Tryd.ntmps35
  go_wp2_with fail
  refine HC.out.mono ?_
  rintro e w1 ⟨rfl, rfl⟩
  go_wp2
  go_ret
  exact ⟨by simp, rfl⟩
end Go.Proofs.YtdjfmmfggkkbaaaDoor
