/- The document's Cut. -/
import Derived.Test.YtdjfmmfggkkbaaaDoorGrLawC
namespace Go.Proofs.YtdjfmmfggkkbaaaDoor
open Go.RowKit Go.Shelf Grm

/-- A slice of texts of the call's own. -/
def TV (w : World) (K : Nat) (v : Value) (l : List Tx) : Prop := w.ownsRow K 9 1 v l.length (l.map txV)
theorem TV.nil (w : World) (K : Nat) : TV w K (.slice none 0 0) [] := World.ownsRow_nil _ _ _ _
theorem TV.shape {w : World} {K : Nat} {v : Value} {l : List Tx} (h : TV w K v l) : ∃ a c, v = .slice a l.length c := by
  rcases h.2 with ⟨rfl, h0⟩ | ⟨g, cap, cur, rfl, _⟩
  · exact ⟨_, _, by rw [h0]⟩
  · exact ⟨_, _, rfl⟩
theorem TV.under {w w' : World} {K B : Nat} {v : Value} {l : List Tx} (h : TV w K v l) (hb : Below B w w') (hB : w.heap.size ≤ B) : TV w' K v l := by
  refine World.ownsRow.kept (row := Option.none) h ⟨hb.os, hb.tape, hb.output, hb.size, fun k hk _ => hb.block k (by omega)⟩ ?_
  cases hv : v.ownBlock
  · exact .inl rfl
  · exact .inr (by simp)
theorem TV.at_ {w : World} {K : Nat} {v : Value} {l : List Tx} (h : TV w K v l) {k : Nat} (hk : k < l.length) : ∃ b c, v = .slice (some ⟨b, 0, none⟩) l.length c ∧ b < w.heap.size ∧ w.cell? ⟨b, k, none⟩ = some (txV (l[k]'hk)) := by
  rcases h.2 with ⟨hv, h0⟩ | ⟨g, cap, cur, rfl, _, h2, h3, _, hs, ht⟩
  · omega
  · refine ⟨g, cap, rfl, (Array.getElem?_eq_some_iff.1 h2).1, ?_⟩
    have e1 : (l.map txV)[k]? = some (txV (l[k]'hk)) := by rw [List.getElem?_map, List.getElem?_eq_getElem hk]; rfl
    rw [← ht, List.getElem?_take_of_lt (by omega)] at e1
    rw [cell_of_row w g _ cur _ _ h2]
    simpa using e1
set_option maxRecDepth 100000 in
/-- 'append(v, x)' of texts. -/
theorem wpList_appendT {w : World} {ops : Array Oper} {rest : List Oper} {o : Oper} {a : Act} {Q : Exit → Act → World → Prop} (hgd : o.guard = none) (s x : Operand) (ho : o.op = .call { callee := .builtin .append, args := #[s, x], argTypes := #[58, 58] })
    (K : Nat) (v : Value) (l : List Tx) (y : Tx) (b : Nat) (hs : a.eval s = v) (hv : TV w K v l) (hx : a.eval x = .slice (some ⟨b, 0, none⟩) 1 1) (hc : w.cell? ⟨b, 0, none⟩ = some (txV y)) (hl : l.length ≤ 1000000) (hK : K ≤ w.heap.size) (w0 : World) (hb0 : Below K w0 w) (hw0 : w0.heap.size = K)
    (h : ∀ g c w', TV w' K (.slice (some ⟨g, 0, none⟩) (l.length + 1) c) (l ++ [y]) → Below K w0 w' → wpList Tryd.prog ops Q rest (a.put o.dst (.slice (some ⟨g, 0, none⟩) (l.length + 1) c)) w') : wpList Tryd.prog ops Q (o :: rest) a w := by
  obtain ⟨i0, hi, hz0, hz1, hz2⟩ := info_parts infoS
  refine wpList_append_lies w hgd s x 58 ho K 9 i0 (.string ⟨#[]⟩) 1 16 Tryd.underlying58 hi hz0 hz1 hz2 rfl (by omega) v l.length (l.map txV) hs hv ⟨b, 0, none⟩ 1 1 [txV y] hx rfl (by
    intro j u hu
    match j, hu with
    | 0, hu => injection hu with hu; subst hu; exact hc
    | j + 1, hu => simp at hu) (by intro u hu; simp at hu; subst hu; rfl) (by omega) (by show l.length + 1 ≤ 9223372036854775807; omega) (by omega) hK _ rfl (fun g c w' h2 h3 h4 h5 => h g c w' ?_ ?_)
  · unfold TV
    rw [List.length_append, List.map_append]
    exact h2
  · exact hb0.grown h3 hK (fun k e => (hv.lt k e).1)
def glue (cur : Tx) : List Tx → List Tx
  | h :: t => (cur ++ h) :: t
  | [] => []
theorem cut_glue_hit (c : UInt8) (cur r : Tx) : glue cur (cut c (c :: r)) = cur :: cut c r := by
  rw [show cut c (c :: r) = [] :: cut c r by rw [cut]; simp]
  simp [glue]
theorem cut_glue_miss (c x : UInt8) (cur r : Tx) (h : x ≠ c) : glue cur (cut c (x :: r)) = glue (cur ++ [x]) (cut c r) := by
  cases hc : cut c r with
  | nil => exact absurd hc (cut_ne c r)
  | cons a t =>
    rw [show cut c (x :: r) = (x :: a) :: t by rw [cut, if_neg h, hc]]
    simp [glue]
theorem cut_glue_nil (c : UInt8) (cur : Tx) : glue cur (cut c []) = [cur] := by simp [cut, glue]
theorem cut_glue_self (c : UInt8) (l : Tx) : glue [] (cut c l) = cut c l := by
  cases hc : cut c l with
  | nil => rfl
  | cons a t => simp [glue]
set_option maxRecDepth 100000 in
set_option maxHeartbeats 4000000 in
theorem rcut_any (s : Tx) (c : UInt8) (w : World) (h9 : s.length ≤ 2000) :
    Calls Tryd.prog 26 #[txV s, .int .u8 (c.toNat : Nat)] w fun e w' => (∃ v, e = .returned v ∧ TV w' w.heap.size v (cut c s)) ∧ Below w.heap.size w w' := by
  have e1 := gr_size s
  have i3 : (s.length : Int) ≤ 2000 := by omega
  have H9 := Lib.hid h9
  clear h9
  go_enter Tryd.func26, Tryd.ntmps26
  go_wp2
  go_loopw [5, 6, 7] (fun ov cv i wr => ∃ (j : Nat) (out : List Tx) (cur : Tx), j ≤ s.length ∧ i = .int .i64 j ∧ cv = txV cur ∧ TV wr w.heap.size ov out ∧ cut c s = out ++ glue cur (cut c (s.drop j)) ∧ out.length ≤ j ∧ cur.length ≤ j ∧ Below w.heap.size w wr) (fun _ _ i _ => s.length - (intOf i).toNat)
  case atStart => exact ⟨0, [], [], by omega, rfl, rfl, TV.nil _ _, by rw [List.drop_zero, cut_glue_self]; rfl, by simp, by simp, Below.refl _ _⟩
  case round =>
    obtain ⟨j, out, cur, hj, rfl, rfl, hv, hcut, ho, hcu, hbw⟩ := hrel
    obtain ⟨ad, cc, rfl⟩ := hv.shape
    have HV := Lib.hid hv
    have HB := Lib.hid hbw
    have HO := Lib.hid (And.intro ho hcu)
    have e2 := gr_size cur
    by_cases hlt : j < s.length
    · have hlt' : (j : Int) < (s.length : Int) := by omega
      have hd : s.drop j = s[j]'hlt :: s.drop (j + 1) := List.drop_eq_getElem_cons hlt
      rw [hd] at hcut
      have hx : ((⟨s.toArray⟩ : ByteArray)[j]'(by rw [gr_size]; exact hlt)) = s[j]'hlt := rfl
      by_cases hq : s[j]'hlt = c
      · rw [hq, cut_glue_hit] at hcut
        have HC := Lib.hid hcut
        have hx2 : ((⟨s.toArray⟩ : ByteArray)[j]'(by rw [gr_size]; exact hlt)).toNat = c.toNat := by rw [hx, hq]
        clear hcut hv hbw ho hcu hd hx hq
        go_wp2_with (at_builtin; refine wpList_appendT rfl _ _ rfl w.heap.size _ out cur wr.heap.size rfl (HV.out.under ((Below.refl _ wr).alloc (Nat.le_refl _) _) (Nat.le_refl _)) rfl ((Row.fresh wr _ _).cell 0) (by have := HO.out; have := H9.out; omega) (by have := HB.out.size; simp; omega) w (HB.out.alloc HB.out.size _) rfl ?_; intro g2 c2 w2 hv2 hb2; have HV2 := Lib.hid (And.intro hv2 hb2); clear hv2 hb2)
        go_roundw
        case rel =>
          refine ⟨j + 1, out ++ [cur], [], by omega, by go_num, rfl, HV2.out.1, ?_, by have := HO.out; simp; omega, by simp, HV2.out.2⟩
          rw [HC.out, cut_glue_self]
          simp
        case measure => simp [intOf]; omega
      · rw [cut_glue_miss c _ cur _ hq] at hcut
        have HC := Lib.hid hcut
        have ex1 : (⟨s.toArray⟩ : ByteArray).extract j (j + 1) = ⟨[s[j]'hlt].toArray⟩ := by
          apply ByteArray.ext
          simp only [ByteArray.data_extract, List.extract_toArray, List.extract_eq_take_drop, Nat.add_sub_cancel_left]
          rw [hd]
          rfl
        have hx2 : ((⟨s.toArray⟩ : ByteArray)[j]'(by rw [gr_size]; exact hlt)).toNat = (s[j]'hlt).toNat := by rw [hx]
        have hq2 : ¬ (s[j]'hlt).toNat = c.toNat := fun e => hq (UInt8.toNat_inj.1 e)
        have hj1 : ((j : Int) + 1) ≤ (s.length : Int) := by omega
        have hj2 : (j : Int) ≤ (j : Int) + 1 := by omega
        have e4 : (⟨[s[j]'hlt].toArray⟩ : ByteArray).size = 1 := rfl
        have k1 : ¬ 9223372036854775807 < cur.length + 1 := by have := H9.out; omega
        have HCt := Lib.hid (cat_tx cur [s[j]'hlt])
        generalize (s[j]'hlt).toNat = y at *
        have hq3 : ¬ (y : Int) = (c.toNat : Int) := by omega
        generalize s[j]'hlt = xb at *
        generalize hX : (⟨[xb].toArray⟩ : ByteArray) = X at *
        have HX := Lib.hid hX
        clear hcut hv hbw ho hcu hd hx hq hq2 hX
        go_wp2
        go_roundw
        case rel =>
          refine ⟨j + 1, out, cur ++ [xb], by omega, by go_num, ?_, HV.out, HC.out, by have := HO.out; omega, by have := HO.out; simp; omega, HB.out⟩
          rw [HCt.out]
        case measure => simp [intOf]; omega
    · obtain rfl : j = s.length := by omega
      have hlt' : ¬ (s.length : Int) < (s.length : Int) := by omega
      rw [List.drop_length, cut_glue_nil] at hcut
      have HC := Lib.hid hcut
      clear hcut hv hbw ho hcu
      go_wp2_with (at_builtin; refine wpList_appendT rfl _ _ rfl w.heap.size _ out cur wr.heap.size rfl (HV.out.under ((Below.refl _ wr).alloc (Nat.le_refl _) _) (Nat.le_refl _)) rfl ((Row.fresh wr _ _).cell 0) (by have := HO.out; have := H9.out; omega) (by have := HB.out.size; simp; omega) w (HB.out.alloc HB.out.size _) rfl ?_; intro g2 c2 w2 hv2 hb2; have HV2 := Lib.hid (And.intro hv2 hb2); clear hv2 hb2)
      go_ret
      exact ⟨⟨_, rfl, by rw [HC.out]; exact HV2.out.1⟩, HV2.out.2⟩
end Go.Proofs.YtdjfmmfggkkbaaaDoor
