/- Bytes in memory: as strings; made, copied, appended. -/
import Derived.Test.YthheolhghhmdlaaCrcMem
import Derived.Test.YthheolhghhmdlaaChecked
import Derived.Maps.AppendAt
import Derived.Laws.CopyOwn
namespace Go.Proofs.Ythheolhghhmdlaa
open Go.RowKit

/-- Bytes as cells; as a string. -/
def cells (l : List (BitVec 8)) : List Value := l.map fun x => .int .u8 (B x)
def str (l : List (BitVec 8)) : ByteArray := ⟨(l.map fun x => UInt8.ofNat x.toNat).toArray⟩

theorem cells_length (l : List (BitVec 8)) : (cells l).length = l.length := by simp [cells]
theorem cells_get (l : List (BitVec 8)) (i : Nat) : (cells l)[i]? = (l[i]?).map fun x => .int .u8 (B x) := by simp [cells]
theorem cells_append (l m : List (BitVec 8)) : cells (l ++ m) = cells l ++ cells m := by simp [cells]
theorem cells_take (l : List (BitVec 8)) (n : Nat) : (cells l).take n = cells (l.take n) := by simp [cells, List.map_take]
theorem cells_drop (l : List (BitVec 8)) (n : Nat) : (cells l).drop n = cells (l.drop n) := by simp [cells, List.map_drop]
theorem cells_one (l : List (BitVec 8)) : ∀ v ∈ cells l, v.oneCell' = true := by
  intro v hv
  simp only [cells, List.mem_map] at hv
  obtain ⟨x, _, rfl⟩ := hv
  rfl
theorem cells_inj {l m : List (BitVec 8)} (h : cells l = cells m) : l = m := by
  unfold cells at h
  refine List.map_inj_right ?_ |>.1 h
  intro x y e
  injection e with _ e
  exact B_inj e
theorem add_plain (b o i : Nat) : (⟨b, o, none⟩ : Addr).add i = ⟨b, o + i, none⟩ := by
  unfold Addr.add
  split
  · simp_all
  · rfl
theorem Bytes.src {w : World} {b o : Nat} {l : List (BitVec 8)} (h : ∀ i x, l[i]? = some x → w.cell? ⟨b, o + i, none⟩ = some (.int .u8 (B x))) :
    ∀ j v, (cells l)[j]? = some v → w.cell? ((⟨b, o, none⟩ : Addr).add j) = some v := by
  intro j v hv
  rw [cells_get] at hv
  cases hx : l[j]? with
  | none => rw [hx] at hv; cases hv
  | some x =>
    rw [hx] at hv
    injection hv with hv
    subst hv
    rw [add_plain]
    exact h j x hx

theorem str_inj {l m : List (BitVec 8)} (h : (str l).toList = (str m).toList) : l = m := by
  have e : ∀ k : List (BitVec 8), (str k).toList = k.map fun x => UInt8.ofNat x.toNat := by
    intro k
    unfold str
    rw [ByteArray.toList_eq]
  rw [e, e] at h
  refine List.map_inj_right ?_ |>.1 h
  intro x y hxy
  have hx := x.isLt
  have hy := y.isLt
  have := congrArg UInt8.toNat hxy
  simp at this
  exact BitVec.eq_of_toNat_eq (by omega)
theorem str_beq (l m : List (BitVec 8)) : ((str l).toList == (str m).toList) = decide (l = m) := by
  by_cases h : l = m
  · subst h; simp
  · have : (str l).toList ≠ (str m).toList := fun e => h (str_inj e)
    simp [this, h]

theorem fold_str (l : List (BitVec 8)) : ∀ s : ByteArray, (l.map B).foldl (fun r n => r.push (UInt8.ofNat n.toNat)) s = ⟨(s.data.toList ++ l.map fun x => UInt8.ofNat x.toNat).toArray⟩ := by
  induction l with
  | nil => intro s; simp
  | cons x l ih =>
    intro s
    simp only [List.map_cons, List.foldl_cons]
    rw [ih]
    have e : (B x).toNat = x.toNat := by unfold B; omega
    rw [e]
    congr 1
    simp

/-- 'string(b)'. -/
theorem conv_str (w : World) (a : Option Addr) (l : List (BitVec 8)) (c : Nat) (h : Bytes w a l) :
    (convert 34 9 (.slice a l.length c)).run Try.prog w = .ok (.string (str l)) w := by
  rw [run_convert_bytes_string w 34 9 5 a l.length c Try.underlying34 Try.underlying5 Try.underlying9]
  have fin : ∀ ad : Addr, (∀ j v, (cells l)[j]? = some v → w.cell? (ad.add j) = some v) → (Conv.bytesToString (.slice (some ad) l.length c)).run Try.prog w = .ok (.string (str l)) w := by
    intro ad hs
    have hl := run_loadCells_list (P := Try.prog) w ad (cells l) hs
    rw [cells_length] at hl
    have e : cells l = (l.map B).map (Value.int .u8) := by simp [cells]
    rw [e] at hl
    rw [run_bytesToString w ad l.length c (l.map B) hl, fold_str]
    rfl
  rcases h with rfl | ⟨b, o, rfl, h⟩
  · cases a with
    | none => rfl
    | some ad => exact fin ad (fun j v hv => by simp [cells] at hv)
  · exact fin _ (Bytes.src h)

/-- 'string(x) == string(y)'. -/
theorem same_any (a b : Option Addr) (l m : List (BitVec 8)) (c d : Nat) (w : World) (ha : Bytes w a l) (hb : Bytes w b m) :
    Calls Try.prog 19 #[.slice a l.length c, .slice b m.length d] w fun e w' => e = .returned (.bool (decide (l = m))) ∧ w = w' := by
  have h1 := conv_str w a l c ha
  have h2 := conv_str w b m d hb
  have h3 := str_beq l m
  generalize decide (l = m) = r at *
  go_enter Try.func19, Try.ntmps19
  go_wp2
  go_ret
  exact ⟨rfl, rfl⟩

theorem info8 : (Try.prog.info? 5).map (fun i => (i.zero, i.size, i.bytes)) = some (some (.int .u8 0), 1, 1) := by kernel_rfl
theorem size8 : (Try.prog.info? 5).map (·.size) = some 1 := by kernel_rfl

/-- 'make([]byte, n)'. -/
theorem wpList_makeB {w : World} {ops : Array Oper} {rest : List Oper} {o : Oper} {a : Act} {Q : Exit → Act → World → Prop} (hgd : o.guard = none) (x y : Operand) (ho : o.op = .makeSlice 34 x y)
    (z : Int) (n : Nat) (hx : a.eval x = .int .i64 z) (hy : a.eval y = .int .i64 z) (hz : z = (n : Int)) (hn : n ≤ 10000000000)
    (K : Nat) (w0 : World) (hK : Below K w0 w) (hKw : K ≤ w.heap.size)
    (h : ∀ w', Hid (Row w' w.heap.size 5 (cells (List.replicate n (BitVec.ofNat 8 0))).toArray) → Below K w0 w' → wpList Try.prog ops Q rest (a.put o.dst (.slice (some ⟨w.heap.size, 0, none⟩) n n)) w') : wpList Try.prog ops Q (o :: rest) a w := by
  have h := h _ (Row.fresh w _ _) (hK.alloc hKw _)
  obtain ⟨i, hi, hz0, hz1, hz2⟩ := info_parts info8
  refine wpList_plain hgd fun K' hK' => ?_
  have hr := run_make (P := Try.prog) w 34 5 i (.int .u8 0) Try.underlying34 hi hz0 .i64 .i64 z z (by omega) (by omega) (by rw [hz2]; omega) (by omega)
  subst hz
  have e : (madeCells (Value.int IntKind.u8 0).cells ((n : Int).toNat * i.size)) = (cells (List.replicate n (BitVec.ofNat 8 0))).toArray := by
    rw [hz1]
    apply Array.toList_inj.1
    have e1 : (Value.int IntKind.u8 0).cells = #[Value.int IntKind.u8 0] := rfl
    rw [e1, toList_madeCells_one]
    simp [cells, B]
  rw [e] at hr
  unfold Oper.wp execOp
  simp only [ho, hx, hy, Sem.run_bind, hr, Result.andThen_ok, Sem.run_pure]
  exact hK' _ _ h

/-- 'copy(out, b)', out a row of the call's own from its begin on. -/
theorem wpList_copyB {w : World} {ops : Array Oper} {rest : List Oper} {o : Oper} {a : Act} {Q : Exit → Act → World → Prop} (hgd : o.guard = none) (d s : Operand)
    (ho : o.op = .call { callee := .builtin .copy, args := #[d, s], argTypes := #[34, 34] })
    (g n cap : Nat) (ap : Option Addr) (l cur : List (BitVec 8)) (c : Nat) (hd : a.eval d = .slice (some ⟨g, 0, none⟩) n cap) (hs : a.eval s = .slice ap l.length c)
    (hr : Row w g 5 (cells cur).toArray) (hB : Bytes w ap l) (hn : n ≤ cur.length)
    (K : Nat) (w0 : World) (hK : Below K w0 w) (hKg : K ≤ g) (res : List (BitVec 8)) (hres : res = l.take n ++ cur.drop (l.take n).length) (m : Int) (hm : m = ((l.take n).length : Int))
    (h : ∀ w', Hid (Row w' g 5 (cells res).toArray) → Below K w0 w' → wpList Try.prog ops Q rest (a.put o.dst (.int .i64 m)) w') : wpList Try.prog ops Q (o :: rest) a w := by
  have h := h _ (hr.whole _) (below_setRow' hK hKg _)
  subst hres
  subst hm
  by_cases h0 : (l.take n).length = 0
  · have e : l.take n = [] := List.eq_nil_of_length_eq_zero h0
    have hmin : Nat.min l.length n = 0 := by
      rw [List.length_take] at h0
      show min l.length n = 0
      omega
    refine wpList_copy_nothing hgd d s 34 34 ho 5 Try.underlying34 size8 _ _ n cap l.length c hd hs hmin ?_
    rw [e] at h
    simp only [List.length_nil, List.drop_zero, List.nil_append] at h
    rw [setRow_self w g _ 5 (0, 0) hr] at h
    exact h
  · rcases hB with rfl | ⟨b, off, rfl, hsrc⟩
    · simp at h0
    · have hlen : (cells (l.take n)).length = Nat.min l.length n := by
        rw [cells_length, List.length_take]
        exact Nat.min_comm _ _
      have hfit : 0 + (cells (l.take n)).length ≤ (cells cur).toArray.size := by
        rw [hlen]
        simp only [List.size_toArray, cells_length]
        have : Nat.min l.length n ≤ n := Nat.min_le_right _ _
        omega
      refine wpList_copy_own hgd d s 34 34 ho 5 Try.underlying34 size8 g 0 n cap ⟨b, off, none⟩ l.length c hd hs (cells cur).toArray 5 hr (cells (l.take n)) hlen ?_ hfit (cells_one _) ?_
      · intro j v hv
        refine Bytes.src hsrc j v ?_
        rw [← cells_take] at hv
        rw [List.getElem?_take] at hv
        split at hv
        · exact hv
        · cases hv
      · rw [cells_length]
        simp only [List.take_zero, List.nil_append, Nat.zero_add]
        rw [cells_drop, ← cells_append]
        exact h
end Go.Proofs.Ythheolhghhmdlaa
