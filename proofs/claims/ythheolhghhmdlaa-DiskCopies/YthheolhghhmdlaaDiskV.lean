/- The document's disk: a file by its name. -/
import Derived.Test.YthheolhghhmdlaaDiskU
namespace Go.Proofs.Ythheolhghhmdlaa
open Go.RowKit Dsk

abbrev nilV : Value := .slice none 0 0
def rfind (n : Nm) (rs : List Rf) : Rf := (get Rf.name n rs).getD ⟨nilV, nilV, ⟨n, [], []⟩⟩
theorem rfind_ok {w : World} {T : Nat → Prop} {a : Option Addr} {rs : List Rf} (h : Fs3 w T a rs) (n : Nm) : (rfind n rs).ok w T := by
  unfold rfind
  cases hg : get Rf.name n rs with
  | none => exact ⟨⟨none, 0, rfl, .inl rfl⟩, none, 0, rfl, .inl rfl⟩
  | some r => exact h.2 r (get_some hg).1
theorem rfind_fil (n : Nm) (rs : List Rf) : (rfind n rs).fil = ofName n (rs.map Rf.fil) := by
  unfold rfind ofName
  rw [get_map rf_key]
  cases get Rf.name n rs <;> rfl
theorem rfind_name (n : Nm) (rs : List Rf) : (rfind n rs).name = n := by
  unfold Rf.name
  rw [rfind_fil]
  exact ofName_name
set_option maxRecDepth 100000 in
theorem rfind_any {w : World} {T : Nat → Prop} {a : Option Addr} {rs : List Rf} (room : Int) (c : Nat) (n : Nm) (h : Fs3 w T a rs) (hT : ∀ k, T k → k < w.heap.size) (hL : rs.length ≤ 1000000) (hr : Rising Rf.name rs) :
    Calls Try.prog 36 #[dV room a rs.length c, .string ⟨n.toArray⟩] w fun e w' => e = .returned (.tuple #[fV (rfind n rs), .bool (get Rf.name n rs).isSome]) ∧ Below w.heap.size w w' := by
  obtain ⟨w2, hw2⟩ : ∃ w2, w2 = (w.alloc (.cells #[.int .i64 room, .slice a rs.length c] 27)).alloc (.cells #[.string ⟨#[]⟩, .slice none 0 0, .slice none 0 0] 73) := ⟨_, rfl⟩
  have hb2 : Below w.heap.size w w2 := by rw [hw2]; exact ((Below.refl _ _).alloc (Nat.le_refl _) _).alloc (by simp) _
  have hr1 : Row w2 w.heap.size 27 #[.int .i64 room, .slice a rs.length c] := by rw [hw2]; exact (Row.fresh w _ _).past _
  have hr2 : Row w2 (w.heap.size + 1) 73 #[.string ⟨#[]⟩, .slice none 0 0, .slice none 0 0] := by
    rw [hw2]
    have := Row.fresh (w.alloc (.cells #[.int .i64 room, .slice a rs.length c] 27)) 73 #[.string ⟨#[]⟩, .slice none 0 0, .slice none 0 0]
    simpa using this
  have HH := Lib.hid (h.kept (kept_below hT hb2))
  have HB := Lib.hid hb2
  have HR := Lib.hid hr
  have hlI : (rs.length : Int) ≤ 1000000 := by omega
  have k1 : w2.cell? ⟨w.heap.size, 1, none⟩ = some (.slice a rs.length c) := hr1.cell 1
  have q0 : w2.cell? ⟨w.heap.size + 1, 0, none⟩ = some (.string ⟨#[]⟩) := hr2.cell 0
  have q1 : w2.cell? ⟨w.heap.size + 1, 1, none⟩ = some (.slice none 0 0) := hr2.cell 1
  have q2 : w2.cell? ⟨w.heap.size + 1, 2, none⟩ = some (.slice none 0 0) := hr2.cell 2
  have f0 := hr2.thaw 0
  have f1 := hr2.thaw 1
  have f2 := hr2.thaw 2
  have hg1 := hr1.lt
  have hg2 := hr2.lt
  have HW2 := Lib.hid hw2
  clear h hb2 hT hr hr1 hr2 hw2
  go_enter Try.func36, Try.ntmps36
  go_wp2
  rw [← HW2.out]
  go_loopw [6] (fun i wr => ∃ k : Nat, k ≤ rs.length ∧ i = .int .i64 k ∧ (∀ r ∈ rs.take k, r.name ≠ n) ∧ wr = w2) (fun i _ => rs.length - (intOf i).toNat)
  case atStart => exact ⟨0, by omega, rfl, fun r hr => by simp at hr, rfl⟩
  case round =>
    obtain ⟨k, hk, rfl, hno, rfl⟩ := hrel
    have HNo := Lib.hid hno
    clear hno
    by_cases hlt : k < rs.length
    · have hlt' : (k : Int) < (rs.length : Int) := by omega
      obtain ⟨b, o, ea, hbl, _, c0, c1, c2, hok⟩ := HH.out.at_ hlt
      subst ea
      have HOk := Lib.hid hok
      by_cases he : (rs[k]'hlt).name = n
      · have hg : get Rf.name n rs = some (rs[k]'hlt) := by rw [← he]; exact get_of_mem HR.out (List.getElem_mem hlt)
        have HF : Hid (rfind n rs = rs[k]'hlt ∧ (get Rf.name n rs).isSome = true) := by
          unfold rfind
          rw [hg]
          exact ⟨rfl, rfl⟩
        have hq : ((rs[k]'hlt).name == n) = true := by simp [he]
        obtain ⟨⟨af, cf, e1, _⟩, aw, cw, e2, _⟩ := hok
        rw [e1] at c1
        rw [e2] at c2
        have HV : Hid (fV (rs[k]'hlt) = .agg #[.string ⟨(rs[k]'hlt).name.toArray⟩, .slice af (rs[k]'hlt).fil.firm.length cf, .slice aw (rs[k]'hlt).fil.ws.length cw]) := by
          show fV _ = _
          rw [fV, e1, e2]
        clear he hg e1 e2
        generalize (rs[k]'hlt).fil.firm.length = m1 at *
        generalize (rs[k]'hlt).fil.ws.length = m2 at *
        generalize hnm : (rs[k]'hlt).name = x at *
        go_wp2
        refine bodyPost_ret (v := .tuple #[.agg #[.string ⟨x.toArray⟩, .slice af m1 cf, .slice aw m2 cw], .bool true]) (by simp [results, Try.results36, go_sem, q0, q1, q2]) rfl ?_
        rw [HF.out.1, HF.out.2, HV.out]
        exact ⟨rfl, ((HB.out.setCell (by show w.heap.size ≤ w.heap.size + 1; omega) _).setCell (by show w.heap.size ≤ w.heap.size + 1; omega) _).setCell (by show w.heap.size ≤ w.heap.size + 1; omega) _⟩
      · have hq : ((rs[k]'hlt).name == n) = false := by simp [he]
        have HN2 := Lib.hid (show ∀ r ∈ rs.take (k + 1), r.name ≠ n from fun r hr => by
          rw [List.take_succ_eq_append_getElem hlt] at hr
          rcases List.mem_append.1 hr with q | q
          · exact HNo.out r q
          · rw [List.mem_singleton.1 q]; exact he)
        clear he hok c1 c2
        generalize hnm : (rs[k]'hlt).name = x at *
        go_wp2
        go_roundw
        case rel => exact ⟨k + 1, by omega, by go_num, HN2.out, trivial⟩
        case measure => simp [intOf]; omega
    · have hlt' : ¬ (k : Int) < (rs.length : Int) := by omega
      have hkl : k = rs.length := by omega
      have hg : get Rf.name n rs = none := get_none.2 (by have := HNo.out; rw [hkl, List.take_length] at this; exact this)
      have HF : Hid (rfind n rs = ⟨nilV, nilV, ⟨n, [], []⟩⟩ ∧ (get Rf.name n rs).isSome = false) := by
        unfold rfind
        rw [hg]
        exact ⟨rfl, rfl⟩
      clear hg
      go_wp2
      refine bodyPost_ret (v := .tuple #[.agg #[.string ⟨n.toArray⟩, nilV, nilV], .bool false]) (by simp [results, Try.results36, go_sem, q0, q1, q2]) rfl ?_
      rw [HF.out.1, HF.out.2]
      exact ⟨rfl, ((HB.out.setCell (by show w.heap.size ≤ w.heap.size + 1; omega) _).setCell (by show w.heap.size ≤ w.heap.size + 1; omega) _).setCell (by show w.heap.size ≤ w.heap.size + 1; omega) _⟩
end Go.Proofs.Ythheolhghhmdlaa
