/- DiskSyncs: the walk. -/
import Derived.Test.YthheolhghhmdlaaDiskLawC
namespace Go.Proofs.Ythheolhghhmdlaa
open Go.RowKit Dsk

namespace Dsk
def Named (fs : List Fil) : Prop := ∀ f ∈ fs, 1 ≤ f.name.length ∧ f.name.length ≤ 60
theorem Named.put {fs : List Fil} {x : Fil} (h : Named fs) (hx : 1 ≤ x.name.length ∧ x.name.length ≤ 60) : Named (put Fil.name x fs) := fun f hf => by
  rcases mem_put.1 hf with rfl | ⟨h1, _⟩
  · exact hx
  · exact h f h1
theorem Named.del {fs : List Fil} {n : Nm} (h : Named fs) : Named (del Fil.name n fs) := fun f hf => h f (mem_del.1 hf).1
theorem named_iff {n : Nm} : named n = true ↔ 1 ≤ n.length ∧ n.length ≤ 60 := by simp [named]
theorem doL_named {room : Int} {fs : List Fil} (x : Ope) (h : Named fs) : Named (doL room fs x).1 := by
  unfold doL
  split
  · exact h
  · rename_i hm
    have hm' : mayBe x = true := by simpa using hm
    have hn : 1 ≤ x.name.length ∧ x.name.length ≤ 60 := by
      simp only [mayBe, Bool.or_eq_true, Bool.and_eq_true] at hm'
      rcases hm' with q | q
      · exact named_iff.1 q.2
      · exact named_iff.1 q.1.2
    split
    · split
      · exact h
      · exact h.put (by rw [show ((ofName x.name fs).more x.data).name = x.name from ofName_name]; exact hn)
    · rename_i hk1
      split
      · exact h
      · rename_i f hg
        have hf := h f (get_some hg).1
        split
        · exact h.put hf
        · split
          · rename_i hk3
            refine h.del.put ?_
            simp only [mayBe, Bool.or_eq_true, Bool.and_eq_true, decide_eq_true_eq] at hm'
            rcases hm' with q | q
            · omega
            · exact named_iff.1 q.2
          · exact h.del
theorem runL_named {room : Int} : ∀ (l : List Ope) {fs : List Fil}, Named fs → Named (runL room fs l).1
  | [], fs, h => h
  | x :: r, fs, h => by
    unfold runL
    split
    · exact runL_named r (doL_named x h)
    · exact h
def syn (fs : List Fil) (k : Nat) : List Fil := (fs.take k).map Fil.synced ++ fs.drop k
theorem syn_names (fs : List Fil) (k : Nat) : (syn fs k).map Fil.name = fs.map Fil.name := by
  unfold syn
  rw [List.map_append, List.map_map]
  conv => rhs; rw [← List.take_append_drop k fs, List.map_append]
  rfl
theorem syn_length (fs : List Fil) (k : Nat) : (syn fs k).length = fs.length := by
  have := congrArg List.length (syn_names fs k)
  simpa using this
theorem synced_size (l : List Fil) : sizeL (l.map Fil.synced) = sizeL l := by
  unfold sizeL
  rw [List.map_map]
  congr 1
  apply List.map_congr_left
  intro f _
  simp [Fil.synced, Fil.all]
theorem synced_loose (l : List Fil) : looseL (l.map Fil.synced) = 0 := by
  induction l with
  | nil => rfl
  | cons f r ih =>
    unfold looseL at *
    simp only [List.map_cons, List.sum_cons]
    rw [ih]
    rfl
theorem syn_tot (fs : List Fil) (k : Nat) : sizeL (syn fs k) = sizeL fs ∧ looseL (syn fs k) ≤ looseL fs := by
  have e1 : ∀ a b : List Fil, sizeL (a ++ b) = sizeL a + sizeL b := fun a b => by unfold sizeL; rw [List.map_append, List.sum_append_nat]
  have e2 : ∀ a b : List Fil, looseL (a ++ b) = looseL a + looseL b := fun a b => by unfold looseL; rw [List.map_append, List.sum_append_nat]
  unfold syn
  rw [e1, e2, synced_size, synced_loose]
  have q1 := e1 (fs.take k) (fs.drop k)
  have q2 := e2 (fs.take k) (fs.drop k)
  rw [List.take_append_drop] at q1 q2
  omega
theorem syn_all (fs : List Fil) : syn fs fs.length = fs.map Fil.synced := by simp [syn]
theorem syn_step {fs : List Fil} {k : Nat} (hr : Rising Fil.name fs) (hN : Named fs) (hk : k < fs.length) : doL 5000 (syn fs k) ⟨2, (fs[k]'hk).name, [], []⟩ = (syn fs (k + 1), 0) := by
  have hrs : Rising Fil.name (syn fs k) := rising_names (syn_names fs k).symm hr
  have e : syn fs k = (fs.take k).map Fil.synced ++ (fs[k]'hk) :: fs.drop (k + 1) := by unfold syn; rw [List.getElem_cons_drop]
  have hg : get Fil.name (fs[k]'hk).name (syn fs k) = some (fs[k]'hk) := get_of_mem hrs (by rw [e]; exact List.mem_append.2 (.inr List.mem_cons_self))
  rw [doL_sy (hN _ (List.getElem_mem hk)) hg]
  congr 1
  rw [e] at hrs ⊢
  rw [put_mid hrs (show (fs[k]'hk).synced.name = (fs[k]'hk).name from rfl)]
  unfold syn
  rw [List.take_succ_eq_append_getElem hk, List.map_append, List.append_assoc]
  rfl
theorem crash_synced : ∀ (l : List Fil) (ms : List Int), crashL (l.map Fil.synced) ms = l.map Fil.synced
  | [], _ => rfl
  | f :: r, ms => by
    simp only [List.map_cons, crashL]
    rw [crash_synced r]
    congr 1
end Dsk
/-- So many were synced. -/
def SyA (W : World) (g : Nat) (fs : List Fil) (na : Option Addr) (k : Nat) (wr : World) : Prop := ∃ T, Md W g 5000 (syn fs k) T wr ∧ RdT encStr wr T na (fs.map Fil.name)
/-- Both disks are there. -/
def SyB (W : World) (g g' : Nat) (fs : List Fil) (na : Option Addr) (wr : World) : Prop := ∃ T S', Md W g 5000 fs T wr ∧ Dq wr g' S' 5000 fs ∧ (∀ k, S' k → T k) ∧ RdT encStr wr T na (fs.map Fil.name)
theorem SyB.readE {W wr : World} {g g' : Nat} {fs : List Fil} {na : Option Addr} (h : SyB W g g' fs na wr) (n : Nm) (hs : Sm fs) (hn : n.length ≤ maxLen) : Calls Try.prog 16 #[ptr g', .string ⟨n.toArray⟩] wr fun e w' => ∃ a c, e = .returned (.tuple #[.slice a (readL fs n).1.length c, .int .i64 ((readL fs n).2 : Nat)]) ∧ SyB W g g' fs na w' ∧ Bytes w' a (readL fs n).1 ∧ Below wr.heap.size wr w' := by
  obtain ⟨T, S', h1, h2, h3, h4⟩ := h
  refine (read_any n h2 hs hn).mono ?_
  rintro e w1 ⟨v, rfl, hO, hb⟩
  obtain ⟨a, c, rfl, hB, hc⟩ := hO.shape
  exact ⟨a, c, rfl, ⟨T, S', h1.under hb, h2.below hb, h3, h4.kept (h1.kept hb)⟩, hB, hb⟩
theorem SyB.readD {W wr : World} {g g' : Nat} {fs : List Fil} {na : Option Addr} (h : SyB W g g' fs na wr) (n : Nm) (hs : Sm fs) (hn : n.length ≤ maxLen) : Calls Try.prog 16 #[ptr g, .string ⟨n.toArray⟩] wr fun e w' => ∃ a c, e = .returned (.tuple #[.slice a (readL fs n).1.length c, .int .i64 ((readL fs n).2 : Nat)]) ∧ SyB W g g' fs na w' ∧ Bytes w' a (readL fs n).1 ∧ Below wr.heap.size wr w' := by
  obtain ⟨T, S', h1, h2, h3, h4⟩ := h
  obtain ⟨S, q1, q2⟩ := h1.dq
  refine (read_any n q1 hs hn).mono ?_
  rintro e w1 ⟨v, rfl, hO, hb⟩
  obtain ⟨a, c, rfl, hB, hc⟩ := hO.shape
  exact ⟨a, c, rfl, ⟨T, S', h1.under hb, h2.below hb, h3, h4.kept (h1.kept hb)⟩, hB, hb⟩
set_option maxRecDepth 100000 in
theorem sync_big (ad : Option Addr) (l : List Ope) (c : Nat) (ak : Option Addr) (marks : List Int) (ck : Nat) (hk9 : marks.length ≤ 140737488351232) (W : World) (hO : Ops W (fun k => k < W.heap.size) ad l) (hF : Few l) (hl9 : l.length ≤ 140737488351232) (hbig : 800 < longL l ∨ 50 < l.length ∨ 50 < marks.length) :
    Calls Try.prog 7 #[.slice ad l.length c, .slice ak marks.length ck] W fun e w' => e = .returned (.bool true) ∧ Below W.heap.size W w' := by
  have HL := Lib.hid (long_test (c := c) hO hF hl9)
  have HBig := Lib.hid hbig
  have hlI : (l.length : Int) ≤ 140737488351232 := by omega
  clear hO hF hl9 hbig
  go_enter Try.func7, Try.ntmps7
  go_wp2_with fail
  refine HL.out.mono ?_
  rintro e w1 ⟨z, rfl, hz, hb⟩
  have HB := Lib.hid hb
  have HK := Lib.hid (known_any w1)
  have HZ := Lib.hid hz
  clear hb hz
  by_cases h0 : 800 < z
  · go_wp2_with fail
    refine HK.out.mono ?_
    rintro e w5 ⟨rfl, hb5⟩
    have HB5 := Lib.hid (HB.out.trans (hb5.mono HB.out.size))
    clear hb5
    go_wp2
    go_ret
    exact ⟨rfl, HB5.out⟩
  · have _p0 : True := trivial
    by_cases h1 : (50 : Int) < (l.length : Int)
    · go_wp2_with fail
      refine HK.out.mono ?_
      rintro e w5 ⟨rfl, hb5⟩
      have HB5 := Lib.hid (HB.out.trans (hb5.mono HB.out.size))
      clear hb5
      go_wp2
      go_ret
      exact ⟨rfl, HB5.out⟩
    · have _p1 : True := trivial
      have h2 : (50 : Int) < (marks.length : Int) := by
        have q1 := HBig.out
        have q2 := HZ.out
        omega
      go_wp2_with fail
      refine HK.out.mono ?_
      rintro e w5 ⟨rfl, hb5⟩
      have HB5 := Lib.hid (HB.out.trans (hb5.mono HB.out.size))
      clear hb5
      go_wp2
      go_ret
      exact ⟨rfl, HB5.out⟩
end Go.Proofs.Ythheolhghhmdlaa
