/- DiskLasts: the walk. -/
import Derived.Test.YthheolhghhmdlaaDiskLawB
namespace Go.Proofs.Ythheolhghhmdlaa
open Go.RowKit Dsk

theorem marks_of {w : World} {x : Addr} {len cap : Nat} {zs : List Int} (hl : len ≤ cap) (hz : zs.length = cap) (hcell : ∀ i, i < zs.length → w.cell? (x.add i) = some (.int .i64 (zs.getD i 0))) : ∃ l : List Int, l.length = len ∧ RdT numV w (fun k => k < w.heap.size) (some x) l := by
  rcases Nat.eq_zero_or_pos len with h0 | h0
  · exact ⟨[], by rw [h0]; rfl, .inl rfl⟩
  · obtain ⟨b, o, spot⟩ := x
    have hc := hcell 0 (by omega)
    have hspot : spot = none := by simpa [Addr.add] using World.cell?_spot hc
    subst hspot
    have ea : ∀ i, (⟨b, o, none⟩ : Addr).add i = ⟨b, o + i, none⟩ := fun i => by
      unfold Addr.add
      by_cases h1 : i = 0 <;> simp [h1]
    refine ⟨zs.take len, by simp; omega, .inr ⟨b, o, rfl, ?_, fun i v hv => ?_⟩⟩
    · rw [ea] at hc
      exact block_lt_of_cell hc
    · have hi : i < len := by
        rcases Nat.lt_or_ge i len with h | h
        · exact h
        · rw [List.getElem?_eq_none (by simp; omega)] at hv
          simp at hv
      have hiz : i < zs.length := by omega
      rw [List.getElem?_take_of_lt hi, List.getElem?_eq_getElem hiz] at hv
      have hcc := hcell i hiz
      rw [ea] at hcc
      rw [hcc]
      simp only [Option.some.injEq] at hv
      subst hv
      simp [List.getD, hiz]
section
variable {W w : World} {g : Nat} {room : Int} {fs : List Fil} {T : Nat → Prop}
theorem Md.argR {α : Type} {f : α → Value} {a : Option Addr} {l : List α} (h : Md W g room fs T w) (hR : RdT f W (fun k => k < W.heap.size) a l) : RdT f w T a l := (hR.only (Only.of_below (fun _ => False) h.back) (fun _ _ q => q)).mono h.arg
theorem Md.argB {a : Option Addr} {l : By} (h : Md W g room fs T w) (hB : Bytes W a l) : RdT byV w T a l := h.argR (rdT_of_bytes hB fun _ q => q)
end
namespace Dsk
theorem get_crash : ∀ {fs : List Fil} {ms : List Int} {n : Nm} {f : Fil}, get Fil.name n fs = some f → ∃ d, get Fil.name n (crashL fs ms) = some (crashF f (ms.drop d))
  | [], ms, n, f, h => by simp [get] at h
  | g :: r, ms, n, f, h => by
    by_cases e : g.name = n
    · have : g = f := by simpa [get, e] using h
      subst this
      exact ⟨0, by simp [crashL, get, crashF_name, e]⟩
    · have h2 : get Fil.name n r = some f := by simpa [get, e] using h
      obtain ⟨d, hd⟩ := get_crash (ms := ms.drop g.ws.length) h2
      refine ⟨g.ws.length + d, ?_⟩
      rw [List.drop_drop] at hd
      have e2 : ((crashF g ms).name == n) = false := by simp [crashF_name, e]
      unfold get at hd ⊢
      rw [crashL, List.find?_cons, e2]
      exact hd
theorem crash_one {n : Nm} {F more : By} {ms : List Int} : ∃ s, s ≤ more.length ∧ (crashF ⟨n, F, [more]⟩ ms).all = F ++ more.take s := by
  cases ms with
  | nil => exact ⟨0, Nat.zero_le _, by simp [crashF, Fil.all, crashW]⟩
  | cons m r =>
    refine ⟨stays m more, stays_le m more, ?_⟩
    simp only [crashF, Fil.all, List.flatten_nil, List.append_nil]
    rw [crashW_cons, crashW_none]
    unfold stepW
    split
    · rename_i h
      simp [h]
    · simp
theorem wr_may {a : Nm} {d : By} (ha : 1 ≤ a.length ∧ a.length ≤ 60) : mayBe ⟨1, a, [], d⟩ = true := by simp [mayBe, named, ha]
theorem sy_may {a : Nm} (ha : 1 ≤ a.length ∧ a.length ≤ 60) : mayBe ⟨2, a, [], []⟩ = true := by simp [mayBe, named, ha]
theorem doL_wr {room : Int} {fs : List Fil} {a : Nm} {d : By} (ha : 1 ≤ a.length ∧ a.length ≤ 60) (hr : (sizeL fs : Int) + d.length ≤ room) : doL room fs ⟨1, a, [], d⟩ = (put Fil.name ((ofName a fs).more d) fs, 0) := by
  unfold doL
  rw [wr_may ha]
  simp only [if_neg (show ¬ (true = false) by decide)]
  rw [if_pos trivial, if_neg (by omega)]
theorem doL_sy {room : Int} {fs : List Fil} {a : Nm} {f : Fil} (ha : 1 ≤ a.length ∧ a.length ≤ 60) (hg : get Fil.name a fs = some f) : doL room fs ⟨2, a, [], []⟩ = (put Fil.name f.synced fs, 0) := by
  unfold doL
  rw [sy_may ha]
  simp only [if_neg (show ¬ (true = false) by decide), if_neg (show ¬ ((2 : Int) = 1) by decide), hg]
  simp
theorem get_put_same {x : Fil} {fs : List Fil} : get Fil.name x.name (put Fil.name x fs) = some x := get_ins_same get_del_same
theorem put_names {x f : Fil} {fs : List Fil} (hr : Rising Fil.name fs) (hg : get Fil.name x.name fs = some f) : (put Fil.name x fs).map Fil.name = fs.map Fil.name := by
  rw [put_swap hr hg, swap, List.map_map]
  apply List.map_congr_left
  intro y _
  simp only [Function.comp]
  split
  · rename_i q
    simpa using (show y.name = x.name by simpa using q).symm
  · rfl
/-- What lasts: in all. -/
theorem lasts {fs : List Fil} {name : Nm} {more : By} {ms : List Int} (hn : 1 ≤ name.length ∧ name.length ≤ 60) (hr : Rising Fil.name fs) (hz : sizeL fs + looseL fs + fs.length ≤ 800) (hm : more.length ≤ 100) :
    ∃ fs1 fs2 fs3 F, doL 5000 fs ⟨1, name, [], []⟩ = (fs1, 0) ∧ doL 5000 fs1 ⟨2, name, [], []⟩ = (fs2, 0) ∧ readL fs2 name = (F, 0) ∧ doL 5000 fs2 ⟨1, name, [], more⟩ = (fs3, 0) ∧ (crashL fs3 ms).map Fil.name = fs2.map Fil.name ∧ (∃ s, s ≤ more.length ∧ readL (crashL fs3 ms) name = (F ++ more.take s, 0)) ∧ Sm fs1 ∧ Sm fs2 ∧ Sm fs3 ∧ Sm (crashL fs3 ms) ∧ fs2.length ≤ 1000 ∧ F.length ≤ 1000 := by
  have d1 := doL_wr (room := 5000) (fs := fs) (d := []) hn (by simp; omega)
  have s1 := doL_size (room := 5000) (fs := fs) ⟨1, name, [], []⟩ hr
  have r1 := doL_rising (room := 5000) (fs := fs) ⟨1, name, [], []⟩ hr
  rw [d1] at s1 r1
  simp only [List.length_nil] at s1 r1
  have g1 : get Fil.name name (put Fil.name ((ofName name fs).more []) fs) = some ((ofName name fs).more []) := by
    have := get_put_same (x := (ofName name fs).more []) (fs := fs)
    rw [show ((ofName name fs).more []).name = name from ofName_name] at this
    exact this
  generalize hf1 : (ofName name fs).more [] = f1 at *
  have n1 : f1.name = name := (get_some g1).2
  generalize put Fil.name f1 fs = fs1 at *
  have d2 := doL_sy (room := 5000) hn g1
  have s2 := doL_size (room := 5000) (fs := fs1) ⟨2, name, [], []⟩ r1
  have r2 := doL_rising (room := 5000) (fs := fs1) ⟨2, name, [], []⟩ r1
  rw [d2] at s2 r2
  simp only [List.length_nil] at s2 r2
  have g2 : get Fil.name name (put Fil.name f1.synced fs1) = some f1.synced := by
    have := get_put_same (x := f1.synced) (fs := fs1)
    rw [show f1.synced.name = name from n1] at this
    exact this
  generalize put Fil.name f1.synced fs1 = fs2 at *
  have d3 := doL_wr (room := 5000) (fs := fs2) (d := more) hn (by omega)
  have s3 := doL_size (room := 5000) (fs := fs2) ⟨1, name, [], more⟩ r2
  rw [d3] at s3
  simp only at s3
  rw [ofName_some g2] at d3 s3
  have g3 : get Fil.name name (put Fil.name (f1.synced.more more) fs2) = some (f1.synced.more more) := by
    have := get_put_same (x := f1.synced.more more) (fs := fs2)
    rw [show (f1.synced.more more).name = name from n1] at this
    exact this
  have nm3 := put_names (x := f1.synced.more more) r2 (by rw [show (f1.synced.more more).name = name from n1]; exact g2)
  generalize put Fil.name (f1.synced.more more) fs2 = fs3 at *
  obtain ⟨d, g4⟩ := get_crash (ms := ms) g3
  obtain ⟨s, hs, e4⟩ := crash_one (n := f1.name) (F := f1.all) (more := more) (ms := ms.drop d)
  have c1 := crashL_size fs3 ms
  have c2 := crashL_loose fs3 ms
  have c3 := crashL_length fs3 ms
  have hF : f1.synced.all = f1.all := by simp [Fil.synced, Fil.all]
  have hFl : f1.all.length ≤ sizeL fs1 := sum_mem (fun f : Fil => f.all.length) (get_some g1).1
  refine ⟨fs1, fs2, fs3, f1.all, d1, d2, by rw [readL_some g2, hF], d3, by rw [crashL_names, nm3], ⟨s, hs, ?_⟩, ?_, ?_, ?_, ?_, ?_, ?_⟩
  · rw [readL_some g4, ← e4]
    rfl
  all_goals (first | (unfold Sm; omega) | omega)
end Dsk
set_option maxRecDepth 100000 in
theorem last_big (ad : Option Addr) (l : List Ope) (c : Nat) (name : Nm) (hn9 : name.length ≤ 140737488351232) (am : Option Addr) (more : By) (cm : Nat) (hm9 : more.length ≤ 140737488351232) (ak : Option Addr) (marks : List Int) (ck : Nat) (hk9 : marks.length ≤ 140737488351232) (W : World) (hO : Ops W (fun k => k < W.heap.size) ad l) (hF : Few l) (hl9 : l.length ≤ 140737488351232) (hbig : 800 < longL l ∨ 50 < l.length ∨ 100 < more.length ∨ 60 < marks.length ∨ name.length < 1 ∨ 60 < name.length) :
    Calls Try.prog 5 #[.slice ad l.length c, .string ⟨name.toArray⟩, .slice am more.length cm, .slice ak marks.length ck] W fun e w' => e = .returned (.bool true) ∧ Below W.heap.size W w' := by
  have HL := Lib.hid (long_test (c := c) hO hF hl9)
  have HBig := Lib.hid hbig
  have hlI : (l.length : Int) ≤ 140737488351232 := by omega
  have e1 := arr_size name
  clear hO hF hl9 hbig
  go_enter Try.func5, Try.ntmps5
  go_wp2_with fail
  refine HL.out.mono ?_
  rintro e w1 ⟨z, rfl, hz, hb⟩
  have HB := Lib.hid hb
  have HK := Lib.hid (known_any w1)
  have HZ := Lib.hid hz
  clear hb hz
  by_cases h0 : 800 < z
  · go_wp2_with fail
    refine HK.out.mono ?_
    rintro e w5 ⟨rfl, hb5⟩
    have HB5 := Lib.hid (HB.out.trans (hb5.mono HB.out.size))
    clear hb5
    go_wp2
    go_ret
    exact ⟨rfl, HB5.out⟩
  · have _p0 : True := trivial
    by_cases h1 : (50 : Int) < (l.length : Int)
    · go_wp2_with fail
      refine HK.out.mono ?_
      rintro e w5 ⟨rfl, hb5⟩
      have HB5 := Lib.hid (HB.out.trans (hb5.mono HB.out.size))
      clear hb5
      go_wp2
      go_ret
      exact ⟨rfl, HB5.out⟩
    · have _p1 : True := trivial
      by_cases h2 : (100 : Int) < (more.length : Int)
      · go_wp2_with fail
        refine HK.out.mono ?_
        rintro e w5 ⟨rfl, hb5⟩
        have HB5 := Lib.hid (HB.out.trans (hb5.mono HB.out.size))
        clear hb5
        go_wp2
        go_ret
        exact ⟨rfl, HB5.out⟩
      · have _p2 : True := trivial
        by_cases h3 : (60 : Int) < (marks.length : Int)
        · go_wp2_with fail
          refine HK.out.mono ?_
          rintro e w5 ⟨rfl, hb5⟩
          have HB5 := Lib.hid (HB.out.trans (hb5.mono HB.out.size))
          clear hb5
          go_wp2
          go_ret
          exact ⟨rfl, HB5.out⟩
        · have _p3 : True := trivial
          by_cases h4 : (name.length : Int) < 1
          · go_wp2_with fail
            refine HK.out.mono ?_
            rintro e w5 ⟨rfl, hb5⟩
            have HB5 := Lib.hid (HB.out.trans (hb5.mono HB.out.size))
            clear hb5
            go_wp2
            go_ret
            exact ⟨rfl, HB5.out⟩
          · have _p4 : True := trivial
            have h5 : (60 : Int) < (name.length : Int) := by
              have q1 := HBig.out
              have q2 := HZ.out
              omega
            go_wp2_with fail
            refine HK.out.mono ?_
            rintro e w5 ⟨rfl, hb5⟩
            have HB5 := Lib.hid (HB.out.trans (hb5.mono HB.out.size))
            clear hb5
            go_wp2
            go_ret
            exact ⟨rfl, HB5.out⟩
end Go.Proofs.Ythheolhghhmdlaa
