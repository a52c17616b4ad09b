/- What a disk is, without memory: how much there is behind something done. -/
import Derived.Test.YthheolhghhmdlaaDiskMath
namespace Go.Proofs.Ythheolhghhmdlaa.Dsk
open Go

theorem sizeL_put (x : Fil) (fs : List Fil) : sizeL (put Fil.name x fs) = x.all.length + sizeL (del Fil.name x.name fs) := ins_sum _ _ _
theorem looseL_put (x : Fil) (fs : List Fil) : looseL (put Fil.name x fs) = x.ws.length + looseL (del Fil.name x.name fs) := ins_sum _ _ _
theorem sizeL_del {n : Nm} {f : Fil} {fs : List Fil} (hr : Rising Fil.name fs) (hg : get Fil.name n fs = some f) : sizeL (del Fil.name n fs) + f.all.length = sizeL fs := del_sum _ hr hg
theorem looseL_del {n : Nm} {f : Fil} {fs : List Fil} (hr : Rising Fil.name fs) (hg : get Fil.name n fs = some f) : looseL (del Fil.name n fs) + f.ws.length = looseL fs := del_sum _ hr hg
theorem sizeL_del_le (n : Nm) (fs : List Fil) : sizeL (del Fil.name n fs) ≤ sizeL fs := del_sum_le _ _ _
theorem looseL_del_le (n : Nm) (fs : List Fil) : looseL (del Fil.name n fs) ≤ looseL fs := del_sum_le _ _ _
theorem all_more (f : Fil) (l : By) : (f.more l).all.length = f.all.length + l.length := by
  unfold Fil.all Fil.more
  simp [List.flatten_append]
  omega
/-- The file that a name has, or one of nothing. -/
theorem ofName_some {n : Nm} {f : Fil} {fs : List Fil} (hg : get Fil.name n fs = some f) : ofName n fs = f := by simp [ofName, hg]
theorem ofName_none {n : Nm} {fs : List Fil} (hg : get Fil.name n fs = none) : ofName n fs = ⟨n, [], []⟩ := by simp [ofName, hg]
theorem ofName_name {n : Nm} {fs : List Fil} : (ofName n fs).name = n := by
  cases hg : get Fil.name n fs with
  | none => rw [ofName_none hg]
  | some f => rw [ofName_some hg]; exact (get_some hg).2
theorem size_write {n : Nm} {l : By} {fs : List Fil} (hr : Rising Fil.name fs) : sizeL (put Fil.name ((ofName n fs).more l) fs) = sizeL fs + l.length := by
  rw [sizeL_put, all_more]
  show _ + sizeL (del Fil.name (ofName n fs).name fs) = _
  rw [ofName_name]
  cases hg : get Fil.name n fs with
  | none => rw [ofName_none hg, del_none hg]; simp [Fil.all]; omega
  | some f =>
    rw [ofName_some hg]
    have := sizeL_del hr hg
    omega
theorem loose_write {n : Nm} {l : By} {fs : List Fil} (hr : Rising Fil.name fs) : looseL (put Fil.name ((ofName n fs).more l) fs) = looseL fs + 1 := by
  rw [looseL_put]
  show ((ofName n fs).ws ++ [l]).length + looseL (del Fil.name (ofName n fs).name fs) = _
  rw [ofName_name]
  cases hg : get Fil.name n fs with
  | none => rw [ofName_none hg, del_none hg]; simp; omega
  | some f =>
    rw [ofName_some hg]
    have := looseL_del hr hg
    simp
    omega
theorem size_sync {n : Nm} {f : Fil} {fs : List Fil} (hr : Rising Fil.name fs) (hg : get Fil.name n fs = some f) : sizeL (put Fil.name f.synced fs) = sizeL fs := by
  rw [sizeL_put]
  show _ + sizeL (del Fil.name f.name fs) = _
  rw [(get_some hg).2]
  have := sizeL_del hr hg
  have e : f.synced.all.length = f.all.length := by simp [Fil.all, Fil.synced]
  omega
theorem size_rename {n t : Nm} {f : Fil} {fs : List Fil} (hr : Rising Fil.name fs) (hg : get Fil.name n fs = some f) (hne : n ≠ t) : sizeL (put Fil.name (f.called t) (del Fil.name n fs)) = sizeL (del Fil.name t fs) := by
  rw [sizeL_put]
  show f.all.length + sizeL (del Fil.name t (del Fil.name n fs)) = _
  have hg2 : get Fil.name n (del Fil.name t fs) = some f := by rw [get_del_other hne]; exact hg
  have := sizeL_del hr.del hg2
  have e : del Fil.name t (del Fil.name n fs) = del Fil.name n (del Fil.name t fs) := by
    simp only [del, List.filter_filter]
    congr 1
    funext y
    cases (y.name == t) <;> cases (y.name == n) <;> rfl
  rw [e]
  omega
theorem doL_rising {room : Int} {fs : List Fil} (x : Ope) (hr : Rising Fil.name fs) : Rising Fil.name (doL room fs x).1 := by
  unfold doL
  split
  · exact hr
  · split
    · split
      · exact hr
      · exact hr.put
    · split
      · exact hr
      · split
        · exact hr.put
        · split
          · exact hr.del.put
          · exact hr.del
/-- How much more there may be. -/
theorem doL_size {room : Int} {fs : List Fil} (x : Ope) (hr : Rising Fil.name fs) : sizeL (doL room fs x).1 ≤ sizeL fs + x.data.length ∧ looseL (doL room fs x).1 ≤ looseL fs + 1 ∧ (doL room fs x).1.length ≤ fs.length + 1 := by
  unfold doL
  split
  · simp only; omega
  · split
    · split
      · simp only; omega
      · have h1 := size_write (n := x.name) (l := x.data) hr
        have h2 := loose_write (n := x.name) (l := x.data) hr
        have h3 := put_length (key := Fil.name) ((ofName x.name fs).more x.data) fs
        simp only
        omega
    · split
      · simp only; omega
      · rename_i f hg
        have d1 := sizeL_del hr hg
        have d2 := looseL_del hr hg
        have d3 := del_length (key := Fil.name) x.name fs
        split
        · have h1 := size_sync hr hg
          have h2 := looseL_put f.synced fs
          have h3 := put_length (key := Fil.name) f.synced fs
          have h4 := looseL_del_le f.synced.name fs
          have e1 : f.synced.ws.length = 0 := rfl
          simp only at *
          omega
        · split
          · have h1 := sizeL_put (f.called x.to) (del Fil.name x.name fs)
            have h2 := looseL_put (f.called x.to) (del Fil.name x.name fs)
            have h3 := put_length (key := Fil.name) (f.called x.to) (del Fil.name x.name fs)
            have h4 := sizeL_del_le x.to (del Fil.name x.name fs)
            have h5 := looseL_del_le x.to (del Fil.name x.name fs)
            have h4' := sizeL_del_le (f.called x.to).name (del Fil.name x.name fs)
            have h5' := looseL_del_le (f.called x.to).name (del Fil.name x.name fs)
            have e1 : (f.called x.to).all.length = f.all.length := rfl
            have e2 : (f.called x.to).ws.length = f.ws.length := rfl
            simp only at *
            omega
          · simp only
            omega
theorem doL_err {room : Int} {fs : List Fil} (x : Ope) (h : (doL room fs x).2 ≠ 0) : (doL room fs x).1 = fs := by
  unfold doL at *
  split
  · rfl
  · rename_i h1
    rw [if_neg h1] at h
    split
    · rename_i h2
      rw [if_pos h2] at h
      split
      · rfl
      · rename_i h3; rw [if_neg h3] at h; simp at h
    · rename_i h2
      rw [if_neg h2] at h
      split
      · rfl
      · rename_i f hg
        simp only [hg] at h
        split at h
        · simp at h
        · split at h <;> simp at h
end Go.Proofs.Ythheolhghhmdlaa.Dsk
