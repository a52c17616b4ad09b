/- The document's disk: Do. -/
import Derived.Test.YthheolhghhmdlaaDiskD1
namespace Go.Proofs.Ythheolhghhmdlaa
open Go.RowKit Dsk

set_option maxRecDepth 100000 in
theorem rdo_arg {w : World} {T : Nat → Prop} {ad : Option Addr} {rs : List Rf} (room : Int) (c : Nat) (x : Ope) (ax : Option Addr) (cx : Nat) (h : Fs3 w T ad rs) (hT : ∀ k, T k → k < w.heap.size) (hr : Rising Rf.name rs) (hs : sizeL (rs.map Rf.fil) + looseL (rs.map Rf.fil) + rs.length ≤ 100000) (hx : RdT byV w T ax x.data) (hx9 : x.data.length ≤ 100000) (hn9 : x.name.length ≤ 140737488351232 ∧ x.to.length ≤ 140737488351232) (hro : 0 ≤ room ∧ room ≤ 1099511627776) (hm : mayBe x = false) : Calls Try.prog 15 #[dV room ad rs.length c, opV x ax cx] w (RDo w T room (doL room (rs.map Rf.fil) x).1 (doL room (rs.map Rf.fil) x).2) := by
  have hdo : doL room (rs.map Rf.fil) x = (rs.map Rf.fil, 2) := by unfold doL; rw [if_pos hm]
  rw [hdo]
  clear hdo
  obtain ⟨xk, xn, xt, xd⟩ := x
  simp only at *
  have HB0 := Lib.hid (DoB.start w room ad rs.length c ⟨xk, xn, xt, xd⟩ ax cx)
  obtain ⟨w3, hw3⟩ : ∃ w3, w3 = ((w.alloc (.cells #[.int .i64 room, .slice ad rs.length c] 27)).alloc (.cells #[.int .i64 xk, .string ⟨xn.toArray⟩, .string ⟨xt.toArray⟩, .slice ax xd.length cx] 36)).alloc (.cells #[.int .i64 0, .slice none 0 0] 27) := ⟨_, rfl⟩
  have HB3 : Hid (DoB w room ad rs.length c ⟨xk, xn, xt, xd⟩ ax cx w3) := by rw [hw3]; exact HB0.out
  have HW3 := Lib.hid hw3
  have HH := Lib.hid h
  have HT := Lib.hid hT
  have HF3 := Lib.hid (h.kept (kept_below hT HB3.out.back))
  have HR := Lib.hid hr
  have HS := Lib.hid hs
  have HX := Lib.hid hx
  have HX9 := Lib.hid (And.intro hx9 (And.intro hn9 hro))
  have HT3 := Lib.hid (show ∀ k, T k → k < w3.heap.size from fun k hk => by have := hT k hk; have := HB3.out.sz; omega)
  have HSW := Lib.hid (Nat.le_refl w3.heap.size)
  have HN := Lib.hid (rnamed_any xn w3 hn9.1)
  have HN2 := Lib.hid (rnamed_any xt w3 hn9.2)
  have hcases : xk < 1 ∨ 4 < xk ∨ (1 ≤ xk ∧ xk ≤ 4 ∧ named xn = false) ∨ (xk = 3 ∧ named xn = true ∧ named xt = false) := by
    simp only [mayBe, Bool.or_eq_false_iff, Bool.and_eq_false_iff, decide_eq_false_iff_not] at hm
    by_cases k1 : xk < 1
    · exact .inl k1
    · by_cases k2 : 4 < xk
      · exact .inr (.inl k2)
      · cases hnn : named xn with
        | false => exact .inr (.inr (.inl ⟨by omega, by omega, rfl⟩))
        | true =>
          rw [hnn] at hm
          have h3 : xk = 3 := by
            rcases hm.1 with q | q
            · omega
            · cases q
          refine .inr (.inr (.inr ⟨h3, rfl, ?_⟩))
          rcases hm.2 with (q | q) | q
          · exact absurd h3 q
          · cases q
          · exact q
  clear h hT hr hs hx hx9 hn9 hro hw3 HB0
  clear hm
  have d0 : w3.cell? ⟨w.heap.size, 0, none⟩ = some (.int .i64 room) := HB3.out.rd.cell 0
  have d1 : w3.cell? ⟨w.heap.size, 1, none⟩ = some (.slice ad rs.length c) := HB3.out.rd.cell 1
  have o0 : w3.cell? ⟨w.heap.size + 1, 0, none⟩ = some (.int .i64 xk) := HB3.out.ro.cell 0
  have o1 : w3.cell? ⟨w.heap.size + 1, 1, none⟩ = some (.string ⟨xn.toArray⟩) := HB3.out.ro.cell 1
  have o2 : w3.cell? ⟨w.heap.size + 1, 2, none⟩ = some (.string ⟨xt.toArray⟩) := HB3.out.ro.cell 2
  have o3 : w3.cell? ⟨w.heap.size + 1, 3, none⟩ = some (.slice ax xd.length cx) := HB3.out.ro.cell 3
  have q0 : w3.cell? ⟨w.heap.size + 1 + 1, 0, none⟩ = some (.int .i64 0) := HB3.out.rr.cell 0
  have q1 : w3.cell? ⟨w.heap.size + 1 + 1, 1, none⟩ = some (.slice none 0 0) := HB3.out.rr.cell 1
  have qf0 := HB3.out.rr.thaw 0
  have qf1 := HB3.out.rr.thaw 1
  have dl := HB3.out.rd.lt
  have ol := HB3.out.ro.lt
  have ql := HB3.out.rr.lt
  rw [HW3.out] at d0 d1 o0 o1 o2 o3 q0 q1 qf0 qf1 dl ol ql
  show Calls Try.prog 15 #[.agg #[.int .i64 room, .slice ad rs.length c], .agg #[.int .i64 xk, .string ⟨xn.toArray⟩, .string ⟨xt.toArray⟩, .slice ax xd.length cx]] w _
  go_enter Try.func15, Try.ntmps15
  rcases hcases with k1 | k2 | ⟨k1, k2, hnn⟩ | ⟨k3, hnn, hnt⟩
  · go_wp2
    refine bodyPost_ret (v := .tuple #[dV room ad rs.length c, .int .i64 2]) (by simp [results, Try.results15, go_sem]) rfl ?_
    have hb := (((Below.refl w.heap.size w).alloc (Nat.le_refl _) (.cells #[.int .i64 room, .slice ad rs.length c] 27)).alloc (by simp) (.cells #[.int .i64 xk, .string ⟨xn.toArray⟩, .string ⟨xt.toArray⟩, .slice ax xd.length cx] 36)).alloc (by simp; omega) (.cells #[.int .i64 room, .slice ad rs.length c] 27)
    exact ⟨_, rs, rfl, rfl, ad, c, rfl, (HH.out.kept (kept_below HT.out hb)).mono (fun k q => .inl q), hb⟩
  · have k1 : ¬ xk < 1 := by omega
    go_wp2
    refine bodyPost_ret (v := .tuple #[dV room ad rs.length c, .int .i64 2]) (by simp [results, Try.results15, go_sem]) rfl ?_
    have hb := (((Below.refl w.heap.size w).alloc (Nat.le_refl _) (.cells #[.int .i64 room, .slice ad rs.length c] 27)).alloc (by simp) (.cells #[.int .i64 xk, .string ⟨xn.toArray⟩, .string ⟨xt.toArray⟩, .slice ax xd.length cx] 36)).alloc (by simp; omega) (.cells #[.int .i64 room, .slice ad rs.length c] 27)
    exact ⟨_, rs, rfl, rfl, ad, c, rfl, (HH.out.kept (kept_below HT.out hb)).mono (fun k q => .inl q), hb⟩
  · have k1' : ¬ xk < 1 := by omega
    have k2' : ¬ 4 < xk := by omega
    go_wp2_with fail
    rw [← HW3.out] at *
    refine HN.out.mono ?_
    rintro e w' ⟨rfl, rfl⟩
    rw [hnn]
    have HE := Lib.hid (HB3.out.ret (T := T) (c' := c) rfl HF3.out (fun k hk => ⟨Nat.lt_of_lt_of_le (HT3.out k hk) HSW.out, .inl hk⟩) HT.out)
    go_wp2
    refine bodyPost_ret (v := .tuple #[dV room ad rs.length c, .int .i64 2]) (by simp [results, Try.results15, go_sem, q0, q1]) rfl ?_
    exact ⟨_, rs, rfl, rfl, HE.out⟩
  · subst k3
    go_wp2_with fail
    rw [← HW3.out] at *
    refine HN.out.mono ?_
    rintro e w' ⟨rfl, rfl⟩
    rw [hnn]
    go_wp2_with fail
    refine HN2.out.mono ?_
    rintro e w' ⟨rfl, rfl⟩
    rw [hnt]
    have HE := Lib.hid (HB3.out.ret (T := T) (c' := c) rfl HF3.out (fun k hk => ⟨Nat.lt_of_lt_of_le (HT3.out k hk) HSW.out, .inl hk⟩) HT.out)
    go_wp2
    refine bodyPost_ret (v := .tuple #[dV room ad rs.length c, .int .i64 2]) (by simp [results, Try.results15, go_sem, q0, q1]) rfl ?_
    exact ⟨_, rs, rfl, rfl, HE.out⟩
end Go.Proofs.Ythheolhghhmdlaa
