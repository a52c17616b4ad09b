/- graph.side: the edges as they are seen from one end (written by mkside.py). -/
import Derived.Test.YtdkpdmpghibmmaaGreatGhG
import Derived.Test.YtdkpdmpghibmmaaGreatGhD
namespace Go.Proofs.YtdkpdmpghibmmaaGreat
open Go.RowKit Go.Shelf Grm Lay
attribute [local go_sem] Oper.semAt_some run_store_func

/-- A slice of numbers, read one by one. -/
def KeptV (w : World) (ak : Option Addr) (Y : List Nat) : Prop := Y = [] ∨ ∃ kb, ak = some ⟨kb, 0, none⟩ ∧ ∀ i y, Y[i]? = some y → w.cell? ⟨kb, i, none⟩ = some (.int .i64 (y : Nat))
theorem KeptV.at_ {w : World} {ak : Option Addr} {Y : List Nat} (h : KeptV w ak Y) {k : Nat} (hk : k < Y.length) : ∃ kb, ak = some ⟨kb, 0, none⟩ ∧ w.cell? ⟨kb, k, none⟩ = some (.int .i64 (Y[k]'hk : Nat)) := by
  rcases h with rfl | ⟨kb, e, h⟩
  · cases hk
  · exact ⟨kb, e, h k _ (List.getElem?_eq_getElem hk)⟩
theorem KeptV.under {w w' : World} {ak : Option Addr} {Y : List Nat} (h : KeptV w ak Y) (hb : Below w.heap.size w w') : KeptV w' ak Y := by
  rcases h with h | ⟨kb, e, h⟩
  · exact .inl h
  · exact .inr ⟨kb, e, fun i y hi => (hb.cell (block_lt_of_cell (h i y hi))).trans (h i y hi)⟩
/-- The first k are laid. -/
def fillE (f : Nat → Ed) (Y : List Nat) (k : Nat) : List Ed := (List.range Y.length).map fun j => if j < k then f (Y[j]?.getD 0) else (0, 0, 0)
theorem fillE_zero (f : Nat → Ed) (Y : List Nat) : fillE f Y 0 = List.replicate Y.length (0, 0, 0) := by
  unfold fillE
  apply List.ext_getElem <;> simp
theorem fillE_len (f : Nat → Ed) (Y : List Nat) (k : Nat) : (fillE f Y k).length = Y.length := by simp [fillE]
theorem fillE_all (f : Nat → Ed) (Y : List Nat) : fillE f Y Y.length = Y.map f := by
  unfold fillE
  apply List.ext_getElem
  · simp
  · intro i h1 h2
    simp at h1
    simp [h1]
theorem fillE_set {f : Nat → Ed} {Y : List Nat} {k : Nat} (hk : k < Y.length) : (fillE f Y k).set k (f (Y[k]'hk)) = fillE f Y (k + 1) := by
  unfold fillE
  apply List.ext_getElem?
  intro j
  by_cases hj : j < Y.length
  · by_cases hi : j = k
    · subst hi
      rw [List.getElem?_set_self (by simpa using hj)]
      simp [hj]
    · rw [List.getElem?_set_ne (by omega)]
      simp only [List.getElem?_map, List.getElem?_range hj, Option.map_some]
      congr 1
      by_cases h1 : j < k
      · rw [if_pos h1, if_pos (by omega)]
      · rw [if_neg h1, if_neg (by omega)]
  · rw [List.getElem?_eq_none (by simp; omega), List.getElem?_eq_none (by simp; omega)]
/-- The edge of an arc as from sees it. -/
def edge_out (l : List Ar) (k : Nat) : Ed := ((l[k]?.getD (0, 0, 0)).2.1, (l[k]?.getD (0, 0, 0)).2.2, k)
set_option maxRecDepth 100000 in
set_option maxHeartbeats 4000000 in
theorem side_out {w : World} {gb n : Nat} {a : Option Addr} {l : List Ar} {c : Nat} {oi oc ii ic : Value} {ak : Option Addr} {Y : List Nat} {ck : Nat} (hg : Gb w gb n a l c oi oc ii ic) (hA : Arcs w a l) (hok : EndsOk n l) (hk : KeptV w ak Y) (hX : ∀ x ∈ Y, x < l.length) (hn : n ≤ 16777216) (hl : Y.length ≤ 67108864) :
    Calls Tryz.prog 61 #[ptr gb, .slice ak Y.length ck, .func (.func 62) #[] #[], .func (.func 63) #[] #[]] w fun e w' => Below w.heap.size w w' ∧ ∃ ib cb, e = .returned (.agg #[.slice (some ⟨ib, 0, none⟩) Y.length Y.length, .slice (some ⟨cb, 0, none⟩) (n + 1) (n + 1)]) ∧ w.heap.size ≤ ib ∧ w.heap.size ≤ cb ∧
      Row w' ib 94 (esV (layL (fun e => fromN l e.2.2) n (Y.map (edge_out l)))) ∧ Row w' cb 3 (cellsF n (fun i => lt (fun e : Ed => fromN l e.2.2) i (Y.map (edge_out l)))) := by
  have i1 : (n : Int) ≤ 16777216 := by omega
  have i2 : (Y.length : Int) ≤ 67108864 := by omega
  obtain ⟨w1, hw1⟩ : ∃ w1, w1 = ((w.alloc (.cells #[ptr gb] 31)).alloc (.cells #[.func (.func 62) #[] #[]] 113)).alloc (.cells #[.slice none 0 0, .slice none 0 0] 108) := ⟨_, rfl⟩
  have hb1 : Below w.heap.size w w1 := by rw [hw1]; exact (((Below.refl _ _).alloc (Nat.le_refl _) _).alloc (by simp) _).alloc (by simp; omega) _
  have HW := Lib.hid hw1
  have HG := Lib.hid (And.intro (Row.under hg hb1 (Row.lt hg)) (And.intro (hA.under hb1) (And.intro hok (And.intro (hk.under hb1) (And.intro hX (And.intro hb1 (And.intro hn hl)))))))
  clear hg hA hok hk hX hn hl hb1 hw1
  go_enter Tryz.func61, Tryz.ntmps61
  go_upto_region 1 with (fail)
  rw [← HW.out]
  have hp1 : Row w1 w.heap.size 31 #[ptr gb] := by
    rw [HW.out]
    exact ((Row.fresh w _ _).past _).past _
  have hf1 : Row w1 (w.heap.size + 1) 113 #[.func (.func 62) #[] #[]] := by
    rw [HW.out]
    have := (Row.fresh (w.alloc (.cells #[ptr gb] 31)) 113 #[.func (.func 62) #[] #[]]).past (.cells #[.slice none 0 0, .slice none 0 0] 108)
    rw [World.size_alloc] at this
    exact this
  have hr1 : Row w1 (w.heap.size + 1 + 1) 108 #[.slice none 0 0, .slice none 0 0] := by
    rw [HW.out]
    have := Row.fresh ((w.alloc (.cells #[ptr gb] 31)).alloc (.cells #[.func (.func 62) #[] #[]] 113)) 108 #[.slice none 0 0, .slice none 0 0]
    rw [World.size_alloc, World.size_alloc] at this
    exact this
  have HP1 := Lib.hid (And.intro hp1 (And.intro hf1 hr1))
  clear hp1 hf1 hr1
  go_upto_region 2 with (first | (with_reducible show wpList _ _ _ (Oper.mk _ (Op.makeSlice _ _ _) _ _ _ _ :: _) _ _; refine wpList_makeE rfl (.tmp 14) (.tmp 14) rfl _ Y.length rfl rfl rfl (by omega) ?_))
  obtain ⟨wc, hwc⟩ : ∃ wc, wc = w1.alloc (.cells (esV (List.replicate Y.length (0, 0, 0))) 94) := ⟨_, rfl⟩
  have hbc : Below w1.heap.size w1 wc := by rw [hwc]; exact (Below.refl _ _).alloc (Nat.le_refl _) _
  have hec : Row wc w1.heap.size 94 (esV (fillE (edge_out l) Y 0)) := by rw [hwc, fillE_zero]; exact Row.fresh w1 _ _
  rw [← hwc]
  have HC := Lib.hid (And.intro hbc hec)
  clear hwc hbc hec
  obtain ⟨eb, hebe⟩ : ∃ eb, eb = w1.heap.size := ⟨_, rfl⟩
  rw [← hebe] at HC ⊢
  have HE := Lib.hid hebe
  clear hebe
  go_wp2
  go_loopw [18] (fun i wr => ∃ k : Nat, k ≤ Y.length ∧ i = .int .i64 k ∧ Row wr eb 94 (esV (fillE (edge_out l) Y k)) ∧ Only (fun j => j = eb) wc wr) (fun i _ => Y.length - (intOf i).toNat)
  case atStart => exact ⟨0, by omega, rfl, HC.out.2, Only.refl _ _⟩
  case round =>
    obtain ⟨k, hk, rfl, hrow, ho⟩ := hrel
    have hb1c : Below w1.heap.size w1 wc := by rw [← HE.out]; exact HC.out.1
    have hbw := hb1c.trans (ho.below (K := w1.heap.size) (fun j e => by subst e; exact Nat.le_of_eq HE.out.symm) HC.out.1.size)
    have hpr := HP1.out.1.under hbw HP1.out.1.lt
    by_cases hlt : k < Y.length
    · have hlt' : (k : Int) < (Y.length : Int) := by omega
      obtain ⟨kb, hke, x0⟩ := (HG.out.2.2.2.1.under hbw).at_ hlt
      have hX := HG.out.2.2.2.2.1 _ (List.getElem_mem hlt)
      have hfs := fillE_set (f := edge_out l) hlt
      generalize Y[k]'hlt = v at *
      have hv' : (v : Int) < (l.length : Int) := by omega
      obtain ⟨ba, oa, hae, y0, y1, y2⟩ := (HG.out.2.1.under hbw).at_ hX
      have hed : edge_out l v = ((l[v]'hX).2.1, (l[v]'hX).2.2, v) := by
        unfold edge_out
        rw [List.getElem?_eq_getElem hX]
        rfl
      rw [hed] at hfs
      have p0 := hpr.cell 0
      have g1 := (Row.under HG.out.1 hbw (Row.lt HG.out.1) : Gb wr gb n a l c oi oc ii ic).cell 1
      simp only [List.getElem?_toArray, List.getElem?_cons_zero, List.getElem?_cons_succ] at p0 g1
      generalize l[v]'hX = x at *
      have HR := Lib.hid (And.intro hrow (And.intro ho (And.intro hbw hfs)))
      subst hke
      subst hae
      clear hrow ho hbw hpr hfs hed hX
      go_upto_region 6 with (fail)
      have hqn : ¬ wr.heap.size = eb := by have := HR.out.1.lt; omega
      have hqb := Row.fresh wr 88 #[.int .i64 x.1, .int .i64 x.2.1, .int .i64 x.2.2]
      have hrq := HR.out.1.past (.cells #[.int .i64 x.1, .int .i64 x.2.1, .int .i64 x.2.2] 88)
      have hoq := HR.out.2.1.alloc (.cells #[.int .i64 x.1, .int .i64 x.2.1, .int .i64 x.2.2] 88)
      clear p0 g1 x0 y0 y1 y2
      generalize wr.heap.size = qb at *
      generalize wr.alloc (.cells #[.int .i64 x.1, .int .i64 x.2.1, .int .i64 x.2.2] 88) = wq at *
      have HQ := Lib.hid (And.intro hrq hlt)
      have HO := Lib.hid hoq
      have HSt := Lib.hid (show ∀ W, Only (fun j => j = eb) wq W → (W.cell? ⟨qb, 0, none⟩ = some (.int .i64 x.1) ∧ W.cell? ⟨qb, 1, none⟩ = some (.int .i64 x.2.1) ∧ W.cell? ⟨qb, 2, none⟩ = some (.int .i64 x.2.2)) from fun W hW => ⟨(hqb.only hW hqn).cell 0, (hqb.only hW hqn).cell 1, (hqb.only hW hqn).cell 2⟩)
      clear hqb hrq hoq hlt
      refine wp_region_held_drew (S := fun W => W.cell? ⟨qb, 0, none⟩ = some (.int .i64 x.1) ∧ W.cell? ⟨qb, 1, none⟩ = some (.int .i64 x.2.1) ∧ W.cell? ⟨qb, 2, none⟩ = some (.int .i64 x.2.2)) (by kernel_rfl) (HSt.out _ (Only.refl _ _).drew) (fun hHeld => ?_)
      refine wpAnyH_take (i := 0) (oi := ⟨some 30, _, _, _, _, _⟩) (v := ?_) rfl (by kernel_rfl) (by kernel_rfl) (by kernel_rfl) (fun _ _ _ h => h) (Or.inl ⟨by rfl, ?_⟩) hHeld ?_
      rotate_left
      · intro W hSw
        obtain ⟨s0, s1, s2⟩ := hSw
        go_simp
        with_reducible rfl
      simp only [Act.put, List.setIfInBounds_toArray, List.set_cons_zero, List.set_cons_succ]
      refine wpAnyH_take (i := 1) (oi := ⟨some 31, _, _, _, _, _⟩) (v := ?_) rfl (by kernel_rfl) (by kernel_rfl) (by kernel_rfl) (fun _ _ _ h => h) (Or.inl ⟨by rfl, ?_⟩) hHeld ?_
      rotate_left
      · intro W hSw
        obtain ⟨s0, s1, s2⟩ := hSw
        go_simp
        with_reducible rfl
      simp only [Act.put, List.setIfInBounds_toArray, List.set_cons_zero, List.set_cons_succ]
      refine wpAnyH_take (i := 2) (oi := ⟨some 32, _, _, _, _, _⟩) (v := ?_) rfl (by kernel_rfl) (by kernel_rfl) (by kernel_rfl) (fun _ _ _ h => h) (Or.inl ⟨by rfl, ?_⟩) hHeld ?_
      rotate_left
      · intro W hSw
        obtain ⟨s0, s1, s2⟩ := hSw
        go_simp
        with_reducible rfl
      simp only [Act.put, List.setIfInBounds_toArray, List.set_cons_zero, List.set_cons_succ]
      refine wpAnyH_take (i := 3) (oi := ⟨some 33, _, _, _, _, _⟩) (v := ?_) rfl (by kernel_rfl) (by kernel_rfl) (by kernel_rfl) (fun _ _ _ h => h) (Or.inl ⟨by rfl, ?_⟩) hHeld ?_
      rotate_left
      · intro W hSw
        obtain ⟨s0, s1, s2⟩ := hSw
        go_simp
        with_reducible rfl
      simp only [Act.put, List.setIfInBounds_toArray, List.set_cons_zero, List.set_cons_succ]
      refine wpAnyH_take (i := 5) (oi := ⟨some 35, _, _, _, _, _⟩) (v := ?_) rfl (by kernel_rfl) (by kernel_rfl) (by kernel_rfl) (fun _ _ _ h => h) (Or.inl ⟨by rfl, ?_⟩) hHeld ?_
      rotate_left
      · intro W hSw
        obtain ⟨s0, s1, s2⟩ := hSw
        go_simp
        with_reducible rfl
      simp only [Act.put, List.setIfInBounds_toArray, List.set_cons_zero, List.set_cons_succ]
      refine wpAnyH_take (i := 6) (oi := ⟨some 36, _, _, _, _, _⟩) (v := ?_) rfl (by kernel_rfl) (by kernel_rfl) (by kernel_rfl) (fun _ _ _ h => h) (Or.inl ⟨by rfl, ?_⟩) hHeld ?_
      rotate_left
      · intro W hSw
        obtain ⟨s0, s1, s2⟩ := hSw
        go_simp
        with_reducible rfl
      simp only [Act.put, List.setIfInBounds_toArray, List.set_cons_zero, List.set_cons_succ]
      refine wpAnyH_take (i := 7) (oi := ⟨some 37, _, _, _, _, _⟩) (v := ?_) rfl (by kernel_rfl) (by kernel_rfl) (by kernel_rfl) (fun _ _ _ h => h) (Or.inl ⟨by rfl, ?_⟩) hHeld ?_
      rotate_left
      · intro W hSw
        obtain ⟨s0, s1, s2⟩ := hSw
        go_simp
        with_reducible rfl
      simp only [Act.put, List.setIfInBounds_toArray, List.set_cons_zero, List.set_cons_succ]
      refine wpAnyH_ready (rs := [4]) (by kernel_rfl) (by simp) ?_
      refine (AllReadyH.cons (o := ⟨some 34, _, _, _, _, _⟩) rfl (fun K hK => ?_) AllReadyH.nil)
      go_simp
      refine (to_any x _).mono ?_
      rintro e w5 ⟨rfl, hbx⟩
      have HW5 := Lib.hid (show Below wq.heap.size wq w5 from ((Below.refl wq.heap.size wq).drew).trans hbx)
      have hSn := HSt.out _ (Only.of_below _ HW5.out)
      have he5 := HQ.out.1.under HW5.out HQ.out.1.lt
      have m0 := he5.thaw (k * 3)
      have m1 := he5.thaw (k * 3 + 1)
      have m2 := he5.thaw (k * 3 + 2)
      have z0 := he5.cell (k * 3)
      have z1 := he5.cell (k * 3 + 1)
      have z2 := he5.cell (k * 3 + 2)
      obtain ⟨e0, e1, e2⟩ := esV_at (show k < (fillE (edge_out l) Y k).length by rw [fillE_len]; exact HQ.out.2)
      rw [e0] at z0
      rw [e1] at z1
      rw [e2] at z2
      clear hbx e0 e1 e2 he5
      refine hK.out _ _ hSn (fun hHeld2 => ?_)
      clear hK hHeld hSn
      have hHeld := hHeld2
      clear hHeld2
      refine wpAnyH_take (i := 8) (oi := ⟨some 38, _, _, _, _, _⟩) (v := ?_) rfl (by kernel_rfl) (by kernel_rfl) (by kernel_rfl) (fun _ _ _ h => h) (Or.inl ⟨by rfl, ?_⟩) hHeld ?_
      rotate_left
      · intro W hSw
        obtain ⟨s0, s1, s2⟩ := hSw
        go_simp
        with_reducible rfl
      simp only [Act.put, List.setIfInBounds_toArray, List.set_cons_zero, List.set_cons_succ]
      refine wpAnyH_take (i := 9) (oi := ⟨some 39, _, _, _, _, _⟩) (v := ?_) rfl (by kernel_rfl) (by kernel_rfl) (by kernel_rfl) (fun _ _ _ h => h) (Or.inl ⟨by rfl, ?_⟩) hHeld ?_
      rotate_left
      · intro W hSw
        obtain ⟨s0, s1, s2⟩ := hSw
        go_simp
        with_reducible rfl
      simp only [Act.put, List.setIfInBounds_toArray, List.set_cons_zero, List.set_cons_succ]
      refine wpAnyH_ready (rs := [10]) (by kernel_rfl) (by simp) ?_
      refine (AllReadyH.cons (o := ⟨none, _, _, _, _, _⟩) rfl (fun K hK => ?_) AllReadyH.nil)
      go_simp
      refine hK.out _ _ (HSt.out _ (Only.setCell (S := fun j => j = eb) (p := ⟨eb, k * 3 + 2, none⟩) (Only.setCell (S := fun j => j = eb) (p := ⟨eb, k * 3 + 1, none⟩) (Only.setCell (S := fun j => j = eb) (p := ⟨eb, k * 3, none⟩) (Only.of_below _ HW5.out) (.inl rfl) _) (.inl rfl) _) (.inl rfl) _)) (fun _ => ?_)
      clear hK
      refine wpAnyH_done (by kernel_rfl) ?_ _
      go_wp2
      refine ⟨⟨k + 1, by have := HQ.out.2; omega, by go_num, ?_, (((HO.out.trans (Only.of_below (fun _ => False) HW5.out) (fun i h => h.elim)).setCell (p := ⟨eb, k * 3, none⟩) (.inl rfl) _).setCell (p := ⟨eb, k * 3 + 1, none⟩) (.inl rfl) _).setCell (p := ⟨eb, k * 3 + 2, none⟩) (.inl rfl) _⟩, by have := HQ.out.2; simp [intOf]; omega⟩
      have hq := (((HQ.out.1.under HW5.out HQ.out.1.lt).put (k * 3) (.int .i64 x.2.1)).put (k * 3 + 1) (.int .i64 x.2.2)).put (k * 3 + 2) (.int .i64 (v : Nat))
      rw [esV_set (fillE (edge_out l) Y k) k (x.2.1, x.2.2, v), HR.out.2.2.2] at hq
      exact hq
    · obtain rfl : k = Y.length := by omega
      have hlt' : ¬ (Y.length : Int) < (Y.length : Int) := by omega
      rw [fillE_all] at hrow
      have hgr := Row.under HG.out.1 hbw (Row.lt HG.out.1)
      have hfr := HP1.out.2.1.under hbw HP1.out.2.1.lt
      have hxx : ∀ e ∈ Y.map (edge_out l), ∃ x v0, e = (v0, (l[x]?.getD (0, 0, 0)).2.2, x) ∧ x < l.length := fun e he => by
        obtain ⟨x, hx, rfl⟩ := List.mem_map.1 he
        exact ⟨x, _, rfl, HG.out.2.2.2.2.1 x hx⟩
      have hAr := HG.out.2.1.under hbw
      have HPl : Hid (∀ W, Below wr.heap.size wr W → ∀ e ∈ Y.map (edge_out l), Calls Tryz.prog 112 #[eV e, ptr (w.heap.size + 1), ptr w.heap.size] W fun r W' => r = .returned (.int .i64 (fromN l e.2.2 : Nat)) ∧ Below W.heap.size W W') := Lib.hid (fun W hW e he => by
        obtain ⟨x, v0, rfl, hx⟩ := hxx e he
        have h := side_from (w.heap.size + 1) w.heap.size x v0 (l[x]?.getD (0, 0, 0)).2.2 (Row.under hgr hW (Row.lt hgr)) (hAr.under hW) hx ((hfr.under hW hfr.lt).cell 0) ((hpr.under hW hpr.lt).cell 0)
        rw [(HG.out.2.2.1.at_ hx).1] at h
        exact h)
      have hpp : ∀ e ∈ Y.map (edge_out l), fromN l e.2.2 < n := fun e he => by
        obtain ⟨x, v0, rfl, hx⟩ := hxx e he
        exact (HG.out.2.2.1.at_ hx).2.2.1
      have hlay := layE_any n (Y.map (edge_out l)) (fun e => fromN l e.2.2) eb Y.length (w.heap.size + 1) w.heap.size wr hrow hpp HPl HG.out.2.2.2.2.2.2.1 (by rw [List.length_map]; exact HG.out.2.2.2.2.2.2.2)
      rw [List.length_map] at hlay
      have HL := Lib.hid hlay
      have p0 := hpr.cell 0
      have g0 := (hgr : Row wr gb _ _).cell 0
      simp only [List.getElem?_toArray, List.getElem?_cons_zero, List.getElem?_cons_succ] at p0 g0
      have HB := Lib.hid hbw
      have HRr := Lib.hid (HP1.out.2.2.under hbw HP1.out.2.2.lt)
      clear hrow ho hbw hpr hgr hfr hxx hAr HPl hpp hlay hb1c
      go_wp2_with (first | (go_at_call 111; refine HL.out.mono ?_; rintro e w5 ⟨hb5, ib5, cb5, rfl, hi5, hc5, hri, hrc⟩; have hr5 := HRr.out.under hb5 HRr.out.lt; have r0 := hr5.cell 0; have r1 := hr5.cell 1; have m0 := hr5.thaw 0; have m1 := hr5.thaw 1; simp only [List.getElem?_toArray, List.getElem?_cons_zero, List.getElem?_cons_succ] at r0 r1; have HZ := Lib.hid (And.intro hr5 (And.intro hb5 (And.intro hi5 (And.intro hc5 (And.intro hri hrc))))); clear hr5 hb5 hi5 hc5 hri hrc))
      have hq := (HZ.out.1.put 0 (.slice (some ⟨ib5, 0, none⟩) Y.length Y.length)).put 1 (.slice (some ⟨cb5, 0, none⟩) (n + 1) (n + 1))
      simp only [List.setIfInBounds_toArray, List.set_cons_zero, List.set_cons_succ] at hq
      have k0 := hq.cell 0
      have k1 := hq.cell 1
      simp only [List.getElem?_toArray, List.getElem?_cons_zero, List.getElem?_cons_succ] at k0 k1
      have hlt2 := HRr.out.lt
      have h5 := HG.out.2.2.2.2.2.1.trans ((HB.out.trans (HZ.out.2.1.mono HB.out.size)).mono HG.out.2.2.2.2.2.1.size)
      have hon := ((Only.refl (fun j => j = w.heap.size + 1 + 1) w5).setCell (p := ⟨w.heap.size + 1 + 1, 0, none⟩) (.inl rfl) (.slice (some ⟨ib5, 0, none⟩) Y.length Y.length)).setCell (p := ⟨w.heap.size + 1 + 1, 1, none⟩) (.inl rfl) (.slice (some ⟨cb5, 0, none⟩) (n + 1) (n + 1))
      refine bodyPost_ret (v := .agg #[.slice (some ⟨ib5, 0, none⟩) Y.length Y.length, .slice (some ⟨cb5, 0, none⟩) (n + 1) (n + 1)]) (by simp [results, Tryz.results61, go_sem, k0, k1]) rfl ?_
      exact ⟨h5.trans (hon.below (K := w.heap.size) (fun j e => by omega) h5.size), ib5, cb5, rfl, by have := HZ.out.2.2.1; omega, by have := HZ.out.2.2.2.1; omega, HZ.out.2.2.2.2.1.only hon (by have := HZ.out.2.2.1; omega), HZ.out.2.2.2.2.2.only hon (by have := HZ.out.2.2.2.1; omega)⟩
/-- The edge of an arc as to sees it. -/
def edge_in (l : List Ar) (k : Nat) : Ed := ((l[k]?.getD (0, 0, 0)).1, (l[k]?.getD (0, 0, 0)).2.2, k)
set_option maxRecDepth 100000 in
set_option maxHeartbeats 4000000 in
theorem side_in {w : World} {gb n : Nat} {a : Option Addr} {l : List Ar} {c : Nat} {oi oc ii ic : Value} {ak : Option Addr} {Y : List Nat} {ck : Nat} (hg : Gb w gb n a l c oi oc ii ic) (hA : Arcs w a l) (hok : EndsOk n l) (hk : KeptV w ak Y) (hX : ∀ x ∈ Y, x < l.length) (hn : n ≤ 16777216) (hl : Y.length ≤ 67108864) :
    Calls Tryz.prog 61 #[ptr gb, .slice ak Y.length ck, .func (.func 63) #[] #[], .func (.func 62) #[] #[]] w fun e w' => Below w.heap.size w w' ∧ ∃ ib cb, e = .returned (.agg #[.slice (some ⟨ib, 0, none⟩) Y.length Y.length, .slice (some ⟨cb, 0, none⟩) (n + 1) (n + 1)]) ∧ w.heap.size ≤ ib ∧ w.heap.size ≤ cb ∧
      Row w' ib 94 (esV (layL (fun e => toN l e.2.2) n (Y.map (edge_in l)))) ∧ Row w' cb 3 (cellsF n (fun i => lt (fun e : Ed => toN l e.2.2) i (Y.map (edge_in l)))) := by
  have i1 : (n : Int) ≤ 16777216 := by omega
  have i2 : (Y.length : Int) ≤ 67108864 := by omega
  obtain ⟨w1, hw1⟩ : ∃ w1, w1 = ((w.alloc (.cells #[ptr gb] 31)).alloc (.cells #[.func (.func 63) #[] #[]] 113)).alloc (.cells #[.slice none 0 0, .slice none 0 0] 108) := ⟨_, rfl⟩
  have hb1 : Below w.heap.size w w1 := by rw [hw1]; exact (((Below.refl _ _).alloc (Nat.le_refl _) _).alloc (by simp) _).alloc (by simp; omega) _
  have HW := Lib.hid hw1
  have HG := Lib.hid (And.intro (Row.under hg hb1 (Row.lt hg)) (And.intro (hA.under hb1) (And.intro hok (And.intro (hk.under hb1) (And.intro hX (And.intro hb1 (And.intro hn hl)))))))
  clear hg hA hok hk hX hn hl hb1 hw1
  go_enter Tryz.func61, Tryz.ntmps61
  go_upto_region 1 with (fail)
  rw [← HW.out]
  have hp1 : Row w1 w.heap.size 31 #[ptr gb] := by
    rw [HW.out]
    exact ((Row.fresh w _ _).past _).past _
  have hf1 : Row w1 (w.heap.size + 1) 113 #[.func (.func 63) #[] #[]] := by
    rw [HW.out]
    have := (Row.fresh (w.alloc (.cells #[ptr gb] 31)) 113 #[.func (.func 63) #[] #[]]).past (.cells #[.slice none 0 0, .slice none 0 0] 108)
    rw [World.size_alloc] at this
    exact this
  have hr1 : Row w1 (w.heap.size + 1 + 1) 108 #[.slice none 0 0, .slice none 0 0] := by
    rw [HW.out]
    have := Row.fresh ((w.alloc (.cells #[ptr gb] 31)).alloc (.cells #[.func (.func 63) #[] #[]] 113)) 108 #[.slice none 0 0, .slice none 0 0]
    rw [World.size_alloc, World.size_alloc] at this
    exact this
  have HP1 := Lib.hid (And.intro hp1 (And.intro hf1 hr1))
  clear hp1 hf1 hr1
  go_upto_region 2 with (first | (with_reducible show wpList _ _ _ (Oper.mk _ (Op.makeSlice _ _ _) _ _ _ _ :: _) _ _; refine wpList_makeE rfl (.tmp 14) (.tmp 14) rfl _ Y.length rfl rfl rfl (by omega) ?_))
  obtain ⟨wc, hwc⟩ : ∃ wc, wc = w1.alloc (.cells (esV (List.replicate Y.length (0, 0, 0))) 94) := ⟨_, rfl⟩
  have hbc : Below w1.heap.size w1 wc := by rw [hwc]; exact (Below.refl _ _).alloc (Nat.le_refl _) _
  have hec : Row wc w1.heap.size 94 (esV (fillE (edge_in l) Y 0)) := by rw [hwc, fillE_zero]; exact Row.fresh w1 _ _
  rw [← hwc]
  have HC := Lib.hid (And.intro hbc hec)
  clear hwc hbc hec
  obtain ⟨eb, hebe⟩ : ∃ eb, eb = w1.heap.size := ⟨_, rfl⟩
  rw [← hebe] at HC ⊢
  have HE := Lib.hid hebe
  clear hebe
  go_wp2
  go_loopw [18] (fun i wr => ∃ k : Nat, k ≤ Y.length ∧ i = .int .i64 k ∧ Row wr eb 94 (esV (fillE (edge_in l) Y k)) ∧ Only (fun j => j = eb) wc wr) (fun i _ => Y.length - (intOf i).toNat)
  case atStart => exact ⟨0, by omega, rfl, HC.out.2, Only.refl _ _⟩
  case round =>
    obtain ⟨k, hk, rfl, hrow, ho⟩ := hrel
    have hb1c : Below w1.heap.size w1 wc := by rw [← HE.out]; exact HC.out.1
    have hbw := hb1c.trans (ho.below (K := w1.heap.size) (fun j e => by subst e; exact Nat.le_of_eq HE.out.symm) HC.out.1.size)
    have hpr := HP1.out.1.under hbw HP1.out.1.lt
    by_cases hlt : k < Y.length
    · have hlt' : (k : Int) < (Y.length : Int) := by omega
      obtain ⟨kb, hke, x0⟩ := (HG.out.2.2.2.1.under hbw).at_ hlt
      have hX := HG.out.2.2.2.2.1 _ (List.getElem_mem hlt)
      have hfs := fillE_set (f := edge_in l) hlt
      generalize Y[k]'hlt = v at *
      have hv' : (v : Int) < (l.length : Int) := by omega
      obtain ⟨ba, oa, hae, y0, y1, y2⟩ := (HG.out.2.1.under hbw).at_ hX
      have hed : edge_in l v = ((l[v]'hX).1, (l[v]'hX).2.2, v) := by
        unfold edge_in
        rw [List.getElem?_eq_getElem hX]
        rfl
      rw [hed] at hfs
      have p0 := hpr.cell 0
      have g1 := (Row.under HG.out.1 hbw (Row.lt HG.out.1) : Gb wr gb n a l c oi oc ii ic).cell 1
      simp only [List.getElem?_toArray, List.getElem?_cons_zero, List.getElem?_cons_succ] at p0 g1
      generalize l[v]'hX = x at *
      have HR := Lib.hid (And.intro hrow (And.intro ho (And.intro hbw hfs)))
      subst hke
      subst hae
      clear hrow ho hbw hpr hfs hed hX
      go_upto_region 6 with (fail)
      have hqn : ¬ wr.heap.size = eb := by have := HR.out.1.lt; omega
      have hqb := Row.fresh wr 88 #[.int .i64 x.1, .int .i64 x.2.1, .int .i64 x.2.2]
      have hrq := HR.out.1.past (.cells #[.int .i64 x.1, .int .i64 x.2.1, .int .i64 x.2.2] 88)
      have hoq := HR.out.2.1.alloc (.cells #[.int .i64 x.1, .int .i64 x.2.1, .int .i64 x.2.2] 88)
      clear p0 g1 x0 y0 y1 y2
      generalize wr.heap.size = qb at *
      generalize wr.alloc (.cells #[.int .i64 x.1, .int .i64 x.2.1, .int .i64 x.2.2] 88) = wq at *
      have HQ := Lib.hid (And.intro hrq hlt)
      have HO := Lib.hid hoq
      have HSt := Lib.hid (show ∀ W, Only (fun j => j = eb) wq W → (W.cell? ⟨qb, 0, none⟩ = some (.int .i64 x.1) ∧ W.cell? ⟨qb, 1, none⟩ = some (.int .i64 x.2.1) ∧ W.cell? ⟨qb, 2, none⟩ = some (.int .i64 x.2.2)) from fun W hW => ⟨(hqb.only hW hqn).cell 0, (hqb.only hW hqn).cell 1, (hqb.only hW hqn).cell 2⟩)
      clear hqb hrq hoq hlt
      refine wp_region_held_drew (S := fun W => W.cell? ⟨qb, 0, none⟩ = some (.int .i64 x.1) ∧ W.cell? ⟨qb, 1, none⟩ = some (.int .i64 x.2.1) ∧ W.cell? ⟨qb, 2, none⟩ = some (.int .i64 x.2.2)) (by kernel_rfl) (HSt.out _ (Only.refl _ _).drew) (fun hHeld => ?_)
      refine wpAnyH_take (i := 0) (oi := ⟨some 30, _, _, _, _, _⟩) (v := ?_) rfl (by kernel_rfl) (by kernel_rfl) (by kernel_rfl) (fun _ _ _ h => h) (Or.inl ⟨by rfl, ?_⟩) hHeld ?_
      rotate_left
      · intro W hSw
        obtain ⟨s0, s1, s2⟩ := hSw
        go_simp
        with_reducible rfl
      simp only [Act.put, List.setIfInBounds_toArray, List.set_cons_zero, List.set_cons_succ]
      refine wpAnyH_take (i := 1) (oi := ⟨some 31, _, _, _, _, _⟩) (v := ?_) rfl (by kernel_rfl) (by kernel_rfl) (by kernel_rfl) (fun _ _ _ h => h) (Or.inl ⟨by rfl, ?_⟩) hHeld ?_
      rotate_left
      · intro W hSw
        obtain ⟨s0, s1, s2⟩ := hSw
        go_simp
        with_reducible rfl
      simp only [Act.put, List.setIfInBounds_toArray, List.set_cons_zero, List.set_cons_succ]
      refine wpAnyH_take (i := 2) (oi := ⟨some 32, _, _, _, _, _⟩) (v := ?_) rfl (by kernel_rfl) (by kernel_rfl) (by kernel_rfl) (fun _ _ _ h => h) (Or.inl ⟨by rfl, ?_⟩) hHeld ?_
      rotate_left
      · intro W hSw
        obtain ⟨s0, s1, s2⟩ := hSw
        go_simp
        with_reducible rfl
      simp only [Act.put, List.setIfInBounds_toArray, List.set_cons_zero, List.set_cons_succ]
      refine wpAnyH_take (i := 3) (oi := ⟨some 33, _, _, _, _, _⟩) (v := ?_) rfl (by kernel_rfl) (by kernel_rfl) (by kernel_rfl) (fun _ _ _ h => h) (Or.inl ⟨by rfl, ?_⟩) hHeld ?_
      rotate_left
      · intro W hSw
        obtain ⟨s0, s1, s2⟩ := hSw
        go_simp
        with_reducible rfl
      simp only [Act.put, List.setIfInBounds_toArray, List.set_cons_zero, List.set_cons_succ]
      refine wpAnyH_take (i := 5) (oi := ⟨some 35, _, _, _, _, _⟩) (v := ?_) rfl (by kernel_rfl) (by kernel_rfl) (by kernel_rfl) (fun _ _ _ h => h) (Or.inl ⟨by rfl, ?_⟩) hHeld ?_
      rotate_left
      · intro W hSw
        obtain ⟨s0, s1, s2⟩ := hSw
        go_simp
        with_reducible rfl
      simp only [Act.put, List.setIfInBounds_toArray, List.set_cons_zero, List.set_cons_succ]
      refine wpAnyH_take (i := 6) (oi := ⟨some 36, _, _, _, _, _⟩) (v := ?_) rfl (by kernel_rfl) (by kernel_rfl) (by kernel_rfl) (fun _ _ _ h => h) (Or.inl ⟨by rfl, ?_⟩) hHeld ?_
      rotate_left
      · intro W hSw
        obtain ⟨s0, s1, s2⟩ := hSw
        go_simp
        with_reducible rfl
      simp only [Act.put, List.setIfInBounds_toArray, List.set_cons_zero, List.set_cons_succ]
      refine wpAnyH_take (i := 7) (oi := ⟨some 37, _, _, _, _, _⟩) (v := ?_) rfl (by kernel_rfl) (by kernel_rfl) (by kernel_rfl) (fun _ _ _ h => h) (Or.inl ⟨by rfl, ?_⟩) hHeld ?_
      rotate_left
      · intro W hSw
        obtain ⟨s0, s1, s2⟩ := hSw
        go_simp
        with_reducible rfl
      simp only [Act.put, List.setIfInBounds_toArray, List.set_cons_zero, List.set_cons_succ]
      refine wpAnyH_ready (rs := [4]) (by kernel_rfl) (by simp) ?_
      refine (AllReadyH.cons (o := ⟨some 34, _, _, _, _, _⟩) rfl (fun K hK => ?_) AllReadyH.nil)
      go_simp
      refine (from_any x _).mono ?_
      rintro e w5 ⟨rfl, hbx⟩
      have HW5 := Lib.hid (show Below wq.heap.size wq w5 from ((Below.refl wq.heap.size wq).drew).trans hbx)
      have hSn := HSt.out _ (Only.of_below _ HW5.out)
      have he5 := HQ.out.1.under HW5.out HQ.out.1.lt
      have m0 := he5.thaw (k * 3)
      have m1 := he5.thaw (k * 3 + 1)
      have m2 := he5.thaw (k * 3 + 2)
      have z0 := he5.cell (k * 3)
      have z1 := he5.cell (k * 3 + 1)
      have z2 := he5.cell (k * 3 + 2)
      obtain ⟨e0, e1, e2⟩ := esV_at (show k < (fillE (edge_in l) Y k).length by rw [fillE_len]; exact HQ.out.2)
      rw [e0] at z0
      rw [e1] at z1
      rw [e2] at z2
      clear hbx e0 e1 e2 he5
      refine hK.out _ _ hSn (fun hHeld2 => ?_)
      clear hK hHeld hSn
      have hHeld := hHeld2
      clear hHeld2
      refine wpAnyH_take (i := 8) (oi := ⟨some 38, _, _, _, _, _⟩) (v := ?_) rfl (by kernel_rfl) (by kernel_rfl) (by kernel_rfl) (fun _ _ _ h => h) (Or.inl ⟨by rfl, ?_⟩) hHeld ?_
      rotate_left
      · intro W hSw
        obtain ⟨s0, s1, s2⟩ := hSw
        go_simp
        with_reducible rfl
      simp only [Act.put, List.setIfInBounds_toArray, List.set_cons_zero, List.set_cons_succ]
      refine wpAnyH_take (i := 9) (oi := ⟨some 39, _, _, _, _, _⟩) (v := ?_) rfl (by kernel_rfl) (by kernel_rfl) (by kernel_rfl) (fun _ _ _ h => h) (Or.inl ⟨by rfl, ?_⟩) hHeld ?_
      rotate_left
      · intro W hSw
        obtain ⟨s0, s1, s2⟩ := hSw
        go_simp
        with_reducible rfl
      simp only [Act.put, List.setIfInBounds_toArray, List.set_cons_zero, List.set_cons_succ]
      refine wpAnyH_ready (rs := [10]) (by kernel_rfl) (by simp) ?_
      refine (AllReadyH.cons (o := ⟨none, _, _, _, _, _⟩) rfl (fun K hK => ?_) AllReadyH.nil)
      go_simp
      refine hK.out _ _ (HSt.out _ (Only.setCell (S := fun j => j = eb) (p := ⟨eb, k * 3 + 2, none⟩) (Only.setCell (S := fun j => j = eb) (p := ⟨eb, k * 3 + 1, none⟩) (Only.setCell (S := fun j => j = eb) (p := ⟨eb, k * 3, none⟩) (Only.of_below _ HW5.out) (.inl rfl) _) (.inl rfl) _) (.inl rfl) _)) (fun _ => ?_)
      clear hK
      refine wpAnyH_done (by kernel_rfl) ?_ _
      go_wp2
      refine ⟨⟨k + 1, by have := HQ.out.2; omega, by go_num, ?_, (((HO.out.trans (Only.of_below (fun _ => False) HW5.out) (fun i h => h.elim)).setCell (p := ⟨eb, k * 3, none⟩) (.inl rfl) _).setCell (p := ⟨eb, k * 3 + 1, none⟩) (.inl rfl) _).setCell (p := ⟨eb, k * 3 + 2, none⟩) (.inl rfl) _⟩, by have := HQ.out.2; simp [intOf]; omega⟩
      have hq := (((HQ.out.1.under HW5.out HQ.out.1.lt).put (k * 3) (.int .i64 x.1)).put (k * 3 + 1) (.int .i64 x.2.2)).put (k * 3 + 2) (.int .i64 (v : Nat))
      rw [esV_set (fillE (edge_in l) Y k) k (x.1, x.2.2, v), HR.out.2.2.2] at hq
      exact hq
    · obtain rfl : k = Y.length := by omega
      have hlt' : ¬ (Y.length : Int) < (Y.length : Int) := by omega
      rw [fillE_all] at hrow
      have hgr := Row.under HG.out.1 hbw (Row.lt HG.out.1)
      have hfr := HP1.out.2.1.under hbw HP1.out.2.1.lt
      have hxx : ∀ e ∈ Y.map (edge_in l), ∃ x v0, e = (v0, (l[x]?.getD (0, 0, 0)).2.2, x) ∧ x < l.length := fun e he => by
        obtain ⟨x, hx, rfl⟩ := List.mem_map.1 he
        exact ⟨x, _, rfl, HG.out.2.2.2.2.1 x hx⟩
      have hAr := HG.out.2.1.under hbw
      have HPl : Hid (∀ W, Below wr.heap.size wr W → ∀ e ∈ Y.map (edge_in l), Calls Tryz.prog 112 #[eV e, ptr (w.heap.size + 1), ptr w.heap.size] W fun r W' => r = .returned (.int .i64 (toN l e.2.2 : Nat)) ∧ Below W.heap.size W W') := Lib.hid (fun W hW e he => by
        obtain ⟨x, v0, rfl, hx⟩ := hxx e he
        have h := side_to (w.heap.size + 1) w.heap.size x v0 (l[x]?.getD (0, 0, 0)).2.2 (Row.under hgr hW (Row.lt hgr)) (hAr.under hW) hx ((hfr.under hW hfr.lt).cell 0) ((hpr.under hW hpr.lt).cell 0)
        rw [(HG.out.2.2.1.at_ hx).2.1] at h
        exact h)
      have hpp : ∀ e ∈ Y.map (edge_in l), toN l e.2.2 < n := fun e he => by
        obtain ⟨x, v0, rfl, hx⟩ := hxx e he
        exact (HG.out.2.2.1.at_ hx).2.2.2
      have hlay := layE_any n (Y.map (edge_in l)) (fun e => toN l e.2.2) eb Y.length (w.heap.size + 1) w.heap.size wr hrow hpp HPl HG.out.2.2.2.2.2.2.1 (by rw [List.length_map]; exact HG.out.2.2.2.2.2.2.2)
      rw [List.length_map] at hlay
      have HL := Lib.hid hlay
      have p0 := hpr.cell 0
      have g0 := (hgr : Row wr gb _ _).cell 0
      simp only [List.getElem?_toArray, List.getElem?_cons_zero, List.getElem?_cons_succ] at p0 g0
      have HB := Lib.hid hbw
      have HRr := Lib.hid (HP1.out.2.2.under hbw HP1.out.2.2.lt)
      clear hrow ho hbw hpr hgr hfr hxx hAr HPl hpp hlay hb1c
      go_wp2_with (first | (go_at_call 111; refine HL.out.mono ?_; rintro e w5 ⟨hb5, ib5, cb5, rfl, hi5, hc5, hri, hrc⟩; have hr5 := HRr.out.under hb5 HRr.out.lt; have r0 := hr5.cell 0; have r1 := hr5.cell 1; have m0 := hr5.thaw 0; have m1 := hr5.thaw 1; simp only [List.getElem?_toArray, List.getElem?_cons_zero, List.getElem?_cons_succ] at r0 r1; have HZ := Lib.hid (And.intro hr5 (And.intro hb5 (And.intro hi5 (And.intro hc5 (And.intro hri hrc))))); clear hr5 hb5 hi5 hc5 hri hrc))
      have hq := (HZ.out.1.put 0 (.slice (some ⟨ib5, 0, none⟩) Y.length Y.length)).put 1 (.slice (some ⟨cb5, 0, none⟩) (n + 1) (n + 1))
      simp only [List.setIfInBounds_toArray, List.set_cons_zero, List.set_cons_succ] at hq
      have k0 := hq.cell 0
      have k1 := hq.cell 1
      simp only [List.getElem?_toArray, List.getElem?_cons_zero, List.getElem?_cons_succ] at k0 k1
      have hlt2 := HRr.out.lt
      have h5 := HG.out.2.2.2.2.2.1.trans ((HB.out.trans (HZ.out.2.1.mono HB.out.size)).mono HG.out.2.2.2.2.2.1.size)
      have hon := ((Only.refl (fun j => j = w.heap.size + 1 + 1) w5).setCell (p := ⟨w.heap.size + 1 + 1, 0, none⟩) (.inl rfl) (.slice (some ⟨ib5, 0, none⟩) Y.length Y.length)).setCell (p := ⟨w.heap.size + 1 + 1, 1, none⟩) (.inl rfl) (.slice (some ⟨cb5, 0, none⟩) (n + 1) (n + 1))
      refine bodyPost_ret (v := .agg #[.slice (some ⟨ib5, 0, none⟩) Y.length Y.length, .slice (some ⟨cb5, 0, none⟩) (n + 1) (n + 1)]) (by simp [results, Tryz.results61, go_sem, k0, k1]) rfl ?_
      exact ⟨h5.trans (hon.below (K := w.heap.size) (fun j e => by omega) h5.size), ib5, cb5, rfl, by have := HZ.out.2.2.1; omega, by have := HZ.out.2.2.2.1; omega, HZ.out.2.2.2.2.1.only hon (by have := HZ.out.2.2.1; omega), HZ.out.2.2.2.2.2.only hon (by have := HZ.out.2.2.2.1; omega)⟩
end Go.Proofs.YtdkpdmpghibmmaaGreat
