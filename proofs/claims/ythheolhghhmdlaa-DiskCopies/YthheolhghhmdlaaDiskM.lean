/- A disk: how many writes; how many bytes, counted anew. -/
import Derived.Test.YthheolhghhmdlaaDiskL
namespace Go.Proofs.Ythheolhghhmdlaa
open Go.RowKit Dsk
open Go.Maps (Keyed)

/-- An entry that the range hands out is a file. -/
theorem entry_at {L : List Ent} {x : Nm} {c : Option Nat} {yd : DataW Unit} {yp : List MemPlace} (hv : pE (ptrOf c) = some (yd, yp)) (hat : ∀ zd, (DataW.map (L.map Ent.E)).atKey (.string x) zd = yd) : ∃ e, get Ent.name x L = some e ∧ ptrOf c = ptr e.blk := by
  cases hg : get Ent.name x L with
  | none =>
    have h1 := hat .nil
    have h2 := hat (.lit (.bool true))
    rw [at_datum hE, hg] at h1 h2
    rw [← h1] at h2
    cases h2
  | some e =>
    have h1 := hat .nil
    rw [at_datum hE, hg] at h1
    rw [← h1] at hv
    exact ⟨e, rfl, pE_at hv⟩
/-- Something of the files of these names, in all. -/
def tally (F : Ent → Nat) (L : List Ent) (ss : List Nm) : Nat := (ss.map fun x => match get Ent.name x L with
  | some e => F e
  | none => 0).sum
theorem tally_snoc (F : Ent → Nat) (L : List Ent) (ss : List Nm) {x : Nm} {e : Ent} (h : get Ent.name x L = some e) : tally F L (ss ++ [x]) = tally F L ss + F e := by
  simp [tally, h]
theorem tally_le (F : Ent → Nat) (L : List Ent) (B : Nat) (hB : ∀ e ∈ L, F e ≤ B) (ss : List Nm) : tally F L ss ≤ ss.length * B := by
  induction ss with
  | nil => simp [tally]
  | cons x r ih =>
    have e1 : tally F L (x :: r) = (match get Ent.name x L with | some e => F e | none => 0) + tally F L r := rfl
    rw [e1, List.length_cons, Nat.add_mul, Nat.one_mul]
    have : (match get Ent.name x L with | some e => F e | none => 0) ≤ B := by
      split
      · rename_i e he
        exact hB e (get_some he).1
      · omega
    omega
theorem tally_all (F : Ent → Nat) {L : List Ent} (hr : Rising Ent.name L) {ss : List Nm} (hp : ss.Perm (L.map Ent.name)) : tally F L ss = (L.map F).sum := by
  unfold tally
  rw [(hp.map _).sum_nat, List.map_map]
  congr 1
  apply List.map_congr_left
  intro e he
  simp [get_of_mem hr he]
section
variable {w w' : World} {g : Nat} {S : Nat → Prop} {room : Int} {L : List Ent} {mv : Value} {o : Nat → Nat} {used : Nat}
def LooseR (w : World) (L : List Ent) (mb : Nat) (n : Value) (wr : World) : Prop := ∃ (left : Lit → Bool) (cnt : Nat) (ss : List Nm), wr.ranges Try.prog 9 pE mb w.heap.size L.length (.map (L.map Ent.E)) left cnt ∧ ss.length + cnt ≤ L.length ∧ Collected (.map (L.map Ent.E)) left ss ∧ n = .int .i64 (tally (fun e => e.ws.length) L ss : Nat) ∧ Below w.heap.size w wr
set_option maxRecDepth 100000 in
theorem loose_some (mb : Nat) (h : Dk w g S room L (.map (some mb)) o used) (hs : Sm (L.map Ent.fil)) :
    Calls Try.prog 25 #[ptr g] w fun e w' => e = .returned (.int .i64 (looseL (L.map Ent.fil) : Nat)) ∧ Below w.heap.size w w' := by
  have k2 : w.cell? ⟨g, 2, none⟩ = some (.map (some mb)) := h.row.cell 2
  have hl := h.lt
  have hown := MapV.some h.map
  have HH := Lib.hid h
  have HS := Lib.hid hs
  have HO := Lib.hid hown
  have hfin : ∀ ss : List Nm, ss.Perm (L.map Ent.name) → tally (fun e => e.ws.length) L ss = looseL (L.map Ent.fil) := fun ss hp => by
    rw [tally_all _ h.rise hp]
    unfold looseL
    rw [List.map_map]
    rfl
  have HF := Lib.hid hfin
  clear h hs hown hfin
  go_enter Try.func25, Try.ntmps25
  go_wp2_with (first
    | (at_range; refine wpList_range_own _ rfl _ 62 rfl 9 67 keyS Try.underlying62 _ mb L.length _ rfl HO.out ?_; intro w0 hrg0 hg0 hs0; have HR0 := Lib.hid (And.intro hrg0 hg0); clear hrg0 hg0 hs0)
    | go_in)
  go_frame
  go_loopw [3, 5] (fun n _ wr => LooseR w L mb n wr) (fun _ _ wr => wr.rangeLeft mb w.heap.size)
  case atStart => exact ⟨_, _, [], HR0.out.1, by simp [Maps.size], Collected.start _, rfl, (Below.refl _ _).grown HR0.out.2 (Nat.le_refl _) (fun k e => by cases e)⟩
  case round =>
    obtain ⟨left, cnt, ss, hrg, hcs, hC, rfl, hb⟩ := hrel
    have HC := Lib.hid (And.intro hrg (And.intro hC hb))
    have hbs := hb.size
    have hsm := HS.out
    have hLl : L.length ≤ 1000000000 := by unfold Sm at hsm; simp only [List.length_map] at hsm; omega
    have htl := tally_le (fun e => e.ws.length) L 1000000000 (fun e he => (hsm.at_ he).2.1) ss
    have HT := Lib.hid (And.intro htl (And.intro hLl hcs))
    clear hC hb hsm htl hLl hcs
    go_wp2_with (first
      | (at_next; refine wpList_next_ranges _ rfl _ rfl 9 keyS pE encStr ptrOf (fun key kl hk => by obtain ⟨x, hx, _⟩ := Maps.keyOf_str Try.underlying9 hk; exact ⟨x, hx⟩) pE_inv mb w.heap.size L.length _ _ _ rfl hrg ?_ ?_)
      | go_in)
    · intro hc0 hl0
      have HE := Lib.hid (HF.out ss (by have := HC.out.2.1.perm HO.out keyS Try.underlying9 hl0; rw [keys_datum hE] at this; exact this))
      clear hl0 hrg
      go_wp2
      go_ret
      rw [← HE.out]
      exact ⟨rfl, HC.out.2.2⟩
    · intro x c kl yd yp w2 cnt2 hkey hlk hv hat hrg2 hlt hg2 hs2 hen
      obtain ⟨x', ex, rfl, _⟩ := Maps.keyOf_str Try.underlying9 hkey
      obtain rfl : x = x' := encStr_inj ex
      obtain ⟨e, hge, hpe⟩ := entry_at hv hat
      rw [hpe] at hen hv ⊢
      have hC2 := HC.out.2.1.step hlk hat
      have hb2 : Below w.heap.size w w2 := HC.out.2.2.grown hg2 hbs (fun k e => by cases e; exact Nat.le_refl _)
      have HN := Lib.hid (And.intro hrg2 (And.intro hC2 (And.intro hb2 (And.intro hlt (And.intro hge hrg)))))
      obtain ⟨af, cf, aw, cw, e1, e2, _⟩ := ((HH.out.fl e (get_some hge).1).below hb2).shapes
      have j1 : w2.cell? ⟨e.blk, 1, none⟩ = some (.slice aw e.ws.length cw) := by rw [← e2]; exact ((HH.out.fl e (get_some hge).1).below hb2).row.cell 1
      have jl : e.blk < w2.heap.size := ((HH.out.fl e (get_some hge).1).below hb2).lt
      have HW := Lib.hid (HS.out.at_ (get_some hge).1).2.1
      have hI1 : (tally (fun e => e.ws.length) L ss : Int) ≤ 1000000000000000000 := by
        have := HT.out
        have q : ss.length * 1000000000 ≤ 1000000000 * 1000000000 := Nat.mul_le_mul_right _ (by omega)
        omega
      have hI2 : (e.ws.length : Int) ≤ 1000000000 := by have := HW.out; omega
      clear hkey hlk hv hat hrg2 hlt hg2 hs2 hC2 hb2 hge hrg hpe e1 e2 ex
      generalize htt : tally (fun e => e.ws.length) L ss = tt at *
      have HTT := Lib.hid htt
      clear htt
      go_wp2
      have hn := HN.out
      go_roundw
      case rel =>
        have hE' : LooseR w L mb (.int .i64 ((tt : Int) + (e.ws.length : Int))) w2 := ⟨_, cnt2, ss ++ [x], hn.1, by have := HT.out; have := hn.2.2.2.1; simp; omega, hn.2.1, by rw [tally_snoc _ _ _ hn.2.2.2.2.1, HTT.out]; go_num, hn.2.2.1⟩
        first
          | exact hE'
          | exact ⟨_, _, hE', rfl, rfl⟩
          | exact ⟨_, _, _, hE', rfl, rfl, rfl⟩
      case measure => rw [hn.1.left_eq, hn.2.2.2.2.2.left_eq]; exact hn.2.2.2.1
theorem loose_none (h : Dk w g S room L (.map none) o used) :
    Calls Try.prog 25 #[ptr g] w fun e w' => e = .returned (.int .i64 0) ∧ Below w.heap.size w w' := by
  have k2 : w.cell? ⟨g, 2, none⟩ = some (.map none) := h.row.cell 2
  have hl := h.lt
  have HB := Lib.hid (show Below w.heap.size w (w.alloc (.mapIter none 0 #[] 0)) from (Below.refl _ _).alloc (Nat.le_refl _) _)
  clear h
  have hrg := run_range_nilMap (P := Try.prog) w 62 9 67 Try.underlying62
  have hnx : ∀ ty, (Instr.next (.pointer (some ⟨w.heap.size, 0, none⟩)) false ty).run Try.prog (w.alloc (.mapIter none 0 #[] 0)) = _ := fun ty => run_next_nilMap _ ty 0 0 #[]
  go_enter Try.func25, Try.ntmps25
  go_wp2
  go_loopw [3, 5] (fun n _ wr => n = .int .i64 0 ∧ wr = w.alloc (.mapIter none 0 #[] 0)) (fun _ _ _ => 0)
  case atStart => exact ⟨rfl, rfl⟩
  case round =>
    obtain ⟨rfl, rfl⟩ := hrel
    go_wp2
    go_ret
    exact ⟨rfl, HB.out⟩
theorem loose_nil (w : World) : Calls Try.prog 25 #[.pointer none] w fun e w' => e = .returned (.int .i64 0) ∧ w' = w := by
  go_enter Try.func25, Try.ntmps25
  go_wp2
  go_ret
  exact ⟨rfl, rfl⟩
theorem loose_any {fs : List Fil} (h : Dq w g S room fs) (hs : Sm fs) : Calls Try.prog 25 #[ptr g] w fun e w' => e = .returned (.int .i64 (looseL fs : Nat)) ∧ Below w.heap.size w w' := by
  obtain ⟨L, mv, o, h1, h2⟩ := h
  subst h2
  rcases h1.map with ⟨hm, hL⟩ | ⟨mb, hm, _⟩
  · subst hm
    refine (loose_none h1).mono ?_
    rintro e w1 ⟨rfl, hb⟩
    exact ⟨by rw [hL]; rfl, hb⟩
  · subst hm
    exact loose_some mb h1 hs
end
section
variable {w w' : World} {g : Nat} {S : Nat → Prop} {room : Int} {L : List Ent} {mv : Value} {o : Nat → Nat} {used : Nat}
def bulk (e : Ent) : Nat := (e.firm ++ e.ws.flatten).length
def CountR (w : World) (g : Nat) (S : Nat → Prop) (room : Int) (L : List Ent) (mb : Nat) (wr : World) : Prop := ∃ (left : Lit → Bool) (cnt : Nat) (ss : List Nm) (o' : Nat → Nat), wr.ranges Try.prog 9 pE mb w.heap.size L.length (.map (L.map Ent.E)) left cnt ∧ ss.length + cnt ≤ L.length ∧ Collected (.map (L.map Ent.E)) left ss ∧ Dk wr g S room L (.map (some mb)) o' (tally bulk L ss) ∧ Only (fun k => k = g) w wr
def Counted (w : World) (g : Nat) (S : Nat → Prop) (room : Int) (L : List Ent) (mv : Value) (w' : World) : Prop := ∃ o', Dk w' g S room L mv o' (sizeL (L.map Ent.fil)) ∧ Only (fun k => k = g) w w'
set_option maxRecDepth 100000 in
theorem count_some (mb : Nat) (h : Dk w g S room L (.map (some mb)) o used) (hs : Sm (L.map Ent.fil)) :
    Calls Try.prog 46 #[ptr g] w fun e w' => e = .returned (.tuple #[]) ∧ Counted w g S room L (.map (some mb)) w' := by
  have k1 : w.cell? ⟨g, 1, none⟩ = some (.int .i64 used) := h.row.cell 1
  have hf1 := h.row.thaw 1
  have hl := h.lt
  have hd1 := h.count 0
  have k2 : (w.setCell ⟨g, 1, none⟩ (.int .i64 0)).cell? ⟨g, 2, none⟩ = some (.map (some mb)) := hd1.row.cell 2
  have hl1 := hd1.lt
  have hs1 : (w.setCell ⟨g, 1, none⟩ (.int .i64 0)).heap.size = w.heap.size := by simp [World.setCell]
  have hown := MapV.some hd1.map
  have hon : Only (fun k => k = g) w (w.setCell ⟨g, 1, none⟩ (.int .i64 0)) := (Only.refl (fun k => k = g) w).setCell (p := ⟨g, 1, none⟩) (.inl rfl) _
  have HD1 := Lib.hid (And.intro hd1 (And.intro hon hs1))
  have HS := Lib.hid hs
  have HSl := Lib.hid h.sl
  have HO := Lib.hid hown
  have HOn := Lib.hid (show (w.setCell ⟨g, 1, none⟩ (.int .i64 0)).ownsMap Try.prog 9 pE mb L.length (.map (L.map Ent.E)) from hown)
  have hfin : ∀ ss : List Nm, ss.Perm (L.map Ent.name) → tally bulk L ss = sizeL (L.map Ent.fil) := fun ss hp => by
    rw [tally_all _ h.rise hp]
    unfold sizeL
    rw [List.map_map]
    rfl
  have HF := Lib.hid hfin
  clear h hs hown hfin hd1 hon hs1
  go_enter Try.func46, Try.ntmps46
  go_wp2_with (first
    | (at_range; refine wpList_range_own _ rfl _ 62 rfl 9 67 keyS Try.underlying62 _ mb L.length _ rfl HO.out ?_; intro w0 hrg0 hg0 hs0; have HR0 := Lib.hid (And.intro hrg0 hg0); clear hrg0 hg0 hs0)
    | go_in)
  go_frame
  have e0 : (w.setCell ⟨g, 1, none⟩ (.int .i64 0)).heap.size = w.heap.size := HD1.out.2.2
  rw [e0] at HR0
  rw [e0]
  clear e0
  go_loopw [3] (fun _ wr => CountR w g S room L mb wr) (fun _ wr => wr.rangeLeft mb w.heap.size)
  case atStart =>
    have hd := HD1.out.1.only (S' := fun _ => False) (w' := w0) ⟨HR0.out.2.os, HR0.out.2.tape, HR0.out.2.output, HR0.out.2.size, fun k hk _ => HR0.out.2.block k hk (by simp)⟩ (fun _ _ q => q)
    exact ⟨_, _, [], _, HR0.out.1, by simp [Maps.size], Collected.start _, hd, HD1.out.2.1.grown HR0.out.2 (fun k e => by cases e)⟩
  case round =>
    obtain ⟨left, cnt, ss, o1, hrg, hcs, hC, hd, hon⟩ := hrel
    have hbs := hon.size
    have hsm := HS.out
    have hLl : L.length ≤ 1000000000 := by unfold Sm at hsm; simp only [List.length_map] at hsm; omega
    have htl := tally_le bulk L 1000000000 (fun e he => (hsm.at_ he).1) ss
    have HT := Lib.hid (And.intro htl (And.intro hLl hcs))
    have HC := Lib.hid (And.intro hC (And.intro hd hon))
    clear hC hd hon hsm htl hLl hcs
    go_wp2_with (first
      | (at_next; refine wpList_next_ranges _ rfl _ rfl 9 keyS pE encStr ptrOf (fun key kl hk => by obtain ⟨x, hx, _⟩ := Maps.keyOf_str Try.underlying9 hk; exact ⟨x, hx⟩) pE_inv mb w.heap.size L.length _ _ _ rfl hrg ?_ ?_)
      | go_in)
    · intro hc0 hl0
      have HE := Lib.hid (HF.out ss (by have := HC.out.1.perm HOn.out keyS Try.underlying9 hl0; rw [keys_datum hE] at this; exact this))
      clear hl0 hrg
      go_wp2
      go_end0
      have hc := HC.out
      rw [HE.out] at hc
      exact ⟨rfl, o1, hc.2.1, hc.2.2⟩
    · intro x c kl yd yp w2 cnt2 hkey hlk hv hat hrg2 hlt hg2 hs2 hen
      obtain ⟨x', ex, rfl, _⟩ := Maps.keyOf_str Try.underlying9 hkey
      obtain rfl : x = x' := encStr_inj ex
      obtain ⟨e, hge, hpe⟩ := entry_at hv hat
      rw [hpe] at hen hv ⊢
      have hC2 := HC.out.1.step hlk hat
      have hon2 : Only (fun k => k = g) w w2 := HC.out.2.2.grown hg2 (fun k q => by cases q; exact .inr (Nat.le_refl _))
      have hd2 := HC.out.2.1.only (S' := fun k => k = w.heap.size) (w' := w2) ((Only.refl _ wr).grown hg2 (fun k q => by cases q; exact .inl rfl)) (fun k hk q => by have := HSl.out k hk; omega)
      obtain ⟨o2, ho2⟩ : ∃ o2, o2 = relab o1 wr.heap.size g := ⟨_, rfl⟩
      rw [← ho2] at hd2
      have HN := Lib.hid (And.intro hrg2 (And.intro hC2 (And.intro hon2 (And.intro hlt (And.intro hge hrg)))))
      have HFe := Lib.hid (hd2.fl e (get_some hge).1)
      have HD2 := Lib.hid hd2
      have j1 : w2.cell? ⟨g, 1, none⟩ = some (.int .i64 (tally bulk L ss : Nat)) := hd2.row.cell 1
      have jf := hd2.row.thaw 1
      have jl : g < w2.heap.size := hd2.lt
      have HLt := Lib.hid (show g < w.heap.size from hl)
      have HWe := Lib.hid (show (e.firm ++ e.ws.flatten).length ≤ 1000000000 ∧ e.ws.length ≤ 1000000000 from ⟨(HS.out.at_ (get_some hge).1).1, (HS.out.at_ (get_some hge).1).2.1⟩)
      obtain ⟨z, hz⟩ : ∃ z, z = bulk e := ⟨_, rfl⟩
      have HZ0 := Lib.hid hz
      have HZe := Lib.hid (show (z : Int) = ((e.firm ++ e.ws.flatten).length : Nat) by rw [hz]; rfl)
      have hI1 : (tally bulk L ss : Int) ≤ 1000000000000000000 := by
        have := HT.out
        have q : ss.length * 1000000000 ≤ 1000000000 * 1000000000 := Nat.mul_le_mul_right _ (by omega)
        omega
      have hI2 : (z : Int) ≤ 1000000000 := by have := HWe.out; have := HZe.out; omega
      have hwr : IntKind.i64.wrap ((tally bulk L ss : Int) + (z : Int)) = (tally bulk L ss : Int) + (z : Int) := by rw [IntKind.wrap_i64]; omega
      clear hkey hlk hv hat hrg2 hlt hg2 hs2 hC2 hon2 hge hrg hpe ex hd2 ho2 hz
      generalize htt : tally bulk L ss = tt at *
      have HTT := Lib.hid htt
      clear htt
      go_wp2
      refine wp_region_held_drew (S := fun _ => True) (by kernel_rfl) trivial (fun _ => ?_)
      refine wpAnyH_take (i := 0) (oi := ⟨some 16, _, _, _, _, _⟩) (v := ?_) rfl (by kernel_rfl) (by kernel_rfl) (by kernel_rfl) (fun _ _ _ h => h) (Or.inl ⟨by rfl, ?_⟩) trivial ?_
      rotate_left
      · intro W _
        go_simp
        with_reducible rfl
      simp only [Act.put, List.setIfInBounds_toArray, List.set_cons_zero, List.set_cons_succ]
      refine wpAnyH_take (i := 1) (oi := ⟨some 17, _, _, _, _, _⟩) (v := ?_) rfl (by kernel_rfl) (by kernel_rfl) (by kernel_rfl) (fun _ _ _ h => h) (Or.inl ⟨by rfl, ?_⟩) trivial ?_
      rotate_left
      · intro W _
        go_simp
        with_reducible rfl
      simp only [Act.put, List.setIfInBounds_toArray, List.set_cons_zero, List.set_cons_succ]
      refine wpAnyH_take (i := 2) (oi := ⟨some 18, _, _, _, _, _⟩) (v := ?_) rfl (by kernel_rfl) (by kernel_rfl) (by kernel_rfl) (fun _ _ _ h => h) (Or.inl ⟨by rfl, ?_⟩) trivial ?_
      rotate_left
      · intro W _
        go_simp
        with_reducible rfl
      simp only [Act.put, List.setIfInBounds_toArray, List.set_cons_zero, List.set_cons_succ]
      refine wpAnyH_take (i := 4) (oi := ⟨some 20, _, _, _, _, _⟩) (v := ?_) rfl (by kernel_rfl) (by kernel_rfl) (by kernel_rfl) (fun _ _ _ h => h) (Or.inl ⟨by rfl, ?_⟩) trivial ?_
      rotate_left
      · intro W _
        go_simp
        with_reducible rfl
      simp only [Act.put, List.setIfInBounds_toArray, List.set_cons_zero, List.set_cons_succ]
      refine wpAnyH_ready (rs := [3, 5]) (by kernel_rfl) (by simp) ?_
      refine (AllReadyH.cons (o := ⟨some 19, _, _, _, _, _⟩) rfl (fun K hK => ?_) (AllReadyH.cons (o := ⟨some 21, _, _, _, _, _⟩) rfl (fun K hK => ?_) AllReadyH.nil))
      · skip
        go_simp
        refine hK.out _ _ trivial (fun _ => ?_)
        clear hK K
        refine wpAnyH_ready (rs := [5]) (by kernel_rfl) (by simp) ?_
        refine (AllReadyH.cons (o := ⟨some 21, _, _, _, _, _⟩) rfl (fun K hK => ?_) AllReadyH.nil)
        go_simp
        refine (fsize_any o2 e.blk e.fv e.wv e.vs e.firm e.ws w2.drew HFe.out.drew (by have := HWe.out.1; omega) (by have := HWe.out.2; omega) (z : Int) HZe.out).mono ?_
        rintro r' w3 ⟨rfl, rfl⟩
        refine hK.out _ _ trivial (fun _ => ?_)
        clear hK K
        refine wpAnyH_take (i := 6) (oi := ⟨some 22, _, _, _, _, _⟩) (v := ?_) rfl (by kernel_rfl) (by kernel_rfl) (by kernel_rfl) (fun _ _ _ h => h) (Or.inl ⟨by rfl, ?_⟩) trivial ?_
        rotate_left
        · intro W _
          go_simp
          with_reducible rfl
        simp only [Act.put, List.setIfInBounds_toArray, List.set_cons_zero, List.set_cons_succ]
        refine wpAnyH_take (i := 7) (oi := ⟨some 23, _, _, _, _, _⟩) (v := ?_) rfl (by kernel_rfl) (by kernel_rfl) (by kernel_rfl) (fun _ _ _ h => h) (Or.inl ⟨by rfl, ?_⟩) trivial ?_
        rotate_left
        · intro W _
          go_simp
          with_reducible rfl
        simp only [Act.put, List.setIfInBounds_toArray, List.set_cons_zero, List.set_cons_succ]
        refine wpAnyH_take (i := 8) (oi := ⟨some 24, _, _, _, _, _⟩) (v := ?_) rfl (by kernel_rfl) (by kernel_rfl) (by kernel_rfl) (fun _ _ _ h => h) (Or.inl ⟨by rfl, ?_⟩) trivial ?_
        rotate_left
        · intro W _
          go_simp
          with_reducible rfl
        simp only [Act.put, List.setIfInBounds_toArray, List.set_cons_zero, List.set_cons_succ]
        refine wpAnyH_ready (rs := [9]) (by kernel_rfl) (by simp) ?_
        refine (AllReadyH.cons (o := ⟨none, _, _, _, _, _⟩) rfl (fun K hK => ?_) AllReadyH.nil)
        go_simp
        refine hK.out _ _ trivial (fun _ => ?_)
        clear hK K
        refine wpAnyH_done (by kernel_rfl) ?_ _
        go_wp2
        have hn := HN.out
        have hd3 := ((HD2.out.count (tt + z)).drew)
        rw [show (((tt + z : Nat) : Int)) = (tt : Int) + (z : Int) by omega] at hd3
        have hk := HD2.out.map_ne rfl
        have hg3 : w2.grownBy (w2.setCell ⟨g, 1, none⟩ (.int .i64 ((tt : Int) + (z : Int)))) (some g) := ⟨rfl, rfl, rfl, by simp [World.setCell], fun k _ hkk => Below.heap_setCell _ _ _ k (fun q => hkk (by rw [q]))⟩
        have hrg3 := hn.1.kept hg3 (fun q => hk (by injection q with q; exact q.symm)) (fun q => by injection q with q; have := HLt.out; omega)
        have hrg4 := hrg3.kept (w' := (w2.setCell ⟨g, 1, none⟩ (.int .i64 ((tt : Int) + (z : Int)))).drew) (row := none) ⟨rfl, rfl, rfl, Nat.le_refl _, fun _ _ _ => rfl⟩ (by simp) (by simp)
        have hlq := hrg4.left_eq
        have hE' : CountR w g S room L mb (w2.setCell ⟨g, 1, none⟩ (.int .i64 ((tt : Int) + (z : Int)))).drew := by
          refine ⟨_, cnt2, ss ++ [x], o2, hrg4, by have := HT.out; have := hn.2.2.2.1; simp; omega, hn.2.1, ?_, (hn.2.2.1.setCell (p := ⟨g, 1, none⟩) (.inl rfl) _).drew⟩
          rw [tally_snoc _ _ _ hn.2.2.2.2.1, HTT.out, ← HZ0.out]
          exact hd3
        go_roundw
        case rel =>
          first
            | exact hE'
            | exact ⟨_, hE', rfl⟩
            | exact ⟨_, _, hE', rfl, rfl⟩
        case measure =>
          rw [hn.2.2.2.2.2.left_eq]
          exact Nat.lt_of_le_of_lt (Nat.le_of_eq hlq) hn.2.2.2.1
      · skip
        go_simp
        refine (fsize_any o2 e.blk e.fv e.wv e.vs e.firm e.ws w2.drew HFe.out.drew (by have := HWe.out.1; omega) (by have := HWe.out.2; omega) (z : Int) HZe.out).mono ?_
        rintro r' w3 ⟨rfl, rfl⟩
        refine hK.out _ _ trivial (fun _ => ?_)
        clear hK K
        refine wpAnyH_ready (rs := [3]) (by kernel_rfl) (by simp) ?_
        refine (AllReadyH.cons (o := ⟨some 19, _, _, _, _, _⟩) rfl (fun K hK => ?_) AllReadyH.nil)
        go_simp
        refine hK.out _ _ trivial (fun _ => ?_)
        clear hK K
        refine wpAnyH_take (i := 6) (oi := ⟨some 22, _, _, _, _, _⟩) (v := ?_) rfl (by kernel_rfl) (by kernel_rfl) (by kernel_rfl) (fun _ _ _ h => h) (Or.inl ⟨by rfl, ?_⟩) trivial ?_
        rotate_left
        · intro W _
          go_simp
          with_reducible rfl
        simp only [Act.put, List.setIfInBounds_toArray, List.set_cons_zero, List.set_cons_succ]
        refine wpAnyH_take (i := 7) (oi := ⟨some 23, _, _, _, _, _⟩) (v := ?_) rfl (by kernel_rfl) (by kernel_rfl) (by kernel_rfl) (fun _ _ _ h => h) (Or.inl ⟨by rfl, ?_⟩) trivial ?_
        rotate_left
        · intro W _
          go_simp
          with_reducible rfl
        simp only [Act.put, List.setIfInBounds_toArray, List.set_cons_zero, List.set_cons_succ]
        refine wpAnyH_take (i := 8) (oi := ⟨some 24, _, _, _, _, _⟩) (v := ?_) rfl (by kernel_rfl) (by kernel_rfl) (by kernel_rfl) (fun _ _ _ h => h) (Or.inl ⟨by rfl, ?_⟩) trivial ?_
        rotate_left
        · intro W _
          go_simp
          with_reducible rfl
        simp only [Act.put, List.setIfInBounds_toArray, List.set_cons_zero, List.set_cons_succ]
        refine wpAnyH_ready (rs := [9]) (by kernel_rfl) (by simp) ?_
        refine (AllReadyH.cons (o := ⟨none, _, _, _, _, _⟩) rfl (fun K hK => ?_) AllReadyH.nil)
        go_simp
        refine hK.out _ _ trivial (fun _ => ?_)
        clear hK K
        refine wpAnyH_done (by kernel_rfl) ?_ _
        go_wp2
        have hn := HN.out
        have hd3 := ((HD2.out.count (tt + z)).drew)
        rw [show (((tt + z : Nat) : Int)) = (tt : Int) + (z : Int) by omega] at hd3
        have hk := HD2.out.map_ne rfl
        have hg3 : w2.grownBy (w2.setCell ⟨g, 1, none⟩ (.int .i64 ((tt : Int) + (z : Int)))) (some g) := ⟨rfl, rfl, rfl, by simp [World.setCell], fun k _ hkk => Below.heap_setCell _ _ _ k (fun q => hkk (by rw [q]))⟩
        have hrg3 := hn.1.kept hg3 (fun q => hk (by injection q with q; exact q.symm)) (fun q => by injection q with q; have := HLt.out; omega)
        have hrg4 := hrg3.kept (w' := (w2.setCell ⟨g, 1, none⟩ (.int .i64 ((tt : Int) + (z : Int)))).drew) (row := none) ⟨rfl, rfl, rfl, Nat.le_refl _, fun _ _ _ => rfl⟩ (by simp) (by simp)
        have hlq := hrg4.left_eq
        have hE' : CountR w g S room L mb (w2.setCell ⟨g, 1, none⟩ (.int .i64 ((tt : Int) + (z : Int)))).drew := by
          refine ⟨_, cnt2, ss ++ [x], o2, hrg4, by have := HT.out; have := hn.2.2.2.1; simp; omega, hn.2.1, ?_, (hn.2.2.1.setCell (p := ⟨g, 1, none⟩) (.inl rfl) _).drew⟩
          rw [tally_snoc _ _ _ hn.2.2.2.2.1, HTT.out, ← HZ0.out]
          exact hd3
        go_roundw
        case rel =>
          first
            | exact hE'
            | exact ⟨_, hE', rfl⟩
            | exact ⟨_, _, hE', rfl, rfl⟩
        case measure =>
          rw [hn.2.2.2.2.2.left_eq]
          exact Nat.lt_of_le_of_lt (Nat.le_of_eq hlq) hn.2.2.2.1


set_option maxRecDepth 100000 in
theorem count_none (h : Dk w g S room L (.map none) o used) : Calls Try.prog 46 #[ptr g] w fun e w' => e = .returned (.tuple #[]) ∧ Counted w g S room L (.map none) w' := by
  have k1 : w.cell? ⟨g, 1, none⟩ = some (.int .i64 used) := h.row.cell 1
  have hf1 := h.row.thaw 1
  have hl := h.lt
  have hd1 := h.count 0
  have k2 : (w.setCell ⟨g, 1, none⟩ (.int .i64 0)).cell? ⟨g, 2, none⟩ = some (.map none) := hd1.row.cell 2
  have hl1 := hd1.lt
  have hL : L = [] := by
    rcases h.map with ⟨_, q⟩ | ⟨mb, q, _⟩
    · exact q
    · cases q
  have HP : Hid (Counted w g S room L (.map none) ((w.setCell ⟨g, 1, none⟩ (.int .i64 0)).alloc (.mapIter none 0 #[] 0))) := by
    have := hd1.below ((Below.refl _ _).alloc (Nat.le_refl _) (.mapIter none 0 #[] 0))
    have e0 : sizeL (L.map Ent.fil) = 0 := by rw [hL]; rfl
    refine ⟨relab o (w.setCell ⟨g, 1, none⟩ (.int .i64 (0 : Nat))).heap.size g, by rw [e0]; exact this, ((Only.refl (fun k => k = g) w).setCell (p := ⟨g, 1, none⟩) (.inl rfl) _).alloc _⟩
  have hrg := run_range_nilMap (P := Try.prog) (w.setCell ⟨g, 1, none⟩ (.int .i64 0)) 62 9 67 Try.underlying62
  have e9 : (w.setCell ⟨g, 1, none⟩ (.int .i64 0)).heap.size = w.heap.size := by simp [World.setCell]
  have hnx : ∀ ty, (Instr.next (.pointer (some ⟨w.heap.size, 0, none⟩)) false ty).run Try.prog ((w.setCell ⟨g, 1, none⟩ (.int .i64 0)).alloc (.mapIter none 0 #[] 0)) = .ok (.tuple #[.bool false]) ((w.setCell ⟨g, 1, none⟩ (.int .i64 0)).alloc (.mapIter none 0 #[] 0)) := fun ty => by
    rw [← e9]
    exact run_next_nilMap _ ty 0 0 #[]
  rw [e9] at hrg
  clear e9
  clear h hd1 hL
  go_enter Try.func46, Try.ntmps46
  go_wp2
  go_loopw [3] (fun _ wr => wr = (w.setCell ⟨g, 1, none⟩ (.int .i64 0)).alloc (.mapIter none 0 #[] 0)) (fun _ _ => 0)
  case atStart => rfl
  case round =>
    subst hrel
    go_wp2
    go_end0
    exact ⟨rfl, HP.out⟩
theorem count_any (h : Dk w g S room L mv o used) (hs : Sm (L.map Ent.fil)) : Calls Try.prog 46 #[ptr g] w fun e w' => e = .returned (.tuple #[]) ∧ Counted w g S room L mv w' := by
  rcases h.map with ⟨hm, hL⟩ | ⟨mb, hm, _⟩
  · subst hm
    exact count_none h
  · subst hm
    exact count_some mb h hs
end
end Go.Proofs.Ythheolhghhmdlaa
