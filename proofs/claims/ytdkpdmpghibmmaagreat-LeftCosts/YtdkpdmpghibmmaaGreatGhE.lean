/- graph.byEnds: the arcs by their two ends (written by mkends.py). -/
import Derived.Test.YtdkpdmpghibmmaaGreatGhC
namespace Go.Proofs.YtdkpdmpghibmmaaGreat
open Go.RowKit Go.Shelf Grm Lay
set_option maxRecDepth 100000 in
theorem run_items (u v : Value) (w : World) : (Instr.field 162 (.agg #[u, v]) 0).run Tryz.prog w = .ok u w := by kernel_rfl
attribute [local go_sem] Oper.semAt_some run_store_func run_items

namespace Lay
variable {α : Type} (p : α → Nat)
theorem mem_layL {n : Nat} {xs : List α} (h : ∀ x ∈ xs, p x < n) (y : α) : y ∈ layL p n xs ↔ y ∈ xs := by
  unfold layL
  simp only [List.mem_flatMap, List.mem_range, List.mem_filter, beq_iff_eq]
  exact ⟨fun ⟨v, _, h2, _⟩ => h2, fun h2 => ⟨p y, h y h2, h2, rfl⟩⟩
theorem layL_length {n : Nat} {xs : List α} (h : ∀ x ∈ xs, p x < n) : (layL p n xs).length = xs.length := by
  have hpre : ∀ u, (((List.range u).flatMap fun u => xs.filter fun x => p x == u) : List α).length = lt p u xs := by
    intro u
    induction u with
    | zero => rw [lt_zero]; rfl
    | succ u ih =>
      rw [List.range_succ, List.flatMap_append, List.length_append, ih, lt_succ]
      simp [cnt]
  unfold layL
  rw [hpre n, lt_all p h]
end Lay
/-- An arc's ends, by its number. -/
def fromN (l : List Ar) (k : Nat) : Nat := (l[k]?.getD (0, 0, 0)).1.toNat
def toN (l : List Ar) (k : Nat) : Nat := (l[k]?.getD (0, 0, 0)).2.1.toNat
def EndsOk (n : Nat) (l : List Ar) : Prop := ∀ x ∈ l, 0 ≤ x.1 ∧ x.1 < (n : Int) ∧ 0 ≤ x.2.1 ∧ x.2.1 < (n : Int)
theorem EndsOk.at_ {n : Nat} {l : List Ar} (h : EndsOk n l) {k : Nat} (hk : k < l.length) : (l[k]'hk).1 = (fromN l k : Int) ∧ (l[k]'hk).2.1 = (toN l k : Int) ∧ fromN l k < n ∧ toN l k < n := by
  have := h _ (List.getElem_mem hk)
  unfold fromN toN
  rw [List.getElem?_eq_getElem hk]
  simp only [Option.getD_some]
  omega
/-- The arcs' numbers by To, and those by From. -/
def byT (n : Nat) (l : List Ar) : List Nat := layL (toN l) n (List.range l.length)
def byE (n : Nat) (l : List Ar) : List Nat := layL (fromN l) n (byT n l)
theorem byT_ok {n : Nat} {l : List Ar} (h : EndsOk n l) : (byT n l).length = l.length ∧ (∀ x ∈ byT n l, x < l.length) := by
  have h0 : ∀ x ∈ List.range l.length, toN l x < n := fun x hx => (h.at_ (List.mem_range.1 hx)).2.2.2
  refine ⟨by unfold byT; rw [layL_length _ h0, List.length_range], fun x hx => ?_⟩
  exact List.mem_range.1 ((mem_layL _ h0 x).1 hx)
theorem byE_ok {n : Nat} {l : List Ar} (h : EndsOk n l) : (byE n l).length = l.length ∧ (∀ x ∈ byE n l, x < l.length) := by
  have h0 : ∀ x ∈ byT n l, fromN l x < n := fun x hx => (h.at_ ((byT_ok h).2 x hx)).2.2.1
  refine ⟨by unfold byE; rw [layL_length _ h0]; exact (byT_ok h).1, fun x hx => ?_⟩
  exact (byT_ok h).2 x ((mem_layL _ h0 x).1 hx)
def byR (_ : Nat) (l : List Ar) : List Nat := List.range l.length
theorem byR_ok (n : Nat) (l : List Ar) : (byR n l).length = l.length ∧ ∀ x ∈ byR n l, x < l.length := ⟨List.length_range, fun _ hx => List.mem_range.1 hx⟩
def stepE (n : Nat) (l : List Ar) : Nat → List Nat
  | 0 => byR n l
  | 1 => byT n l
  | _ => byE n l
/-- The numbers below k are laid. -/
def upto (m k : Nat) : List Nat := (List.range m).map fun j => if j < k then j else 0
theorem upto_zero (m : Nat) : upto m 0 = List.replicate m 0 := by
  unfold upto
  apply List.ext_getElem <;> simp
theorem upto_all (m : Nat) : upto m m = List.range m := by
  unfold upto
  apply List.ext_getElem
  · simp
  · intro i h1 h2
    simp at h1
    simp [h1]
theorem upto_set {m k : Nat} : (upto m k).set k k = upto m (k + 1) := by
  unfold upto
  apply List.ext_getElem?
  intro j
  by_cases hj : j < m
  · by_cases hi : j = k
    · subst hi
      rw [List.getElem?_set_self (by simpa using hj)]
      simp [hj]
    · rw [List.getElem?_set_ne (by omega)]
      simp only [List.getElem?_map, List.getElem?_range hj, Option.map_some]
      congr 1
      by_cases h1 : j < k
      · rw [if_pos h1, if_pos (by omega)]
      · rw [if_neg h1, if_neg (by omega)]
  · rw [List.getElem?_eq_none (by simp; omega), List.getElem?_eq_none (by simp; omega)]
theorem upto_len (m k : Nat) : (upto m k).length = m := by simp [upto]
theorem place_to {w : World} {gb n : Nat} {a : Option Addr} {l : List Ar} {c : Nat} {oi oc ii ic : Value} {eb pb : Nat} {te tp : TypeId} {X : List Nat} (hg : Gb w gb n a l c oi oc ii ic) (hA : Arcs w a l) (hok : EndsOk n l) (he : Row w eb te #[.func (.func 63) #[] #[]]) (hp : Row w pb tp #[ptr gb]) (hX : ∀ x ∈ X, x < l.length) :
    ∀ W, Below w.heap.size w W → ∀ x ∈ X, Calls Tryz.prog 110 #[.int .i64 (x : Nat), ptr eb, ptr pb] W fun e W' => e = .returned (.int .i64 (toN l x : Nat)) ∧ Below W.heap.size W W' := by
  intro W hW x hx
  have h := ends_to eb pb x (Row.under hg hW (Row.lt hg)) (hA.under hW) (hX x hx) ((he.under hW he.lt).cell 0) ((hp.under hW hp.lt).cell 0)
  rw [(hok.at_ (hX x hx)).2.1] at h
  exact h
theorem place_from {w : World} {gb n : Nat} {a : Option Addr} {l : List Ar} {c : Nat} {oi oc ii ic : Value} {eb pb : Nat} {te tp : TypeId} {X : List Nat} (hg : Gb w gb n a l c oi oc ii ic) (hA : Arcs w a l) (hok : EndsOk n l) (he : Row w eb te #[.func (.func 62) #[] #[]]) (hp : Row w pb tp #[ptr gb]) (hX : ∀ x ∈ X, x < l.length) :
    ∀ W, Below w.heap.size w W → ∀ x ∈ X, Calls Tryz.prog 110 #[.int .i64 (x : Nat), ptr eb, ptr pb] W fun e W' => e = .returned (.int .i64 (fromN l x : Nat)) ∧ Below W.heap.size W W' := by
  intro W hW x hx
  have h := ends_from eb pb x (Row.under hg hW (Row.lt hg)) (hA.under hW) (hX x hx) ((he.under hW he.lt).cell 0) ((hp.under hW hp.lt).cell 0)
  rw [(hok.at_ (hX x hx)).1] at h
  exact h
set_option maxRecDepth 100000 in
set_option maxHeartbeats 4000000 in
theorem byends_any {w : World} {gb n : Nat} {a : Option Addr} {l : List Ar} {c : Nat} {oi oc ii ic : Value} (hg : Gb w gb n a l c oi oc ii ic) (hA : Arcs w a l) (hok : EndsOk n l) (hn : n ≤ 16777216) (hl : l.length ≤ 67108864) :
    Calls Tryz.prog 60 #[ptr gb] w fun e w' => Below w.heap.size w w' ∧ ∃ ib, e = .returned (.slice (some ⟨ib, 0, none⟩) l.length l.length) ∧ w.heap.size ≤ ib ∧ Row w' ib 3 (nsV (byE n l)) := by
  have i1 : (n : Int) ≤ 16777216 := by omega
  have i2 : (l.length : Int) ≤ 67108864 := by omega
  obtain ⟨w1, hw1⟩ : ∃ w1, w1 = w.alloc (.cells #[ptr gb] 31) := ⟨_, rfl⟩
  have hb1 : Below w.heap.size w w1 := by rw [hw1]; exact (Below.refl _ _).alloc (Nat.le_refl _) _
  have hp1 : Row w1 w.heap.size 31 #[ptr gb] := by rw [hw1]; exact Row.fresh w _ _
  have hs1 : w1.heap.size = w.heap.size + 1 := by rw [hw1]; simp
  have hg1 : Gb w1 gb n a l c oi oc ii ic := Row.under hg hb1 (Row.lt hg)
  have hA1 := hA.under hb1
  have HG := Lib.hid (And.intro hg1 (And.intro hA1 (And.intro hok (And.intro hp1 (And.intro hs1 (And.intro hb1 (And.intro hn hl)))))))
  have HW := Lib.hid hw1
  have p0 := hp1.cell 0
  have g0 := Row.cell hg1 0
  have g1 := Row.cell hg1 1
  simp only [List.getElem?_toArray, List.getElem?_cons_zero, List.getElem?_cons_succ] at p0 g0 g1
  have X0 := Lib.hid (And.intro p0 (And.intro g0 g1))
  clear hg hA hok hn hl hb1 hp1 hs1 hg1 hA1 hw1 p0 g0 g1
  go_enter Tryz.func60, Tryz.ntmps60
  go_upto_region 1 with (fail)
  rw [← HW.out]
  obtain ⟨p0, g0, g1⟩ := X0.out
  obtain ⟨pb, hpb⟩ : ∃ pb, pb = w.heap.size := ⟨_, rfl⟩
  rw [← hpb] at p0 ⊢
  have HPb := Lib.hid hpb
  clear hpb
  go_upto_region 2 with (first | (with_reducible show wpList _ _ _ (Oper.mk _ (Op.makeSlice _ _ _) _ _ _ _ :: _) _ _; refine wpList_makeI rfl (.tmp 11) (.tmp 11) rfl _ l.length rfl rfl rfl (by omega) ?_))
  obtain ⟨wc, hwc⟩ : ∃ wc, wc = w1.alloc (.cells (nsV (List.replicate l.length 0)) 3) := ⟨_, rfl⟩
  have hbc : Below w1.heap.size w1 wc := by rw [hwc]; exact (Below.refl _ _).alloc (Nat.le_refl _) _
  have hib : Row wc w1.heap.size 3 (nsV (upto l.length 0)) := by rw [hwc, upto_zero]; exact Row.fresh w1 _ _
  rw [← hwc]
  have HC := Lib.hid (And.intro hbc hib)
  clear hwc hbc hib p0 g0 g1
  have hib0 : w.heap.size ≤ w1.heap.size := by have := HG.out.2.2.2.2.1; omega
  have HI := Lib.hid hib0
  clear hib0
  generalize hibe : w1.heap.size = ib at HC HI ⊢
  have HIe := Lib.hid hibe
  clear hibe
  go_wp2
  go_loopw [15] (fun i wr => ∃ k : Nat, k ≤ l.length ∧ i = .int .i64 k ∧ Row wr ib 3 (nsV (upto l.length k)) ∧ Only (fun j => j = ib) wc wr) (fun i _ => l.length - (intOf i).toNat)
  case atStart => exact ⟨0, by omega, rfl, HC.out.2, Only.refl _ _⟩
  case round =>
    obtain ⟨k, hk, rfl, hrow, ho⟩ := hrel
    by_cases hlt : k < l.length
    · have hlt' : (k : Int) < (l.length : Int) := by omega
      have m0 := hrow.thaw k
      have c0 := hrow.cell k
      rw [nsV_at (by rw [upto_len]; exact hlt)] at c0
      have HR := Lib.hid (And.intro hrow ho)
      clear hrow ho
      go_wp2
      refine ⟨⟨k + 1, by omega, by go_num, ?_, HR.out.2.setCell (p := ⟨ib, k, none⟩) (.inl rfl) _⟩, by simp [intOf]; omega⟩
      have hq := HR.out.1.put k (.int .i64 (k : Nat))
      rw [nsV_set, upto_set] at hq
      exact hq
    · obtain rfl : k = l.length := by omega
      have hlt' : ¬ (l.length : Int) < (l.length : Int) := by omega
      rw [upto_all] at hrow
      obtain ⟨w2, hw2⟩ : ∃ w2, w2 = wr := ⟨_, rfl⟩
      subst hw2
      have hb2 : Below w1.heap.size w1 w2 := ((by rw [HIe.out]; exact HC.out.1 : Below w1.heap.size w1 wc)).trans (ho.below (K := w1.heap.size) (fun j e => by subst e; exact Nat.le_of_eq HIe.out) HC.out.1.size)
      obtain ⟨w3, hw3⟩ : ∃ w3, w3 = w2.alloc (.cells #[.func (.func 63) #[] #[], .func (.func 62) #[] #[]] 113) := ⟨_, rfl⟩
      have hb3 : Below w1.heap.size w1 w3 := by rw [hw3]; exact hb2.alloc hb2.size _
      have hf3 : Row w3 w2.heap.size 113 #[.func (.func 63) #[] #[], .func (.func 62) #[] #[]] := by rw [hw3]; exact Row.fresh w2 _ _
      have hr3 : Row w3 ib 3 (nsV (byR n l)) := by rw [hw3]; exact hrow.past _
      have HY := Lib.hid (And.intro (Row.under HG.out.1 hb3 (Row.lt HG.out.1)) (And.intro (HG.out.2.1.under hb3) (And.intro (HG.out.2.2.2.1.under hb3 HG.out.2.2.2.1.lt) (And.intro hf3 (And.intro hr3 (HG.out.2.2.2.2.2.1.trans (hb3.mono HG.out.2.2.2.2.2.1.size)))))))
      have HW3 := Lib.hid hw3
      clear hb3 hf3 hr3 hw3 hrow ho hb2
      go_upto_region 8 with (fail)
      rw [← HW3.out]
      go_wp2
      go_loopw [3, 25] (fun s i wr => ∃ k jb : Nat, k ≤ 2 ∧ i = .int .i64 k ∧ s = .slice (some ⟨jb, 0, none⟩) l.length l.length ∧ w.heap.size ≤ jb ∧ Row wr jb 3 (nsV (stepE n l k)) ∧ Below w3.heap.size w3 wr) (fun _ i _ => 2 - (intOf i).toNat)
      case atStart => exact ⟨0, ib, by omega, rfl, rfl, HI.out, HY.out.2.2.2.2.1, Below.refl _ _⟩
      case round =>
        obtain ⟨k, jb, hk, rfl, rfl, hjb, hrow, hbr⟩ := hrel
        have h1 := Lib.hid (Row.under HY.out.1 hbr (Row.lt HY.out.1))
        have h2 := Lib.hid (HY.out.2.1.under hbr)
        have h3 := Lib.hid (HPb.out ▸ HY.out.2.2.1.under hbr HY.out.2.2.1.lt : Row wr pb 31 #[ptr gb])
        have h4 := Lib.hid (HY.out.2.2.2.1.under hbr HY.out.2.2.2.1.lt)
        have h5 := Lib.hid hbr
        have HJ := Lib.hid hjb
        rcases k with _ | _ | k
        · have h6 := Lib.hid (show Row wr jb 3 (nsV (byR n l)) from hrow)
          clear hrow hbr hjb
          have c0 := h4.out.cell 0
          simp only [List.getElem?_toArray, List.getElem?_cons_zero, List.getElem?_cons_succ] at c0
          have p0 := h3.out.cell 0
          have g0 := Row.cell h1.out 0
          simp only [List.getElem?_toArray, List.getElem?_cons_zero, List.getElem?_cons_succ] at p0 g0
          go_upto_region 10 with (fail)
          obtain ⟨wq, hwq⟩ : ∃ wq, wq = wr.alloc (.cells #[.func (.func 63) #[] #[]] 113) := ⟨_, rfl⟩
          have hbq : Below wr.heap.size wr wq := by rw [hwq]; exact (Below.refl _ _).alloc (Nat.le_refl _) _
          have heq : Row wq wr.heap.size 113 #[.func (.func 63) #[] #[]] := by rw [hwq]; exact Row.fresh wr _ _
          rw [← hwq]
          have hgq := Row.under h1.out hbq (Row.lt h1.out)
          have hpq := h3.out.under hbq h3.out.lt
          have hiq := h6.out.under hbq h6.out.lt
          have p1 := hpq.cell 0
          have g1 := Row.cell hgq 0
          simp only [List.getElem?_toArray, List.getElem?_cons_zero, List.getElem?_cons_succ] at p1 g1
          have HB := Lib.hid (h5.out.trans (hbq.mono h5.out.size))
          have hlen : (byR n l).length = l.length ∧ ∀ x ∈ byR n l, x < l.length := byR_ok n l
          have HP := Lib.hid (place_to (eb := wr.heap.size) (pb := pb) hgq (h2.out.under hbq) HG.out.2.2.1 heq hpq hlen.2)
          have HX := Lib.hid (And.intro hiq (And.intro hlen (fun x hx => (HG.out.2.2.1.at_ (hlen.2 x hx)).2.2.2)))
          clear hwq hbq heq hgq hpq hiq hlen c0 p0 g0
          obtain ⟨eb, hebe⟩ : ∃ eb, eb = wr.heap.size := ⟨_, rfl⟩
          rw [← hebe] at HP ⊢
          have HE := Lib.hid hebe
          clear hebe
          go_wp2_with (first | (go_at_call 109; (have hc := layI_any n (byR n l) (toN l) jb l.length eb pb wq HX.out.1 HX.out.2.2 HP HG.out.2.2.2.2.2.2.1 (by rw [HX.out.2.1.1]; exact HG.out.2.2.2.2.2.2.2); rw [HX.out.2.1.1] at hc; refine hc.mono ?_); rintro e w5 ⟨hb5, ib5, cb5, rfl, hib5, _, hrow5, _⟩; have HZ := Lib.hid (And.intro hb5 (And.intro hib5 hrow5)); clear hb5 hib5 hrow5))
          go_wp2
          refine ⟨⟨0 + 1, ib5, by omega, by go_num, rfl, ?_, HZ.out.2.2, HB.out.trans (HZ.out.1.mono HB.out.size)⟩, by simp [intOf]⟩
          exact Nat.le_trans (Nat.le_trans HY.out.2.2.2.2.2.size HB.out.size) HZ.out.2.1
        · have h6 := Lib.hid (show Row wr jb 3 (nsV (byT n l)) from hrow)
          clear hrow hbr hjb
          have c0 := h4.out.cell 1
          simp only [List.getElem?_toArray, List.getElem?_cons_zero, List.getElem?_cons_succ] at c0
          have p0 := h3.out.cell 0
          have g0 := Row.cell h1.out 0
          simp only [List.getElem?_toArray, List.getElem?_cons_zero, List.getElem?_cons_succ] at p0 g0
          go_upto_region 10 with (fail)
          obtain ⟨wq, hwq⟩ : ∃ wq, wq = wr.alloc (.cells #[.func (.func 62) #[] #[]] 113) := ⟨_, rfl⟩
          have hbq : Below wr.heap.size wr wq := by rw [hwq]; exact (Below.refl _ _).alloc (Nat.le_refl _) _
          have heq : Row wq wr.heap.size 113 #[.func (.func 62) #[] #[]] := by rw [hwq]; exact Row.fresh wr _ _
          rw [← hwq]
          have hgq := Row.under h1.out hbq (Row.lt h1.out)
          have hpq := h3.out.under hbq h3.out.lt
          have hiq := h6.out.under hbq h6.out.lt
          have p1 := hpq.cell 0
          have g1 := Row.cell hgq 0
          simp only [List.getElem?_toArray, List.getElem?_cons_zero, List.getElem?_cons_succ] at p1 g1
          have HB := Lib.hid (h5.out.trans (hbq.mono h5.out.size))
          have hlen : (byT n l).length = l.length ∧ ∀ x ∈ byT n l, x < l.length := byT_ok HG.out.2.2.1
          have HP := Lib.hid (place_from (eb := wr.heap.size) (pb := pb) hgq (h2.out.under hbq) HG.out.2.2.1 heq hpq hlen.2)
          have HX := Lib.hid (And.intro hiq (And.intro hlen (fun x hx => (HG.out.2.2.1.at_ (hlen.2 x hx)).2.2.1)))
          clear hwq hbq heq hgq hpq hiq hlen c0 p0 g0
          obtain ⟨eb, hebe⟩ : ∃ eb, eb = wr.heap.size := ⟨_, rfl⟩
          rw [← hebe] at HP ⊢
          have HE := Lib.hid hebe
          clear hebe
          go_wp2_with (first | (go_at_call 109; (have hc := layI_any n (byT n l) (fromN l) jb l.length eb pb wq HX.out.1 HX.out.2.2 HP HG.out.2.2.2.2.2.2.1 (by rw [HX.out.2.1.1]; exact HG.out.2.2.2.2.2.2.2); rw [HX.out.2.1.1] at hc; refine hc.mono ?_); rintro e w5 ⟨hb5, ib5, cb5, rfl, hib5, _, hrow5, _⟩; have HZ := Lib.hid (And.intro hb5 (And.intro hib5 hrow5)); clear hb5 hib5 hrow5))
          go_wp2
          refine ⟨⟨1 + 1, ib5, by omega, by go_num, rfl, ?_, HZ.out.2.2, HB.out.trans (HZ.out.1.mono HB.out.size)⟩, by simp [intOf]⟩
          exact Nat.le_trans (Nat.le_trans HY.out.2.2.2.2.2.size HB.out.size) HZ.out.2.1
        · obtain rfl : k = 0 := by omega
          have h6 := Lib.hid (show Row wr jb 3 (nsV (byE n l)) from hrow)
          clear hrow hbr hjb
          go_wp2
          go_ret
          exact ⟨HY.out.2.2.2.2.2.trans (h5.out.mono HY.out.2.2.2.2.2.size), jb, rfl, HJ.out, h6.out⟩
end Go.Proofs.YtdkpdmpghibmmaaGreat
