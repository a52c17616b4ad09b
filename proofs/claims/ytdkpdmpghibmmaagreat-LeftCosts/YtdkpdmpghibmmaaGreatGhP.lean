/- graph.pick (written by mkpick.py). -/
import Derived.Test.YtdkpdmpghibmmaaGreatGhMath
import Derived.Test.YtdkpdmpghibmmaaGreatRound
import Derived.Test.YtdkpdmpghibmmaaGreatColl
namespace Go.Proofs.YtdkpdmpghibmmaaGreat
open Go.RowKit Go.Shelf Grm Lay
attribute [local go_sem] Oper.semAt_some

abbrev nsC (ns : List Nat) : List Value := ns.map fun n => Value.int .i64 (n : Nat)
theorem grp_in {same : Nat → Nat → Bool} {X : List Nat} : ∀ (m b k : Nat), X.length - k = m → b ≤ k → k ≤ X.length → ∀ z ∈ grp same b k (X.drop k), b ≤ z.1 ∧ z.1 < z.2 ∧ z.2 ≤ X.length := by
  intro m
  induction m with
  | zero =>
    intro b k h hb hk z hz
    obtain rfl : k = X.length := by omega
    rw [List.drop_length] at hz
    simp [grp] at hz
  | succ m ih =>
    intro b k h hb hk z hz
    by_cases h1 : k + 1 = X.length
    · rw [grp_last h1] at hz
      have e2 : X.drop (k + 1) = [] := List.drop_of_length_le (by omega)
      rw [e2] at hz
      simp [grp] at hz
      subst hz
      exact ⟨Nat.le_refl _, by show b < X.length; omega, Nat.le_refl _⟩
    · have h2 : k + 1 < X.length := by omega
      rw [grp_more h2] at hz
      split at hz
      · exact ih b (k + 1) (by omega) (by omega) (by omega) z hz
      · rcases List.mem_cons.1 hz with rfl | hz
        · exact ⟨Nat.le_refl _, by show b < k + 1; omega, by show k + 1 ≤ _; omega⟩
        · have := ih (k + 1) (k + 1) (by omega) (by omega) (by omega) z hz
          omega
theorem grp_len {same : Nat → Nat → Bool} {X : List Nat} : ∀ (m b k : Nat), X.length - k = m → k ≤ X.length → (grp same b k (X.drop k)).length ≤ m := by
  intro m
  induction m with
  | zero =>
    intro b k h hk
    obtain rfl : k = X.length := by omega
    rw [List.drop_length]
    simp [grp]
  | succ m ih =>
    intro b k h hk
    by_cases h1 : k + 1 = X.length
    · rw [grp_last h1]
      have e2 : X.drop (k + 1) = [] := List.drop_of_length_le (by omega)
      rw [e2]
      simp [grp]
    · have h2 : k + 1 < X.length := by omega
      rw [grp_more h2]
      split
      · have := ih b (k + 1) (by omega) (by omega)
        omega
      · have := ih (k + 1) (k + 1) (by omega) (by omega)
        simp only [List.length_cons]
        omega
def outL (l : List Ar) (X : List Nat) (pre : List (Nat × Nat)) : List Nat := pre.filterMap fun z => pickG l (segL X z)
/-- Between two groups. -/
def PickI (w : World) (pb gb n : Nat) (a : Option Addr) (l : List Ar) (c : Nat) (oi oc ii ic : Value) (xb sb : Nat) (X : List Nat) (d K : Nat) (pre : List (Nat × Nat)) (T : Foot) (W : World) : Prop :=
  ∃ v, Row W (w.heap.size + 1) 33 #[v] ∧ W.ownsRow K 3 1 v (outL l X pre).length (nsC (outL l X pre)) ∧ (∀ k, v.ownBlock = some k → T k) ∧ Row W w.heap.size 31 #[ptr gb] ∧ PairM W xb sb pb gb n a l c oi oc ii ic X d ∧ Below w.heap.size w W ∧ (outL l X pre).length ≤ pre.length
theorem PickI.abide {w w0 : World} {pb gb n : Nat} {a : Option Addr} {l : List Ar} {c : Nat} {oi oc ii ic : Value} {xb sb : Nat} {X : List Nat} {d K : Nat} (hb : Below w.heap.size w w0) (h1 : w.heap.size + 1 < w0.heap.size) (hq : PairM w0 xb sb pb gb n a l c oi oc ii ic X d) : Abide w0.heap.size (PickI w pb gb n a l c oi oc ii ic xb sb X d K) := by
  rintro pre T A A' ⟨v, r1, r2, r3, r4, r5, r6, r7⟩ hT ho
  refine ⟨v, r1.only ho (fun h => by omega), owns_only r2 ho (fun k q h => h.2 (r3 k q)), r3, r4.only ho (fun h => by omega), r5.only ho ?_, r6.trans (ho.below (K := w.heap.size) (fun k q => by have := hb.size; omega) r6.size), r7⟩
  have h := hq.old
  exact ⟨⟨fun q => by omega, fun q => by omega, fun q => by omega, fun q => by omega⟩, fun b o e hne q => by have := h.2 b o e hne; omega⟩
theorem PickI.under {w : World} {pb gb n : Nat} {a : Option Addr} {l : List Ar} {c : Nat} {oi oc ii ic : Value} {xb sb : Nat} {X : List Nat} {d K : Nat} {pre : List (Nat × Nat)} {T : Foot} {W W' : World} (h : PickI w pb gb n a l c oi oc ii ic xb sb X d K pre T W) (hb : Below W.heap.size W W') : PickI w pb gb n a l c oi oc ii ic xb sb X d K pre T W' := by
  obtain ⟨v, r1, r2, r3, r4, r5, r6, r7⟩ := h
  exact ⟨v, r1.under hb r1.lt, owns_only r2 (Only.of_below (fun _ => False) hb) (fun _ _ h => h), r3, r4.under hb r4.lt, r5.under hb, r6.trans (hb.mono r6.size), r7⟩
theorem PickI.skip {w : World} {pb gb n : Nat} {a : Option Addr} {l : List Ar} {c : Nat} {oi oc ii ic : Value} {xb sb : Nat} {X : List Nat} {d K : Nat} {pre : List (Nat × Nat)} {z : Nat × Nat} {T : Foot} {W : World} (h : PickI w pb gb n a l c oi oc ii ic xb sb X d K pre T W) (hp : outL l X (pre ++ [z]) = outL l X pre) : PickI w pb gb n a l c oi oc ii ic xb sb X d K (pre ++ [z]) T W := by
  obtain ⟨v, r1, r2, r3, r4, r5, r6, r7⟩ := h
  exact ⟨v, r1, by rw [hp]; exact r2, r3, r4, r5, r6, by rw [hp]; simp; omega⟩
theorem bst_snoc (l : List Ar) (b : Nat) (g : List Nat) (k : Nat) : bst l b (g ++ [k]) = if wN l k < wN l (bst l b g) then k else bst l b g := by
  unfold bst
  rw [List.foldl_append]
  rfl
theorem pickG_none {l : List Ar} {g : List Nat} {k : Nat} (hk : k ∈ g) (h : fromN l k = toN l k) : pickG l g = none := by
  unfold pickG
  rw [if_pos]
  rw [List.any_eq_true]
  exact ⟨k, hk, by simpa using h⟩
theorem pickG_some {l : List Ar} {b : Nat} {t : List Nat} (h : ∀ k ∈ b :: t, fromN l k ≠ toN l k) : pickG l (b :: t) = some (bst l b (b :: t)) := by
  unfold pickG
  rw [if_neg]
  · rfl
  · rw [List.any_eq_true]
    rintro ⟨k, hk, e⟩
    exact h k hk (by simpa using e)
theorem segL_len {X : List Nat} {z : Nat × Nat} (h : z.2 ≤ X.length) : (segL X z).length = z.2 - z.1 := by
  unfold segL
  rw [List.length_drop, List.length_take]
  omega
theorem segL_at {X : List Nat} {z : Nat × Nat} {i : Nat} (h : z.2 ≤ X.length) (hi : i < z.2 - z.1) : (segL X z)[i]'(by rw [segL_len h]; exact hi) = X[z.1 + i]'(by omega) := by
  simp [segL]
set_option maxRecDepth 100000 in
set_option maxHeartbeats 4000000 in
theorem pick_any {w : World} {gb n : Nat} {a : Option Addr} {l : List Ar} {c : Nat} {oi oc ii ic : Value} {sb d : Nat} {X : List Nat} (hg : Gb w gb n a l c oi oc ii ic) (hA : Arcs w a l) (hok : EndsOk n l) (hs : Row w sb 3 (nsV X)) (hX : ∀ x ∈ X, x < l.length) (hl : X.length ≤ 67108864) (hd : X.length ≤ d) :
    Calls Tryz.prog 59 #[ptr gb, .slice (some ⟨sb, 0, none⟩) X.length d] w fun e w' => Below w.heap.size w w' ∧ ∃ v, e = .returned v ∧ w'.ownsRow w.heap.size 3 1 v (pickL l X).length (nsC (pickL l X)) := by
  have i2 : (X.length : Int) ≤ 67108864 := by omega
  obtain ⟨w1, hw1⟩ : ∃ w1, w1 = (w.alloc (.cells #[ptr gb] 31)).alloc (.cells #[.slice none 0 0] 33) := ⟨_, rfl⟩
  have hb1 : Below w.heap.size w w1 := by rw [hw1]; exact ((Below.refl _ _).alloc (Nat.le_refl _) _).alloc (by simp) _
  have hp1 : Row w1 w.heap.size 31 #[ptr gb] := by rw [hw1]; exact (Row.fresh w _ _).past _
  have hv1 : Row w1 (w.heap.size + 1) 33 #[.slice none 0 0] := by
    rw [hw1]
    have := Row.fresh (w.alloc (.cells #[ptr gb] 31)) 33 #[.slice none 0 0]
    rwa [World.size_alloc] at this
  have hs1 : w1.heap.size = w.heap.size + 2 := by rw [hw1]; simp
  obtain ⟨w2, hw2⟩ : ∃ w2, w2 = (w1.alloc (.cells #[ptr gb] 31)).alloc (.cells #[.slice (some ⟨sb, 0, none⟩) X.length d] 33) := ⟨_, rfl⟩
  have hb2 : Below w1.heap.size w1 w2 := by rw [hw2]; exact ((Below.refl _ _).alloc (Nat.le_refl _) _).alloc (by simp) _
  have hq2 : PairM w2 (w1.heap.size + 1) sb w1.heap.size gb n a l c oi oc ii ic X d := by
    have hb := hb1.trans (hb2.mono (by omega))
    refine ⟨?_, hs.under hb hs.lt, ?_, Row.under hg hb (Row.lt hg), hA.under hb⟩
    · rw [hw2]
      have := Row.fresh (w1.alloc (.cells #[ptr gb] 31)) 33 #[.slice (some ⟨sb, 0, none⟩) X.length d]
      rwa [World.size_alloc] at this
    · rw [hw2]; exact (Row.fresh w1 _ _).past _
  have hs2 : w2.heap.size = w1.heap.size + 2 := by rw [hw2]; simp
  have hb02 := hb1.trans (hb2.mono (by omega))
  have hold := hq2.old
  have hgl := Row.lt hg
  have hsl := hs.lt
  have hal : ∀ b o, a = some ⟨b, o, none⟩ → l ≠ [] → b < w.heap.size := fun b o e hne => by
    have hl0 : 0 < l.length := List.length_pos_iff.2 hne
    obtain ⟨b', o', e', x0, _⟩ := hA.at_ hl0
    rw [e] at e'
    cases e'
    exact block_lt_of_cell x0
  have HO := Lib.hid (show Clean (fun k => k = w.heap.size + 1) (w1.heap.size + 1) sb w1.heap.size gb a l from ⟨⟨by omega, by omega, by omega, by omega⟩, fun b o e hne => by have := hal b o e hne; omega⟩)
  have HSeq := Lib.hid (pairs_seq (6 - 1) (fun k => k = w.heap.size + 1) (by omega) hq2 HO.out hX hl hd)
  have HI := Lib.hid (show PickI w w1.heap.size gb n a l c oi oc ii ic (w1.heap.size + 1) sb X d w2.heap.size [] (fun _ => False) w2 from ⟨.slice none 0 0, hv1.under hb2 (by omega), World.ownsRow_nil _ _ _ _, fun k e => (by cases e), hp1.under hb2 (by omega), hq2, hb02, Nat.le_refl _⟩)
  have HAb := Lib.hid (PickI.abide (K := w2.heap.size) hb02 (by omega) hq2)
  have HOld := Lib.hid hold
  have HS := Lib.hid (And.intro hs1 (And.intro hs2 (And.intro hX (And.intro hd hl))))
  have HOk := Lib.hid hok
  have HW1 := Lib.hid hw1
  have HW2 := Lib.hid hw2
  clear hg hA hok hs hX hl hd hb1 hp1 hv1 hs1 hb2 hq2 hs2 hb02 hold hgl hsl hal hw1 hw2
  refine (callsIn_wide (n := 6)).1 ?_
  refine callsIn_of_wp_marks Tryz.func59 rfl trivial ?_ rfl
  simp only [Tryz.ntmps59, List.size_toArray, List.length_cons, List.length_nil, Nat.reduceAdd, Nat.reduceSub, Array.replicate_succ, Array.replicate_zero, List.push_toArray, List.append_toArray, List.nil_append, List.cons_append]
  refine wpIn_mono ?_ noP_le
  rw [wpIn_wide]
  go_wp2
  go_step3
  go_wp2
  go_step3
  go_wp2_with (first | (go_at_call 108; rw [← HW1.out]; refine (pairs_any _ _ _ _ _).mono ?_; rintro e w3 ⟨rfl, hw3⟩; rw [← HW2.out] at hw3; subst w3))
  refine (wpIn_wide (n := 6)).1 ?_
  refine wpIn_rangeFunc_sep1 (F := Fence.wide) rfl (by omega) (gf := 131) (lb := #[ptr (w1.heap.size + 1), ptr w1.heap.size]) rfl trivial (enters_of Tryz.func131 (by kernel_rfl) rfl) HSeq.out (fun k h => by have := HS.out; omega) (fun _ => rfl)
    (PickI w w1.heap.size gb n a l c oi oc ii ic (w1.heap.size + 1) sb X d w2.heap.size) (fun _ _ _ _ => False) HAb.out (fun _ _ _ _ _ h _ _ => h.elim) HI.out (mk := ?mk) ?assign ?body ?done ?stop
  case assign =>
    intro lb x W K hK
    gi_wp2
    exact hK
  case body =>
    rintro lb pre z T W ⟨v, r1, r2, r3, r4, r5, r6, r7⟩ hR hT hW
    have hz := grp_in (X := X) (same := sameE l) X.length 0 0 (Nat.sub_zero _) (Nat.le_refl _) (Nat.zero_le _) z (by
      obtain ⟨rest, e⟩ := hR
      rw [List.drop_zero, e]
      simp)
    have hz12 : z.1 < z.2 := hz.2.1
    have hz2 : z.2 ≤ X.length := hz.2.2
    have hlen : pre.length + 1 ≤ X.length := by
      obtain ⟨rest, e⟩ := hR
      have h1 := grp_len (X := X) (same := sameE l) X.length 0 0 (Nat.sub_zero _) (Nat.zero_le _)
      rw [List.drop_zero, e] at h1
      simp at h1
      omega
    obtain ⟨m, hm⟩ : ∃ m, m = z.2 - z.1 := ⟨_, rfl⟩
    have hm0 : 0 < m := by omega
    have hm0' : (0 : Int) < (m : Int) := by omega
    have hmX : (m : Int) ≤ 67108864 := by have := HS.out.2.2.2.2; omega
    have hsg : (segL X z).length = m := by rw [segL_len hz2, hm]
    have hat : ∀ i, i < m → X[z.1 + i]? = (segL X z)[i]? := fun i h => by
      rw [List.getElem?_eq_getElem (show z.1 + i < X.length by omega), List.getElem?_eq_getElem (show i < (segL X z).length by omega), segL_at hz2 (by omega)]
    have hGl : ∀ x ∈ segL X z, x < l.length := fun x hx => HS.out.2.2.1 x (List.mem_of_mem_take (List.mem_of_mem_drop hx))
    have hst := Lib.hid (show ∀ k, (nsV X)[z.1 + k]? = ((segL X z)[k]?.map fun n => Value.int .i64 (n : Nat)) ∨ ¬ k < m from fun k => by
      by_cases h : k < m
      · left
        rw [← hat k h]
        simp
      · exact .inr h)
    have hpc : outL l X (pre ++ [z]) = outL l X pre ++ (pickG l (segL X z)).toList := by
      unfold outL
      rw [List.filterMap_append]
      cases hp : pickG l (segL X z) <;> simp [hp]
    generalize hGe : segL X z = G at *
    obtain ⟨b0, G', rfl⟩ : ∃ b0 G', G = b0 :: G' := by
      cases G with
      | nil => simp at hsg; omega
      | cons b t => exact ⟨b, t, rfl⟩
    have x0 := r5.s.cell z.1
    have hst0 := hst.out 0
    rw [Nat.add_zero] at hst0
    rw [hst0.resolve_right (by omega)] at x0
    simp only [List.getElem?_cons_zero, Option.map_some] at x0
    have hb0 : b0 < l.length := hGl b0 (by simp)
    have HQ := Lib.hid (And.intro r1 (And.intro r2 (And.intro r3 (And.intro r4 (And.intro r5 (And.intro r6 r7))))))
    have HT := Lib.hid (And.intro hT hW)
    have HZ := Lib.hid (And.intro hpc (And.intro hsg (And.intro hGl hlen)))
    rw [← hm]
    clear r1 r2 r3 r4 r5 r6 r7 hT hW hz hz12 hz2 hsg hat hlen hR hm hGe hGl hpc hst0
    gi_wp2
    gi_loopw [7, 20] (fun bb i wr => ∃ k best : Nat, bb = .int .i64 best ∧ i = .int .i64 k ∧ k ≤ m ∧ best = bst l b0 ((b0 :: G').take k) ∧ (∀ x ∈ (b0 :: G').take k, fromN l x ≠ toN l x) ∧ best < l.length ∧ Below W.heap.size W wr) (fun _ i _ => m - (intOf i).toNat)
    case atStart => exact ⟨0, b0, rfl, rfl, Nat.zero_le _, rfl, fun x hx => (by cases hx), hb0, Below.refl _ _⟩
    case round =>
      obtain ⟨k, best, rfl, rfl, hk, hbest, hne, hbl, hbw⟩ := hrel
      by_cases hlt : k < m
      · have hlt' : (k : Int) < (m : Int) := by omega
        have hkG : k < (b0 :: G').length := by rw [HZ.out.2.1]; exact hlt
        have hst1 := (hst.out k).resolve_right (by omega)
        rw [List.getElem?_eq_getElem hkG] at hst1
        simp only [Option.map_some] at hst1
        have hTk := List.take_succ_eq_append_getElem hkG
        have hxl := HZ.out.2.2.1 _ (List.getElem_mem hkG)
        have hmem := List.getElem_mem hkG
        generalize hxe : (b0 :: G')[k]'hkG = kk at *
        have q5 := HQ.out.2.2.2.2.1.under hbw
        have q4 := HQ.out.2.2.2.1.under hbw HQ.out.2.2.2.1.lt
        have x1 := q5.s.cell (z.1 + k)
        rw [hst1] at x1
        have hw1 : IntKind.i64.wrap ((k : Int) + 1) = (k : Int) + 1 := by rw [IntKind.wrap_i64]; omega
        have hxl' : (kk : Int) < (l.length : Int) := by omega
        have hbl' : (best : Int) < (l.length : Int) := by omega
        obtain ⟨ba, oa, hae, y0, y1, y2⟩ := q5.h.at_ hxl
        obtain ⟨ba', oa', hae', _, _, v2⟩ := q5.h.at_ hbl
        rw [hae] at hae'
        obtain ⟨rfl, rfl⟩ : ba = ba' ∧ oa = oa' := by simpa using hae'
        have p0 := q4.cell 0
        have g1 := Row.cell q5.g 1
        simp only [List.getElem?_toArray, List.getElem?_cons_zero, List.getElem?_cons_succ] at p0 g1
        rw [hae] at g1
        have hok1 := HOk.out.at_ hxl
        have hwx : wN l kk = (l[kk]'hxl).2.2 := by unfold wN; rw [List.getElem?_eq_getElem hxl]; rfl
        have hwy : wN l best = (l[best]'hbl).2.2 := by unfold wN; rw [List.getElem?_eq_getElem hbl]; rfl
        generalize l[kk]'hxl = x at *
        generalize l[best]'hbl = y at *
        have HR := Lib.hid (And.intro hbest (And.intro hne (And.intro hbw (And.intro hTk (And.intro hxl (And.intro hmem (And.intro hok1 (And.intro hwx (And.intro hwy (And.intro hbl hae))))))))))
        have hSt := Lib.hid (show ∀ W', Below wr.heap.size wr W' → (W'.cell? ⟨w.heap.size, 0, none⟩ = some (ptr gb) ∧ W'.cell? ⟨gb, 1, none⟩ = some (.slice (some ⟨ba, oa, none⟩) l.length c) ∧ W'.cell? ⟨ba, oa + best * 3 + 2, none⟩ = some (.int .i64 y.2.2)) from fun W' hW' => ⟨(hW'.cell (block_lt_of_cell p0)).trans p0, (hW'.cell (block_lt_of_cell g1)).trans g1, (hW'.cell (block_lt_of_cell v2)).trans v2⟩)
        clear hbest hne hbw hTk hxl hmem hok1 hwx hwy hbl hae hae' q4 q5 hst1 hxe hkG v2
        obtain ⟨x0, x1', x2⟩ := x
        simp only at y0 y1 y2
        by_cases hloop : x0 = x1'
        · subst hloop
          gi_wp2
          have hb9 : Below W.heap.size W (wr.alloc (.cells #[.int .i64 x0, .int .i64 x0, .int .i64 x2] 88)) := HR.out.2.2.1.alloc HR.out.2.2.1.size _
          refine ⟨T, (PickI.under ⟨v, HQ.out⟩ hb9).skip ?_, ⟨fun _ h => h, fun _ h => .inl h, fun k h => Nat.lt_of_lt_of_le (HT.out.1 k h).2 hb9.size, Only.of_below _ hb9⟩⟩
          rw [HZ.out.1, pickG_none HR.out.2.2.2.2.2.1 (by have h := HR.out.2.2.2.2.2.2.1; have h1 := h.1; have h2 := h.2.1; (try simp only at h1 h2); omega)]
          simp
        · have hl2 : (x0 == x1') = false := by simpa using hloop
          have hb9 := Lib.hid (show Below W.heap.size W (wr.alloc (.cells #[.int .i64 x0, .int .i64 x1', .int .i64 x2] 88)) from HR.out.2.2.1.alloc HR.out.2.2.1.size _)
          have HN := Lib.hid (show ∀ u ∈ (b0 :: G').take (k + 1), fromN l u ≠ toN l u by
            rw [HR.out.2.2.2.1]
            intro u hu
            rcases List.mem_append.1 hu with hu | hu
            · exact HR.out.2.1 u hu
            · simp at hu
              subst hu
              have h := HR.out.2.2.2.2.2.2.1
              have h1 := h.1
              have h2 := h.2.1
              (try simp only at h1 h2)
              omega)
          have HBs := Lib.hid (show bst l b0 ((b0 :: G').take (k + 1)) = if x2 < y.2.2 then kk else best by
            rw [HR.out.2.2.2.1, bst_snoc, ← HR.out.1, HR.out.2.2.2.2.2.2.2.1, HR.out.2.2.2.2.2.2.2.2.1])
          have hqr := Row.fresh wr 88 #[.int .i64 x0, .int .i64 x1', .int .i64 x2]
          have HSt := Lib.hid (show ∀ W', Below (wr.alloc (.cells #[.int .i64 x0, .int .i64 x1', .int .i64 x2] 88)).heap.size (wr.alloc (.cells #[.int .i64 x0, .int .i64 x1', .int .i64 x2] 88)) W' → (W'.cell? ⟨wr.heap.size, 2, none⟩ = some (.int .i64 x2) ∧ W'.cell? ⟨w.heap.size, 0, none⟩ = some (ptr gb) ∧ W'.cell? ⟨gb, 1, none⟩ = some (.slice (some ⟨ba, oa, none⟩) l.length c) ∧ W'.cell? ⟨ba, oa + best * 3 + 2, none⟩ = some (.int .i64 y.2.2)) from fun W' hW' => ⟨(hqr.under hW' hqr.lt).cell 2, hSt.out W' (((Below.refl wr.heap.size wr).alloc (Nat.le_refl _) _).trans (hW'.mono (by simp)))⟩)
          clear hqr hSt
          gi_wp2
          clear p0 g1 y0 y1 y2 x1
          generalize hqb : wr.heap.size = qb at *
          generalize hwq : wr.alloc (.cells #[.int .i64 x0, .int .i64 x1', .int .i64 x2] 88) = wq at *
          have HQB := Lib.hid (And.intro hqb hwq)
          clear hqb hwq
          refine wpIn_region_held_loop (S := fun W => W.cell? ⟨qb, 2, none⟩ = some (.int .i64 x2) ∧ W.cell? ⟨w.heap.size, 0, none⟩ = some (ptr gb) ∧ W.cell? ⟨gb, 1, none⟩ = some (.slice (some ⟨ba, oa, none⟩) l.length c) ∧ W.cell? ⟨ba, oa + best * 3 + 2, none⟩ = some (.int .i64 y.2.2)) (by kernel_rfl) (by kernel_rfl) (HSt.out _ (Below.refl _ _).drew) (fun hHeld => ?_)
          refine wpAnyH_take (i := 0) (oi := ⟨some 38, _, _, _, _, _⟩) (v := ?_) rfl (by kernel_rfl) (by kernel_rfl) (by kernel_rfl) (fun _ _ _ h => h) (Or.inl ⟨by rfl, ?_⟩) hHeld ?_
          rotate_left
          · intro W hSw
            obtain ⟨s0, s1, s2, s3⟩ := hSw
            go_simp
            with_reducible rfl
          simp only [Act.put, List.setIfInBounds_toArray, List.set_cons_zero, List.set_cons_succ]
          refine wpAnyH_take (i := 1) (oi := ⟨some 39, _, _, _, _, _⟩) (v := ?_) rfl (by kernel_rfl) (by kernel_rfl) (by kernel_rfl) (fun _ _ _ h => h) (Or.inl ⟨by rfl, ?_⟩) hHeld ?_
          rotate_left
          · intro W hSw
            obtain ⟨s0, s1, s2, s3⟩ := hSw
            go_simp
            with_reducible rfl
          simp only [Act.put, List.setIfInBounds_toArray, List.set_cons_zero, List.set_cons_succ]
          refine wpAnyH_take (i := 2) (oi := ⟨some 40, _, _, _, _, _⟩) (v := ?_) rfl (by kernel_rfl) (by kernel_rfl) (by kernel_rfl) (fun _ _ _ h => h) (Or.inl ⟨by rfl, ?_⟩) hHeld ?_
          rotate_left
          · intro W hSw
            obtain ⟨s0, s1, s2, s3⟩ := hSw
            go_simp
            with_reducible rfl
          simp only [Act.put, List.setIfInBounds_toArray, List.set_cons_zero, List.set_cons_succ]
          refine wpAnyH_take (i := 3) (oi := ⟨some 41, _, _, _, _, _⟩) (v := ?_) rfl (by kernel_rfl) (by kernel_rfl) (by kernel_rfl) (fun _ _ _ h => h) (Or.inl ⟨by rfl, ?_⟩) hHeld ?_
          rotate_left
          · intro W hSw
            obtain ⟨s0, s1, s2, s3⟩ := hSw
            go_simp
            with_reducible rfl
          simp only [Act.put, List.setIfInBounds_toArray, List.set_cons_zero, List.set_cons_succ]
          refine wpAnyH_take (i := 4) (oi := ⟨some 42, _, _, _, _, _⟩) (v := ?_) rfl (by kernel_rfl) (by kernel_rfl) (by kernel_rfl) (fun _ _ _ h => h) (Or.inl ⟨by rfl, ?_⟩) hHeld ?_
          rotate_left
          · intro W hSw
            obtain ⟨s0, s1, s2, s3⟩ := hSw
            go_simp
            with_reducible rfl
          simp only [Act.put, List.setIfInBounds_toArray, List.set_cons_zero, List.set_cons_succ]
          refine wpAnyH_take (i := 5) (oi := ⟨some 43, _, _, _, _, _⟩) (v := ?_) rfl (by kernel_rfl) (by kernel_rfl) (by kernel_rfl) (fun _ _ _ h => h) (Or.inl ⟨by rfl, ?_⟩) hHeld ?_
          rotate_left
          · intro W hSw
            obtain ⟨s0, s1, s2, s3⟩ := hSw
            go_simp
            with_reducible rfl
          simp only [Act.put, List.setIfInBounds_toArray, List.set_cons_zero, List.set_cons_succ]
          refine wpAnyH_take (i := 6) (oi := ⟨some 44, _, _, _, _, _⟩) (v := ?_) rfl (by kernel_rfl) (by kernel_rfl) (by kernel_rfl) (fun _ _ _ h => h) (Or.inl ⟨by rfl, ?_⟩) hHeld ?_
          rotate_left
          · intro W hSw
            obtain ⟨s0, s1, s2, s3⟩ := hSw
            go_simp
            with_reducible rfl
          simp only [Act.put, List.setIfInBounds_toArray, List.set_cons_zero, List.set_cons_succ]
          refine wpAnyH_take (i := 7) (oi := ⟨some 45, _, _, _, _, _⟩) (v := ?_) rfl (by kernel_rfl) (by kernel_rfl) (by kernel_rfl) (fun _ _ _ h => h) (Or.inl ⟨by rfl, ?_⟩) hHeld ?_
          rotate_left
          · intro W hSw
            obtain ⟨s0, s1, s2, s3⟩ := hSw
            go_simp
            with_reducible rfl
          simp only [Act.put, List.setIfInBounds_toArray, List.set_cons_zero, List.set_cons_succ]
          refine wpAnyH_take (i := 8) (oi := ⟨some 46, _, _, _, _, _⟩) (v := ?_) rfl (by kernel_rfl) (by kernel_rfl) (by kernel_rfl) (fun _ _ _ h => h) (Or.inl ⟨by rfl, ?_⟩) hHeld ?_
          rotate_left
          · intro W hSw
            obtain ⟨s0, s1, s2, s3⟩ := hSw
            go_simp
            with_reducible rfl
          simp only [Act.put, List.setIfInBounds_toArray, List.set_cons_zero, List.set_cons_succ]
          refine wpAnyH_take (i := 9) (oi := ⟨some 47, _, _, _, _, _⟩) (v := ?_) rfl (by kernel_rfl) (by kernel_rfl) (by kernel_rfl) (fun _ _ _ h => h) (Or.inl ⟨by rfl, ?_⟩) hHeld ?_
          rotate_left
          · intro W hSw
            obtain ⟨s0, s1, s2, s3⟩ := hSw
            go_simp
            with_reducible rfl
          simp only [Act.put, List.setIfInBounds_toArray, List.set_cons_zero, List.set_cons_succ]
          refine wpAnyH_take (i := 10) (oi := ⟨some 48, _, _, _, _, _⟩) (v := ?_) rfl (by kernel_rfl) (by kernel_rfl) (by kernel_rfl) (fun _ _ _ h => h) (Or.inl ⟨by rfl, ?_⟩) hHeld ?_
          rotate_left
          · intro W hSw
            obtain ⟨s0, s1, s2, s3⟩ := hSw
            go_simp
            with_reducible rfl
          simp only [Act.put, List.setIfInBounds_toArray, List.set_cons_zero, List.set_cons_succ]
          refine wpAnyH_take (i := 11) (oi := ⟨some 37, _, _, _, _, _⟩) (v := ?_) rfl (by kernel_rfl) (by kernel_rfl) (by kernel_rfl) (fun _ _ _ h => h) (Or.inl ⟨by rfl, ?_⟩) hHeld ?_
          rotate_left
          · intro W hSw
            obtain ⟨s0, s1, s2, s3⟩ := hSw
            go_simp
            with_reducible rfl
          simp only [Act.put, List.setIfInBounds_toArray, List.set_cons_zero, List.set_cons_succ]
          refine wpAnyH_done (by kernel_rfl) ?_ _
          refine noO_normal ?_
          have hb10 := Lib.hid (show Below W.heap.size W wq.drew from hb9.out.drew)
          by_cases hlw : x2 < y.2.2
          · have hlw' : decide (x2 < y.2.2) = true := by simpa using hlw
            gi_wp2
            go_roundw
            case rel => exact ⟨k + 1, kk, rfl, by go_num, hlt, by rw [HBs.out, if_pos hlw], HN.out, HR.out.2.2.2.2.1, hb10.out⟩
            case measure => simp [intOf]; omega
          · have hlw' : decide (x2 < y.2.2) = false := by simpa using hlw
            gi_wp2
            go_roundw
            case rel => exact ⟨k + 1, best, rfl, by go_num, hlt, by rw [HBs.out, if_neg hlw], HN.out, HR.out.2.2.2.2.2.2.2.2.2.1, hb10.out⟩
            case measure => simp [intOf]; omega
      · obtain rfl : k = m := by omega
        have hlt' : ¬ (k : Int) < (k : Int) := by omega
        obtain ⟨av, cv, rfl, hvc, hav⟩ := owns_shape HQ.out.2.1
        have q1 := HQ.out.1.under hbw HQ.out.1.lt
        have hown := owns_only HQ.out.2.1 (Only.of_below (fun _ => False) hbw) (fun _ _ h => h)
        have p0 := q1.cell 0
        have m0 := q1.thaw 0
        simp only [List.getElem?_toArray, List.getElem?_cons_zero, List.getElem?_cons_succ] at p0
        have HR := Lib.hid (And.intro hbest (And.intro hne (And.intro hbl (And.intro hbw (And.intro q1 hown)))))
        clear hbest hne hbl hbw q1 hown hvc hav
        obtain ⟨i0, hi, hz0, hz1, hz2⟩ := info_partsC infoIC
        gi_wp2_with (gi_at_builtin; refine wpListIn_append_own_at _ rfl _ _ 33 rfl w2.heap.size 3 i0 (.int .i64 0) 1 8 Tryz.underlying33 hi hz0 hz1 hz2 rfl (by decide) _ _ (nsC (outL l X pre)) rfl (HR.out.2.2.2.2.2.alloc _) ⟨wr.heap.size, 0, none⟩ 1 1 [.int .i64 (best : Nat)] rfl rfl (cell_one_new _ _ _) (by simp [Value.oneCell']) (by unfold maxLen; have := HQ.out.2.2.2.2.2.2; have := HZ.out.2.2.2; have := HS.out.2.2.2.2; omega) (by have := HQ.out.2.2.2.2.2.2; have := HZ.out.2.2.2; have := HS.out.2.2.2.2; omega) (by have := HT.out.2; have := HR.out.2.2.2.1.size; simp; omega) ?_; intro v' w3 hown' hg3 _ hat3; obtain ⟨g', cap', rfl⟩ := ownsRow_succ hown'; have hb3 := ((HR.out.2.2.2.2.1.past (.cells #[.int .i64 (best : Nat)] 3)).only (only_grown (S := fun k => (Value.slice av (outL l X pre).length cv).ownBlock = some k) hg3 (fun k q => q)) (fun q => by have := (owns_lt HQ.out.2.1 _ q).1; have := HS.out; omega)); have p3 := hb3.cell 0; have m3 := hb3.thaw 0; have HA := Lib.hid (And.intro hown' (And.intro hg3 (And.intro hb3 hat3))); clear hown' hg3 hb3 hat3 p0 m0)
        have hpk : pickG l (b0 :: G') = some best := by
          have hall : (b0 :: G').take k = b0 :: G' := List.take_of_length_le (by rw [HZ.out.2.1]; exact Nat.le_refl _)
          have h1 := HR.out.1
          have h2 := HR.out.2.1
          rw [hall] at h1 h2
          rw [pickG_some h2, ← h1]
        have hout : outL l X (pre ++ [z]) = outL l X pre ++ [best] := by rw [HZ.out.1, hpk]; rfl
        have hbx : ∀ q, (Value.slice av (outL l X pre).length cv).ownBlock = some q → w2.heap.size ≤ q := fun q e => (owns_lt HQ.out.2.1 q e).1
        have hgr : Only (fun q => q = w.heap.size + 1 ∨ T q) W (w3.setCell ⟨w.heap.size + 1, 0, none⟩ (.slice (some ⟨g', 0, none⟩) ((outL l X pre).length + 1) cap')) := by
          refine Only.setCell (((Only.of_below _ HR.out.2.2.2.1).alloc _).grown HA.out.2.1 (fun q e => .inl (.inr (HQ.out.2.2.1 q e)))) (.inl (.inl rfl)) _
        have hTw := HT.out.1
        have hfar : ∀ q, q < w2.heap.size → q ≠ w.heap.size + 1 → ¬ (q = w.heap.size + 1 ∨ T q) := fun q h1 h2 h => by
          rcases h with h | h
          · exact h2 h
          · have := (hTw q h).1
            omega
        have hC := HO.out
        have hpm := HQ.out.2.2.2.2.1.only hgr ⟨⟨hfar _ HOld.out.1.1 hC.1.1, hfar _ HOld.out.1.2.1 hC.1.2.1, hfar _ HOld.out.1.2.2.1 hC.1.2.2.1, hfar _ HOld.out.1.2.2.2 hC.1.2.2.2⟩, fun b o e hne => hfar b (HOld.out.2 b o e hne) (hC.2 b o e hne)⟩
        have hs12 := HS.out
        refine ⟨_, ⟨.slice (some ⟨g', 0, none⟩) ((outL l X pre).length + 1) cap', ?_, ?_, ?_, ?_, hpm, ?_, ?_⟩, Ext.grow (fun q h => (hTw q h).2) hgr⟩
        · have := HA.out.2.2.1.put 0 (.slice (some ⟨g', 0, none⟩) ((outL l X pre).length + 1) cap')
          simpa using this
        · rw [hout, List.length_append, show nsC (outL l X pre ++ [best]) = nsC (outL l X pre) ++ [.int .i64 (best : Nat)] by simp]
          exact owns_only HA.out.1 ((Only.refl (fun q => q = w.heap.size + 1) w3).setCell (p := ⟨w.heap.size + 1, 0, none⟩) (.inl rfl) _) (fun q e h => by have := (owns_lt HA.out.1 q e).1; omega)
        · intro q e
          rcases HA.out.2.2.2 with h | h
          · exact .inl (HQ.out.2.2.1 q (h.symm.trans e))
          · right
            rw [e] at h
            injection h with h
            have h3 := (owns_lt HA.out.1 q e).2
            have h4 := HR.out.2.2.2.1.size
            rw [World.size_alloc] at h
            refine ⟨by omega, ?_⟩
            simp only [World.setCell, Array.size_modify]
            exact h3
        · exact HQ.out.2.2.2.1.only hgr (hfar _ (by omega) (by omega))
        · exact HQ.out.2.2.2.2.2.1.trans (hgr.below (K := w.heap.size) (fun q h => by
            rcases h with h | h
            · omega
            · have := (hTw q h).1
              omega) HQ.out.2.2.2.2.2.1.size)
        · rw [hout]
          have := HQ.out.2.2.2.2.2.2
          simp
          omega
  case done =>
    rintro D pre T W hD hpre ⟨v, r1, r2, r3, r4, r5, r6, r7⟩ hT hK
    have p0 := r1.cell 0
    simp only [List.getElem?_toArray, List.getElem?_cons_zero, List.getElem?_cons_succ] at p0
    have HZ := Lib.hid (And.intro r2 (And.intro r6 (And.intro hT (And.intro hK (And.intro hD (And.intro hpre r3))))))
    clear r1 r2 r3 r4 r5 r6 r7 hT hK hD hpre
    obtain ⟨av, cv, rfl, _, _⟩ := owns_shape HZ.out.1
    go_wp2
    refine noP_ret ?_
    refine ⟨by simp, .inl ⟨_, _, rfl, run_takeDeferred HZ.out.2.2.2.1, ?_⟩⟩
    have ho : Only (fun k => k = D) W (W.putObj D (.deferred none)) := Only.putObj _ rfl
    refine ⟨.slice av (outL l X pre).length cv, by simp [results, Tryz.results59, go_sem], ?_⟩
    have hs12 := HS.out
    have hD := HZ.out.2.2.2.2.1
    refine ⟨HZ.out.2.1.trans (ho.below (K := w.heap.size) (fun k e => by omega) HZ.out.2.1.size), _, rfl, ?_⟩
    have e : pickL l X = outL l X pre := by rw [HZ.out.2.2.2.2.2.1]; rfl
    rw [e]
    exact owns_base (owns_only HZ.out.1 ho (fun k e h => by have h1 := (HZ.out.2.2.1 k (HZ.out.2.2.2.2.2.2 k e)).1; omega)) (by omega)
  case stop =>
    rintro D cc pre T W _ h
    exact h.elim
end Go.Proofs.YtdkpdmpghibmmaaGreat
