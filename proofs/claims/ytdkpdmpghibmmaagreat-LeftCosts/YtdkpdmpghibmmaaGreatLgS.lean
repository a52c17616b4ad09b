/- left.New. -/
import Derived.Test.YtdkpdmpghibmmaaGreatM8
import Derived.Test.YtdkpdmpghibmmaaGreatGhV
import Derived.Test.YtdkpdmpghibmmaaGreatGhN
namespace Go.Proofs.YtdkpdmpghibmmaaGreat
open Go.RowKit Go.Maps Go.Shelf Grm Lay
/-- A way of each arc of these. -/
def arcW (l : List Ar) (k : Nat) : Wy := ((l.getD k (0, 0, 0)).2.2, -1, (k : Nat))
def newSt (n : Nat) (l : List Ar) (ks : List Nat) : LSt := ks.foldl (fun s k => s.lay (l.getD k (0, 0, 0)).1 (l.getD k (0, 0, 0)).2.1 (arcW l k)) ⟨List.replicate n 0, fun _ _ => none⟩
theorem newSt_lost (n : Nat) (l : List Ar) (ks : List Nat) : (newSt n l ks).lost = List.replicate n 0 := by
  unfold newSt
  suffices h : ∀ s : LSt, (ks.foldl (fun s k => s.lay (l.getD k (0, 0, 0)).1 (l.getD k (0, 0, 0)).2.1 (arcW l k)) s).lost = s.lost from h _
  induction ks with
  | nil => intro s; rfl
  | cons k ks ih => intro s; rw [List.foldl_cons, ih]; rfl
theorem newSt_snoc (n : Nat) (l : List Ar) (ks : List Nat) (k : Nat) : newSt n l (ks ++ [k]) = (newSt n l ks).lay (l.getD k (0, 0, 0)).1 (l.getD k (0, 0, 0)).2.1 (arcW l k) := by
  unfold newSt
  rw [List.foldl_append]
  rfl
theorem isv_at {w : World} {K : Nat} {v : Value} {t : List Int} (h : IsV w K v t) {j : Nat} (hj : j < t.length) : ∃ b c, v = .slice (some ⟨b, 0, none⟩) t.length c ∧ K ≤ b ∧ b < w.heap.size ∧ w.cell? ⟨b, j, none⟩ = some (.int .i64 (t[j]'hj)) := by
  rcases h.2 with ⟨rfl, h0⟩ | ⟨g, cap, cur, rfl, hK, hr, hc, _, hs, ht⟩
  · omega
  · have hl : g < w.heap.size := (Array.getElem?_eq_some_iff.1 hr).1
    have e1 : (t.map (Value.int .i64))[j]? = some (.int .i64 (t[j]'hj)) := by simp [hj]
    rw [← ht, List.getElem?_take_of_lt (by omega)] at e1
    refine ⟨g, cap, rfl, hK, hl, ?_⟩
    rw [cell_of_row w g _ cur _ _ hr]; simpa using e1
def L0 (l bl bo bi k : Nat) : Prop := k = l ∨ k = bl ∨ k = bo ∨ k = bi
structure NwI (w4 : World) (l bl bo bi n : Nat) (A : List Ar) (i : Nat) (go gi : Int → Option Nat) (wr : World) : Prop where
  lq : Lq wr l bl bo bi go gi (newSt n A ((keptL A).take i))
  blk : ∀ k, LB l bl bo bi go gi k → L0 l bl bo bi k ∨ w4.heap.size ≤ k
  only : Only (L0 l bl bo bi) w4 wr
theorem Only.cell {S : Nat → Prop} {w w' : World} (h : Only S w w') {p : Addr} (hp : p.block < w.heap.size) (hS : ¬ S p.block) : w'.cell? p = w.cell? p := by
  unfold World.cell?
  rw [h.block p.block hp hS]
theorem NwI.step {w4 wr wx w' : World} {l bl bo bi n i k : Nat} {A : List Ar} {go gi go' gi' : Int → Option Nat} (h : NwI w4 l bl bo bi n A i go gi wr) (hb : Below wr.heap.size wr wx) (hi : i < (keptL A).length) (hk : k = (keptL A)[i]'hi) (hkA : k < A.length)
    (h1 : Lq w' l bl bo bi go' gi' ((newSt n A ((keptL A).take i)).lay (A[k]'hkA).1 (A[k]'hkA).2.1 ((A[k]'hkA).2.2, -1, (k : Nat)))) (h2 : ∀ q, LB l bl bo bi go' gi' q → LB l bl bo bi go gi q ∨ wx.heap.size ≤ q) (h3 : Only (fun q => LB l bl bo bi go gi q) wx w') : NwI w4 l bl bo bi n A (i + 1) go' gi' w' := by
  have z1 := h.only.size
  have z2 := hb.size
  refine ⟨?_, fun q hq => ?_, (h.only.trans (S' := fun _ => False) (Only.of_below _ hb) (fun _ h => h.elim)).trans h3 (fun q hq => h.blk q hq)⟩
  · rw [List.take_succ_eq_append_getElem hi, ← hk, newSt_snoc]
    have e : A.getD k (0, 0, 0) = A[k]'hkA := by rw [List.getD_eq_getElem?_getD, List.getElem?_eq_getElem hkA]; rfl
    unfold arcW
    rw [e]
    exact h1
  · rcases h2 q hq with e | e
    · exact h.blk q e
    · exact .inr (by omega)
theorem side_none {α : Type} {R : Rd} (E : Elem α R) {w : World} {b N : Nat} (h : Mp eRef w b N fun _ => none) (F : Int → Int → Option α) (hF : ∀ i j, F i j = none) : Side E w b N (fun _ => none) F :=
  ⟨h, fun u c hc => (by cases hc), fun u _ v => hF u v, fun u u' c hc => (by cases hc), fun u c hc => (by cases hc)⟩
set_option maxRecDepth 100000 in
set_option maxHeartbeats 4000000 in
theorem left_new {w : World} {K M g n : Nat} {A : List Ar} (h : Gra w K M g n A) (hM : M ≤ w.heap.size) :
    Calls Tryz.prog 18 #[ptr g] w fun e w' => ∃ l bl bo bi go gi, e = .returned (ptr l) ∧ Lq w' l bl bo bi go gi (newSt n A (keptL A)) ∧ (∀ k, LB l bl bo bi go gi k → w.heap.size ≤ k) ∧ Below w.heap.size w w' := by
  have hmk1 : ∀ W : World, (Instr.makeMap 97 none).run Tryz.prog W = .ok (.map (some W.heap.size)) (W.alloc (.map #[] 0)) := fun W => rfl
  have hmk2 : ∀ W : World, (Instr.makeMap 98 none).run Tryz.prog W = .ok (.map (some W.heap.size)) (W.alloc (.map #[] 0)) := fun W => rfl
  obtain ⟨hok, hn, hl⟩ := h.ok
  have HG := Lib.hid (And.intro h (And.intro hok (And.intro hn (And.intro hl hM))))
  clear h hok hl hM
  go_enter Tryz.func18, Tryz.ntmps18
  go_wp2_with (first
    | (go_at_call 53; refine (n_any HG.out.1).mono ?_; rintro e w1 ⟨rfl, rfl⟩)
    | ((with_reducible show wpList _ _ _ (Oper.mk _ (Op.makeSlice _ _ _) _ _ _ _ :: _) _ _); refine Hp.wpList_makeZ rfl _ _ rfl n rfl rfl ?_ ?_; omega; intro w1 HR HW1))
  obtain ⟨w3, hw3⟩ : ∃ w3, w3 = ((w1.alloc (.map #[] 0)).alloc (.map #[] 0)).alloc (.cells #[.slice (some ⟨w.heap.size, 0, none⟩) n n, .map (some w1.heap.size), .map (some (w1.heap.size + 1))] 100) := ⟨_, rfl⟩
  have hb1 : Below w.heap.size w w1 := by rw [HW1.out]; exact (Below.refl _ _).alloc (Nat.le_refl _) _
  have hz1 : w1.heap.size = w.heap.size + 1 := by rw [HW1.out]; simp
  have hb13 : Below w1.heap.size w1 w3 := by rw [hw3]; exact (((Below.refl _ _).alloc (Nat.le_refl _) _).alloc (by simp) _).alloc (by simp; omega) _
  have hz3 : w3.heap.size = w1.heap.size + 3 := by rw [hw3]; simp
  have hb3 : Below w.heap.size w w3 := hb1.trans (hb13.mono (by omega))
  have hg3 := HG.out.1.under hb3
  have hrd : Row w3 (w1.heap.size + 1 + 1) 100 #[.slice (some ⟨w.heap.size, 0, none⟩) n n, .map (some w1.heap.size), .map (some (w1.heap.size + 1))] := by
    rw [hw3]
    have := Row.fresh ((w1.alloc (.map #[] 0)).alloc (.map #[] 0)) 100 #[.slice (some ⟨w.heap.size, 0, none⟩) n n, .map (some w1.heap.size), .map (some (w1.heap.size + 1))]
    rw [World.size_alloc, World.size_alloc] at this
    exact this
  have hm1 : Mp eRef w3 w1.heap.size n (fun _ => none) := by
    rw [hw3]
    exact ((Mp.made eRef w1 n).under ((Below.refl _ _).alloc (Nat.le_refl _) _)).under ((Below.refl _ _).alloc (Nat.le_refl _) _)
  have hm2 : Mp eRef w3 (w1.heap.size + 1) n (fun _ => none) := by
    rw [hw3]
    have := (Mp.made eRef (w1.alloc (.map #[] 0)) n).under ((Below.refl _ _).alloc (Nat.le_refl _) (.cells #[.slice (some ⟨w.heap.size, 0, none⟩) n n, .map (some w1.heap.size), .map (some (w1.heap.size + 1))] 100))
    rw [World.size_alloc] at this
    exact this
  have hlq : Lq w3 (w1.heap.size + 1 + 1) w.heap.size w1.heap.size (w1.heap.size + 1) (fun _ => none) (fun _ => none) (newSt n A []) := by
    have hrep : ∀ k, SideB w1.heap.size (fun _ => none) k → k = w1.heap.size := fun k hk => by
      rcases hk with e | ⟨_, e⟩
      · exact e
      · cases e
    have hrep2 : ∀ k, SideB (w1.heap.size + 1) (fun _ => none) k → k = w1.heap.size + 1 := fun k hk => by
      rcases hk with e | ⟨_, e⟩
      · exact e
      · cases e
    refine ⟨?_, ?_, ?_, ?_, ?_, ?_, ⟨by omega, fun k hk => ?_, fun k hk => ?_, fun k hk hk2 => ?_⟩⟩
    · simpa [newSt] using hrd
    · have := HR.out.under hb13 (by omega)
      simpa [newSt, intsV] using this
    · exact side_none eWay (by simpa [newSt] using hm1) _ (fun _ _ => rfl)
    · exact side_none eUnit (by simpa [newSt] using hm2) _ (fun _ _ => rfl)
    · simpa [newSt] using hn
    · intro x hx
      simp only [newSt, List.foldl_nil] at hx
      rw [List.eq_of_mem_replicate hx]
      omega
    · have := hrep k hk; omega
    · have := hrep2 k hk; omega
    · have := hrep k hk; have := hrep2 k hk2; omega
  obtain ⟨l, hll⟩ : ∃ l, l = w1.heap.size + 1 + 1 := ⟨_, rfl⟩
  obtain ⟨bo, hbo⟩ : ∃ bo, bo = w1.heap.size := ⟨_, rfl⟩
  obtain ⟨bi, hbi⟩ : ∃ bi, bi = w1.heap.size + 1 := ⟨_, rfl⟩
  have H3 := Lib.hid (And.intro hg3 (And.intro hb3 (And.intro (show Lq w3 l w.heap.size bo bi (fun _ => none) (fun _ => none) (newSt n A []) by rw [hll, hbo, hbi]; exact hlq) (show (w.heap.size ≤ l ∧ l < w3.heap.size) ∧ (w.heap.size ≤ bo ∧ bo < w3.heap.size) ∧ (w.heap.size ≤ bi ∧ bi < w3.heap.size) by omega))))
  have HW3 := Lib.hid hw3
  have HE := Lib.hid (And.intro hll (And.intro hbo hbi))
  clear hb1 hz1 hb13 hz3 hb3 hg3 hrd hm1 hm2 hlq hll hbo hbi hw3 hmk1 hmk2
  rw [← HW3.out, ← HE.out.1, ← HE.out.2.2, ← HE.out.2.1]
  refine (kept_any H3.out.1).mono ?_
  rintro e w4 ⟨hb4, x, rfl, hx⟩
  obtain ⟨ad, cc, rfl, _, _⟩ := owns_shape hx
  rw [List.length_map] at *
  have h4 : NwI w4 l w.heap.size bo bi n A 0 (fun _ => none) (fun _ => none) w4 := by
    refine ⟨by rw [List.take_zero]; exact H3.out.2.2.1.under hb4, fun k hk => .inl ?_, Only.refl _ _⟩
    rcases hk with e | e | (e | ⟨_, e⟩) | (e | ⟨_, e⟩)
    · exact .inl e
    · exact .inr (.inl e)
    · exact .inr (.inr (.inl e))
    · cases e
    · exact .inr (.inr (.inr e))
    · cases e
  have hz4 := hb4.size
  have hkl := keptL_len A
  have hAl : A.length ≤ 67108864 := HG.out.2.2.2.1
  have H4 := Lib.hid (And.intro h4 (And.intro hx hb4))
  clear h4 hx hb4
  go_wp2
  go_loopw [20] (fun vi wr => ∃ (i : Nat) (go gi : Int → Option Nat), i ≤ (keptL A).length ∧ vi = .int .i64 (i : Nat) ∧ NwI w4 l w.heap.size bo bi n A i go gi wr) (fun vi _ => (keptL A).length - (intOf vi).toNat)
  case atStart => exact ⟨0, _, _, Nat.zero_le _, rfl, H4.out.1⟩
  case round =>
    obtain ⟨i, go, gi, hi, rfl, hI⟩ := hrel
    have HI := Lib.hid hI
    clear hI
    by_cases hlt : i < (keptL A).length
    · obtain ⟨kk, hkk⟩ : ∃ kk, kk = (keptL A)[i]'hlt := ⟨_, rfl⟩
      have hmem : kk ∈ keptL A := by rw [hkk]; exact List.getElem_mem hlt
      have hkA : kk < A.length := by
        unfold keptL at hmem
        exact List.mem_range.1 (List.mem_filter.1 hmem).1
      obtain ⟨kb, c2, hsl, hkb, hkbl, hcell⟩ := isv_at H4.out.2.1 (j := i) (by simpa using hlt)
      injection hsl with e1 e2 e3
      subst e1
      simp only [List.getElem_map, ← hkk] at hcell
      have hbl : ¬ L0 l w.heap.size bo bi kb := by
        have := H3.out.2.2.2
        have := H3.out.2.1.size
        have := HG.out.2.2.2.2
        rintro (e | e | e | e)
        · omega
        · have := H3.out.2.2.1.lost.lt; omega
        · omega
        · omega
      have hcw : wr.cell? ⟨kb, i, none⟩ = some (.int .i64 (kk : Nat)) := by rw [HI.out.only.cell (p := ⟨kb, i, none⟩) hkbl hbl]; exact hcell
      have hgr : Gra wr K M g n A := (HG.out.1.under (H3.out.2.1.trans (H4.out.2.2.mono H3.out.2.1.size))).only HI.out.only (fun k _ hk2 hL => by
        have := HG.out.2.2.2.2
        have := H3.out.2.2.2
        rcases hL with e | e | e | e <;> omega)
      have hen := HG.out.2.1 _ (List.getElem_mem hkA)
      have hl2 := newSt_lost n A ((keptL A).take i)
      have HR5 := Lib.hid (And.intro hgr (And.intro hkk (And.intro hkA (And.intro hen hl2))))
      clear hgr hkk hen hl2 hcell hbl e2 e3 hmem
      go_wp2_with (first
        | (go_at_call 55; refine (arc_any HR5.out.1 kk hkA).mono ?_; rintro e w6 ⟨rfl, hb6⟩; have H6 := Lib.hid (show ∀ O, Below wr.heap.size wr (w6.alloc O) from fun O => hb6.alloc hb6.size O); clear hb6)
        | (go_at_call 56; refine (lay_any (HI.out.lq.under (H6.out _)) (u := (A[kk]'hkA).1) (v := (A[kk]'hkA).2.1) (by rw [HR5.out.2.2.2.2, List.length_replicate]; exact ⟨HR5.out.2.2.2.1.1, HR5.out.2.2.2.1.2.1⟩) (by rw [HR5.out.2.2.2.2, List.length_replicate]; exact HR5.out.2.2.2.1.2.2) ((A[kk]'hkA).2.2, -1, (kk : Nat))).mono ?_; rintro e w7 ⟨rfl, go', gi', p1, p2, p3⟩; have H7 := Lib.hid (HI.out.step (H6.out _) hlt HR5.out.2.1 hkA p1 p2 p3); clear p1 p2 p3))
      exact ⟨⟨i + 1, go', gi', hlt, by go_num, H7.out⟩, by simp [intOf]; omega⟩
    · have hiE : i = (keptL A).length := by omega
      go_wp2
      go_ret
      have h5 := HI.out
      rw [hiE] at h5
      refine ⟨l, w.heap.size, bo, bi, go, gi, rfl, by have := h5.lq; rwa [List.take_length] at this, fun k hk => ?_, ?_⟩
      · have hz := H3.out.2.1.size
        rcases h5.blk k hk with (e | e | e | e) | e
        · have := H3.out.2.2.2; omega
        · omega
        · have := H3.out.2.2.2; omega
        · have := H3.out.2.2.2; omega
        · omega
      · refine (H3.out.2.1.trans (H4.out.2.2.mono H3.out.2.1.size)).trans (h5.only.below (K := w.heap.size) (fun k hk => ?_) (by have := H3.out.2.1.size; omega))
        have := H3.out.2.2.2
        rcases hk with e | e | e | e <;> omega
end Go.Proofs.YtdkpdmpghibmmaaGreat
