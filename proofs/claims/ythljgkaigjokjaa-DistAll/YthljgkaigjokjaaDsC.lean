/- nearest's iterator (written by mkds.py). -/
import Derived.Test.YthljgkaigjokjaaM4
import Derived.Test.YthljgkaigjokjaaRound
namespace Go.Proofs.Ythljgkaigjokjaa
open Go.RowKit Go.Shelf Grm Lay
attribute [local go_sem] Oper.semAt_some
theorem nst_start {Wr T0 : Foot} {w W w2 : World} {N hb sb : Nat} {S : Foot} (hbW : Below w.heap.size w W) (hT0 : ∀ k, T0 k → w.heap.size ≤ k ∧ k < W.heap.size) (hB : Below W.heap.size W w2) (hh : Hp.Hq w2 hb S N (fun _ => none)) (hS : ∀ k, S k → W.heap.size ≤ k) (hr : Row w2 sb 4 (bsV (List.replicate N false))) (hsb : W.heap.size ≤ sb) (hns : ¬ S sb) :
    Nst Wr w hb sb T0 S N (fun _ => none) [] w2 := by
  have hz := hbW.size
  refine ⟨hh, fun k hk => Nat.le_trans hz (hS k hk), fun k hk ht => ?_, by rw [toldL_nil]; exact hr, Nat.le_trans hz hsb, fun ht => ?_, hns, fun k hk => ⟨(hT0 k hk).1, Nat.lt_of_lt_of_le (hT0 k hk).2 hB.size⟩, Only.of_below _ (hbW.trans (hB.mono hz))⟩
  · have := hS k hk
    have := (hT0 k ht).2
    omega
  · have := (hT0 sb ht).2
    omega
/-- What lies there behind the iterator's first statement. -/
def Begun (Wr T0 : Foot) (w W : World) (N : Nat) (p e : Value) (wx : World) : Prop := ∃ hb sb S, p = ptr hb ∧ e = .slice (some ⟨sb, 0, none⟩) N N ∧ Nst Wr w hb sb T0 S N (fun _ => none) [] wx ∧ Below W.heap.size W wx
theorem begun_a {Wr T0 : Foot} {w W w1 : World} {N hb : Nat} (hbW : Below w.heap.size w W) (hT0 : ∀ k, T0 k → w.heap.size ≤ k ∧ k < W.heap.size) (h : Hp.Newed W.drew N hb w1) :
    Begun Wr T0 w W N (ptr hb) (.slice (some ⟨w1.heap.size, 0, none⟩) N N) (w1.alloc (.cells (bsV (List.replicate N false)) 4)) := by
  obtain ⟨S, h1, h2, h3⟩ := h
  have hb1 : Below W.heap.size W w1 := (Below.refl W.heap.size W).drew.trans h3
  have hB : Below W.heap.size W (w1.alloc (.cells (bsV (List.replicate N false)) 4)) := hb1.alloc hb1.size _
  exact ⟨hb, _, S, rfl, rfl, nst_start hbW hT0 hB (h1.below ((Below.refl _ _).alloc (Nat.le_refl _) _)) h2 (Row.fresh w1 _ _) hb1.size (fun hs => by have := h1.lt _ hs; omega), hB⟩
theorem begun_b {Wr T0 : Foot} {w W w1 : World} {N hb : Nat} (hbW : Below w.heap.size w W) (hT0 : ∀ k, T0 k → w.heap.size ≤ k ∧ k < W.heap.size) (h : Hp.Newed (W.drew.alloc (.cells (bsV (List.replicate N false)) 4)) N hb w1) :
    Begun Wr T0 w W N (ptr hb) (.slice (some ⟨W.heap.size, 0, none⟩) N N) w1 := by
  obtain ⟨S, h1, h2, h3⟩ := h
  have hb0 : Below W.heap.size W (W.drew.alloc (.cells (bsV (List.replicate N false)) 4)) := ((Below.refl W.heap.size W).drew).alloc (Nat.le_refl _) _
  have hs0 : (W.drew.alloc (.cells (bsV (List.replicate N false)) 4)).heap.size = W.heap.size + 1 := by simp
  have hr : Row (W.drew.alloc (.cells (bsV (List.replicate N false)) 4)) W.heap.size 4 (bsV (List.replicate N false)) := Row.fresh W.drew _ _
  have hB : Below W.heap.size W w1 := hb0.trans (h3.mono (by omega))
  exact ⟨hb, _, S, rfl, rfl, nst_start hbW hT0 hB h1 (fun k hk => by have := h2 k hk; omega) (hr.under h3 hr.lt) (Nat.le_refl _) (fun hs => by have := h2 _ hs; omega), hB⟩
set_option maxRecDepth 100000 in
set_option maxHeartbeats 4000000 in
theorem near_none (m : Nat) {w : World} {bn bs bx N : Nat} {s : Int} (Wr : Foot) (_hm : 1 ≤ m) (hn : Row w bn 3 #[.int .i64 (N : Nat)]) (hs : Row w bs 3 #[.int .i64 s]) (hN : N ≤ 16777216) (hsN : s < 0 ∨ (N : Int) ≤ s) :
    SeqSep Fence.wide m Try.prog 74 #[ptr bn, ptr bs, ptr bx] (fun x : Nat × Int => #[.int .i64 (x.1 : Nat), .int .i64 x.2]) Wr (fun _ _ => False) (fun xs => xs = []) w := by
  intro lb J Jx T0 W hbW hJ hJx hY h0 hT0
  have hn' := hn.under hbW hn.lt
  have hs' := hs.under hbW hs.lt
  have HSt := Lib.hid (show ∀ W', Below W.heap.size W W' → W'.cell? ⟨bn, 0, none⟩ = some (.int .i64 (N : Nat)) from fun W' hW' => (hn'.under hW' hn'.lt).cell 0)
  have HSs := Lib.hid (show ∀ W', Below W.heap.size W W' → W'.cell? ⟨bs, 0, none⟩ = some (.int .i64 s) from fun W' hW' => (hs'.under hW' hs'.lt).cell 0)
  have HB0 := Lib.hid (And.intro h0 (And.intro hT0 (And.intro hJ hbW)))
  have HN := Lib.hid hN
  have HS := Lib.hid hsN
  clear hn hs hn' hs' hbW h0 hT0 hJ hJx hY hN hsN
  refine callsIn_of_wp Try.func74 rfl trivial ?_ rfl
  simp only [Try.ntmps74, List.size_toArray, List.length_cons, List.length_nil, Nat.reduceAdd, Nat.reduceSub, Array.replicate_succ, Array.replicate_zero, List.push_toArray, List.append_toArray, List.nil_append, List.cons_append]
  refine wpIn_wide.2 ?_
  go_step3
  go_wp2
  go_cut [5, 6] from 12 to 15 (fun p e wx => Begun Wr T0 w W N p e wx)
  case first =>
    refine wp_region_held_drew (S := fun W => W.cell? ⟨bn, 0, none⟩ = some (.int .i64 (N : Nat))) (by kernel_rfl) (HSt.out _ (Below.refl _ _).drew) (fun hHeld => ?_)
    refine wpAnyH_take (i := 0) (oi := ⟨some 12, _, _, _, _, _⟩) (v := ?_) rfl (by kernel_rfl) (by kernel_rfl) (by kernel_rfl) (fun _ _ _ h => h) (Or.inl ⟨by rfl, ?_⟩) hHeld ?_
    rotate_left
    · intro W hSw
      obtain c0 := hSw
      go_simp
      with_reducible rfl
    simp only [Act.put, List.setIfInBounds_toArray, List.set_cons_zero, List.set_cons_succ]
    refine wpAnyH_take (i := 2) (oi := ⟨some 14, _, _, _, _, _⟩) (v := ?_) rfl (by kernel_rfl) (by kernel_rfl) (by kernel_rfl) (fun _ _ _ h => h) (Or.inl ⟨by rfl, ?_⟩) hHeld ?_
    rotate_left
    · intro W hSw
      obtain c0 := hSw
      go_simp
      with_reducible rfl
    simp only [Act.put, List.setIfInBounds_toArray, List.set_cons_zero, List.set_cons_succ]
    refine wpAnyH_ready (rs := [1, 3]) (by kernel_rfl) (by simp) ?_
    refine (AllReadyH.cons (o := ⟨some 13, _, _, _, _, _⟩) rfl (fun K hK => ?_) (AllReadyH.cons (o := ⟨some 15, _, _, _, _, _⟩) rfl (fun K hK => ?_) AllReadyH.nil))
    · skip
      go_simp
      refine (Hp.new_in N _ HN.out).mono ?_
      rintro e w1 ⟨hb, rfl, hw1⟩
      have HNw := Lib.hid hw1
      have hB1 : Below W.heap.size W w1 := (Below.refl W.heap.size W).drew.trans (by obtain ⟨_, _, _, h⟩ := HNw.out; exact h)
      have HB1 := Lib.hid hB1
      clear hw1 hB1
      refine hK.out _ _ (HSt.out _ HB1.out) (fun hHeld2 => ?_)
      clear hK hHeld
      have hHeld := hHeld2
      clear hHeld2
      refine wpAnyH_take (i := 4) (oi := ⟨some 5, _, _, _, _, _⟩) (v := ?_) rfl (by kernel_rfl) (by kernel_rfl) (by kernel_rfl) (fun _ _ _ h => h) (Or.inl ⟨by rfl, ?_⟩) hHeld ?_
      rotate_left
      · intro W hSw
        obtain c0 := hSw
        go_simp
        with_reducible rfl
      simp only [Act.put, List.setIfInBounds_toArray, List.set_cons_zero, List.set_cons_succ]
      refine wpAnyH_ready (rs := [3]) (by kernel_rfl) (by simp) ?_
      refine (AllReadyH.cons (o := ⟨some 15, _, _, _, _, _⟩) rfl (fun K hK => ?_) AllReadyH.nil)
      refine step_makeBo rfl (.tmp 14) (.tmp 14) rfl _ N rfl rfl rfl (by have := HN.out; omega) ?_
      refine hK.out _ _ (HSt.out _ (HB1.out.alloc HB1.out.size _)) (fun hHeld2 => ?_)
      clear hK hHeld
      have hHeld := hHeld2
      clear hHeld2
      simp only [Act.put, List.setIfInBounds_toArray, List.set_cons_zero, List.set_cons_succ]
      refine wpAnyH_take (i := 5) (oi := ⟨some 6, _, _, _, _, _⟩) (v := ?_) rfl (by kernel_rfl) (by kernel_rfl) (by kernel_rfl) (fun _ _ _ h => h) (Or.inl ⟨by rfl, ?_⟩) hHeld ?_
      rotate_left
      · intro W hSw
        obtain c0 := hSw
        go_simp
        with_reducible rfl
      simp only [Act.put, List.setIfInBounds_toArray, List.set_cons_zero, List.set_cons_succ]
      refine wpAnyH_done (by kernel_rfl) ?_ _
      go_wp2
      go_meet
      exact begun_a HB0.out.2.2.2 HB0.out.2.1 HNw.out
    · skip
      refine step_makeBo rfl (.tmp 14) (.tmp 14) rfl _ N rfl rfl rfl (by have := HN.out; omega) ?_
      refine hK.out _ _ (HSt.out _ (((Below.refl W.heap.size W).drew).alloc (Nat.le_refl _) _)) (fun hHeld2 => ?_)
      clear hK hHeld
      have hHeld := hHeld2
      clear hHeld2
      simp only [Act.put, List.setIfInBounds_toArray, List.set_cons_zero, List.set_cons_succ]
      refine wpAnyH_ready (rs := [1]) (by kernel_rfl) (by simp) ?_
      refine (AllReadyH.cons (o := ⟨some 13, _, _, _, _, _⟩) rfl (fun K hK => ?_) AllReadyH.nil)
      go_simp
      refine (Hp.new_in N _ HN.out).mono ?_
      rintro e w1 ⟨hb, rfl, hw1⟩
      have HNw := Lib.hid hw1
      have hB1 : Below W.heap.size W w1 := (((Below.refl W.heap.size W).drew).alloc (Nat.le_refl _) _).trans (by obtain ⟨_, _, _, h⟩ := HNw.out; exact h.mono (by simp))
      have HB1 := Lib.hid hB1
      clear hw1 hB1
      refine hK.out _ _ (HSt.out _ HB1.out) (fun hHeld2 => ?_)
      clear hK hHeld
      have hHeld := hHeld2
      clear hHeld2
      refine wpAnyH_take (i := 4) (oi := ⟨some 5, _, _, _, _, _⟩) (v := ?_) rfl (by kernel_rfl) (by kernel_rfl) (by kernel_rfl) (fun _ _ _ h => h) (Or.inl ⟨by rfl, ?_⟩) hHeld ?_
      rotate_left
      · intro W hSw
        obtain c0 := hSw
        go_simp
        with_reducible rfl
      simp only [Act.put, List.setIfInBounds_toArray, List.set_cons_zero, List.set_cons_succ]
      refine wpAnyH_take (i := 5) (oi := ⟨some 6, _, _, _, _, _⟩) (v := ?_) rfl (by kernel_rfl) (by kernel_rfl) (by kernel_rfl) (fun _ _ _ h => h) (Or.inl ⟨by rfl, ?_⟩) hHeld ?_
      rotate_left
      · intro W hSw
        obtain c0 := hSw
        go_simp
        with_reducible rfl
      simp only [Act.put, List.setIfInBounds_toArray, List.set_cons_zero, List.set_cons_succ]
      refine wpAnyH_done (by kernel_rfl) ?_ _
      go_wp2
      go_meet
      exact begun_b HB0.out.2.2.2 HB0.out.2.1 HNw.out

  case rest =>
    obtain ⟨hb, sb, S, rfl, rfl, hns, hbc⟩ := hcut
    have hcs := HSs.out _ hbc
    have HC := Lib.hid (And.intro hns hbc)
    clear hns hbc
    go_wp2_with fail
    refine (Hp.set_out hb N S _ s 0 wc HC.out.1.heap HS.out).mono ?_
    rintro e w3 ⟨rfl, rfl⟩
    clear hcs
    go_wp2
    go_step3
    go_wp2
    go_loopw [19] (fun u wr => u = undef ∧ wr = w3) (fun _ _ => 0)
    case atStart => exact ⟨rfl, rfl⟩
    case round =>
      obtain ⟨rfl, rfl⟩ := hrel
      go_wp2_with fail
      refine (Hp.pop_any hb N S _ wr HC.out.1.heap).mono ?_
      rintro e w4 (⟨rfl, _, hd⟩ | ⟨i, k, _, hf, _⟩)
      · have HD := Lib.hid hd
        clear hd
        unfold Hp.told
        go_wp2
        rw [Exit.noGoto_normal]
        refine bodyPost_end (results_none rfl _ _ _) rfl ?_
        obtain ⟨S', hn', ho'⟩ := HC.out.1.did HD.out
        have hT := HB0.out.2.1
        have hoW := Only.of_below (fun k => w.heap.size ≤ k ∧ ¬ T0 k) HC.out.2
        exact ⟨⟨_, rfl⟩, T0, fun j h => (hn'.tlt j h).2, .inl ⟨[], rfl, HB0.out.2.2.1 [] T0 W _ HB0.out.1 (fun j h => (hT j h).2) (hoW.trans ho' (fun i hi => .inl hi))⟩⟩
      · have := hf.1
        cases this
theorem first_le {f : Nat → Option Int} {i : Nat} {k : Int} (h : Hp.isFirst f i k) (u : Nat) (q : Int) (hu : f u = some q) : k ≤ q := by
  rcases h.2 u q hu with h | ⟨h, _⟩ <;> omega
/-- The iterator at the head of its loop. -/
def NearR (E : Nat → List Ed) (N s : Nat) (Wr : Foot) (w : World) (hb sb : Nat) (J : List (Nat × Int) → Foot → World → Prop) (k : Nat) (wr : World) : Prop := ∃ pre f S T, pre.length + k = N ∧ J pre T wr ∧ Nst Wr w hb sb T S N f pre wr ∧ Dij E N 2147483648 s pre f none
/-- And at its edges. -/
def NearE (E : Nat → List Ed) (N s : Nat) (Wr : Foot) (w : World) (hb sb : Nat) (J : List (Nat × Int) → Foot → World → Prop) (pre : List (Nat × Int)) (T : Foot) (i : Nat) (k : Int) (L : List Ed) (a : Option Addr) (j : Nat) (wr : World) : Prop := ∃ f S, J pre T wr ∧ Nst Wr w hb sb T S N f pre wr ∧ Dij E N 2147483648 s pre f (some (i, k, L.take j)) ∧ Es wr a L ∧ ∀ b o, a = some ⟨b, o, none⟩ → L ≠ [] → ¬ S b ∧ b < wr.heap.size
theorem outI_at {n : Nat} {l : List Ar} {v : Nat} : outI n l (v : Int) = outE n l v := by unfold outI; rw [if_pos (by omega)]; simp
set_option maxRecDepth 100000 in
set_option maxHeartbeats 4000000 in
theorem near_out (m : Nat) {w : World} {bn bs bx N s K M g : Nat} {l : List Ar} (Wr : Foot) (_hm : 1 ≤ m) (hn : Row w bn 3 #[.int .i64 (N : Nat)]) (hs : Row w bs 3 #[.int .i64 (s : Nat)]) (hx : Row w bx 31 #[.func (.func 20) #[ptr g] #[]]) (hG : Gra w K M g N l) (hEd : Eds (outE N l) N 2147483648) (hsN : s < N) (hWr : ∀ k, Wr k → k < w.heap.size) (hWx : ¬ Wr bx) (hWg : ∀ k, K ≤ k → k < M → ¬ Wr k) (hM : M ≤ w.heap.size) :
    SeqSep Fence.wide m Try.prog 74 #[ptr bn, ptr bs, ptr bx] (fun x : Nat × Int => #[.int .i64 (x.1 : Nat), .int .i64 x.2]) Wr (fun pre x => IsD (outE N l) s x.1 x.2 ∧ ¬ In1 pre x.1 ∧ ∀ u d, ¬ In1 pre u → IsD (outE N l) s u d → x.2 ≤ d) (fun xs => ∀ u d, Wk (outE N l) s u d → In1 xs u) w := by
  intro lb J Jx T0 W hbW hJ hJx hY h0 hT0
  have hn' := hn.under hbW hn.lt
  have hs' := hs.under hbW hs.lt
  have HSt := Lib.hid (show ∀ W', Below W.heap.size W W' → W'.cell? ⟨bn, 0, none⟩ = some (.int .i64 (N : Nat)) from fun W' hW' => (hn'.under hW' hn'.lt).cell 0)
  have HSs := Lib.hid (show ∀ W', Below W.heap.size W W' → W'.cell? ⟨bs, 0, none⟩ = some (.int .i64 (s : Nat)) from fun W' hW' => (hs'.under hW' hs'.lt).cell 0)
  have HSx := Lib.hid (show ∀ W', Only (fun k => Wr k ∨ w.heap.size ≤ k) w W' → W'.cell? ⟨bx, 0, none⟩ = some (.func (.func 20) #[ptr g] #[]) ∧ Gra W' K M g N l from fun W' hW' => ⟨(hx.only hW' (fun h => h.elim hWx (fun h => by have := hx.lt; omega))).cell 0, hG.only hW' (fun k h1 h2 h => h.elim (hWg k h1 h2) (fun h => by omega))⟩)
  have HB0 := Lib.hid (And.intro h0 (And.intro hT0 (And.intro hJ hbW)))
  have HN := Lib.hid hG.ok.2.1
  have HS := Lib.hid (And.intro hsN (And.intro hEd hWr))
  have HY := Lib.hid (And.intro hY hJx)
  have hN9 : (N : Int) ≤ 16777216 := by have := hG.ok.2.1; omega
  clear hn hs hx hn' hs' hbW h0 hT0 hJ hJx hY hG hsN hEd hWr hWx hWg hM
  refine callsIn_of_wp Try.func74 rfl trivial ?_ rfl
  simp only [Try.ntmps74, List.size_toArray, List.length_cons, List.length_nil, Nat.reduceAdd, Nat.reduceSub, Array.replicate_succ, Array.replicate_zero, List.push_toArray, List.append_toArray, List.nil_append, List.cons_append]
  refine wpIn_wide.2 ?_
  go_step3
  go_wp2
  go_cut [5, 6] from 12 to 15 (fun p e wx => Begun Wr T0 w W N p e wx)
  case first =>
    refine wp_region_held_drew (S := fun W => W.cell? ⟨bn, 0, none⟩ = some (.int .i64 (N : Nat))) (by kernel_rfl) (HSt.out _ (Below.refl _ _).drew) (fun hHeld => ?_)
    refine wpAnyH_take (i := 0) (oi := ⟨some 12, _, _, _, _, _⟩) (v := ?_) rfl (by kernel_rfl) (by kernel_rfl) (by kernel_rfl) (fun _ _ _ h => h) (Or.inl ⟨by rfl, ?_⟩) hHeld ?_
    rotate_left
    · intro W hSw
      obtain c0 := hSw
      go_simp
      with_reducible rfl
    simp only [Act.put, List.setIfInBounds_toArray, List.set_cons_zero, List.set_cons_succ]
    refine wpAnyH_take (i := 2) (oi := ⟨some 14, _, _, _, _, _⟩) (v := ?_) rfl (by kernel_rfl) (by kernel_rfl) (by kernel_rfl) (fun _ _ _ h => h) (Or.inl ⟨by rfl, ?_⟩) hHeld ?_
    rotate_left
    · intro W hSw
      obtain c0 := hSw
      go_simp
      with_reducible rfl
    simp only [Act.put, List.setIfInBounds_toArray, List.set_cons_zero, List.set_cons_succ]
    refine wpAnyH_ready (rs := [1, 3]) (by kernel_rfl) (by simp) ?_
    refine (AllReadyH.cons (o := ⟨some 13, _, _, _, _, _⟩) rfl (fun K hK => ?_) (AllReadyH.cons (o := ⟨some 15, _, _, _, _, _⟩) rfl (fun K hK => ?_) AllReadyH.nil))
    · skip
      go_simp
      refine (Hp.new_in N _ HN.out).mono ?_
      rintro e w1 ⟨hb, rfl, hw1⟩
      have HNw := Lib.hid hw1
      have hB1 : Below W.heap.size W w1 := (Below.refl W.heap.size W).drew.trans (by obtain ⟨_, _, _, h⟩ := HNw.out; exact h)
      have HB1 := Lib.hid hB1
      clear hw1 hB1
      refine hK.out _ _ (HSt.out _ HB1.out) (fun hHeld2 => ?_)
      clear hK hHeld
      have hHeld := hHeld2
      clear hHeld2
      refine wpAnyH_take (i := 4) (oi := ⟨some 5, _, _, _, _, _⟩) (v := ?_) rfl (by kernel_rfl) (by kernel_rfl) (by kernel_rfl) (fun _ _ _ h => h) (Or.inl ⟨by rfl, ?_⟩) hHeld ?_
      rotate_left
      · intro W hSw
        obtain c0 := hSw
        go_simp
        with_reducible rfl
      simp only [Act.put, List.setIfInBounds_toArray, List.set_cons_zero, List.set_cons_succ]
      refine wpAnyH_ready (rs := [3]) (by kernel_rfl) (by simp) ?_
      refine (AllReadyH.cons (o := ⟨some 15, _, _, _, _, _⟩) rfl (fun K hK => ?_) AllReadyH.nil)
      refine step_makeBo rfl (.tmp 14) (.tmp 14) rfl _ N rfl rfl rfl (by have := HN.out; omega) ?_
      refine hK.out _ _ (HSt.out _ (HB1.out.alloc HB1.out.size _)) (fun hHeld2 => ?_)
      clear hK hHeld
      have hHeld := hHeld2
      clear hHeld2
      simp only [Act.put, List.setIfInBounds_toArray, List.set_cons_zero, List.set_cons_succ]
      refine wpAnyH_take (i := 5) (oi := ⟨some 6, _, _, _, _, _⟩) (v := ?_) rfl (by kernel_rfl) (by kernel_rfl) (by kernel_rfl) (fun _ _ _ h => h) (Or.inl ⟨by rfl, ?_⟩) hHeld ?_
      rotate_left
      · intro W hSw
        obtain c0 := hSw
        go_simp
        with_reducible rfl
      simp only [Act.put, List.setIfInBounds_toArray, List.set_cons_zero, List.set_cons_succ]
      refine wpAnyH_done (by kernel_rfl) ?_ _
      go_wp2
      go_meet
      exact begun_a HB0.out.2.2.2 HB0.out.2.1 HNw.out
    · skip
      refine step_makeBo rfl (.tmp 14) (.tmp 14) rfl _ N rfl rfl rfl (by have := HN.out; omega) ?_
      refine hK.out _ _ (HSt.out _ (((Below.refl W.heap.size W).drew).alloc (Nat.le_refl _) _)) (fun hHeld2 => ?_)
      clear hK hHeld
      have hHeld := hHeld2
      clear hHeld2
      simp only [Act.put, List.setIfInBounds_toArray, List.set_cons_zero, List.set_cons_succ]
      refine wpAnyH_ready (rs := [1]) (by kernel_rfl) (by simp) ?_
      refine (AllReadyH.cons (o := ⟨some 13, _, _, _, _, _⟩) rfl (fun K hK => ?_) AllReadyH.nil)
      go_simp
      refine (Hp.new_in N _ HN.out).mono ?_
      rintro e w1 ⟨hb, rfl, hw1⟩
      have HNw := Lib.hid hw1
      have hB1 : Below W.heap.size W w1 := (((Below.refl W.heap.size W).drew).alloc (Nat.le_refl _) _).trans (by obtain ⟨_, _, _, h⟩ := HNw.out; exact h.mono (by simp))
      have HB1 := Lib.hid hB1
      clear hw1 hB1
      refine hK.out _ _ (HSt.out _ HB1.out) (fun hHeld2 => ?_)
      clear hK hHeld
      have hHeld := hHeld2
      clear hHeld2
      refine wpAnyH_take (i := 4) (oi := ⟨some 5, _, _, _, _, _⟩) (v := ?_) rfl (by kernel_rfl) (by kernel_rfl) (by kernel_rfl) (fun _ _ _ h => h) (Or.inl ⟨by rfl, ?_⟩) hHeld ?_
      rotate_left
      · intro W hSw
        obtain c0 := hSw
        go_simp
        with_reducible rfl
      simp only [Act.put, List.setIfInBounds_toArray, List.set_cons_zero, List.set_cons_succ]
      refine wpAnyH_take (i := 5) (oi := ⟨some 6, _, _, _, _, _⟩) (v := ?_) rfl (by kernel_rfl) (by kernel_rfl) (by kernel_rfl) (fun _ _ _ h => h) (Or.inl ⟨by rfl, ?_⟩) hHeld ?_
      rotate_left
      · intro W hSw
        obtain c0 := hSw
        go_simp
        with_reducible rfl
      simp only [Act.put, List.setIfInBounds_toArray, List.set_cons_zero, List.set_cons_succ]
      refine wpAnyH_done (by kernel_rfl) ?_ _
      go_wp2
      go_meet
      exact begun_b HB0.out.2.2.2 HB0.out.2.1 HNw.out

  case rest =>
    obtain ⟨hb, sb, S, rfl, rfl, hns, hbc⟩ := hcut
    have hcs := HSs.out _ hbc
    have HC := Lib.hid (And.intro hns hbc)
    clear hns hbc
    go_wp2_with fail
    refine (Hp.set_in hb N s S _ 0 wc HC.out.1.heap HS.out.1).mono ?_
    rintro e w3 ⟨rfl, hd⟩
    obtain ⟨S1, hn1, ho1⟩ := HC.out.1.did hd
    have hR : NearR (outE N l) N s Wr w hb sb J N w3 := by
      have hoW := Only.of_below (fun k => w.heap.size ≤ k ∧ ¬ T0 k) HC.out.2
      exact ⟨[], _, S1, T0, by simp, HB0.out.2.2.1 [] T0 W _ HB0.out.1 (fun j h => (HB0.out.2.1 j h).2) (hoW.trans ho1 (fun i hi => .inl hi)), hn1, Dij.start fun v => by unfold Hp.upd; rfl⟩
    have H3 := Lib.hid hR
    clear hcs hd hn1 ho1 hR
    go_wp2
    go_step3
    go_wp2
    go_loopg [19] N (fun k u wr => NearR (outE N l) N s Wr w hb sb J k wr)
    case atStart => exact H3.out
    case round =>
      obtain ⟨pre, f, S2, T, hlen, hJs, hn2, hD2⟩ := hrel
      have H2 := Lib.hid (And.intro hlen (And.intro hJs (And.intro hn2 hD2)))
      clear hlen hJs hn2 hD2
      have HP := Lib.hid (callsIn_wide (n := m - 1).2 (Hp.pop_any hb N S2 f wr H2.out.2.2.1.heap))
      refine (wpIn_wide (n := m)).1 ?_
      gi_wp2_with fail
      refine ⟨trivial, HP.out.mono ?_⟩
      rintro e w4 (⟨rfl, hno, hd⟩ | ⟨i, k, rfl, hf, hd⟩)
      · obtain ⟨S', hn', ho'⟩ := H2.out.2.2.1.did hd
        have HD := Lib.hid (And.intro hno (And.intro hn' ho'))
        clear hno hd hn' ho'
        unfold Hp.told
        gi_wp2
        rw [Exit.noGoto_normal]
        refine bodyPost_end (results_none rfl _ _ _) rfl ?_
        exact ⟨⟨_, rfl⟩, T, fun j h => (HD.out.2.1.tlt j h).2, .inl ⟨pre, fun u d hw => H2.out.2.2.2.last HS.out.2.1 HD.out.1 hw, HB0.out.2.2.1 pre T wr _ H2.out.2.1 (fun j h => (H2.out.2.2.1.tlt j h).2) HD.out.2.2⟩⟩
      · obtain ⟨S', hn', ho'⟩ := H2.out.2.2.1.did hd
        have HF := Lib.hid (And.intro hf (H2.out.2.2.2.next HS.out.2.1 hf.1 (first_le hf)))
        have HT := Lib.hid (H2.out.2.2.2.tell HS.out.2.1 (by omega) HS.out.1 hf.1 (first_le hf) (fun _ => rfl : ∀ j, Hp.upd f i none j = if j = i then none else f j))
        have HJ4 := Lib.hid (HB0.out.2.2.1 pre T wr _ H2.out.2.1 (fun j h => (H2.out.2.2.1.tlt j h).2) ho')
        have Hn4 := Lib.hid hn'
        clear hf hd hn' ho'
        unfold Hp.told
        obtain ⟨fn, tmps, assign, body, hy, hRR⟩ := HY.out.1 pre (i, k) T w4 HJ4.out HF.out.2 Hn4.out.tlt Hn4.out.only.size
        have HRR := Lib.hid hRR
        clear hRR
        gi_wp2
        refine HRR.out.mono ?_
        rintro e W3 (⟨rfl, T', hJ3, he3⟩ | ⟨rfl, T', hJx3, he3⟩)
        · have hn3 := Hn4.out.yield HS.out.2.2 he3
          have hiN : i < N := HF.out.2.1.1.lt HS.out.2.1 HS.out.1
          have hi9 : (i : Int) < (N : Int) := by omega
          have hc3 := (hn3.row.cell i).trans (toldL_at hiN)
          have hf3 := hn3.row.thaw i
          have hl3 := hn3.row.lt
          obtain ⟨hn5, ho5⟩ := hn3.mark i k
          have hJ5 := HB0.out.2.2.1 _ T' W3 _ hJ3 (fun j h => (hn3.tlt j h).2) ho5
          obtain ⟨hx5, hg5⟩ := HSx.out _ hn5.only
          obtain ⟨w5, hw5⟩ : ∃ w5, w5 = W3.setCell ⟨sb, i, none⟩ (.bool true) := ⟨_, rfl⟩
          rw [← hw5] at hn5 ho5 hJ5 hx5 hg5
          have H5 := Lib.hid (And.intro hn5 (And.intro hJ5 hg5))
          have HW5 := Lib.hid hw5
          clear hn3 hJ3 he3 hn5 ho5 hJ5 hg5 hy
          rw [hw5] at hx5
          clear hw5
          gi_wp2_with fail
          rw [← HW5.out]
          refine ⟨trivial, (callsIn_wide (n := m - 1).2 (out_any H5.out.2.2 (i : Int))).mono ?_⟩
          rintro e w6 ⟨hb6, x6, rfl, hx6⟩
          obtain ⟨a6, c6, rfl, hE6, _, hfr6⟩ := EV.shape hx6
          obtain ⟨hn6, ho6⟩ := H5.out.1.below hb6
          have hJ6 := HB0.out.2.2.1 _ T' w5 w6 H5.out.2.1 (fun j h => (H5.out.1.tlt j h).2) ho6
          have hL9 : (((outI N l (i : Int)).length : Nat) : Int) ≤ 1000000000 := by have := outI_len N l (i : Int) HN.out; omega
          rw [outI_at] at hE6 hL9 ⊢
          obtain ⟨L, hL⟩ : ∃ L, L = outE N l i := ⟨_, rfl⟩
          rw [← hL] at hE6 hL9 ⊢
          have hR6 : NearE (outE N l) N s Wr w hb sb J (pre ++ [(i, k)]) T' i k L a6 0 w6 := ⟨_, S', hJ6, hn6, by rw [List.take_zero]; exact HT.out, hE6, fun b o e hne => by
            have h1 := hfr6 b o e
            refine ⟨fun hs => ?_, ?_⟩
            · have := H5.out.1.heap.lt b hs
              omega
            · obtain ⟨b', o', e', hc, _⟩ := hE6.at_ (List.length_pos_iff.2 hne)
              rw [e] at e'
              cases e'
              exact block_lt_of_cell hc⟩
          have H6 := Lib.hid (And.intro hR6 hL)
          clear hb6 hx6 hE6 hfr6 hn6 ho6 hJ6 hR6 hL hx5 hc3 hf3 hl3
          gi_wp2
          gi_loopw [41] (fun j wr => ∃ q : Nat, j = .int .i64 q ∧ q ≤ L.length ∧ NearE (outE N l) N s Wr w hb sb J (pre ++ [(i, k)]) T' i k L a6 q wr) (fun j _ => L.length - (intOf j).toNat)
          case atStart => exact ⟨0, rfl, by omega, H6.out.1⟩
          case round =>
            obtain ⟨q, rfl, hq, hne⟩ := hrel
            by_cases hlt : q < L.length
            · have hlt' : (q : Int) < (L.length : Int) := by omega
              have hw1 : IntKind.i64.wrap ((q : Int) + 1) = (q : Int) + 1 := by rw [IntKind.wrap_i64]; omega
              obtain ⟨f7, S7, hJ7, hn7, hd7, hE7, hb7⟩ := hne
              obtain ⟨b7, o7, rfl, z0, z1, z2⟩ := hE7.at_ hlt
              have hmem : L[q]'hlt ∈ outE N l i := by rw [← H6.out.2]; exact List.getElem_mem hlt
              obtain ⟨u, hu, huN⟩ := HS.out.2.1.dst _ _ hmem
              have hpos := HS.out.2.1.pos _ _ hmem
              have hle := HS.out.2.1.le _ _ hmem
              have htk := List.take_succ_eq_append_getElem hlt
              have hk0 : 0 ≤ k := (H2.out.2.2.2.heap i k HF.out.1.1).2.nonneg HS.out.2.1
              have hk1 : k ≤ (pre.length : Int) * 2147483648 := H2.out.2.2.2.small i k HF.out.1.1
              have hk2 : (pre.length : Int) ≤ 16777216 := by have := H2.out.1; omega
              have hk3 : k ≤ 36028797018963968 := by omega
              obtain ⟨hL0, hL1⟩ : L ≠ [] ∧ True := ⟨fun e => by subst e; simp at hlt, trivial⟩
              have hKeep := hb7 b7 o7 rfl hL0
              generalize L[q]'hlt = x at *
              obtain ⟨x0, x1, x2⟩ := x
              simp only at hu hpos hle z0 z1 z2
              subst hu
              have hws : IntKind.i64.wrap (k + x1) = k + x1 := by rw [IntKind.wrap_i64]; omega
              have hu9 : (u : Int) < (N : Int) := by omega
              obtain ⟨w8, hw8⟩ : ∃ w8, w8 = wr.alloc (.cells #[.int .i64 (u : Nat), .int .i64 x1, .int .i64 (x2 : Nat)] 37) := ⟨_, rfl⟩
              have hb8 : Below wr.heap.size wr w8 := by rw [hw8]; exact (Below.refl _ _).alloc (Nat.le_refl _) _
              obtain ⟨hn8, ho8⟩ := hn7.below hb8
              have hJ8 := HB0.out.2.2.1 _ T' wr w8 hJ7 (fun j h => (hn7.tlt j h).2) ho8
              have hc8 := (hn8.row.cell u).trans (toldL_at huN)
              have H8 := Lib.hid (And.intro hd7 (And.intro hn8 (And.intro hJ8 (And.intro (hE7.under hb8) (And.intro htk (And.intro hmem (And.intro hKeep (And.intro huN (And.intro hk1 hb8.size)))))))))
              have HW8 := Lib.hid hw8
              rw [hw8] at hc8
              clear hd7 hn7 hn8 hJ7 hJ8 ho8 hE7 hb7 hmem htk hb8 hw8 hk1 hKeep hL0 hL1
              by_cases hin : In1 (pre ++ [(i, k)]) u
              · rw [decide_eq_true hin] at hc8
                have HIn := Lib.hid hin
                clear hin
                gi_wp2
                rw [← HW8.out]
                go_roundw
                case rel => exact ⟨q + 1, by go_num, by omega, f7, S7, H8.out.2.2.1, H8.out.2.1, by rw [H8.out.2.2.2.2.1]; exact H8.out.1.pass rfl HIn.out, H8.out.2.2.2.1, fun b o e _ => by cases e; exact ⟨H8.out.2.2.2.2.2.2.1.1, Nat.lt_of_lt_of_le H8.out.2.2.2.2.2.2.1.2 H8.out.2.2.2.2.2.2.2.2.2⟩⟩
                case measure => simp [intOf]; omega
              · rw [decide_eq_false hin] at hc8
                have HIn := Lib.hid hin
                clear hin
                gi_wp2_with fail
                rw [← HW8.out]
                refine ⟨trivial, (callsIn_wide (n := m - 1).2 (shorten_any hb N u S7 f7 (k + x1) w8 H8.out.2.1.heap H8.out.2.2.2.2.2.2.2.1)).mono ?_⟩
                rintro e w9 ⟨rfl, hd9⟩
                obtain ⟨S9, hn9, ho9, hs9, hq9⟩ := H8.out.2.1.did2 hd9
                have hJ9 := HB0.out.2.2.1 _ T' w8 w9 H8.out.2.2.1 (fun j h => (H8.out.2.1.tlt j h).2) ho9
                have hE9 := H8.out.2.2.2.1.only hq9 (fun b o e _ => by cases e; exact H8.out.2.2.2.2.2.2.1.1)
                have hb9 : ¬ S9 b7 ∧ b7 < w9.heap.size := ⟨fun h => (hs9 b7 h).elim H8.out.2.2.2.2.2.2.1.1 (fun h => by have := H8.out.2.2.2.2.2.2.1.2; have := H8.out.2.2.2.2.2.2.2.2.2; omega), Nat.lt_of_lt_of_le H8.out.2.2.2.2.2.2.1.2 (Nat.le_trans H8.out.2.2.2.2.2.2.2.2.2 ho9.size)⟩
                have hD9 := H8.out.1.look HS.out.2.1 H8.out.2.2.2.2.2.1 rfl HIn.out (by have := H8.out.2.2.2.2.2.2.2.2.1; rw [List.length_append, List.length_singleton]; omega)
                have H9 := Lib.hid (And.intro hn9 (And.intro hJ9 (And.intro hE9 (And.intro hb9 hD9))))
                clear hd9 hn9 ho9 hs9 hq9 hJ9 hE9 hb9 hD9
                gi_wp2
                go_roundw
                case rel => exact ⟨q + 1, by go_num, by omega, _, S9, H9.out.2.1, H9.out.1, by rw [H8.out.2.2.2.2.1]; exact H9.out.2.2.2.2, H9.out.2.2.1, fun b o e _ => by cases e; exact H9.out.2.2.2.1⟩
                case measure => simp [intOf]; omega
            · obtain rfl : q = L.length := by omega
              have hlt' : ¬ (L.length : Int) < (L.length : Int) := by omega
              have HE := Lib.hid hne
              clear hne
              gi_wp2
              obtain ⟨f9, S9, hJ9, hn9, hd9, _⟩ := HE.out
              rw [List.take_length, H6.out.2] at hd9
              have hs9 := hd9.shut
              have h1 := hs9.short
              have h2 := H2.out.1
              rw [List.length_append, List.length_singleton] at h1
              go_roundg (gk - 1)
              case measure => omega
              case rel => exact ⟨_, f9, S9, T', by rw [List.length_append, List.length_singleton]; omega, hJ9, hn9, hs9⟩
        · gi_wp2
          rw [Exit.noGoto_normal]
          refine bodyPost_end (results_none rfl _ _ _) rfl ?_
          exact ⟨⟨_, rfl⟩, T', he3.lt, .inr ⟨_, hJx3⟩⟩
theorem inI_at {n : Nat} {l : List Ar} {v : Nat} : inI n l (v : Int) = inE n l v := by unfold inI; rw [if_pos (by omega)]; simp
set_option maxRecDepth 100000 in
set_option maxHeartbeats 4000000 in
theorem near_in (m : Nat) {w : World} {bn bs bx N s K M g : Nat} {l : List Ar} (Wr : Foot) (_hm : 1 ≤ m) (hn : Row w bn 3 #[.int .i64 (N : Nat)]) (hs : Row w bs 3 #[.int .i64 (s : Nat)]) (hx : Row w bx 31 #[.func (.func 21) #[ptr g] #[]]) (hG : Gra w K M g N l) (hEd : Eds (inE N l) N 2147483648) (hsN : s < N) (hWr : ∀ k, Wr k → k < w.heap.size) (hWx : ¬ Wr bx) (hWg : ∀ k, K ≤ k → k < M → ¬ Wr k) (hM : M ≤ w.heap.size) :
    SeqSep Fence.wide m Try.prog 74 #[ptr bn, ptr bs, ptr bx] (fun x : Nat × Int => #[.int .i64 (x.1 : Nat), .int .i64 x.2]) Wr (fun pre x => IsD (inE N l) s x.1 x.2 ∧ ¬ In1 pre x.1 ∧ ∀ u d, ¬ In1 pre u → IsD (inE N l) s u d → x.2 ≤ d) (fun xs => ∀ u d, Wk (inE N l) s u d → In1 xs u) w := by
  intro lb J Jx T0 W hbW hJ hJx hY h0 hT0
  have hn' := hn.under hbW hn.lt
  have hs' := hs.under hbW hs.lt
  have HSt := Lib.hid (show ∀ W', Below W.heap.size W W' → W'.cell? ⟨bn, 0, none⟩ = some (.int .i64 (N : Nat)) from fun W' hW' => (hn'.under hW' hn'.lt).cell 0)
  have HSs := Lib.hid (show ∀ W', Below W.heap.size W W' → W'.cell? ⟨bs, 0, none⟩ = some (.int .i64 (s : Nat)) from fun W' hW' => (hs'.under hW' hs'.lt).cell 0)
  have HSx := Lib.hid (show ∀ W', Only (fun k => Wr k ∨ w.heap.size ≤ k) w W' → W'.cell? ⟨bx, 0, none⟩ = some (.func (.func 21) #[ptr g] #[]) ∧ Gra W' K M g N l from fun W' hW' => ⟨(hx.only hW' (fun h => h.elim hWx (fun h => by have := hx.lt; omega))).cell 0, hG.only hW' (fun k h1 h2 h => h.elim (hWg k h1 h2) (fun h => by omega))⟩)
  have HB0 := Lib.hid (And.intro h0 (And.intro hT0 (And.intro hJ hbW)))
  have HN := Lib.hid hG.ok.2.1
  have HS := Lib.hid (And.intro hsN (And.intro hEd hWr))
  have HY := Lib.hid (And.intro hY hJx)
  have hN9 : (N : Int) ≤ 16777216 := by have := hG.ok.2.1; omega
  clear hn hs hx hn' hs' hbW h0 hT0 hJ hJx hY hG hsN hEd hWr hWx hWg hM
  refine callsIn_of_wp Try.func74 rfl trivial ?_ rfl
  simp only [Try.ntmps74, List.size_toArray, List.length_cons, List.length_nil, Nat.reduceAdd, Nat.reduceSub, Array.replicate_succ, Array.replicate_zero, List.push_toArray, List.append_toArray, List.nil_append, List.cons_append]
  refine wpIn_wide.2 ?_
  go_step3
  go_wp2
  go_cut [5, 6] from 12 to 15 (fun p e wx => Begun Wr T0 w W N p e wx)
  case first =>
    refine wp_region_held_drew (S := fun W => W.cell? ⟨bn, 0, none⟩ = some (.int .i64 (N : Nat))) (by kernel_rfl) (HSt.out _ (Below.refl _ _).drew) (fun hHeld => ?_)
    refine wpAnyH_take (i := 0) (oi := ⟨some 12, _, _, _, _, _⟩) (v := ?_) rfl (by kernel_rfl) (by kernel_rfl) (by kernel_rfl) (fun _ _ _ h => h) (Or.inl ⟨by rfl, ?_⟩) hHeld ?_
    rotate_left
    · intro W hSw
      obtain c0 := hSw
      go_simp
      with_reducible rfl
    simp only [Act.put, List.setIfInBounds_toArray, List.set_cons_zero, List.set_cons_succ]
    refine wpAnyH_take (i := 2) (oi := ⟨some 14, _, _, _, _, _⟩) (v := ?_) rfl (by kernel_rfl) (by kernel_rfl) (by kernel_rfl) (fun _ _ _ h => h) (Or.inl ⟨by rfl, ?_⟩) hHeld ?_
    rotate_left
    · intro W hSw
      obtain c0 := hSw
      go_simp
      with_reducible rfl
    simp only [Act.put, List.setIfInBounds_toArray, List.set_cons_zero, List.set_cons_succ]
    refine wpAnyH_ready (rs := [1, 3]) (by kernel_rfl) (by simp) ?_
    refine (AllReadyH.cons (o := ⟨some 13, _, _, _, _, _⟩) rfl (fun K hK => ?_) (AllReadyH.cons (o := ⟨some 15, _, _, _, _, _⟩) rfl (fun K hK => ?_) AllReadyH.nil))
    · skip
      go_simp
      refine (Hp.new_in N _ HN.out).mono ?_
      rintro e w1 ⟨hb, rfl, hw1⟩
      have HNw := Lib.hid hw1
      have hB1 : Below W.heap.size W w1 := (Below.refl W.heap.size W).drew.trans (by obtain ⟨_, _, _, h⟩ := HNw.out; exact h)
      have HB1 := Lib.hid hB1
      clear hw1 hB1
      refine hK.out _ _ (HSt.out _ HB1.out) (fun hHeld2 => ?_)
      clear hK hHeld
      have hHeld := hHeld2
      clear hHeld2
      refine wpAnyH_take (i := 4) (oi := ⟨some 5, _, _, _, _, _⟩) (v := ?_) rfl (by kernel_rfl) (by kernel_rfl) (by kernel_rfl) (fun _ _ _ h => h) (Or.inl ⟨by rfl, ?_⟩) hHeld ?_
      rotate_left
      · intro W hSw
        obtain c0 := hSw
        go_simp
        with_reducible rfl
      simp only [Act.put, List.setIfInBounds_toArray, List.set_cons_zero, List.set_cons_succ]
      refine wpAnyH_ready (rs := [3]) (by kernel_rfl) (by simp) ?_
      refine (AllReadyH.cons (o := ⟨some 15, _, _, _, _, _⟩) rfl (fun K hK => ?_) AllReadyH.nil)
      refine step_makeBo rfl (.tmp 14) (.tmp 14) rfl _ N rfl rfl rfl (by have := HN.out; omega) ?_
      refine hK.out _ _ (HSt.out _ (HB1.out.alloc HB1.out.size _)) (fun hHeld2 => ?_)
      clear hK hHeld
      have hHeld := hHeld2
      clear hHeld2
      simp only [Act.put, List.setIfInBounds_toArray, List.set_cons_zero, List.set_cons_succ]
      refine wpAnyH_take (i := 5) (oi := ⟨some 6, _, _, _, _, _⟩) (v := ?_) rfl (by kernel_rfl) (by kernel_rfl) (by kernel_rfl) (fun _ _ _ h => h) (Or.inl ⟨by rfl, ?_⟩) hHeld ?_
      rotate_left
      · intro W hSw
        obtain c0 := hSw
        go_simp
        with_reducible rfl
      simp only [Act.put, List.setIfInBounds_toArray, List.set_cons_zero, List.set_cons_succ]
      refine wpAnyH_done (by kernel_rfl) ?_ _
      go_wp2
      go_meet
      exact begun_a HB0.out.2.2.2 HB0.out.2.1 HNw.out
    · skip
      refine step_makeBo rfl (.tmp 14) (.tmp 14) rfl _ N rfl rfl rfl (by have := HN.out; omega) ?_
      refine hK.out _ _ (HSt.out _ (((Below.refl W.heap.size W).drew).alloc (Nat.le_refl _) _)) (fun hHeld2 => ?_)
      clear hK hHeld
      have hHeld := hHeld2
      clear hHeld2
      simp only [Act.put, List.setIfInBounds_toArray, List.set_cons_zero, List.set_cons_succ]
      refine wpAnyH_ready (rs := [1]) (by kernel_rfl) (by simp) ?_
      refine (AllReadyH.cons (o := ⟨some 13, _, _, _, _, _⟩) rfl (fun K hK => ?_) AllReadyH.nil)
      go_simp
      refine (Hp.new_in N _ HN.out).mono ?_
      rintro e w1 ⟨hb, rfl, hw1⟩
      have HNw := Lib.hid hw1
      have hB1 : Below W.heap.size W w1 := (((Below.refl W.heap.size W).drew).alloc (Nat.le_refl _) _).trans (by obtain ⟨_, _, _, h⟩ := HNw.out; exact h.mono (by simp))
      have HB1 := Lib.hid hB1
      clear hw1 hB1
      refine hK.out _ _ (HSt.out _ HB1.out) (fun hHeld2 => ?_)
      clear hK hHeld
      have hHeld := hHeld2
      clear hHeld2
      refine wpAnyH_take (i := 4) (oi := ⟨some 5, _, _, _, _, _⟩) (v := ?_) rfl (by kernel_rfl) (by kernel_rfl) (by kernel_rfl) (fun _ _ _ h => h) (Or.inl ⟨by rfl, ?_⟩) hHeld ?_
      rotate_left
      · intro W hSw
        obtain c0 := hSw
        go_simp
        with_reducible rfl
      simp only [Act.put, List.setIfInBounds_toArray, List.set_cons_zero, List.set_cons_succ]
      refine wpAnyH_take (i := 5) (oi := ⟨some 6, _, _, _, _, _⟩) (v := ?_) rfl (by kernel_rfl) (by kernel_rfl) (by kernel_rfl) (fun _ _ _ h => h) (Or.inl ⟨by rfl, ?_⟩) hHeld ?_
      rotate_left
      · intro W hSw
        obtain c0 := hSw
        go_simp
        with_reducible rfl
      simp only [Act.put, List.setIfInBounds_toArray, List.set_cons_zero, List.set_cons_succ]
      refine wpAnyH_done (by kernel_rfl) ?_ _
      go_wp2
      go_meet
      exact begun_b HB0.out.2.2.2 HB0.out.2.1 HNw.out

  case rest =>
    obtain ⟨hb, sb, S, rfl, rfl, hns, hbc⟩ := hcut
    have hcs := HSs.out _ hbc
    have HC := Lib.hid (And.intro hns hbc)
    clear hns hbc
    go_wp2_with fail
    refine (Hp.set_in hb N s S _ 0 wc HC.out.1.heap HS.out.1).mono ?_
    rintro e w3 ⟨rfl, hd⟩
    obtain ⟨S1, hn1, ho1⟩ := HC.out.1.did hd
    have hR : NearR (inE N l) N s Wr w hb sb J N w3 := by
      have hoW := Only.of_below (fun k => w.heap.size ≤ k ∧ ¬ T0 k) HC.out.2
      exact ⟨[], _, S1, T0, by simp, HB0.out.2.2.1 [] T0 W _ HB0.out.1 (fun j h => (HB0.out.2.1 j h).2) (hoW.trans ho1 (fun i hi => .inl hi)), hn1, Dij.start fun v => by unfold Hp.upd; rfl⟩
    have H3 := Lib.hid hR
    clear hcs hd hn1 ho1 hR
    go_wp2
    go_step3
    go_wp2
    go_loopg [19] N (fun k u wr => NearR (inE N l) N s Wr w hb sb J k wr)
    case atStart => exact H3.out
    case round =>
      obtain ⟨pre, f, S2, T, hlen, hJs, hn2, hD2⟩ := hrel
      have H2 := Lib.hid (And.intro hlen (And.intro hJs (And.intro hn2 hD2)))
      clear hlen hJs hn2 hD2
      have HP := Lib.hid (callsIn_wide (n := m - 1).2 (Hp.pop_any hb N S2 f wr H2.out.2.2.1.heap))
      refine (wpIn_wide (n := m)).1 ?_
      gi_wp2_with fail
      refine ⟨trivial, HP.out.mono ?_⟩
      rintro e w4 (⟨rfl, hno, hd⟩ | ⟨i, k, rfl, hf, hd⟩)
      · obtain ⟨S', hn', ho'⟩ := H2.out.2.2.1.did hd
        have HD := Lib.hid (And.intro hno (And.intro hn' ho'))
        clear hno hd hn' ho'
        unfold Hp.told
        gi_wp2
        rw [Exit.noGoto_normal]
        refine bodyPost_end (results_none rfl _ _ _) rfl ?_
        exact ⟨⟨_, rfl⟩, T, fun j h => (HD.out.2.1.tlt j h).2, .inl ⟨pre, fun u d hw => H2.out.2.2.2.last HS.out.2.1 HD.out.1 hw, HB0.out.2.2.1 pre T wr _ H2.out.2.1 (fun j h => (H2.out.2.2.1.tlt j h).2) HD.out.2.2⟩⟩
      · obtain ⟨S', hn', ho'⟩ := H2.out.2.2.1.did hd
        have HF := Lib.hid (And.intro hf (H2.out.2.2.2.next HS.out.2.1 hf.1 (first_le hf)))
        have HT := Lib.hid (H2.out.2.2.2.tell HS.out.2.1 (by omega) HS.out.1 hf.1 (first_le hf) (fun _ => rfl : ∀ j, Hp.upd f i none j = if j = i then none else f j))
        have HJ4 := Lib.hid (HB0.out.2.2.1 pre T wr _ H2.out.2.1 (fun j h => (H2.out.2.2.1.tlt j h).2) ho')
        have Hn4 := Lib.hid hn'
        clear hf hd hn' ho'
        unfold Hp.told
        obtain ⟨fn, tmps, assign, body, hy, hRR⟩ := HY.out.1 pre (i, k) T w4 HJ4.out HF.out.2 Hn4.out.tlt Hn4.out.only.size
        have HRR := Lib.hid hRR
        clear hRR
        gi_wp2
        refine HRR.out.mono ?_
        rintro e W3 (⟨rfl, T', hJ3, he3⟩ | ⟨rfl, T', hJx3, he3⟩)
        · have hn3 := Hn4.out.yield HS.out.2.2 he3
          have hiN : i < N := HF.out.2.1.1.lt HS.out.2.1 HS.out.1
          have hi9 : (i : Int) < (N : Int) := by omega
          have hc3 := (hn3.row.cell i).trans (toldL_at hiN)
          have hf3 := hn3.row.thaw i
          have hl3 := hn3.row.lt
          obtain ⟨hn5, ho5⟩ := hn3.mark i k
          have hJ5 := HB0.out.2.2.1 _ T' W3 _ hJ3 (fun j h => (hn3.tlt j h).2) ho5
          obtain ⟨hx5, hg5⟩ := HSx.out _ hn5.only
          obtain ⟨w5, hw5⟩ : ∃ w5, w5 = W3.setCell ⟨sb, i, none⟩ (.bool true) := ⟨_, rfl⟩
          rw [← hw5] at hn5 ho5 hJ5 hx5 hg5
          have H5 := Lib.hid (And.intro hn5 (And.intro hJ5 hg5))
          have HW5 := Lib.hid hw5
          clear hn3 hJ3 he3 hn5 ho5 hJ5 hg5 hy
          rw [hw5] at hx5
          clear hw5
          gi_wp2_with fail
          rw [← HW5.out]
          refine ⟨trivial, (callsIn_wide (n := m - 1).2 (in_any H5.out.2.2 (i : Int))).mono ?_⟩
          rintro e w6 ⟨hb6, x6, rfl, hx6⟩
          obtain ⟨a6, c6, rfl, hE6, _, hfr6⟩ := EV.shape hx6
          obtain ⟨hn6, ho6⟩ := H5.out.1.below hb6
          have hJ6 := HB0.out.2.2.1 _ T' w5 w6 H5.out.2.1 (fun j h => (H5.out.1.tlt j h).2) ho6
          have hL9 : (((inI N l (i : Int)).length : Nat) : Int) ≤ 1000000000 := by have := inI_len N l (i : Int) HN.out; omega
          rw [inI_at] at hE6 hL9 ⊢
          obtain ⟨L, hL⟩ : ∃ L, L = inE N l i := ⟨_, rfl⟩
          rw [← hL] at hE6 hL9 ⊢
          have hR6 : NearE (inE N l) N s Wr w hb sb J (pre ++ [(i, k)]) T' i k L a6 0 w6 := ⟨_, S', hJ6, hn6, by rw [List.take_zero]; exact HT.out, hE6, fun b o e hne => by
            have h1 := hfr6 b o e
            refine ⟨fun hs => ?_, ?_⟩
            · have := H5.out.1.heap.lt b hs
              omega
            · obtain ⟨b', o', e', hc, _⟩ := hE6.at_ (List.length_pos_iff.2 hne)
              rw [e] at e'
              cases e'
              exact block_lt_of_cell hc⟩
          have H6 := Lib.hid (And.intro hR6 hL)
          clear hb6 hx6 hE6 hfr6 hn6 ho6 hJ6 hR6 hL hx5 hc3 hf3 hl3
          gi_wp2
          gi_loopw [41] (fun j wr => ∃ q : Nat, j = .int .i64 q ∧ q ≤ L.length ∧ NearE (inE N l) N s Wr w hb sb J (pre ++ [(i, k)]) T' i k L a6 q wr) (fun j _ => L.length - (intOf j).toNat)
          case atStart => exact ⟨0, rfl, by omega, H6.out.1⟩
          case round =>
            obtain ⟨q, rfl, hq, hne⟩ := hrel
            by_cases hlt : q < L.length
            · have hlt' : (q : Int) < (L.length : Int) := by omega
              have hw1 : IntKind.i64.wrap ((q : Int) + 1) = (q : Int) + 1 := by rw [IntKind.wrap_i64]; omega
              obtain ⟨f7, S7, hJ7, hn7, hd7, hE7, hb7⟩ := hne
              obtain ⟨b7, o7, rfl, z0, z1, z2⟩ := hE7.at_ hlt
              have hmem : L[q]'hlt ∈ inE N l i := by rw [← H6.out.2]; exact List.getElem_mem hlt
              obtain ⟨u, hu, huN⟩ := HS.out.2.1.dst _ _ hmem
              have hpos := HS.out.2.1.pos _ _ hmem
              have hle := HS.out.2.1.le _ _ hmem
              have htk := List.take_succ_eq_append_getElem hlt
              have hk0 : 0 ≤ k := (H2.out.2.2.2.heap i k HF.out.1.1).2.nonneg HS.out.2.1
              have hk1 : k ≤ (pre.length : Int) * 2147483648 := H2.out.2.2.2.small i k HF.out.1.1
              have hk2 : (pre.length : Int) ≤ 16777216 := by have := H2.out.1; omega
              have hk3 : k ≤ 36028797018963968 := by omega
              obtain ⟨hL0, hL1⟩ : L ≠ [] ∧ True := ⟨fun e => by subst e; simp at hlt, trivial⟩
              have hKeep := hb7 b7 o7 rfl hL0
              generalize L[q]'hlt = x at *
              obtain ⟨x0, x1, x2⟩ := x
              simp only at hu hpos hle z0 z1 z2
              subst hu
              have hws : IntKind.i64.wrap (k + x1) = k + x1 := by rw [IntKind.wrap_i64]; omega
              have hu9 : (u : Int) < (N : Int) := by omega
              obtain ⟨w8, hw8⟩ : ∃ w8, w8 = wr.alloc (.cells #[.int .i64 (u : Nat), .int .i64 x1, .int .i64 (x2 : Nat)] 37) := ⟨_, rfl⟩
              have hb8 : Below wr.heap.size wr w8 := by rw [hw8]; exact (Below.refl _ _).alloc (Nat.le_refl _) _
              obtain ⟨hn8, ho8⟩ := hn7.below hb8
              have hJ8 := HB0.out.2.2.1 _ T' wr w8 hJ7 (fun j h => (hn7.tlt j h).2) ho8
              have hc8 := (hn8.row.cell u).trans (toldL_at huN)
              have H8 := Lib.hid (And.intro hd7 (And.intro hn8 (And.intro hJ8 (And.intro (hE7.under hb8) (And.intro htk (And.intro hmem (And.intro hKeep (And.intro huN (And.intro hk1 hb8.size)))))))))
              have HW8 := Lib.hid hw8
              rw [hw8] at hc8
              clear hd7 hn7 hn8 hJ7 hJ8 ho8 hE7 hb7 hmem htk hb8 hw8 hk1 hKeep hL0 hL1
              by_cases hin : In1 (pre ++ [(i, k)]) u
              · rw [decide_eq_true hin] at hc8
                have HIn := Lib.hid hin
                clear hin
                gi_wp2
                rw [← HW8.out]
                go_roundw
                case rel => exact ⟨q + 1, by go_num, by omega, f7, S7, H8.out.2.2.1, H8.out.2.1, by rw [H8.out.2.2.2.2.1]; exact H8.out.1.pass rfl HIn.out, H8.out.2.2.2.1, fun b o e _ => by cases e; exact ⟨H8.out.2.2.2.2.2.2.1.1, Nat.lt_of_lt_of_le H8.out.2.2.2.2.2.2.1.2 H8.out.2.2.2.2.2.2.2.2.2⟩⟩
                case measure => simp [intOf]; omega
              · rw [decide_eq_false hin] at hc8
                have HIn := Lib.hid hin
                clear hin
                gi_wp2_with fail
                rw [← HW8.out]
                refine ⟨trivial, (callsIn_wide (n := m - 1).2 (shorten_any hb N u S7 f7 (k + x1) w8 H8.out.2.1.heap H8.out.2.2.2.2.2.2.2.1)).mono ?_⟩
                rintro e w9 ⟨rfl, hd9⟩
                obtain ⟨S9, hn9, ho9, hs9, hq9⟩ := H8.out.2.1.did2 hd9
                have hJ9 := HB0.out.2.2.1 _ T' w8 w9 H8.out.2.2.1 (fun j h => (H8.out.2.1.tlt j h).2) ho9
                have hE9 := H8.out.2.2.2.1.only hq9 (fun b o e _ => by cases e; exact H8.out.2.2.2.2.2.2.1.1)
                have hb9 : ¬ S9 b7 ∧ b7 < w9.heap.size := ⟨fun h => (hs9 b7 h).elim H8.out.2.2.2.2.2.2.1.1 (fun h => by have := H8.out.2.2.2.2.2.2.1.2; have := H8.out.2.2.2.2.2.2.2.2.2; omega), Nat.lt_of_lt_of_le H8.out.2.2.2.2.2.2.1.2 (Nat.le_trans H8.out.2.2.2.2.2.2.2.2.2 ho9.size)⟩
                have hD9 := H8.out.1.look HS.out.2.1 H8.out.2.2.2.2.2.1 rfl HIn.out (by have := H8.out.2.2.2.2.2.2.2.2.1; rw [List.length_append, List.length_singleton]; omega)
                have H9 := Lib.hid (And.intro hn9 (And.intro hJ9 (And.intro hE9 (And.intro hb9 hD9))))
                clear hd9 hn9 ho9 hs9 hq9 hJ9 hE9 hb9 hD9
                gi_wp2
                go_roundw
                case rel => exact ⟨q + 1, by go_num, by omega, _, S9, H9.out.2.1, H9.out.1, by rw [H8.out.2.2.2.2.1]; exact H9.out.2.2.2.2, H9.out.2.2.1, fun b o e _ => by cases e; exact H9.out.2.2.2.1⟩
                case measure => simp [intOf]; omega
            · obtain rfl : q = L.length := by omega
              have hlt' : ¬ (L.length : Int) < (L.length : Int) := by omega
              have HE := Lib.hid hne
              clear hne
              gi_wp2
              obtain ⟨f9, S9, hJ9, hn9, hd9, _⟩ := HE.out
              rw [List.take_length, H6.out.2] at hd9
              have hs9 := hd9.shut
              have h1 := hs9.short
              have h2 := H2.out.1
              rw [List.length_append, List.length_singleton] at h1
              go_roundg (gk - 1)
              case measure => omega
              case rel => exact ⟨_, f9, S9, T', by rw [List.length_append, List.length_singleton]; omega, hJ9, hn9, hs9⟩
        · gi_wp2
          rw [Exit.noGoto_normal]
          refine bodyPost_end (results_none rfl _ _ _) rfl ?_
          exact ⟨⟨_, rfl⟩, T', he3.lt, .inr ⟨_, hJx3⟩⟩
end Go.Proofs.Ythljgkaigjokjaa
