/- The document's All (written by mkdsp.py). -/
import Derived.Test.YthljgkaigjokjaaDsO
import Derived.Test.YthljgkaigjokjaaM5
import Derived.Test.YthljgkaigjokjaaColl
import Derived.BigQuiet
namespace Go.Proofs.Ythljgkaigjokjaa
open Go.RowKit Go.Shelf Grm Lay
attribute [local go_sem] Oper.semAt_some
/-- A table: a slice of the call's own, of rows of N numbers each. -/
def TabAt (w : World) (K : Nat) (v : Value) (N : Nat) (Ls : List (List Int)) (bs : List Nat) : Prop :=
  bs.length = Ls.length ∧ w.ownsRow K 43 1 v Ls.length (bs.map fun b => Value.slice (some ⟨b, 0, none⟩) N N) ∧ ∀ (i b : Nat) (L : List Int), bs[i]? = some b → Ls[i]? = some L → K ≤ b ∧ Row w b 3 (L.map (Value.int .i64)).toArray
def Tab (w : World) (K : Nat) (v : Value) (N : Nat) (Ls : List (List Int)) : Prop := ∃ bs, TabAt w K v N Ls bs
theorem Tab.under {w w' : World} {K N : Nat} {v : Value} {Ls : List (List Int)} (h : Tab w K v N Ls) (hb : Below w.heap.size w w') : Tab w' K v N Ls := by
  obtain ⟨bs, h1, h2, h3⟩ := h
  exact ⟨bs, h1, owns_only h2 (Only.of_below (fun _ => False) hb) (fun _ _ h => h), fun i b L hi hL => ⟨(h3 i b L hi hL).1, (h3 i b L hi hL).2.under hb (h3 i b L hi hL).2.lt⟩⟩
theorem infoRow : (Try.prog.info? 43).map (fun i => (i.zero, i.size, i.bytes)) = some (some (.slice none 0 0), 1, 24) := by kernel_rfl
theorem Tab.nil (w : World) (K N : Nat) : Tab w K (.slice none 0 0) N [] := ⟨[], rfl, World.ownsRow_nil _ _ _ _, fun i b L h => by cases h⟩
theorem news1r (w : World) (a : Value) (t : TypeId) : ∀ (j : Nat) (u : Value), [a][j]? = some u → (w.alloc (.cells #[a] t)).cell? ((⟨w.heap.size, 0, none⟩ : Addr).add j) = some u := by
  intro j u h
  rw [show ((⟨w.heap.size, 0, none⟩ : Addr).add j) = ⟨w.heap.size, j, none⟩ by unfold Addr.add; split <;> simp_all, (Row.fresh w t #[a]).cell j]
  simpa using h
theorem repV_next {x : Int} {i N : Nat} (h : i < N) : (repV x i N)[i]? = some 0 := by
  unfold repV
  rw [List.getElem?_append_right (by simp)]
  simp only [List.length_replicate, Nat.sub_self]
  rw [List.getElem?_replicate, if_pos (by omega)]
theorem repV_put {x : Int} {i N : Nat} (h : i < N) : (((repV x i N).map (Value.int .i64)).toArray).setIfInBounds i (.int .i64 x) = ((repV x (i + 1) N).map (Value.int .i64)).toArray := by
  rw [List.setIfInBounds_toArray, ← List.map_set]
  congr 2
  unfold repV
  rw [List.set_append_right _ _ (by simp)]
  simp only [List.length_replicate, Nat.sub_self]
  obtain ⟨m, hm⟩ : ∃ m, N - i = m + 1 := ⟨N - i - 1, by omega⟩
  rw [hm, List.replicate_succ, List.set_cons_zero, show N - (i + 1) = m by omega, List.replicate_succ', List.append_assoc]
  rfl
/-- In a round: the row that is being made, in block rb; all else is as it was. -/
structure AlR (w0 : World) (rb : Nat) (L : List Int) (W : World) : Prop where
  bw : Below w0.heap.size w0 W
  row : Row W rb 3 (L.map (Value.int .i64)).toArray
theorem AlR.next {w0 W W' : World} {rb : Nat} {L : List Int} (h : AlR w0 rb L W) (hb : Below W.heap.size W W') : AlR w0 rb L W' := ⟨h.bw.trans (hb.mono h.bw.size), h.row.under hb h.row.lt⟩
theorem AlR.put {w0 W : World} {rb v : Nat} {L : List Int} (h : AlR w0 rb L W) (hr : w0.heap.size ≤ rb) (y : Int) : AlR w0 rb (L.set v y) (W.setCell ⟨rb, v, none⟩ (.int .i64 y)) := by
  refine ⟨h.bw.setCell hr _, ?_⟩
  have := h.row.put v (.int .i64 y)
  rw [List.setIfInBounds_toArray, ← List.map_set] at this
  exact this
theorem row_cell {w : World} {b : Nat} {L : List Int} (h : Row w b 3 (L.map (Value.int .i64)).toArray) {i : Nat} {y : Int} (hi : L[i]? = some y) : w.cell? ⟨b, i, none⟩ = some (.int .i64 y) := by
  rw [h.cell i, List.getElem?_toArray, List.getElem?_map, hi]
  rfl
theorem own_ne {w : World} {K n b : Nat} {v : Value} {xs : List Value} {cs : Array Value} (h : w.ownsRow K 43 1 v n xs) (hr : Row w b 3 cs) : v.ownBlock ≠ some b := by
  intro e
  rcases h.2 with ⟨rfl, _⟩ | ⟨g, cap, cur, rfl, _, h2, _⟩
  · cases e
  · cases e
    have h3 : w.heap[g]? = some (.cells cs 3 (0, 0)) := hr
    rw [h2] at h3
    injection h3 with h3
    injection h3 with _ h3 _
    exact absurd h3 (by decide)
theorem tab_app {w w3 : World} {K N rb : Nat} {v v' : Value} {Ls : List (List Int)} {bs : List Nat} {L : List Int} (h : TabAt w K v N Ls bs) (hr : Row w rb 3 (L.map (Value.int .i64)).toArray) (hK : K ≤ rb) (hown : w3.ownsRow K 43 1 v' (Ls.length + 1) (bs.map (fun b => Value.slice (some ⟨b, 0, none⟩) N N) ++ [.slice (some ⟨rb, 0, none⟩) N N])) (ho : Only (fun q => v.ownBlock = some q) w w3) : Tab w3 K v' N (Ls ++ [L]) := by
  obtain ⟨h1, h2, h3⟩ := h
  refine ⟨bs ++ [rb], by simp [h1], ?_, fun i b M hi hM => ?_⟩
  · rw [List.length_append, List.map_append]
    exact hown
  · rcases Nat.lt_or_ge i bs.length with hlt | hge
    · rw [List.getElem?_append_left hlt] at hi
      rw [List.getElem?_append_left (by omega)] at hM
      obtain ⟨h4, h5⟩ := h3 i b M hi hM
      exact ⟨h4, h5.only ho (own_ne h2 h5)⟩
    · rw [List.getElem?_append_right hge] at hi
      rw [List.getElem?_append_right (by omega), ← h1] at hM
      have h0 : i - bs.length = 0 := by
        rcases Nat.eq_zero_or_pos (i - bs.length) with h | h
        · exact h
        · rw [List.getElem?_eq_none (by simp; omega)] at hi
          cases hi
      rw [h0] at hi hM
      injection hi with hi
      injection hM with hM
      subst hi
      subst hM
      exact ⟨hK, hr.only ho (own_ne h2 hr)⟩
set_option maxRecDepth 100000 in
set_option maxHeartbeats 8000000 in
theorem all_any (N : Nat) (a : Option Addr) (l : List Ar) (c : Nat) (w : World) (hA : Arcs w a l) (hck : checkL (N : Nat) l = 0) (Lf : Nat → List Int) (hLf : ∀ s, FarL (arcE l) N s (Lf s)) :
    Calls Try.prog 35 #[mV (N : Nat) a l.length c] w fun e w' => Below w.heap.size w w' ∧ ∃ v, e = .returned v ∧ Tab w' w.heap.size v N ((List.range N).map Lf) := by
  show Calls Try.prog 35 #[.agg #[.int .i64 (N : Nat), .slice a l.length c]] w _
  have hok : EndsOk N l ∧ Len l ∧ N ≤ 16777216 ∧ l.length ≤ 67108864 := by
    obtain ⟨k, h, h1, h0, h2, h3⟩ := checkL_zero hck
    have : N = k := by omega
    subst this
    exact ⟨h2, h3, h1, h0⟩
  obtain ⟨w1, hw1⟩ : ∃ w1, w1 = w.alloc (.cells #[.int .i64 (N : Nat), .slice a l.length c] 24) := ⟨_, rfl⟩
  have hb1 : Below w.heap.size w w1 := by rw [hw1]; exact (Below.refl _ _).alloc (Nat.le_refl _) _
  have hr1 : Row w1 w.heap.size 24 #[.int .i64 (N : Nat), .slice a l.length c] := by rw [hw1]; exact Row.fresh w _ _
  have hs1 : w1.heap.size = w.heap.size + 1 := by rw [hw1]; simp
  have hNn : (N : Int) ≤ 16777216 := by omega
  have hln : (l.length : Int) ≤ 67108864 := by omega
  have HOk := Lib.hid hok
  have HLf := Lib.hid hLf
  have H1 := Lib.hid (And.intro hr1 (And.intro (hA.under hb1) (And.intro hb1 hs1)))
  have HW := Lib.hid hw1
  clear hok hLf hA hck hb1 hr1 hs1 hw1
  obtain ⟨i0, hi, hz0, hz1, hz2⟩ := info_partsC infoRow
  go_enter Try.func35, Try.ntmps35
  go_wp2
  rw [← HW.out]
  go_loopw [3, 4] (fun vo vs wr => ∃ s : Nat, vs = .int .i64 (s : Nat) ∧ s ≤ N ∧ Tab wr (w.heap.size + 1) vo N ((List.range s).map Lf) ∧ Row wr w.heap.size 24 #[.int .i64 (N : Nat), .slice a l.length c] ∧ Arcs wr a l ∧ Below w.heap.size w wr) (fun _ s _ => N - (intOf s).toNat)
  case atStart => exact ⟨0, rfl, Nat.zero_le _, by simpa using Tab.nil w1 (w.heap.size + 1) N, H1.out.1, H1.out.2.1, H1.out.2.2.1⟩
  case round =>
    obtain ⟨s, rfl, hs, htab, hrow, hAr, hbw⟩ := hrel
    have r0 := hrow.cell 0
    simp only [List.getElem?_toArray, List.getElem?_cons_zero] at r0
    by_cases hlt : s < N
    · have hlt' : (s : Int) < (N : Int) := by omega
      have hws : IntKind.i64.wrap ((s : Int) + 1) = (s : Int) + 1 := by rw [IntKind.wrap_i64]; omega
      obtain ⟨w0, hw0⟩ : ∃ w0, w0 = wr := ⟨_, rfl⟩
      rw [← hw0] at htab hrow hAr hbw r0
      rw [← hw0]
      obtain ⟨rb, hrb⟩ : ∃ rb, rb = w0.heap.size := ⟨_, rfl⟩
      have HB0 := Lib.hid (And.intro htab (And.intro hrow (And.intro hAr (And.intro hbw hrb))))
      have HCe := Lib.hid (show ∀ W, Below w0.heap.size w0 W → W.cell? ⟨w.heap.size, 0, none⟩ = some (.int .i64 (N : Nat)) ∧ W.cell? ⟨w.heap.size, 1, none⟩ = some (.slice a l.length c) from fun W hW => by
        have h := hrow.under hW hrow.lt
        have r0 := h.cell 0
        have r1 := h.cell 1
        simp only [List.getElem?_toArray, List.getElem?_cons_zero, List.getElem?_cons_succ] at r0 r1
        exact ⟨r0, r1⟩)
      clear htab hrow hAr hbw hs hw0
      go_wp2_with ((with_reducible show wpList _ _ _ (Oper.mk _ (Op.makeSlice _ _ _) _ _ _ _ :: _) _ _); refine wpList_makeI rfl (.tmp 17) (.tmp 17) rfl _ N rfl rfl rfl (by omega) ?_; obtain ⟨w2, hw2, HG, HBb⟩ := made_rep w0 N; rw [← hw2, ← hrb]; clear hw2 hrb)
      have h2 : AlR w0 rb (repV (-1) 0 N) w2 := ⟨HBb.out, by have h := HG.out; rw [HB0.out.2.2.2.2, repV_zero]; simpa [nsV] using h⟩
      have H2 := Lib.hid h2
      clear h2 HG HBb r0
      go_loopw [6] (fun vi W => ∃ i : Nat, vi = .int .i64 (i : Nat) ∧ i ≤ N ∧ AlR w0 rb (repV (-1) i N) W) (fun i _ => N - (intOf i).toNat)
      case atStart => exact ⟨0, rfl, Nat.zero_le _, H2.out⟩
      case round =>
        obtain ⟨i, rfl, hi2, hal⟩ := hrel
        have r0 := (HCe.out _ hal.bw).1
        by_cases hlt2 : i < N
        · have hlt2' : (i : Int) < (N : Int) := by omega
          have hwi : IntKind.i64.wrap ((i : Int) + 1) = (i : Int) + 1 := by rw [IntKind.wrap_i64]; omega
          have c0 := row_cell hal.row (repV_next (x := -1) hlt2)
          have f0 := hal.row.thaw i
          have hput := repV_put (x := -1) hlt2
          have HQ := Lib.hid (And.intro hal hput)
          clear hal hi2 hput
          go_wp2
          have hrow := HQ.out.1.row.put i (.int .i64 (-1))
          rw [HQ.out.2] at hrow
          exact ⟨⟨i + 1, by go_num, by omega, ⟨HQ.out.1.bw.setCell (show w0.heap.size ≤ rb by have := HB0.out.2.2.2.2; omega) _, hrow⟩⟩, by simp [intOf]; omega⟩
        · obtain rfl : i = N := by omega
          rw [repV_all] at hal
          have c0 := row_cell hal.row (show (List.replicate i (-1 : Int))[s]? = some (-1) by rw [List.getElem?_replicate, if_pos hlt])
          have f0 := hal.row.thaw s
          have hal2 := hal.put (v := s) (by have := HB0.out.2.2.2.2; omega) 0
          have HQ := Lib.hid (show AlR w0 rb (initL i s) _ from hal2)
          clear hal hal2 hi2
          go_wp2
          obtain ⟨w4, hw4⟩ : ∃ w4, w4 = wr.setCell ⟨rb, s, none⟩ (.int .i64 0) := ⟨_, rfl⟩
          rw [← hw4] at HQ
          rw [← hw4]
          clear hw4 c0 f0 r0
          go_loopg [7] (2 * phi i (initL i s) + 1) (fun g vm W => ∃ (L : List Int) (more : Bool), vm = .bool more ∧ 2 * phi i L + more.toNat ≤ g ∧ Bel l i s L ∧ (more = false → Shut7 l L) ∧ AlR w0 rb L W)
          case atStart => exact ⟨initL i s, true, rfl, by simp, Bel.start hlt, (by intro h; cases h), HQ.out⟩
          case round =>
            obtain ⟨L, more, rfl, hg, hbel, hsh, hal⟩ := hrel
            cases more with
            | false =>
              have hLL : L = Lf s := (hbel.done (hsh rfl)).uniq (HLf.out s)
              subst hLL
              have HQ2 := Lib.hid (And.intro hal (HB0.out.1.under hal.bw))
              clear hal hsh hbel hg
              obtain ⟨bs, hat⟩ := HQ2.out.2
              have hl : ((List.range s).map Lf).length = s := by simp
              have hown := hat.2.1
              rw [hl] at hown
              obtain ⟨av, cv, rfl, _, _⟩ := owns_shape hown
              have hbL : ∀ q, (Value.slice av s cv).ownBlock = some q → w.heap.size + 1 ≤ q ∧ q < wr.heap.size := fun q e => owns_lt hown q e
              have HT := Lib.hid (And.intro hat (And.intro hown hbL))
              have HSi := Lib.hid (show s < 16777216 by have := HOk.out.2.2.1; omega)
              have HRb := Lib.hid (show w.heap.size + 1 ≤ rb by have := HB0.out.2.2.2.2; have := HB0.out.2.1.lt; omega)
              have HSz := Lib.hid (show w.heap.size + 1 ≤ wr.heap.size by have := HB0.out.2.1.lt; have := HQ2.out.1.bw.size; omega)
              clear hat hown hbL
              go_wp2_with (at_builtin; refine wpList_append_own_at _ rfl _ _ 56 rfl (w.heap.size + 1) 43 i0 (.slice none 0 0) 1 24 Try.underlying56 hi hz0 hz1 hz2 rfl (by decide) (.slice av s cv) s (bs.map fun b => Value.slice (some ⟨b, 0, none⟩) i i) rfl (HT.out.2.1.alloc _) ⟨wr.heap.size, 0, none⟩ 1 1 [.slice (some ⟨rb, 0, none⟩) i i] rfl rfl (news1r _ _ _) (by intro u hu; simp at hu; subst hu; rfl) (by unfold maxLen; have := HSi.out; omega) (by have := HSi.out; omega) (by have := HSz.out; rw [World.size_alloc]; omega) ?_; intro v' w3 hown' hg3 _ _; have ho3 := (((Only.refl (fun q => (Value.slice av s cv).ownBlock = some q) wr).alloc _).grown hg3 (fun q e => .inl e)); have HA := Lib.hid (And.intro hown' ho3); clear hown' hg3 ho3)
              have hrow := HB0.out.2.1.under HQ2.out.1.bw HB0.out.2.1.lt
              have hAr := HB0.out.2.2.1.under HQ2.out.1.bw
              have hbw := HB0.out.2.2.2.1.trans (HQ2.out.1.bw.mono HB0.out.2.2.2.1.size)
              have ho := HA.out.2
              have hbL := HT.out.2.2
              refine ⟨⟨s + 1, by go_num, by omega, ?_, hrow.only ho (fun e => by have := (hbL _ e).1; omega), ?_, hbw.trans (ho.below (K := w.heap.size) (fun q e => by have := (hbL _ e).1; omega) hbw.size)⟩, by simp [intOf]; omega⟩
              · have h := tab_app (L := Lf s) HT.out.1 HQ2.out.1.row HRb.out (by rw [List.length_map, List.length_range]; exact HA.out.1) ho
                rw [List.range_succ, List.map_append]
                exact h
              · refine hAr.only ho (fun b o e hne s => ?_)
                have h1 := (hbL _ s).1
                have h2 := H1.out.2.2.2
                obtain ⟨b', o', e', hc, _⟩ := H1.out.2.1.at_ (List.length_pos_iff.2 hne)
                rw [e] at e'
                cases e'
                have h3 : b < w1.heap.size := block_lt_of_cell hc
                omega
            | true =>
              have HQ2 := Lib.hid (And.intro hal (And.intro hbel hg))
              clear hal hsh hbel hg
              go_wp2
              go_loopw [7, 8] (fun vm vk W => ∃ (L' : List Int) (more : Bool) (k : Nat), vm = .bool more ∧ vk = .int .i64 (k : Nat) ∧ k ≤ l.length ∧ Bel l i s L' ∧ Seen l i L L' more k ∧ AlR w0 rb L' W) (fun _ k _ => l.length - (intOf k).toNat)
              case atStart => exact ⟨L, false, 0, rfl, rfl, Nat.zero_le _, HQ2.out.2.1, Seen.start _ _ _, HQ2.out.1⟩
              case round =>
                obtain ⟨L', more, k, rfl, rfl, hk, hbel, hseen, hal⟩ := hrel
                have r1 := (HCe.out _ hal.bw).2
                by_cases hlt3 : k < l.length
                · have hlt3' : (k : Int) < (l.length : Int) := by omega
                  have hwk : IntKind.i64.wrap ((k : Int) + 1) = (k : Int) + 1 := by rw [IntKind.wrap_i64]; omega
                  obtain ⟨lb, lo, rfl, x0, x1, x2⟩ := (HB0.out.2.2.1.under hal.bw).at_ hlt3
                  have hE := HOk.out.1 _ (List.getElem_mem hlt3)
                  have hLn := HOk.out.2.1 _ (List.getElem_mem hlt3)
                  obtain ⟨u, hu⟩ : ∃ u : Nat, (l[k]'hlt3).1 = u := ⟨(l[k]'hlt3).1.toNat, by omega⟩
                  obtain ⟨v, hv⟩ : ∃ v : Nat, (l[k]'hlt3).2.1 = v := ⟨(l[k]'hlt3).2.1.toNat, by omega⟩
                  have huN : u < L'.length := by rw [hbel.len]; omega
                  have hvN : v < L'.length := by rw [hbel.len]; omega
                  have huN' : (u : Int) < (i : Int) := by omega
                  have hvN' : (v : Int) < (i : Int) := by omega
                  obtain ⟨p, hp⟩ : ∃ p, L'[u]? = some p := ⟨_, List.getElem?_eq_getElem huN⟩
                  obtain ⟨q, hq⟩ : ∃ q, L'[v]? = some q := ⟨_, List.getElem?_eq_getElem hvN⟩
                  have hpass := fun h => hseen.pass hlt3 hu hv hp hq h
                  have hrel := fun h0 h => hbel.relax HOk.out.1 HOk.out.2.1 (List.getElem_mem hlt3) hu hv hp h0 hq h
                  have hpl := hbel.le hp
                  have hlx := HOk.out.2.2.1
                  rw [hu] at x0
                  rw [hv] at x1
                  generalize (l[k]'hlt3).2.2 = wt at *
                  have hww : IntKind.i64.wrap (p + wt) = p + wt := by rw [IntKind.wrap_i64]; omega
                  have c1 := row_cell hal.row hp
                  have c2 := row_cell hal.row hq
                  have f2 := hal.row.thaw v
                  have hrbl := hal.row.lt
                  have HQ3 := Lib.hid (And.intro hal (And.intro hbel (And.intro hseen (And.intro hpass hrel))))
                  clear hal hbel hseen hpass hrel hp hq huN hvN hk hE hLn hpl hlx
                  go_upto_region 18 with (fail)
                  obtain ⟨w5, hw5⟩ : ∃ w5, w5 = wr.alloc (.cells #[.int .i64 (u : Nat), .int .i64 (v : Nat), .int .i64 wt] 33) := ⟨_, rfl⟩
                  obtain ⟨ab, hab⟩ : ∃ ab, ab = wr.heap.size := ⟨_, rfl⟩
                  have hb5 : Below wr.heap.size wr w5 := by rw [hw5]; exact (Below.refl _ _).alloc (Nat.le_refl _) _
                  have hbx : Row w5 ab 33 #[.int .i64 (u : Nat), .int .i64 (v : Nat), .int .i64 wt] := by rw [hw5, hab]; exact Row.fresh wr _ _
                  have b0 := hbx.cell 0
                  have b1 := hbx.cell 1
                  have b2 := hbx.cell 2
                  simp only [List.getElem?_toArray, List.getElem?_cons_zero, List.getElem?_cons_succ] at b0 b1 b2
                  have d1 := (hb5.cell (block_lt_of_cell c1)).trans c1
                  have d2 := (hb5.cell (block_lt_of_cell c2)).trans c2
                  have HQ4 := Lib.hid (And.intro (HQ3.out.1.next hb5) (And.intro hb5 (show rb ≠ ab by omega)))
                  have g2 := HQ4.out.1.row.thaw v
                  rw [← hw5, ← hab]
                  clear hw5 hab hb5 hbx c1 c2 f2 x0 x1 x2 r1 hrbl
                  by_cases h1 : 0 ≤ p
                  · have h1' : decide (0 ≤ p) = true := by simpa using h1
                    by_cases h2 : q < 0
                    · have h2' : decide (q < 0) = true := by simpa using h2
                      have hre := HQ3.out.2.2.2.2 h1 (.inl h2)
                      obtain ⟨hre1, hre2, hre3⟩ := hre
                      have hseen2 := Seen.near (k' := k + 1) HQ3.out.2.2.1 hre2
                      have HN := Lib.hid (And.intro hre1 (And.intro hseen2 hre3))
                      clear hre1 hre2 hseen2 h1
                      go_quiet (fail)
                      obtain ⟨w6, hw6⟩ : ∃ W, W = w5.drewN nq := ⟨_, rfl⟩
                      rw [← hw6]
                      have hb6 : Below w5.heap.size w5 w6 := by rw [hw6]; exact below_dN (Below.refl _ _) _
                      have e0 := (hb6.cell (block_lt_of_cell b0)).trans b0
                      have e1 := (hb6.cell (block_lt_of_cell b1)).trans b1
                      have e2 := (hb6.cell (block_lt_of_cell b2)).trans b2
                      have e3 := (hb6.cell (block_lt_of_cell d1)).trans d1
                      have e4 := (hb6.cell (block_lt_of_cell d2)).trans d2
                      have HQ6 := Lib.hid (HQ4.out.1.next hb6)
                      have g6 := HQ6.out.row.thaw v
                      have HSt := Lib.hid (show w6.drew.cell? ⟨ab, 0, none⟩ = some (.int .i64 (u : Nat)) ∧ w6.drew.cell? ⟨ab, 1, none⟩ = some (.int .i64 (v : Nat)) ∧ w6.drew.cell? ⟨ab, 2, none⟩ = some (.int .i64 wt) ∧ w6.drew.cell? ⟨rb, u, none⟩ = some (.int .i64 p) from ⟨e0, e1, e2, e3⟩)
                      have hal7 := (HQ6.out.put (v := v) (by have := HB0.out.2.2.2.2; omega) (p + wt)).next (W' := (w6.setCell ⟨rb, v, none⟩ (.int .i64 (p + wt))).drew) (Below.refl _ _).drew
                      have HSt2 := Lib.hid (show (w6.setCell ⟨rb, v, none⟩ (.int .i64 (p + wt))).drew.cell? ⟨ab, 0, none⟩ = some (.int .i64 (u : Nat)) ∧ (w6.setCell ⟨rb, v, none⟩ (.int .i64 (p + wt))).drew.cell? ⟨ab, 1, none⟩ = some (.int .i64 (v : Nat)) ∧ (w6.setCell ⟨rb, v, none⟩ (.int .i64 (p + wt))).drew.cell? ⟨ab, 2, none⟩ = some (.int .i64 wt) ∧ (w6.setCell ⟨rb, v, none⟩ (.int .i64 (p + wt))).drew.cell? ⟨rb, u, none⟩ = some (.int .i64 p) from by
                        have ho := (only_one (W := w6) (g := rb) v (.int .i64 (p + wt))).drew
                        have hab := HQ4.out.2.2
                        have hc : ∀ o y, w6.cell? ⟨ab, o, none⟩ = some y → (w6.setCell ⟨rb, v, none⟩ (.int .i64 (p + wt))).drew.cell? ⟨ab, o, none⟩ = some y := fun o y h => by
                          rw [World.cell?_of_block (w := w6) (ho.block ab (block_lt_of_cell h) (fun e => hab e.symm))]
                          exact h
                        refine ⟨hc _ _ e0, hc _ _ e1, hc _ _ e2, ?_⟩
                        have hr := HQ6.out.row.put v (.int .i64 (p + wt))
                        have h := hr.cell u
                        have hx := (HQ6.out.row.cell u).symm.trans e3
                        rw [Array.getElem?_setIfInBounds_ne (fun e => HN.out.2.2 e.symm), hx] at h
                        exact h)
                      have HU := Lib.hid (And.intro HN.out.1 (And.intro HN.out.2.1 hal7))
                      clear hw6 hb6 b0 b1 b2 d1 d2 g2 hal7
                      go_wp2
                      refine wp_region_held_drew (S := fun W => W.cell? ⟨ab, 0, none⟩ = some (.int .i64 (u : Nat)) ∧ W.cell? ⟨ab, 1, none⟩ = some (.int .i64 (v : Nat)) ∧ W.cell? ⟨ab, 2, none⟩ = some (.int .i64 wt) ∧ W.cell? ⟨rb, u, none⟩ = some (.int .i64 p)) (by kernel_rfl) HSt.out (fun hHeld => ?_)
                      refine wpAnyH_take (i := 0) (oi := ⟨some 74, _, _, _, _, _⟩) (v := ?_) rfl (by kernel_rfl) (by kernel_rfl) (by kernel_rfl) (fun _ _ _ h => h) (Or.inl ⟨by rfl, ?_⟩) hHeld ?_
                      rotate_left
                      · intro W hSw
                        obtain ⟨s0, s1, s2, s3⟩ := hSw
                        go_simp
                        with_reducible rfl
                      simp only [Act.put, List.setIfInBounds_toArray, List.set_cons_zero, List.set_cons_succ]
                      refine wpAnyH_take (i := 1) (oi := ⟨some 75, _, _, _, _, _⟩) (v := ?_) rfl (by kernel_rfl) (by kernel_rfl) (by kernel_rfl) (fun _ _ _ h => h) (Or.inl ⟨by rfl, ?_⟩) hHeld ?_
                      rotate_left
                      · intro W hSw
                        obtain ⟨s0, s1, s2, s3⟩ := hSw
                        go_simp
                        with_reducible rfl
                      simp only [Act.put, List.setIfInBounds_toArray, List.set_cons_zero, List.set_cons_succ]
                      refine wpAnyH_take (i := 2) (oi := ⟨some 76, _, _, _, _, _⟩) (v := ?_) rfl (by kernel_rfl) (by kernel_rfl) (by kernel_rfl) (fun _ _ _ h => h) (Or.inl ⟨by rfl, ?_⟩) hHeld ?_
                      rotate_left
                      · intro W hSw
                        obtain ⟨s0, s1, s2, s3⟩ := hSw
                        go_simp
                        with_reducible rfl
                      simp only [Act.put, List.setIfInBounds_toArray, List.set_cons_zero, List.set_cons_succ]
                      refine wpAnyH_take (i := 3) (oi := ⟨some 77, _, _, _, _, _⟩) (v := ?_) rfl (by kernel_rfl) (by kernel_rfl) (by kernel_rfl) (fun _ _ _ h => h) (Or.inl ⟨by rfl, ?_⟩) hHeld ?_
                      rotate_left
                      · intro W hSw
                        obtain ⟨s0, s1, s2, s3⟩ := hSw
                        go_simp
                        with_reducible rfl
                      simp only [Act.put, List.setIfInBounds_toArray, List.set_cons_zero, List.set_cons_succ]
                      refine wpAnyH_take (i := 4) (oi := ⟨some 78, _, _, _, _, _⟩) (v := ?_) rfl (by kernel_rfl) (by kernel_rfl) (by kernel_rfl) (fun _ _ _ h => h) (Or.inl ⟨by rfl, ?_⟩) hHeld ?_
                      rotate_left
                      · intro W hSw
                        obtain ⟨s0, s1, s2, s3⟩ := hSw
                        go_simp
                        with_reducible rfl
                      simp only [Act.put, List.setIfInBounds_toArray, List.set_cons_zero, List.set_cons_succ]
                      refine wpAnyH_take (i := 5) (oi := ⟨some 79, _, _, _, _, _⟩) (v := ?_) rfl (by kernel_rfl) (by kernel_rfl) (by kernel_rfl) (fun _ _ _ h => h) (Or.inl ⟨by rfl, ?_⟩) hHeld ?_
                      rotate_left
                      · intro W hSw
                        obtain ⟨s0, s1, s2, s3⟩ := hSw
                        go_simp
                        with_reducible rfl
                      simp only [Act.put, List.setIfInBounds_toArray, List.set_cons_zero, List.set_cons_succ]
                      refine wpAnyH_take (i := 6) (oi := ⟨some 80, _, _, _, _, _⟩) (v := ?_) rfl (by kernel_rfl) (by kernel_rfl) (by kernel_rfl) (fun _ _ _ h => h) (Or.inl ⟨by rfl, ?_⟩) hHeld ?_
                      rotate_left
                      · intro W hSw
                        obtain ⟨s0, s1, s2, s3⟩ := hSw
                        go_simp
                        with_reducible rfl
                      simp only [Act.put, List.setIfInBounds_toArray, List.set_cons_zero, List.set_cons_succ]
                      refine wpAnyH_take (i := 7) (oi := ⟨some 81, _, _, _, _, _⟩) (v := ?_) rfl (by kernel_rfl) (by kernel_rfl) (by kernel_rfl) (fun _ _ _ h => h) (Or.inl ⟨by rfl, ?_⟩) hHeld ?_
                      rotate_left
                      · intro W hSw
                        obtain ⟨s0, s1, s2, s3⟩ := hSw
                        go_simp
                        with_reducible rfl
                      simp only [Act.put, List.setIfInBounds_toArray, List.set_cons_zero, List.set_cons_succ]
                      refine wpAnyH_take (i := 8) (oi := ⟨some 82, _, _, _, _, _⟩) (v := ?_) rfl (by kernel_rfl) (by kernel_rfl) (by kernel_rfl) (fun _ _ _ h => h) (Or.inl ⟨by rfl, ?_⟩) hHeld ?_
                      rotate_left
                      · intro W hSw
                        obtain ⟨s0, s1, s2, s3⟩ := hSw
                        go_simp
                        with_reducible rfl
                      simp only [Act.put, List.setIfInBounds_toArray, List.set_cons_zero, List.set_cons_succ]
                      refine wpAnyH_take (i := 9) (oi := ⟨some 83, _, _, _, _, _⟩) (v := ?_) rfl (by kernel_rfl) (by kernel_rfl) (by kernel_rfl) (fun _ _ _ h => h) (Or.inl ⟨by rfl, ?_⟩) hHeld ?_
                      rotate_left
                      · intro W hSw
                        obtain ⟨s0, s1, s2, s3⟩ := hSw
                        go_simp
                        with_reducible rfl
                      simp only [Act.put, List.setIfInBounds_toArray, List.set_cons_zero, List.set_cons_succ]
                      refine wpAnyH_take (i := 10) (oi := ⟨some 84, _, _, _, _, _⟩) (v := ?_) rfl (by kernel_rfl) (by kernel_rfl) (by kernel_rfl) (fun _ _ _ h => h) (Or.inl ⟨by rfl, ?_⟩) hHeld ?_
                      rotate_left
                      · intro W hSw
                        obtain ⟨s0, s1, s2, s3⟩ := hSw
                        go_simp
                        with_reducible rfl
                      simp only [Act.put, List.setIfInBounds_toArray, List.set_cons_zero, List.set_cons_succ]
                      refine wpAnyH_take (i := 11) (oi := ⟨some 85, _, _, _, _, _⟩) (v := ?_) rfl (by kernel_rfl) (by kernel_rfl) (by kernel_rfl) (fun _ _ _ h => h) (Or.inl ⟨by rfl, ?_⟩) hHeld ?_
                      rotate_left
                      · intro W hSw
                        obtain ⟨s0, s1, s2, s3⟩ := hSw
                        go_simp
                        with_reducible rfl
                      simp only [Act.put, List.setIfInBounds_toArray, List.set_cons_zero, List.set_cons_succ]
                      refine wpAnyH_ready (rs := [12]) (by kernel_rfl) (by simp) ?_
                      refine (AllReadyH.cons (o := ⟨none, _, _, _, _, _⟩) rfl (fun K hK => ?_) AllReadyH.nil)
                      go_simp
                      refine hK.out _ _ HSt2.out (fun _ => ?_)
                      clear hK
                      refine wpAnyH_done (by kernel_rfl) ?_ _
                      go_wp2
                      exact ⟨⟨L'.set v (p + wt), true, k + 1, rfl, by go_num, by omega, HU.out.1, HU.out.2.1, HU.out.2.2⟩, by simp [intOf]; omega⟩
                    · have h2' : decide (q < 0) = false := by simpa using h2
                      by_cases h3 : p + wt < q
                      · have h3' : decide (p + wt < q) = true := by simpa using h3
                        have hre := HQ3.out.2.2.2.2 h1 (.inr h3)
                        obtain ⟨hre1, hre2, hre3⟩ := hre
                        have hseen2 := Seen.near (k' := k + 1) HQ3.out.2.2.1 hre2
                        have HN := Lib.hid (And.intro hre1 (And.intro hseen2 hre3))
                        clear hre1 hre2 hseen2 h1
                        go_quiet (fail)
                        obtain ⟨w6, hw6⟩ : ∃ W, W = w5.drewN nq := ⟨_, rfl⟩
                        rw [← hw6]
                        have hb6 : Below w5.heap.size w5 w6 := by rw [hw6]; exact below_dN (Below.refl _ _) _
                        have e0 := (hb6.cell (block_lt_of_cell b0)).trans b0
                        have e1 := (hb6.cell (block_lt_of_cell b1)).trans b1
                        have e2 := (hb6.cell (block_lt_of_cell b2)).trans b2
                        have e3 := (hb6.cell (block_lt_of_cell d1)).trans d1
                        have e4 := (hb6.cell (block_lt_of_cell d2)).trans d2
                        have HQ6 := Lib.hid (HQ4.out.1.next hb6)
                        have g6 := HQ6.out.row.thaw v
                        have HSt := Lib.hid (show w6.drew.cell? ⟨ab, 0, none⟩ = some (.int .i64 (u : Nat)) ∧ w6.drew.cell? ⟨ab, 1, none⟩ = some (.int .i64 (v : Nat)) ∧ w6.drew.cell? ⟨ab, 2, none⟩ = some (.int .i64 wt) ∧ w6.drew.cell? ⟨rb, u, none⟩ = some (.int .i64 p) from ⟨e0, e1, e2, e3⟩)
                        have hal7 := (HQ6.out.put (v := v) (by have := HB0.out.2.2.2.2; omega) (p + wt)).next (W' := (w6.setCell ⟨rb, v, none⟩ (.int .i64 (p + wt))).drew) (Below.refl _ _).drew
                        have HSt2 := Lib.hid (show (w6.setCell ⟨rb, v, none⟩ (.int .i64 (p + wt))).drew.cell? ⟨ab, 0, none⟩ = some (.int .i64 (u : Nat)) ∧ (w6.setCell ⟨rb, v, none⟩ (.int .i64 (p + wt))).drew.cell? ⟨ab, 1, none⟩ = some (.int .i64 (v : Nat)) ∧ (w6.setCell ⟨rb, v, none⟩ (.int .i64 (p + wt))).drew.cell? ⟨ab, 2, none⟩ = some (.int .i64 wt) ∧ (w6.setCell ⟨rb, v, none⟩ (.int .i64 (p + wt))).drew.cell? ⟨rb, u, none⟩ = some (.int .i64 p) from by
                          have ho := (only_one (W := w6) (g := rb) v (.int .i64 (p + wt))).drew
                          have hab := HQ4.out.2.2
                          have hc : ∀ o y, w6.cell? ⟨ab, o, none⟩ = some y → (w6.setCell ⟨rb, v, none⟩ (.int .i64 (p + wt))).drew.cell? ⟨ab, o, none⟩ = some y := fun o y h => by
                            rw [World.cell?_of_block (w := w6) (ho.block ab (block_lt_of_cell h) (fun e => hab e.symm))]
                            exact h
                          refine ⟨hc _ _ e0, hc _ _ e1, hc _ _ e2, ?_⟩
                          have hr := HQ6.out.row.put v (.int .i64 (p + wt))
                          have h := hr.cell u
                          have hx := (HQ6.out.row.cell u).symm.trans e3
                          rw [Array.getElem?_setIfInBounds_ne (fun e => HN.out.2.2 e.symm), hx] at h
                          exact h)
                        have HU := Lib.hid (And.intro HN.out.1 (And.intro HN.out.2.1 hal7))
                        clear hw6 hb6 b0 b1 b2 d1 d2 g2 hal7
                        go_wp2
                        refine wp_region_held_drew (S := fun W => W.cell? ⟨ab, 0, none⟩ = some (.int .i64 (u : Nat)) ∧ W.cell? ⟨ab, 1, none⟩ = some (.int .i64 (v : Nat)) ∧ W.cell? ⟨ab, 2, none⟩ = some (.int .i64 wt) ∧ W.cell? ⟨rb, u, none⟩ = some (.int .i64 p)) (by kernel_rfl) HSt.out (fun hHeld => ?_)
                        refine wpAnyH_take (i := 0) (oi := ⟨some 74, _, _, _, _, _⟩) (v := ?_) rfl (by kernel_rfl) (by kernel_rfl) (by kernel_rfl) (fun _ _ _ h => h) (Or.inl ⟨by rfl, ?_⟩) hHeld ?_
                        rotate_left
                        · intro W hSw
                          obtain ⟨s0, s1, s2, s3⟩ := hSw
                          go_simp
                          with_reducible rfl
                        simp only [Act.put, List.setIfInBounds_toArray, List.set_cons_zero, List.set_cons_succ]
                        refine wpAnyH_take (i := 1) (oi := ⟨some 75, _, _, _, _, _⟩) (v := ?_) rfl (by kernel_rfl) (by kernel_rfl) (by kernel_rfl) (fun _ _ _ h => h) (Or.inl ⟨by rfl, ?_⟩) hHeld ?_
                        rotate_left
                        · intro W hSw
                          obtain ⟨s0, s1, s2, s3⟩ := hSw
                          go_simp
                          with_reducible rfl
                        simp only [Act.put, List.setIfInBounds_toArray, List.set_cons_zero, List.set_cons_succ]
                        refine wpAnyH_take (i := 2) (oi := ⟨some 76, _, _, _, _, _⟩) (v := ?_) rfl (by kernel_rfl) (by kernel_rfl) (by kernel_rfl) (fun _ _ _ h => h) (Or.inl ⟨by rfl, ?_⟩) hHeld ?_
                        rotate_left
                        · intro W hSw
                          obtain ⟨s0, s1, s2, s3⟩ := hSw
                          go_simp
                          with_reducible rfl
                        simp only [Act.put, List.setIfInBounds_toArray, List.set_cons_zero, List.set_cons_succ]
                        refine wpAnyH_take (i := 3) (oi := ⟨some 77, _, _, _, _, _⟩) (v := ?_) rfl (by kernel_rfl) (by kernel_rfl) (by kernel_rfl) (fun _ _ _ h => h) (Or.inl ⟨by rfl, ?_⟩) hHeld ?_
                        rotate_left
                        · intro W hSw
                          obtain ⟨s0, s1, s2, s3⟩ := hSw
                          go_simp
                          with_reducible rfl
                        simp only [Act.put, List.setIfInBounds_toArray, List.set_cons_zero, List.set_cons_succ]
                        refine wpAnyH_take (i := 4) (oi := ⟨some 78, _, _, _, _, _⟩) (v := ?_) rfl (by kernel_rfl) (by kernel_rfl) (by kernel_rfl) (fun _ _ _ h => h) (Or.inl ⟨by rfl, ?_⟩) hHeld ?_
                        rotate_left
                        · intro W hSw
                          obtain ⟨s0, s1, s2, s3⟩ := hSw
                          go_simp
                          with_reducible rfl
                        simp only [Act.put, List.setIfInBounds_toArray, List.set_cons_zero, List.set_cons_succ]
                        refine wpAnyH_take (i := 5) (oi := ⟨some 79, _, _, _, _, _⟩) (v := ?_) rfl (by kernel_rfl) (by kernel_rfl) (by kernel_rfl) (fun _ _ _ h => h) (Or.inl ⟨by rfl, ?_⟩) hHeld ?_
                        rotate_left
                        · intro W hSw
                          obtain ⟨s0, s1, s2, s3⟩ := hSw
                          go_simp
                          with_reducible rfl
                        simp only [Act.put, List.setIfInBounds_toArray, List.set_cons_zero, List.set_cons_succ]
                        refine wpAnyH_take (i := 6) (oi := ⟨some 80, _, _, _, _, _⟩) (v := ?_) rfl (by kernel_rfl) (by kernel_rfl) (by kernel_rfl) (fun _ _ _ h => h) (Or.inl ⟨by rfl, ?_⟩) hHeld ?_
                        rotate_left
                        · intro W hSw
                          obtain ⟨s0, s1, s2, s3⟩ := hSw
                          go_simp
                          with_reducible rfl
                        simp only [Act.put, List.setIfInBounds_toArray, List.set_cons_zero, List.set_cons_succ]
                        refine wpAnyH_take (i := 7) (oi := ⟨some 81, _, _, _, _, _⟩) (v := ?_) rfl (by kernel_rfl) (by kernel_rfl) (by kernel_rfl) (fun _ _ _ h => h) (Or.inl ⟨by rfl, ?_⟩) hHeld ?_
                        rotate_left
                        · intro W hSw
                          obtain ⟨s0, s1, s2, s3⟩ := hSw
                          go_simp
                          with_reducible rfl
                        simp only [Act.put, List.setIfInBounds_toArray, List.set_cons_zero, List.set_cons_succ]
                        refine wpAnyH_take (i := 8) (oi := ⟨some 82, _, _, _, _, _⟩) (v := ?_) rfl (by kernel_rfl) (by kernel_rfl) (by kernel_rfl) (fun _ _ _ h => h) (Or.inl ⟨by rfl, ?_⟩) hHeld ?_
                        rotate_left
                        · intro W hSw
                          obtain ⟨s0, s1, s2, s3⟩ := hSw
                          go_simp
                          with_reducible rfl
                        simp only [Act.put, List.setIfInBounds_toArray, List.set_cons_zero, List.set_cons_succ]
                        refine wpAnyH_take (i := 9) (oi := ⟨some 83, _, _, _, _, _⟩) (v := ?_) rfl (by kernel_rfl) (by kernel_rfl) (by kernel_rfl) (fun _ _ _ h => h) (Or.inl ⟨by rfl, ?_⟩) hHeld ?_
                        rotate_left
                        · intro W hSw
                          obtain ⟨s0, s1, s2, s3⟩ := hSw
                          go_simp
                          with_reducible rfl
                        simp only [Act.put, List.setIfInBounds_toArray, List.set_cons_zero, List.set_cons_succ]
                        refine wpAnyH_take (i := 10) (oi := ⟨some 84, _, _, _, _, _⟩) (v := ?_) rfl (by kernel_rfl) (by kernel_rfl) (by kernel_rfl) (fun _ _ _ h => h) (Or.inl ⟨by rfl, ?_⟩) hHeld ?_
                        rotate_left
                        · intro W hSw
                          obtain ⟨s0, s1, s2, s3⟩ := hSw
                          go_simp
                          with_reducible rfl
                        simp only [Act.put, List.setIfInBounds_toArray, List.set_cons_zero, List.set_cons_succ]
                        refine wpAnyH_take (i := 11) (oi := ⟨some 85, _, _, _, _, _⟩) (v := ?_) rfl (by kernel_rfl) (by kernel_rfl) (by kernel_rfl) (fun _ _ _ h => h) (Or.inl ⟨by rfl, ?_⟩) hHeld ?_
                        rotate_left
                        · intro W hSw
                          obtain ⟨s0, s1, s2, s3⟩ := hSw
                          go_simp
                          with_reducible rfl
                        simp only [Act.put, List.setIfInBounds_toArray, List.set_cons_zero, List.set_cons_succ]
                        refine wpAnyH_ready (rs := [12]) (by kernel_rfl) (by simp) ?_
                        refine (AllReadyH.cons (o := ⟨none, _, _, _, _, _⟩) rfl (fun K hK => ?_) AllReadyH.nil)
                        go_simp
                        refine hK.out _ _ HSt2.out (fun _ => ?_)
                        clear hK
                        refine wpAnyH_done (by kernel_rfl) ?_ _
                        go_wp2
                        exact ⟨⟨L'.set v (p + wt), true, k + 1, rfl, by go_num, by omega, HU.out.1, HU.out.2.1, HU.out.2.2⟩, by simp [intOf]; omega⟩
                      · have h3' : decide (p + wt < q) = false := by simpa using h3
                        have hpa := HQ3.out.2.2.2.1 (.inr ⟨by omega, by omega⟩)
                        have HN := Lib.hid (And.intro hpa HQ3.out.2.1)
                        clear hpa h1
                        go_quiet (fail)
                        obtain ⟨w6, hw6⟩ : ∃ W, W = w5.drewN nq := ⟨_, rfl⟩
                        rw [← hw6]
                        have hb6 : Below w5.heap.size w5 w6 := by rw [hw6]; exact below_dN (Below.refl _ _) _
                        have HQ6 := Lib.hid (HQ4.out.1.next hb6)
                        clear hw6 hb6 b0 b1 b2 d1 d2 g2
                        go_wp2
                        exact ⟨⟨L', more, k + 1, rfl, by go_num, by omega, HN.out.2, HN.out.1, HQ6.out⟩, by simp [intOf]; omega⟩
                  · have h1' : decide (0 ≤ p) = false := by simpa using h1
                    have hpa := HQ3.out.2.2.2.1 (.inl (by omega))
                    have HN := Lib.hid (And.intro hpa HQ3.out.2.1)
                    clear hpa h1
                    go_quiet (fail)
                    obtain ⟨w6, hw6⟩ : ∃ W, W = w5.drewN nq := ⟨_, rfl⟩
                    rw [← hw6]
                    have hb6 : Below w5.heap.size w5 w6 := by rw [hw6]; exact below_dN (Below.refl _ _) _
                    have HQ6 := Lib.hid (HQ4.out.1.next hb6)
                    clear hw6 hb6 b0 b1 b2 d1 d2 g2
                    go_wp2
                    exact ⟨⟨L', more, k + 1, rfl, by go_num, by omega, HN.out.2, HN.out.1, HQ6.out⟩, by simp [intOf]; omega⟩
                · obtain rfl : k = l.length := by omega
                  have HQ3 := Lib.hid (And.intro hal (And.intro hbel hseen))
                  clear hal hbel hseen hk
                  cases more with
                  | false =>
                    go_wp2
                    go_roundg (2 * phi i L')
                    case measure =>
                      have h := HQ3.out.2.2
                      have hg := HQ2.out.2.2
                      rcases h with ⟨_, rfl, _⟩ | ⟨h, _⟩
                      · simp at hg
                        omega
                      · cases h
                    case rel =>
                      refine ⟨L', false, rfl, by simp, HQ3.out.2.1, fun _ => ?_, HQ3.out.1⟩
                      rcases HQ3.out.2.2 with ⟨_, _, h⟩ | ⟨h, _⟩
                      · rwa [List.take_length] at h
                      · cases h
                  | true =>
                    go_wp2
                    go_roundg (2 * phi i L' + 1)
                    case measure =>
                      have h := HQ3.out.2.2
                      have hg := HQ2.out.2.2
                      rcases h with ⟨h, _⟩ | ⟨_, h⟩
                      · cases h
                      · simp at hg
                        omega
                    case rel => exact ⟨L', true, rfl, by simp, HQ3.out.2.1, (by intro h; cases h), HQ3.out.1⟩
    · obtain rfl : s = N := by omega
      have HZ := Lib.hid (And.intro htab hbw)
      clear htab hrow hAr hbw hs
      go_wp2
      go_ret
      obtain ⟨bs, h1, h2, h3⟩ := HZ.out.1
      exact ⟨HZ.out.2, _, rfl, bs, h1, owns_base h2 (by omega), fun i b L hi hL => ⟨by have := (h3 i b L hi hL).1; omega, (h3 i b L hi hL).2⟩⟩
end Go.Proofs.Ythljgkaigjokjaa
