/- The document's To and Around. -/
import Derived.Test.YthljgkaigjokjaaDsQ
import Derived.Test.YthljgkaigjokjaaDsJ
namespace Go.Proofs.Ythljgkaigjokjaa
open Go.RowKit Go.Shelf Grm Lay
attribute [local go_sem] Oper.semAt_some
def colL (Lf : Nat → List Int) (t : Int) (n : Nat) : List Int := (List.range n).map fun s => atL (Lf s) t
def colI (Lf : Nat → List Int) (N : Nat) (t : Int) : List Int := if 0 ≤ t ∧ t < (N : Int) then colL Lf t N else []
theorem colL_len (Lf : Nat → List Int) (t : Int) (n : Nat) : (colL Lf t n).length = n := by simp [colL]
theorem colL_succ (Lf : Nat → List Int) (t : Int) (n : Nat) : colL Lf t (n + 1) = colL Lf t n ++ [atL (Lf n) t] := by
  unfold colL
  rw [List.range_succ, List.map_append]
  rfl
theorem col_far {l : List Ar} {N : Nat} {Lf : Nat → List Int} (h : ∀ s, FarL (arcE l) N s (Lf s)) (t : Int) : FarI (arcE (turn l)) N t (colI Lf N t) := by
  by_cases ht : 0 ≤ t ∧ t < (N : Int)
  · unfold colI
    rw [if_pos ht]
    refine .inl ⟨ht.1, ht.2, colL_len _ _ _, fun v hv => ?_⟩
    have hg : (colL Lf t N)[v]? = some (atL (Lf v) t) := by simp [colL, hv]
    obtain ⟨tn, rfl⟩ : ∃ tn : Nat, t = tn := ⟨t.toNat, by omega⟩
    rw [Int.toNat_natCast]
    rcases (h v).2 tn (by omega) with ⟨d, h1, h2⟩ | ⟨h1, h2⟩
    · refine .inl ⟨d, by rw [hg, atL_get h1], wk_turn_iff.2 h2.1, fun d' h' => h2.2 d' (wk_turn_iff.1 h')⟩
    · exact .inr ⟨by rw [hg, atL_get h1], fun d hd => h2 d (wk_turn_iff.1 hd)⟩
  · unfold colI
    rw [if_neg ht]
    exact .inr ⟨by omega, rfl⟩
set_option maxRecDepth 100000 in
set_option maxHeartbeats 4000000 in
theorem rto_any {w : World} {av : Option Addr} {cv N K : Nat} {Lf : Nat → List Int} (h : Tz7 w av cv N K Lf) (t : Int) :
    Calls Try.prog 38 #[.slice av N cv, .int .i64 t] w fun e w' => Below w.heap.size w w' ∧ ∃ x, e = .returned x ∧ IsV w' w.heap.size x (colI Lf N t) := by
  by_cases h1 : t < 0
  · have h1' : decide (t < 0) = true := by simpa using h1
    have hr : colI Lf N t = [] := by unfold colI; rw [if_neg (by omega)]
    rw [hr]
    clear hr h h1
    go_enter Try.func38, Try.ntmps38
    go_wp2
    go_ret
    exact ⟨Below.refl _ _, _, rfl, World.ownsRow_nil _ _ _ _⟩
  · have h1' : decide (t < 0) = false := by simpa using h1
    by_cases h2 : (N : Int) ≤ t
    · have h2' : decide ((N : Int) ≤ t) = true := by simpa using h2
      have hr : colI Lf N t = [] := by unfold colI; rw [if_neg (by omega)]
      rw [hr]
      clear hr h h1 h2
      go_enter Try.func38, Try.ntmps38
      go_wp2
      go_ret
      exact ⟨Below.refl _ _, _, rfl, World.ownsRow_nil _ _ _ _⟩
    · have h2' : decide ((N : Int) ≤ t) = false := by simpa using h2
      obtain ⟨tn, rfl⟩ : ∃ tn : Nat, t = tn := ⟨t.toNat, by omega⟩
      have htn : tn < N := by omega
      have ht' : (tn : Int) < (N : Int) := by omega
      have hr : colI Lf N (tn : Int) = colL Lf (tn : Int) N := by unfold colI; rw [if_pos (by omega)]
      rw [hr]
      obtain ⟨g, _, rfl, _, _⟩ := h.row htn
      have h2d : decide (N ≤ tn) = false := by simp; omega
      have HT := Lib.hid h
      have hN := h.hN
      have hNn : (N : Int) ≤ 16777216 := by omega
      obtain ⟨i0, hi, hz0, hz1, hz2⟩ := info_partsC infoIC
      clear hr h h1 h2
      go_enter Try.func38, Try.ntmps38
      go_wp2
      go_loopw [5, 6] (fun vo vi wr => ∃ i : Nat, vi = .int .i64 (i : Nat) ∧ i ≤ N ∧ IsV wr w.heap.size vo (colL Lf (tn : Int) i) ∧ Below w.heap.size w wr) (fun _ i _ => N - (intOf i).toNat)
      case atStart => exact ⟨0, rfl, Nat.zero_le _, World.ownsRow_nil _ _ _ _, Below.refl _ _⟩
      case round =>
        obtain ⟨i, rfl, hi2, hown, hbw⟩ := hrel
        by_cases hlt : i < N
        · have hlt' : (i : Int) < (N : Int) := by omega
          have hwi : IntKind.i64.wrap ((i : Int) + 1) = (i : Int) + 1 := by rw [IntKind.wrap_i64]; omega
          obtain ⟨g1, b, eg, c1, hrow⟩ := (HT.out.under hbw).row hlt
          cases eg
          have htl : tn < (Lf i).length := by rw [HT.out.len]; exact htn
          have hg := List.getElem?_eq_getElem htl
          have c2 := row_cell hrow hg
          have hsu := colL_succ Lf (tn : Int) i
          rw [atL_get hg] at hsu
          generalize (Lf i)[tn]'htl = y at *
          have hal := colL_len Lf (tn : Int) i
          obtain ⟨A, hA⟩ : ∃ A, A = colL Lf (tn : Int) i := ⟨_, rfl⟩
          rw [← hA] at hsu hown hal
          have hal2 : A.length ≤ 16777216 := by omega
          obtain ⟨ao, co, rfl, _, _⟩ := owns_shape hown
          have HQ := Lib.hid (And.intro hown (And.intro hbw (And.intro hsu hal2)))
          clear hown hbw hsu hg htl hrow hal hA hal2
          go_wp2_with (at_builtin; refine wpList_append_own_at _ rfl _ _ 43 rfl w.heap.size 3 i0 (.int .i64 0) 1 8 Try.underlying43 hi hz0 hz1 hz2 rfl (by decide) (.slice ao A.length co) A.length (A.map (Value.int .i64)) rfl (HQ.out.1.alloc _) ⟨wr.heap.size, 0, none⟩ 1 1 [.int .i64 y] rfl rfl (news1 _ _ _) (by intro u hu; simp at hu; subst hu; rfl) (by unfold maxLen; have := HQ.out.2.2.2; omega) (by have := HQ.out.2.2.2; omega) (by rw [World.size_alloc]; have := HQ.out.2.1.size; omega) ?_; intro v' w3 hown' hg3 _ _; obtain ⟨g', cap', rfl⟩ := ownsRow_succ hown'; have ho3 := (((Only.refl (fun q => (Value.slice ao A.length co).ownBlock = some q) wr).alloc _).grown hg3 (fun q e => .inl e)); have HA := Lib.hid (And.intro hown' ho3); clear hown' hg3 ho3)
          refine ⟨⟨i + 1, by go_num, by omega, ?_, HQ.out.2.1.trans (HA.out.2.below (K := w.heap.size) (fun q e => (owns_lt HQ.out.1 q e).1) HQ.out.2.1.size)⟩, by simp [intOf]; omega⟩
          rw [HQ.out.2.2.1]
          show World.ownsRow _ _ _ _ _ (A ++ [y]).length _
          rw [List.length_append, List.map_append]
          exact HA.out.1
        · obtain rfl : i = N := by omega
          have HQ := Lib.hid (And.intro hown hbw)
          clear hown hbw hi2
          go_wp2
          go_ret
          exact ⟨HQ.out.2, _, rfl, HQ.out.1⟩
/-- What is around, of the first k. -/
def arK (L : List Int) (most : Int) (k : Nat) : List Int := ((List.range k).filter fun v => decide (0 ≤ L[v]?.getD (-1) ∧ L[v]?.getD (-1) ≤ most)).map fun v => ((v : Nat) : Int)
theorem arK_succ (L : List Int) (most : Int) (k : Nat) : arK L most (k + 1) = arK L most k ++ if 0 ≤ L[k]?.getD (-1) ∧ L[k]?.getD (-1) ≤ most then [(k : Int)] else [] := by
  unfold arK
  rw [List.range_succ, List.filter_append, List.map_append]
  congr 1
  by_cases h : 0 ≤ L[k]?.getD (-1) ∧ L[k]?.getD (-1) ≤ most
  · rw [if_pos h, List.filter_cons_of_pos (by simpa using h)]
    rfl
  · rw [if_neg h, List.filter_cons_of_neg (by simpa using h)]
    rfl
theorem arK_len (L : List Int) (most : Int) (k : Nat) : (arK L most k).length ≤ k := by
  unfold arK
  rw [List.length_map]
  exact Nat.le_trans (List.length_filter_le _ _) (by simp)
set_option maxRecDepth 100000 in
set_option maxHeartbeats 4000000 in
theorem raround_any {w : World} {av : Option Addr} {cv N K : Nat} {Lf : Nat → List Int} (h : Tz7 w av cv N K Lf) (s most : Int) :
    Calls Try.prog 41 #[.slice av N cv, .int .i64 s, .int .i64 most] w fun e w' => Below w.heap.size w w' ∧ ∃ x, e = .returned x ∧ IsV w' w.heap.size x (aroundL (rowI Lf N s) most) := by
  have hl : (rowI Lf N s).length ≤ N := by unfold rowI; split; rw [h.len]; exact Nat.le_refl _; simp
  have hN := h.hN
  have HF := Lib.hid (rfrom_any h s)
  clear h
  generalize rowI Lf N s = L at *
  have hL : (L.length : Int) ≤ 16777216 := by omega
  have hLn : L.length ≤ 16777216 := by omega
  obtain ⟨i0, hi, hz0, hz1, hz2⟩ := info_partsC infoIC
  clear hl hN
  go_enter Try.func41, Try.ntmps41
  go_wp2_with (go_at_call 36; refine HF.out.mono ?_; rintro e w1 ⟨rfl, al, cl, rfl, hz⟩; have HZ := Lib.hid hz; clear hz)
  go_loopw [8, 9] (fun vo vi wr => ∃ k : Nat, vi = .int .i64 (k : Nat) ∧ k ≤ L.length ∧ IsV wr w.heap.size vo (arK L most k) ∧ Below w.heap.size w wr) (fun _ i _ => L.length - (intOf i).toNat)
  case atStart => exact ⟨0, rfl, Nat.zero_le _, World.ownsRow_nil _ _ _ _, Below.refl _ _⟩
  case round =>
    obtain ⟨k, rfl, hk, hown, hbw⟩ := hrel
    by_cases hlt : k < L.length
    · have hlt' : (k : Int) < (L.length : Int) := by omega
      have hwi : IntKind.i64.wrap ((k : Int) + 1) = (k : Int) + 1 := by rw [IntKind.wrap_i64]; omega
      obtain ⟨lb, lo, rfl, c1⟩ := (HZ.out.under hbw).at_ hlt
      have hsu := arK_succ L most k
      rw [List.getElem?_eq_getElem hlt] at hsu
      simp only [Option.getD_some] at hsu
      have hal := arK_len L most k
      generalize L[k]'hlt = y at *
      by_cases h1 : 0 ≤ y
      · have h1' : decide (0 ≤ y) = true := by simpa using h1
        by_cases h2 : y ≤ most
        · have h2' : decide (y ≤ most) = true := by simpa using h2
          rw [if_pos ⟨h1, h2⟩] at hsu
          obtain ⟨A, hA⟩ : ∃ A, A = arK L most k := ⟨_, rfl⟩
          rw [← hA] at hsu hown hal
          obtain ⟨ao, co, rfl, _, _⟩ := owns_shape hown
          have HQ := Lib.hid (And.intro hown (And.intro hbw (And.intro hsu hal)))
          clear hown hbw hsu h1 h2 hal hA
          go_wp2_with (at_builtin; refine wpList_append_own_at _ rfl _ _ 43 rfl w.heap.size 3 i0 (.int .i64 0) 1 8 Try.underlying43 hi hz0 hz1 hz2 rfl (by decide) (.slice ao A.length co) A.length (A.map (Value.int .i64)) rfl (HQ.out.1.alloc _) ⟨wr.heap.size, 0, none⟩ 1 1 [.int .i64 (k : Nat)] rfl rfl (news1 _ _ _) (by intro u hu; simp at hu; subst hu; rfl) (by unfold maxLen; have := HQ.out.2.2.2; omega) (by have := HQ.out.2.2.2; omega) (by rw [World.size_alloc]; have := HQ.out.2.1.size; omega) ?_; intro v' w3 hown' hg3 _ _; obtain ⟨g', cap', rfl⟩ := ownsRow_succ hown'; have ho3 := (((Only.refl (fun q => (Value.slice ao A.length co).ownBlock = some q) wr).alloc _).grown hg3 (fun q e => .inl e)); have HA := Lib.hid (And.intro hown' ho3); clear hown' hg3 ho3)
          refine ⟨⟨k + 1, by go_num, by omega, ?_, HQ.out.2.1.trans (HA.out.2.below (K := w.heap.size) (fun q e => (owns_lt HQ.out.1 q e).1) HQ.out.2.1.size)⟩, by simp [intOf]; omega⟩
          rw [HQ.out.2.2.1]
          show World.ownsRow _ _ _ _ _ (A ++ [(k : Int)]).length _
          rw [List.length_append, List.map_append]
          exact HA.out.1
        · have h2' : decide (y ≤ most) = false := by simpa using h2
          rw [if_neg (fun h => h2 h.2), List.append_nil] at hsu
          have HQ := Lib.hid (And.intro hown (And.intro hbw hsu))
          clear hown hbw hsu h1 h2 hal
          go_wp2
          exact ⟨⟨k + 1, by go_num, by omega, by rw [HQ.out.2.2]; exact HQ.out.1, HQ.out.2.1⟩, by simp [intOf]; omega⟩
      · have h1' : decide (0 ≤ y) = false := by simpa using h1
        rw [if_neg (fun h => h1 h.1), List.append_nil] at hsu
        have HQ := Lib.hid (And.intro hown (And.intro hbw hsu))
        clear hown hbw hsu h1 hal
        go_wp2
        exact ⟨⟨k + 1, by go_num, by omega, by rw [HQ.out.2.2]; exact HQ.out.1, HQ.out.2.1⟩, by simp [intOf]; omega⟩
    · obtain rfl : k = L.length := by omega
      have HQ := Lib.hid (And.intro hown hbw)
      clear hown hbw hk
      go_wp2
      go_ret
      exact ⟨HQ.out.2, _, rfl, HQ.out.1⟩
end Go.Proofs.Ythljgkaigjokjaa
