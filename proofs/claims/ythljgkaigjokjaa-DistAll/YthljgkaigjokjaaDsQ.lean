/- The document's Between, From, To, Around over its table. -/
import Derived.Test.YthljgkaigjokjaaDsP
import Derived.Test.YthljgkaigjokjaaM7
import Derived.BigQuiet
namespace Go.Proofs.Ythljgkaigjokjaa
open Go.RowKit Go.Shelf Grm Lay
attribute [local go_sem] Oper.semAt_some
theorem tab_at {w : World} {K n cv N i : Nat} {av : Option Addr} {Ls : List (List Int)} {L : List Int} (h : Tab w K (.slice av n cv) N Ls) (hi : Ls[i]? = some L) : ∃ g b, av = some ⟨g, 0, none⟩ ∧ w.cell? ⟨g, i, none⟩ = some (.slice (some ⟨b, 0, none⟩) N N) ∧ Row w b 3 (L.map (Value.int .i64)).toArray := by
  obtain ⟨bs, h1, h2, h3⟩ := h
  have hlt := (List.getElem?_eq_some_iff.1 hi).1
  have hb : bs[i]? = some (bs[i]'(by omega)) := List.getElem?_eq_getElem (by omega)
  obtain ⟨g, c, e, _, hc⟩ := owns_cell (i := i) (u := .slice (some ⟨bs[i]'(by omega), 0, none⟩) N N) h2 (by simp [hb])
  cases e
  exact ⟨g, _, rfl, hc, (h3 i _ L hb hi).2⟩
/-- The row of whatever number. -/
def rowI (Lf : Nat → List Int) (N : Nat) (s : Int) : List Int := if 0 ≤ s ∧ s < (N : Int) then Lf s.toNat else []
theorem rowI_in {Lf : Nat → List Int} {N s : Nat} (h : s < N) : rowI Lf N (s : Nat) = Lf s := by unfold rowI; rw [if_pos (by omega), Int.toNat_natCast]
theorem rowI_far {l : List Ar} {N : Nat} {Lf : Nat → List Int} (h : ∀ s, FarL (arcE l) N s (Lf s)) (s : Int) : FarI (arcE l) N s (rowI Lf N s) := by
  by_cases hs : 0 ≤ s ∧ s < (N : Int)
  · unfold rowI
    rw [if_pos hs]
    exact .inl ⟨hs.1, hs.2, h _⟩
  · unfold rowI
    rw [if_neg hs]
    exact .inr ⟨by omega, rfl⟩
/-- A table in memory that a law carries. -/
structure Tz7 (w : World) (av : Option Addr) (cv N K : Nat) (Lf : Nat → List Int) : Prop where
  tab : Tab w K (.slice av N cv) N ((List.range N).map Lf)
  len : ∀ s, (Lf s).length = N
  hN : N ≤ 16777216
theorem Tz7.under {w w' : World} {av : Option Addr} {cv N K : Nat} {Lf : Nat → List Int} (h : Tz7 w av cv N K Lf) (hb : Below w.heap.size w w') : Tz7 w' av cv N K Lf := ⟨h.tab.under hb, h.len, h.hN⟩
theorem Tz7.row {w : World} {av : Option Addr} {cv N K : Nat} {Lf : Nat → List Int} (h : Tz7 w av cv N K Lf) {s : Nat} (hs : s < N) : ∃ g b, av = some ⟨g, 0, none⟩ ∧ w.cell? ⟨g, s, none⟩ = some (.slice (some ⟨b, 0, none⟩) N N) ∧ Row w b 3 ((Lf s).map (Value.int .i64)).toArray := tab_at h.tab (by simp [hs])
theorem atL_get {L : List Int} {q : Nat} {d : Int} (h : L[q]? = some d) : atL L q = d := by
  have hlt := (List.getElem?_eq_some_iff.1 h).1
  unfold atL
  rw [if_pos (by omega), Int.toNat_natCast, h]
  rfl
theorem rbetween_any {w : World} {av : Option Addr} {cv N K : Nat} {Lf : Nat → List Int} (h : Tz7 w av cv N K Lf) (s t : Int) :
    Calls Try.prog 39 #[.slice av N cv, .int .i64 s, .int .i64 t] w fun e w' => e = .returned (.int .i64 (atL (rowI Lf N s) t)) ∧ w = w' := by
  have HN := Lib.hid h.hN
  by_cases h1 : s < 0
  · have h1' : decide (s < 0) = true := by simpa using h1
    have hr : atL (rowI Lf N s) t = -1 := by unfold rowI; rw [if_neg (by omega)]; unfold atL; simp
    rw [hr]
    clear hr h h1
    go_enter Try.func39, Try.ntmps39
    go_wp2
    go_ret
    exact ⟨rfl, rfl⟩
  · have h1' : decide (s < 0) = false := by simpa using h1
    by_cases h2 : (N : Int) ≤ s
    · have h2' : decide ((N : Int) ≤ s) = true := by simpa using h2
      have hr : atL (rowI Lf N s) t = -1 := by unfold rowI; rw [if_neg (by omega)]; unfold atL; simp
      rw [hr]
      clear hr h h1 h2
      go_enter Try.func39, Try.ntmps39
      go_wp2
      go_ret
      exact ⟨rfl, rfl⟩
    · have h2' : decide ((N : Int) ≤ s) = false := by simpa using h2
      obtain ⟨sn, rfl⟩ : ∃ sn : Nat, s = sn := ⟨s.toNat, by omega⟩
      have hsn : sn < N := by omega
      rw [rowI_in hsn]
      by_cases h3 : t < 0
      · have h3' : decide (t < 0) = true := by simpa using h3
        have hr : atL (Lf sn) t = -1 := by unfold atL; rw [if_neg (by omega)]
        rw [hr]
        clear hr h h1 h2 h3
        go_enter Try.func39, Try.ntmps39
        go_wp2
        go_ret
        exact ⟨rfl, rfl⟩
      · have h3' : decide (t < 0) = false := by simpa using h3
        by_cases h4 : (N : Int) ≤ t
        · have h4' : decide ((N : Int) ≤ t) = true := by simpa using h4
          have hr : atL (Lf sn) t = -1 := by unfold atL; rw [if_neg (by rw [h.len]; omega)]
          rw [hr]
          clear hr h h1 h2 h3 h4
          go_enter Try.func39, Try.ntmps39
          go_wp2
          go_ret
          exact ⟨rfl, rfl⟩
        · have h4' : decide ((N : Int) ≤ t) = false := by simpa using h4
          obtain ⟨tn, rfl⟩ : ∃ tn : Nat, t = tn := ⟨t.toNat, by omega⟩
          have htn : tn < (Lf sn).length := by rw [h.len]; omega
          obtain ⟨g, b, rfl, c1, hrow⟩ := h.row hsn
          have hg := List.getElem?_eq_getElem htn
          have c2 := row_cell hrow hg
          have hr : atL (Lf sn) (tn : Int) = (Lf sn)[tn]'htn := atL_get hg
          rw [hr]
          have hs' : (sn : Int) < (N : Int) := by omega
          have ht' : (tn : Int) < (N : Int) := by have := h.len sn; omega
          generalize (Lf sn)[tn]'htn = y at *
          clear hr hg hrow h h1 h2 h3 h4 htn hsn
          go_enter Try.func39, Try.ntmps39
          go_wp2
          go_ret
          exact ⟨rfl, rfl⟩
theorem rfrom_any {w : World} {av : Option Addr} {cv N K : Nat} {Lf : Nat → List Int} (h : Tz7 w av cv N K Lf) (s : Int) :
    Calls Try.prog 36 #[.slice av N cv, .int .i64 s] w fun e w' => w = w' ∧ ∃ a c, e = .returned (.slice a (rowI Lf N s).length c) ∧ Zs w a (rowI Lf N s) := by
  by_cases h1 : s < 0
  · have h1' : decide (s < 0) = true := by simpa using h1
    have hr : rowI Lf N s = [] := by unfold rowI; rw [if_neg (by omega)]
    rw [hr]
    clear hr h h1
    go_enter Try.func36, Try.ntmps36
    go_wp2
    go_ret
    exact ⟨rfl, none, 0, rfl, .inl rfl⟩
  · have h1' : decide (s < 0) = false := by simpa using h1
    by_cases h2 : (N : Int) ≤ s
    · have h2' : decide ((N : Int) ≤ s) = true := by simpa using h2
      have hr : rowI Lf N s = [] := by unfold rowI; rw [if_neg (by omega)]
      rw [hr]
      clear hr h h1 h2
      go_enter Try.func36, Try.ntmps36
      go_wp2
      go_ret
      exact ⟨rfl, none, 0, rfl, .inl rfl⟩
    · have h2' : decide ((N : Int) ≤ s) = false := by simpa using h2
      obtain ⟨sn, rfl⟩ : ∃ sn : Nat, s = sn := ⟨s.toNat, by omega⟩
      have hsn : sn < N := by omega
      rw [rowI_in hsn]
      obtain ⟨g, b, rfl, c1, hrow⟩ := h.row hsn
      have hs' : (sn : Int) < (N : Int) := by omega
      have HR := Lib.hid (And.intro (Zs.of_row hrow) (h.len sn))
      clear hrow h h1 h2 hsn
      go_enter Try.func36, Try.ntmps36
      go_wp2
      go_ret
      exact ⟨rfl, some ⟨b, 0, none⟩, N, by rw [HR.out.2]; rfl, HR.out.1⟩
end Go.Proofs.Ythljgkaigjokjaa
