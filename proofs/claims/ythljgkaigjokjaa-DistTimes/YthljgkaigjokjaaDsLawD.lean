/- DistSteps: pure. -/
import Derived.Test.YthljgkaigjokjaaDsLawC
namespace Go.Proofs.Ythljgkaigjokjaa
open Go.RowKit Go.Shelf Grm Lay
theorem atL_of {L : List Int} {q : Nat} {d : Int} (h : L[q]? = some d) : atL L q = d := by
  have hlt := (List.getElem?_eq_some_iff.1 h).1
  unfold atL
  rw [if_pos (by omega), Int.toNat_natCast, h]
  rfl
theorem FarL.is {E : Nat → List Ed} {N s : Nat} {L : List Int} (h : FarL E N s L) {v : Nat} {d : Int} (hv : L[v]? = some d) (h0 : 0 ≤ d) : IsD E s v d := by
  have hlt := (List.getElem?_eq_some_iff.1 hv).1
  rcases h.2 v (by rw [← h.1]; exact hlt) with ⟨d', h3, h4⟩ | ⟨h3, _⟩
  · rw [hv] at h3
    injection h3 with h3
    subst h3
    exact h4
  · rw [hv] at h3
    injection h3 with h3
    omega
theorem FarL.wk {E : Nat → List Ed} {N s : Nat} {B : Int} {L : List Int} (hE : Eds E N B) (h : FarL E N s L) (hs : s < N) {v : Nat} {d : Int} (hw : Wk E s v d) : ∃ d', L[v]? = some d' ∧ 0 ≤ d' ∧ d' ≤ d ∧ IsD E s v d' := by
  rcases h.2 v (hw.lt hE hs) with ⟨d', h3, h4⟩ | ⟨_, h3⟩
  · exact ⟨d', h3, h4.1.nonneg hE, h4.2 _ hw, h4⟩
  · exact (h3 _ hw).elim
theorem far_in {l : List Ar} {N s : Nat} {L : List Int} (hok : EndsOk N l) (hl : Len l) (h : FarL (arcE l) N s L) (hs : s < N) {v : Nat} (hv : v < N) {e : Ed} (he : e ∈ inE N l v) :
    ∃ (q : Nat) (du dv : Int), e.1 = (q : Int) ∧ q < N ∧ L[q]? = some du ∧ L[v]? = some dv ∧ (0 ≤ du → 0 ≤ dv ∧ dv ≤ du + e.2.1) ∧ 0 ≤ e.2.1 ∧ e.2.1 ≤ 2147483648 := by
  obtain ⟨x, hx, h1, h2, h3, _⟩ := in_arc hok he
  have hE := hok x hx
  have hL := hl x hx
  obtain ⟨q, hq⟩ : ∃ q : Nat, x.1 = q := ⟨x.1.toNat, by omega⟩
  have hql : q < L.length := by rw [h.1]; omega
  have hvl : v < L.length := by rw [h.1]; omega
  refine ⟨q, L[q], L[v], by rw [h2, hq], by omega, List.getElem?_eq_getElem hql, List.getElem?_eq_getElem hvl, fun h0 => ?_, by rw [h3]; exact hL.1, by rw [h3]; exact hL.2⟩
  have hd := h.is (List.getElem?_eq_getElem hql) h0
  obtain ⟨d', h4, h5, h6, _⟩ := h.wk (eds_arc hok hl) hs (Wk.snoc (e := (x.2.1, x.2.2, 0)) hd.1 (mem_arcE.2 ⟨x, hx, hq, rfl⟩) h1)
  rw [List.getElem?_eq_getElem hvl] at h4
  injection h4 with h4
  rw [h4, h3]
  exact ⟨h5, h6⟩
theorem far_made {l : List Ar} {N s : Nat} {L : List Int} (hok : EndsOk N l) (hl : Len l) (h : FarL (arcE l) N s L) (hs : s < N) {v : Nat} {dv : Int} (hv : L[v]? = some dv) (h0 : 0 ≤ dv) :
    (v = s ∧ dv = 0) ∨ ∃ e ∈ inE N l v, ∃ (q : Nat) (du : Int), e.1 = (q : Int) ∧ L[q]? = some du ∧ 0 ≤ du ∧ dv = du + e.2.1 := by
  have hd := (same_out hok hl).symm.isD (h.is hv h0)
  have ho := h.same (same_out hok hl).symm
  have hw := hd.1
  cases hw with
  | nil => exact .inl ⟨rfl, rfl⟩
  | snoc hw' he hev =>
    rename_i u d e
    right
    obtain ⟨hu, t, k, ht, hb, rfl⟩ := mem_outE.1 he
    obtain ⟨_, hk, hf, htt, _⟩ := bestArc_some.1 hb
    have hK := hok _ (List.getElem_mem hk)
    unfold fromN at hf
    unfold toN at htt
    rw [getD_ar hk] at hf htt
    have hev' : (l[k]?.getD (0, 0, 0)).2.1 = (v : Int) := hev
    rw [getD_ar hk] at hev'
    have hvt : t = v := by omega
    subst hvt
    obtain ⟨d', h3, h4, h5, h6⟩ := ho.wk (eds_out hok hl) hs hw'
    have h7 := hd.2 _ (Wk.snoc h6.1 he hev)
    have hww : (edge_out l k).2.1 = (edge_in l k).2.1 := rfl
    refine ⟨edge_in l k, mem_inE.2 ⟨ht, u, k, hu, hb, rfl⟩, u, d', ?_, h3, h4, ?_⟩
    · show (l[k]?.getD (0, 0, 0)).1 = _
      rw [getD_ar hk]
      omega
    · rw [hww] at h7 ⊢
      omega
/-- Whether an edge, of those given, makes up the distance of v. -/
def madeB (L : List Int) (s v : Nat) (E : List Ed) : Bool := (decide (((v : Nat) : Int) = (s : Int)) && decide (atL L v = 0)) || E.any fun e => decide (0 ≤ atL L e.1) && decide (atL L v = atL L e.1 + e.2.1)
theorem madeB_nil (L : List Int) (s v : Nat) : madeB L s v [] = (decide (((v : Nat) : Int) = (s : Int)) && decide (atL L v = 0)) := by simp [madeB]
theorem madeB_succ {L : List Int} {s v i : Nat} {E : List Ed} (hi : i < E.length) : madeB L s v (E.take (i + 1)) = (madeB L s v (E.take i) || (decide (0 ≤ atL L (E[i]'hi).1) && decide (atL L v = atL L (E[i]'hi).1 + (E[i]'hi).2.1))) := by
  unfold madeB
  rw [List.take_succ_eq_append_getElem hi, List.any_append, Bool.or_assoc]
  simp
theorem madeB_all {l : List Ar} {N s : Nat} {L : List Int} (hok : EndsOk N l) (hl : Len l) (h : FarL (arcE l) N s L) (hs : s < N) {v : Nat} (hv : v < N) (h0 : 0 ≤ atL L v) : madeB L s v (inE N l v) = true := by
  have hvl : v < L.length := by rw [h.1]; omega
  have hg := List.getElem?_eq_getElem hvl
  have e := atL_of hg
  rw [e] at h0
  unfold madeB
  rw [e]
  rcases far_made hok hl h hs hg h0 with ⟨rfl, h2⟩ | ⟨ed, he, q, du, h3, h4, h5, h6⟩
  · simp [h2]
  · rw [Bool.or_eq_true]
    right
    rw [List.any_eq_true]
    refine ⟨ed, he, ?_⟩
    rw [h3, atL_of h4]
    simp [h5, h6]
theorem Zs.cell {w : World} {b o : Nat} {l : List Int} (h : Zs w (some ⟨b, o, none⟩) l) {i : Nat} {y : Int} (hi : l[i]? = some y) : w.cell? ⟨b, o + i, none⟩ = some (.int .i64 y) := by
  rcases h with rfl | ⟨b', o', e, h⟩
  · cases hi
  · injection e with e
    injection e with e1 e2 _
    subst e1
    subst e2
    exact h i y hi
end Go.Proofs.Ythljgkaigjokjaa
