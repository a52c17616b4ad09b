/- dist, the document's All: row by row, arc by arc: pure. -/
import Derived.Test.YthljgkaigjokjaaM5
namespace Go.Proofs.Ythljgkaigjokjaa
open Go.RowKit Go.Shelf Grm Lay
def phiN (N : Nat) (x : Int) : Nat := if x < 0 then N * 2147483648 + 1 else x.toNat
/-- How much nearer all may come. -/
def phi (N : Nat) (L : List Int) : Nat := (L.map (phiN N)).sum
def cntP (L : List Int) : Nat := L.countP fun x => decide (0 ≤ x)
theorem set_parts {L : List Int} {v : Nat} {b y : Int} (h : L[v]? = some b) : L = L.take v ++ b :: L.drop (v + 1) ∧ L.set v y = L.take v ++ y :: L.drop (v + 1) := by
  obtain ⟨hlt, rfl⟩ := List.getElem?_eq_some_iff.1 h
  refine ⟨?_, ?_⟩
  · rw [← List.drop_eq_getElem_cons hlt, List.take_append_drop]
  · rw [List.set_eq_take_append_cons_drop, if_pos hlt]
theorem phi_set {N : Nat} {L : List Int} {v : Nat} {b y : Int} (h : L[v]? = some b) : phi N (L.set v y) + phiN N b = phi N L + phiN N y := by
  obtain ⟨h1, h2⟩ := set_parts (y := y) h
  have e1 : phi N L = phi N (L.take v ++ b :: L.drop (v + 1)) := congrArg (phi N) h1
  rw [h2, e1]
  unfold phi
  simp only [List.map_append, List.map_cons, List.sum_append, List.sum_cons]
  omega
theorem cnt_set {L : List Int} {v : Nat} {b y : Int} (h : L[v]? = some b) (hy : 0 ≤ y) : (b < 0 → cntP (L.set v y) = cntP L + 1) ∧ (0 ≤ b → cntP (L.set v y) = cntP L) := by
  obtain ⟨h1, h2⟩ := set_parts (y := y) h
  have e1 : cntP L = cntP (L.take v ++ b :: L.drop (v + 1)) := congrArg cntP h1
  rw [h2, e1]
  unfold cntP
  simp only [List.countP_append, List.countP_cons]
  constructor
  · intro hb
    rw [if_pos (by simpa using hy), if_neg (by simp; omega)]
    omega
  · intro hb
    rw [if_pos (by simpa using hy), if_pos (by simpa using hb)]
/-- The row of s, on its way. -/
structure Bel (l : List Ar) (N s : Nat) (L : List Int) : Prop where
  len : L.length = N
  zero : L[s]? = some 0
  walk : ∀ (v : Nat) (d : Int), L[v]? = some d → d = -1 ∨ (0 ≤ d ∧ Wk (arcE l) s v d)
  bound : ∀ (v : Nat) (d : Int), L[v]? = some d → d + 2147483648 ≤ (cntP L : Int) * 2147483648
/-- No arc makes it nearer. -/
def Shut7 (l : List Ar) (L : List Int) : Prop := ∀ x ∈ l, ∀ d : Int, L[x.1.toNat]? = some d → 0 ≤ d → ∃ d', L[x.2.1.toNat]? = some d' ∧ 0 ≤ d' ∧ d' ≤ d + x.2.2
theorem Bel.done {l : List Ar} {N s : Nat} {L : List Int} (h : Bel l N s L) (hc : Shut7 l L) : FarL (arcE l) N s L := Clo.farL ⟨h.len, h.walk, h.zero, hc⟩
def initL (N s : Nat) : List Int := (List.replicate N (-1)).set s 0
theorem initL_at {N s v : Nat} (hs : s < N) : (initL N s)[v]? = if v = s then some 0 else if v < N then some (-1) else none := by
  unfold initL
  by_cases e : s = v
  · subst e
    rw [List.getElem?_set_self (by simpa using hs), if_pos rfl]
  · rw [List.getElem?_set_ne e, if_neg (fun h => e h.symm)]
    by_cases hv : v < N
    · simp [hv]
    · simp [hv]
theorem cnt_pos {L : List Int} {v : Nat} {d : Int} (h : L[v]? = some d) (h0 : 0 ≤ d) : 1 ≤ cntP L := by
  unfold cntP
  exact List.countP_pos_iff.2 ⟨d, List.mem_of_getElem? h, by simpa using h0⟩
theorem cnt_le (L : List Int) : cntP L ≤ L.length := List.countP_le_length
theorem Bel.start {l : List Ar} {N s : Nat} (hs : s < N) : Bel l N s (initL N s) := by
  have h0 : (initL N s)[s]? = some 0 := by rw [initL_at hs, if_pos rfl]
  have hc := cnt_pos h0 (Int.le_refl _)
  refine ⟨by simp [initL], h0, fun v d hv => ?_, fun v d hv => ?_⟩
  · rw [initL_at hs] at hv
    split at hv
    · rename_i e
      injection hv with hv
      subst hv
      subst e
      exact .inr ⟨Int.le_refl _, .nil⟩
    · split at hv
      · injection hv with hv
        exact .inl hv.symm
      · cases hv
  · rw [initL_at hs] at hv
    split at hv
    · injection hv with hv
      subst hv
      omega
    · split at hv
      · injection hv with hv
        subst hv
        omega
      · cases hv
/-- A place is nearer by an arc. -/
theorem Bel.relax {l : List Ar} {N s : Nat} {L : List Int} (hok : EndsOk N l) (hl : Len l) (h : Bel l N s L) {x : Ar} (hx : x ∈ l) {u v : Nat} {a b : Int} (hu : x.1 = (u : Int)) (hv : x.2.1 = (v : Int)) (ha : L[u]? = some a) (h0 : 0 ≤ a) (hb : L[v]? = some b) (hn : b < 0 ∨ a + x.2.2 < b) :
    Bel l N s (L.set v (a + x.2.2)) ∧ phi N (L.set v (a + x.2.2)) < phi N L ∧ u ≠ v := by
  have hw := hl x hx
  have hne : u ≠ v := by
    intro e
    subst e
    rw [ha] at hb
    injection hb with hb
    omega
  have hvs : v ≠ s := by
    intro e
    subst e
    rw [h.zero] at hb
    injection hb with hb
    omega
  have hvl : v < L.length := (List.getElem?_eq_some_iff.1 hb).1
  have hwu : Wk (arcE l) s u a := by
    rcases h.walk u a ha with e | ⟨_, e⟩
    · omega
    · exact e
  have hba := h.bound u a ha
  have hbb := h.bound v b hb
  obtain ⟨c1, c2⟩ := cnt_set (y := a + x.2.2) hb (by omega)
  have hcl := cnt_le L
  have hlen := h.len
  refine ⟨⟨by simp [h.len], by rw [List.getElem?_set_ne hvs]; exact h.zero, fun q d hq => ?_, fun q d hq => ?_⟩, ?_, hne⟩
  · by_cases e : v = q
    · subst e
      rw [List.getElem?_set_self hvl] at hq
      injection hq with hq
      subst hq
      exact .inr ⟨by omega, Wk.snoc (e := (x.2.1, x.2.2, 0)) hwu (mem_arcE.2 ⟨x, hx, hu, rfl⟩) hv⟩
    · rw [List.getElem?_set_ne e] at hq
      exact h.walk q d hq
  · have hcc : cntP L ≤ cntP (L.set v (a + x.2.2)) := by
      rcases Int.lt_or_le b 0 with hb0 | hb0
      · rw [c1 hb0]
        omega
      · rw [c2 hb0]
        exact Nat.le_refl _
    by_cases e : v = q
    · subst e
      rw [List.getElem?_set_self hvl] at hq
      have hq := Option.some.inj hq
      rw [← hq]
      rcases Int.lt_or_le b 0 with hb0 | hb0
      · have e1 := c1 hb0
        generalize cntP (L.set v (a + x.2.2)) = c' at *
        omega
      · have e1 := c2 hb0
        generalize cntP (L.set v (a + x.2.2)) = c' at *
        omega
    · rw [List.getElem?_set_ne e] at hq
      have := h.bound q d hq
      omega
  · have hp := phi_set (N := N) (y := a + x.2.2) hb
    have h1 : phiN N (a + x.2.2) = (a + x.2.2).toNat := by unfold phiN; rw [if_neg (by omega)]
    rcases Int.lt_or_le b 0 with hb0 | hb0
    · have h2 : phiN N b = N * 2147483648 + 1 := by unfold phiN; rw [if_pos hb0]
      omega
    · have h2 : phiN N b = b.toNat := by unfold phiN; rw [if_neg (by omega)]
      omega
theorem Bel.le {l : List Ar} {N s : Nat} {L : List Int} (h : Bel l N s L) {v : Nat} {d : Int} (hv : L[v]? = some d) : -1 ≤ d ∧ d ≤ (N : Int) * 2147483648 := by
  have h1 := h.bound v d hv
  have h2 := cnt_le L
  have h3 := h.len
  rcases h.walk v d hv with h4 | ⟨h4, _⟩
  · omega
  · omega
/-- What a round has seen so far: nothing came nearer, and the arcs before k are shut; or something did. -/
def Seen (l : List Ar) (N : Nat) (L0 L : List Int) (more : Bool) (k : Nat) : Prop := (more = false ∧ L = L0 ∧ Shut7 (l.take k) L) ∨ (more = true ∧ phi N L < phi N L0)
theorem Seen.start (l : List Ar) (N : Nat) (L : List Int) : Seen l N L L false 0 := .inl ⟨rfl, rfl, fun x hx => by simp at hx⟩
theorem Seen.pass {l : List Ar} {N : Nat} {L0 L : List Int} {more : Bool} {k : Nat} (h : Seen l N L0 L more k) (hk : k < l.length) {u v : Nat} {a b : Int} (hu : (l[k]'hk).1 = (u : Int)) (hv : (l[k]'hk).2.1 = (v : Int)) (ha : L[u]? = some a) (hb : L[v]? = some b) (hn : a < 0 ∨ (0 ≤ b ∧ b ≤ a + (l[k]'hk).2.2)) : Seen l N L0 L more (k + 1) := by
  rcases h with ⟨h1, h2, h3⟩ | h
  · refine .inl ⟨h1, h2, fun x hx d hd h0 => ?_⟩
    rw [List.take_succ_eq_append_getElem hk] at hx
    rcases List.mem_append.1 hx with hx | hx
    · exact h3 x hx d hd h0
    · rw [List.mem_singleton.1 hx, hu, Int.toNat_natCast, ha] at hd
      injection hd with hd
      subst hd
      rw [List.mem_singleton.1 hx]
      refine ⟨b, by rw [hv, Int.toNat_natCast]; exact hb, by omega, by omega⟩
  · exact .inr h
theorem Seen.near {l : List Ar} {N : Nat} {L0 L L' : List Int} {more : Bool} {k k' : Nat} (h : Seen l N L0 L more k) (hp : phi N L' < phi N L) : Seen l N L0 L' true k' := by
  rcases h with ⟨_, rfl, _⟩ | ⟨_, h⟩
  · exact .inr ⟨rfl, hp⟩
  · exact .inr ⟨rfl, by omega⟩
end Go.Proofs.Ythljgkaigjokjaa
