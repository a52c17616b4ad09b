/- Walks: the document's Set. -/
import Derived.Test.YthpfhimdgmckgaaHeapS
namespace Go.Proofs.Ythpfhimdgmckgaa
open Go.RowKit Hp

/-- A struct that was just laid, in a later world. -/
theorem Row.laid {w w1 : World} {o : Obj} {t : TypeId} {cs : Array Value} (hb : Below ((w.alloc o).alloc (.cells cs t)).heap.size ((w.alloc o).alloc (.cells cs t)) w1) : Row w1 (w.heap.size + 1) t cs := by
  have h := Row.fresh (w.alloc o) t cs
  rw [World.size_alloc] at h
  exact h.under hb (by simp)
theorem IV.cell {w : World} {v : Value} {t : List (Int × Int)} (h : IV w v t) {p : Addr} (hne : v.ownBlock ≠ some p.block) (u : Value) : IV (w.setCell p u) v t :=
  h.off (k := p.block) ⟨rfl, rfl, rfl, by simp [World.setCell], fun k hk hn => Below.heap_setCell _ _ _ _ (fun e => hn (by rw [e]))⟩ hne
theorem rset_out (n id key : Int) (v : Value) (t : List (Int × Int)) (w : World) (h : IV w v t) (hz : id < 0 ∨ n ≤ id) : Calls Try.prog 25 #[tV n v, .int .i64 id, .int .i64 key] w fun e w' => e = .returned (.tuple #[tV n v, .bool false]) ∧ Below w.heap.size w w' := by
  obtain ⟨ad, c, rfl⟩ := h.shape
  clear h
  by_cases h0 : id < 0
  · clear hz
    go_enter Try.func25, Try.ntmps25
    go_wp2
    exact bodyPost_ret (v := .tuple #[tV n (.slice ad t.length c), .bool false]) (by simp [results, Try.results25, go_sem]) rfl ⟨rfl, ((Below.refl _ _).alloc (Nat.le_refl _) _).alloc (by simp) _⟩
  · have h1 : n ≤ id := by omega
    have hd : decide (id < 0) = false := decide_eq_false h0
    clear hz
    go_enter Try.func25, Try.ntmps25
    go_wp2
    exact bodyPost_ret (v := .tuple #[tV n (.slice ad t.length c), .bool false]) (by simp [results, Try.results25, go_sem]) rfl ⟨rfl, ((Below.refl _ _).alloc (Nat.le_refl _) _).alloc (by simp) _⟩
theorem rset_in (n id key : Int) (v : Value) (t : List (Int × Int)) (w : World) (h : IV w v t) (hl : t.length ≤ 1000000) (h0 : 0 ≤ id) (h1 : id < n) : Calls Try.prog 25 #[tV n v, .int .i64 id, .int .i64 key] w fun e w' => ∃ v', e = .returned (.tuple #[tV n v', .bool true]) ∧ IV w' v' (dropL t id ++ [(id, key)]) ∧ (∀ k, v'.ownBlock = some k → w.heap.size ≤ k) ∧ Below w.heap.size w w' := by
  obtain ⟨ad, c, rfl⟩ := h.shape
  have hd : decide (id < 0) = false := decide_eq_false (by omega)
  have hd2 : ¬ n ≤ id := by omega
  have HB0 := Lib.hid (show Below w.heap.size w ((w.alloc (.cells #[.int .i64 n, .slice ad t.length c] 26)).alloc (.cells #[.int .i64 0, .slice none 0 0] 26)) from ((Below.refl _ _).alloc (Nat.le_refl _) _).alloc (by simp) _)
  have HV := Lib.hid (h.under HB0.out)
  have hlen := dropL_le t id
  clear h
  go_enter Try.func25, Try.ntmps25
  go_wp2_with fail
  refine (rdrop_any n id _ t _ HV.out hl).mono ?_
  rintro e w1 ⟨v1, rfl, hiv, hfr, hb⟩
  obtain ⟨a1, c1, rfl⟩ := hiv.shape
  have hrow := Row.laid hb
  have hz : w.heap.size + 1 < w1.heap.size := hrow.lt
  have k0 : w1.cell? ⟨w.heap.size + 1, 0, none⟩ = some (.int .i64 0) := hrow.cell 0
  have k1 : w1.cell? ⟨w.heap.size + 1, 1, none⟩ = some (.slice none 0 0) := hrow.cell 1
  obtain ⟨v2, w2, hrun, hiv2, hg2, hat2⟩ := run_appendI (w := (w1.alloc (.cells #[.int .i64 n, .slice a1 (dropL t id).length c1] 26)).alloc (.cells #[.int .i64 id, .int .i64 key] 33)) 24 (.slice a1 (dropL t id).length c1) (dropL t id) (w1.heap.size + 1) (id, key) (hiv.under (((Below.refl _ _).alloc (Nat.le_refl _) _).alloc (by simp) _)) (by omega) (by simp) (by simp)
  obtain ⟨a2, c2, hv2⟩ := hiv2.shape
  subst hv2
  have hfr1 : ∀ k, (Value.slice a1 (dropL t id).length c1).ownBlock = some k → w.heap.size + 2 ≤ k := fun k hk => by have := hfr k hk; simp at this; omega
  have hlt1 := hiv.lt
  have hU : (Value.slice a1 (dropL t id).length c1).ownBlock ≠ some w1.heap.size := fun e => by have := hlt1 _ e; omega
  have hRb : (Value.slice a1 (dropL t id).length c1).ownBlock ≠ some (w.heap.size + 1) := fun e => by have := hfr1 _ e; omega
  have ru2 : Row w2 w1.heap.size 26 #[.int .i64 n, .slice a1 (dropL t id).length c1] := (hg2.block _ (by simp; omega) (fun e => hU e.symm)).trans ((Row.fresh w1 _ _).past _)
  have rr2 : Row w2 (w.heap.size + 1) 26 #[.int .i64 0, .slice none 0 0] := (hg2.block _ (by simp; omega) (fun e => hRb e.symm)).trans ((hrow.past _).past _)
  have hb2 : Below w.heap.size w w2 := (((then_below HB0.out hb).alloc (by omega) _).alloc (by simp; omega) _).grown hg2 (by simp; omega) (fun k hk => by have := hfr1 k hk; omega)
  have hfr2 : ∀ k, (Value.slice a2 (dropL t id ++ [(id, key)]).length c2).ownBlock = some k → w.heap.size + 2 ≤ k ∧ k ≠ w1.heap.size := fun k hk => by
    rcases hat2 with h | h
    · exact ⟨hfr1 k (h ▸ hk), fun e => by have := hlt1 k (h ▸ hk); omega⟩
    · rw [h] at hk; injection hk with hk; simp at hk; omega
  have u0 : w2.cell? ⟨w1.heap.size, 0, none⟩ = some (.int .i64 n) := ru2.cell 0
  have u1 : w2.cell? ⟨w1.heap.size, 1, none⟩ = some (.slice a1 (dropL t id).length c1) := ru2.cell 1
  have uf := ru2.thaw 1
  have ul := ru2.lt
  have q0 : w2.cell? ⟨w.heap.size + 1, 0, none⟩ = some (.int .i64 0) := rr2.cell 0
  have q1 : w2.cell? ⟨w.heap.size + 1, 1, none⟩ = some (.slice none 0 0) := rr2.cell 1
  have qf0 := rr2.thaw 0
  have qf1 := rr2.thaw 1
  have hne : w1.heap.size ≠ w.heap.size + 1 := by omega
  have hne' : w.heap.size + 1 ≠ w1.heap.size := by omega
  have HIV := Lib.hid hiv2
  have HFr := Lib.hid hfr2
  have HB2 := Lib.hid hb2
  have HRUN := Lib.hid hrun
  clear hrow k0 k1 hiv hfr hb hrun hiv2 hg2 hat2 hfr1 hlt1 hU hRb ru2 rr2 hb2 hfr2 hlen HV HB0
  generalize hsl : (Value.slice a2 (dropL t id ++ [(id, key)]).length c2) = sv at *
  obtain ⟨m2, hm2⟩ : ∃ m2, (dropL t id ++ [(id, key)]).length = m2 := ⟨_, rfl⟩
  rw [hm2] at hsl
  subst hsl
  have HM2 := Lib.hid hm2
  clear hm2
  go_wp2_with (at_builtin; refine wpList_appendI rfl _ _ rfl _ _ rfl rfl HRUN.out ?_)
  have hno : (Value.slice a2 m2 c2).ownBlock ≠ some (w.heap.size + 1) := fun e => by have := (HFr.out _ e).1; omega
  have hno2 : (Value.slice a2 m2 c2).ownBlock ≠ some w1.heap.size := fun e => (HFr.out _ e).2 rfl
  refine bodyPost_ret (v := .tuple #[tV n (.slice a2 m2 c2), .bool true]) (by simp [results, Try.results25, go_sem, q0, q1, hne]) rfl ?_
  have hx : w.heap.size ≤ w1.heap.size := by omega
  exact ⟨_, rfl, ((HIV.out.cell (p := ⟨w1.heap.size, 1, none⟩) hno2 _).cell (p := ⟨w.heap.size + 1, 0, none⟩) hno _).cell (p := ⟨w.heap.size + 1, 1, none⟩) hno _, fun k hk => by have := (HFr.out k hk).1; omega, ((HB2.out.setCell hx _).setCell (by show w.heap.size ≤ w.heap.size + 1; omega) _).setCell (by show w.heap.size ≤ w.heap.size + 1; omega) _⟩
end Go.Proofs.Ythpfhimdgmckgaa
