/- DistWalks. -/
import Derived.Test.YthljgkaigjokjaaM5
import Derived.Test.YthljgkaigjokjaaDsL
import Derived.Test.YthljgkaigjokjaaM7
namespace Go.Proofs.Ythljgkaigjokjaa
open Go.RowKit Go.Shelf Grm Lay
theorem walkL_wk {N : Nat} {l : List Ar} (hok : EndsOk N l) {s : Nat} : ∀ (ks : List Int) (v : Nat) (d : Int) (r : Int × Int), Wk (arcE l) s v d → walkL l (v : Int) d ks = some r → ∃ u : Nat, r.1 = u ∧ Wk (arcE l) s u r.2 := by
  intro ks
  induction ks with
  | nil =>
    intro v d r hw h
    injection h with h
    subst h
    exact ⟨v, rfl, hw⟩
  | cons k ks ih =>
    intro v d r hw h
    unfold walkL at h
    split at h
    · rename_i hk
      have hlt : k.toNat < l.length := by omega
      rw [getD_ar hlt] at h hk
      have hx := List.getElem_mem hlt
      have hE := hok _ hx
      generalize l[k.toNat]'hlt = x at *
      obtain ⟨u, hu⟩ : ∃ u : Nat, x.2.1 = u := ⟨x.2.1.toNat, by omega⟩
      rw [hu] at h
      exact ih u _ r (Wk.snoc (e := (x.2.1, x.2.2, 0)) hw (mem_arcE.2 ⟨x, hx, hk.2.2, rfl⟩) hu) h
    · cases h
theorem walkR_some {n : Int} {l : List Ar} {s : Int} {ks : List Int} {r : Int × Int} (h : walkR n l s ks = some r) : checkL n l = 0 ∧ 0 ≤ s ∧ s < n ∧ ∃ u : Nat, r.1 = u ∧ Wk (arcE l) s.toNat u r.2 := by
  unfold walkR at h
  split at h
  · rename_i hc
    obtain ⟨k, rfl, _, _, hok, _⟩ := checkL_zero hc.1
    obtain ⟨v, rfl⟩ : ∃ v : Nat, s = v := ⟨s.toNat, by omega⟩
    exact ⟨hc.1, hc.2.1, hc.2.2, by rw [Int.toNat_natCast]; exact walkL_wk hok ks v 0 r .nil h⟩
  · cases h
theorem FarI.wk {E : Nat → List Ed} {N : Nat} {s : Int} {L : List Int} {B : Int} (hE : Eds E N B) (h : FarI E N s L) (hs : 0 ≤ s ∧ s < (N : Int)) {u : Nat} {d : Int} (hw : Wk E s.toNat u d) : 0 ≤ atL L u ∧ atL L u ≤ d ∧ IsD E s.toNat u (atL L u) := by
  rcases h with ⟨_, _, h⟩ | ⟨h, _⟩
  · have hu := hw.lt hE (by omega)
    rcases h.2 u hu with ⟨d', h1, h2⟩ | ⟨_, h2⟩
    · have e : atL L u = d' := by
        unfold atL
        rw [if_pos (by have := h.1; omega), Int.toNat_natCast, h1]
        rfl
      rw [e]
      exact ⟨h2.1.nonneg hE, h2.2 _ hw, h2⟩
    · exact (h2 _ hw).elim
  · omega
/-- A law's map and numbers, the map in block w.heap.size. -/
structure Mz (w : World) (n : Int) (a : Option Addr) (l : List Ar) (c : Nat) (b : Option Addr) (ks : List Int) (W : World) : Prop where
  row : Row W w.heap.size 24 #[.int .i64 n, .slice a l.length c]
  arcs : Arcs W a l
  nums : Zs W b ks
  bw : Below w.heap.size w W
theorem Mz.next {w W W' : World} {n : Int} {a b : Option Addr} {l : List Ar} {c : Nat} {ks : List Int} (h : Mz w n a l c b ks W) (hb : Below W.heap.size W W') : Mz w n a l c b ks W' :=
  ⟨h.row.under hb h.row.lt, h.arcs.under hb, h.nums.under hb, h.bw.trans (hb.mono h.bw.size)⟩
theorem Mz.start {w : World} {n : Int} {a b : Option Addr} {l : List Ar} {c : Nat} {ks : List Int} (hA : Arcs w a l) (hK : Zs w b ks) : Mz w n a l c b ks (w.alloc (.cells #[.int .i64 n, .slice a l.length c] 24)) := by
  have hb : Below w.heap.size w (w.alloc (.cells #[.int .i64 n, .slice a l.length c] 24)) := (Below.refl _ _).alloc (Nat.le_refl _) _
  exact ⟨Row.fresh w _ _, hA.under hb, hK.under hb, hb⟩
theorem Mz.cells {w W : World} {n : Int} {a b : Option Addr} {l : List Ar} {c : Nat} {ks : List Int} (h : Mz w n a l c b ks W) : W.cell? ⟨w.heap.size, 0, none⟩ = some (.int .i64 n) ∧ W.cell? ⟨w.heap.size, 1, none⟩ = some (.slice a l.length c) := by
  have r0 := h.row.cell 0
  have r1 := h.row.cell 1
  simp only [List.getElem?_toArray, List.getElem?_cons_zero, List.getElem?_cons_succ] at r0 r1
  exact ⟨r0, r1⟩
set_option maxRecDepth 100000 in
set_option maxHeartbeats 4000000 in
theorem dwalks_walk (n : Int) (a : Option Addr) (l : List Ar) (c : Nat) (s : Int) (b : Option Addr) (ks : List Int) (d : Nat) (w : World) (hA : Arcs w a l) (hK : Zs w b ks) :
    Calls Try.prog 10 #[mV n a l.length c, .int .i64 s, .slice b ks.length d] w fun e w' => e = .returned (.bool true) ∧ Below w.heap.size w w' := by
  show Calls Try.prog 10 #[.agg #[.int .i64 n, .slice a l.length c], .int .i64 s, .slice b ks.length d] w _
  obtain ⟨w1, hw1⟩ : ∃ w1, w1 = w.alloc (.cells #[.int .i64 n, .slice a l.length c] 24) := ⟨_, rfl⟩
  have H1 := Lib.hid (show Mz w n a l c b ks w1 by rw [hw1]; exact Mz.start hA hK)
  have HW := Lib.hid hw1
  clear hw1 hA hK
  obtain ⟨R, hR⟩ : ∃ R, R = smallB n l.length 30 80 := ⟨_, rfl⟩
  have HR := Lib.hid hR
  clear hR
  cases R with
  | false =>
    go_enter Try.func10, Try.ntmps10
    go_wp2_with (first
      | (go_at_call 16; rw [← HW.out]; refine (small_any n a l.length c 30 80 _).mono ?_; rintro e w2 ⟨rfl, hb2⟩; rw [← HR.out]; have H2 := Lib.hid (H1.out.next hb2); clear hb2)
      | (go_at_call 30; refine (dknown_any _).mono ?_; rintro e w3 ⟨rfl, hb3⟩; have H3 := Lib.hid (H2.out.next hb3); clear hb3))
    go_ret
    exact ⟨rfl, H3.out.bw⟩
  | true =>
    by_cases hl : 100 < ks.length
    · have hl' : (100 : Int) < (ks.length : Int) := by omega
      clear hl
      go_enter Try.func10, Try.ntmps10
      go_wp2_with (first
        | (go_at_call 16; rw [← HW.out]; refine (small_any n a l.length c 30 80 _).mono ?_; rintro e w2 ⟨rfl, hb2⟩; rw [← HR.out]; have H2 := Lib.hid (H1.out.next hb2); clear hb2)
        | (go_at_call 30; refine (dknown_any _).mono ?_; rintro e w3 ⟨rfl, hb3⟩; have H3 := Lib.hid (H2.out.next hb3); clear hb3))
      go_ret
      exact ⟨rfl, H3.out.bw⟩
    · have hl' : ¬ (100 : Int) < (ks.length : Int) := by omega
      have HL := Lib.hid (show ks.length ≤ 1000000 by omega)
      clear hl
      obtain ⟨V, hV⟩ : ∃ V, V = walkR n l s ks := ⟨_, rfl⟩
      have HV := Lib.hid hV
      clear hV
      cases V with
      | none =>
        go_enter Try.func10, Try.ntmps10
        go_wp2_with (first
          | (go_at_call 16; rw [← HW.out]; refine (small_any n a l.length c 30 80 _).mono ?_; rintro e w2 ⟨rfl, hb2⟩; rw [← HR.out]; have H2 := Lib.hid (H1.out.next hb2); have r2 := H2.out.cells.1; have s2 := H2.out.cells.2; clear hb2)
          | (go_at_call 43; refine (walk_any n a l c s b ks d _ H2.out.arcs H2.out.nums HL.out).mono ?_; rintro e w3 ⟨rfl, hb3⟩; rw [← HV.out]; simp only [walkV]; have H3 := Lib.hid (H2.out.next hb3); have r3 := H3.out.cells.1; have s3 := H3.out.cells.2; clear hb3 r2 s2)
          | (go_at_call 44; refine (rwalk_any n a l c s b ks d _ H3.out.arcs H3.out.nums HL.out).mono ?_; rintro e w4 ⟨rfl, hb4⟩; rw [← HV.out]; simp only [walkV]; have H4 := Lib.hid (H3.out.next hb4); clear hb4 r3 s3)
          | (go_at_call 30; refine (dknown_any _).mono ?_; rintro e w5 ⟨rfl, hb5⟩; have H5 := Lib.hid (H4.out.next hb5); clear hb5))
        go_ret
        exact ⟨rfl, H5.out.bw⟩
      | some r =>
        obtain ⟨hck, hs0, hs1, u, hu, hwk⟩ := walkR_some HV.out.symm
        obtain ⟨N, rfl, hN, hll, hok, hln⟩ := checkL_zero hck
        obtain ⟨L, hL⟩ := FarI.ex (eds_arc hok hln) s
        obtain ⟨f1, f2, _⟩ := hL.wk (eds_arc hok hln) ⟨hs0, hs1⟩ hwk
        rw [← hu] at f1 f2
        have HF := Lib.hid (And.intro hck hL)
        have f1' : (0 ≤ atL L r.1) := f1
        clear hck hs0 hs1 hu hwk hN hll hok hln hL f1'
        generalize hA : atL L r.1 = A at *
        have HAt := Lib.hid hA
        clear hA
        go_enter Try.func10, Try.ntmps10
        go_wp2_with (first
          | (go_at_call 16; rw [← HW.out]; refine (small_any N a l.length c 30 80 _).mono ?_; rintro e w2 ⟨rfl, hb2⟩; rw [← HR.out]; have H2 := Lib.hid (H1.out.next hb2); have r2 := H2.out.cells.1; have s2 := H2.out.cells.2; clear hb2)
          | (go_at_call 43; refine (walk_any N a l c s b ks d _ H2.out.arcs H2.out.nums HL.out).mono ?_; rintro e w3 ⟨rfl, hb3⟩; rw [← HV.out]; simp only [walkV]; have H3 := Lib.hid (H2.out.next hb3); have r3 := H3.out.cells.1; have s3 := H3.out.cells.2; clear hb3 r2 s2)
          | (go_at_call 44; refine (rwalk_any N a l c s b ks d _ H3.out.arcs H3.out.nums HL.out).mono ?_; rintro e w4 ⟨rfl, hb4⟩; rw [← HV.out]; simp only [walkV]; have H4 := Lib.hid (H3.out.next hb4); have r4 := H4.out.cells.1; have s4 := H4.out.cells.2; clear hb4 r3 s3)
          | (go_at_call 18; refine (new_any H4.out.arcs HF.out.1).mono ?_; rintro e w5 ⟨g, rfl, hb5, hg⟩; have H5 := Lib.hid (And.intro (H4.out.next hb5) (gv_of HF.out.1 hg)); clear hb5 hg r4 s4)
          | (go_at_call 32; refine (between_any H5.out.2 (Nat.le_refl _) HF.out.2).mono ?_; rintro e w6 ⟨rfl, hb6⟩; rw [HAt.out]; have H6 := Lib.hid (H5.out.1.next hb6); clear hb6)
          | (go_at_call 30; refine (dknown_any _).mono ?_; rintro e w7 ⟨rfl, hb7⟩; have H7 := Lib.hid (H6.out.next hb7); clear hb7))
        go_ret
        exact ⟨rfl, H7.out.bw⟩
end Go.Proofs.Ythljgkaigjokjaa
