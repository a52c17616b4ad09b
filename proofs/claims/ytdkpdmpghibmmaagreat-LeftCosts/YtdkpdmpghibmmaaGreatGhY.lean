/- The document's Small, Right, part and Of (written by mkofm.py). -/
import Derived.Test.YtdkpdmpghibmmaaGreatGhX
import Derived.Test.YtdkpdmpghibmmaaGreatGhW
import Derived.Test.YtdkpdmpghibmmaaGreatGhN
import Derived.Deep.AppendLies
namespace Go.Proofs.YtdkpdmpghibmmaaGreat
open Go.RowKit Go.Shelf Grm Lay

def smallB (n : Int) (k : Nat) (N A : Int) : Bool := decide ((k : Int) ≤ A) && (decide (n ≤ N) || decide (16777216 < n))
theorem small_any (n : Int) (a : Option Addr) (k c : Nat) (N A : Int) (w : World) : Calls Tryz.prog 101 #[mV n a k c, .int .i64 N, .int .i64 A] w fun e w' => e = .returned (.bool (smallB n k N A)) ∧ Below w.heap.size w w' := by
  obtain ⟨R, hR⟩ : ∃ R, R = smallB n k N A := ⟨_, rfl⟩
  rw [← hR]
  have HR := Lib.hid hR
  clear hR
  show Calls Tryz.prog 101 #[.agg #[.int .i64 n, .slice a k c], .int .i64 N, .int .i64 A] w _
  by_cases h1 : (k : Int) ≤ A
  · have hd1 : decide ((k : Int) ≤ A) = true := by simpa using h1
    have hr1 : R = (decide (n ≤ N) || decide (16777216 < n)) := by rw [HR.out]; unfold smallB; rw [hd1]; rfl
    clear h1
    by_cases h2 : n ≤ N
    · have hd2 : decide (n ≤ N) = true := by simpa using h2
      have hr : R = true := by rw [hr1, hd2]; rfl
      clear h2 hr1
      subst hr
      go_enter Tryz.func101, Tryz.ntmps101
      go_wp2
      go_ret
      exact ⟨rfl, (Below.refl _ _).alloc (Nat.le_refl _) _⟩
    · have hd2 : decide (n ≤ N) = false := by simpa using h2
      by_cases h3 : 16777216 < n
      · have hd3 : decide (16777216 < n) = true := by simpa using h3
        have hr : R = true := by rw [hr1, hd2, hd3]; rfl
        clear h2 hr1 h3
        subst hr
        go_enter Tryz.func101, Tryz.ntmps101
        go_wp2
        go_ret
        exact ⟨rfl, (Below.refl _ _).alloc (Nat.le_refl _) _⟩
      · have hd3 : decide (16777216 < n) = false := by simpa using h3
        have hr : R = false := by rw [hr1, hd2, hd3]; rfl
        clear h2 hr1 h3
        subst hr
        go_enter Tryz.func101, Tryz.ntmps101
        go_wp2
        go_ret
        exact ⟨rfl, (Below.refl _ _).alloc (Nat.le_refl _) _⟩
  · have hd1 : decide ((k : Int) ≤ A) = false := by simpa using h1
    have hr : R = false := by rw [HR.out]; unfold smallB; rw [hd1]; rfl
    clear h1
    subst hr
    go_enter Tryz.func101, Tryz.ntmps101
    go_wp2
    go_ret
    exact ⟨rfl, (Below.refl _ _).alloc (Nat.le_refl _) _⟩
def rightB (n : Int) (l : List Ar) (N A : Int) : Bool := smallB n l.length N A && decide (checkL n l = 0)
theorem right_any (n : Int) (a : Option Addr) (l : List Ar) (c : Nat) (N A : Int) (w : World) (hA : Arcs w a l) : Calls Tryz.prog 52 #[mV n a l.length c, .int .i64 N, .int .i64 A] w fun e w' => e = .returned (.bool (rightB n l N A)) ∧ Below w.heap.size w w' := by
  obtain ⟨w1, hw1⟩ : ∃ w1, w1 = w.alloc (.cells #[.int .i64 n, .slice a l.length c] 24) := ⟨_, rfl⟩
  have hb1 : Below w.heap.size w w1 := by rw [hw1]; exact (Below.refl _ _).alloc (Nat.le_refl _) _
  have hr1 : Row w1 w.heap.size 24 #[.int .i64 n, .slice a l.length c] := by rw [hw1]; exact Row.fresh w _ _
  have HA := Lib.hid (And.intro (hA.under hb1) (And.intro hb1 hr1))
  have HW := Lib.hid hw1
  clear hA hb1 hr1 hw1
  show Calls Tryz.prog 52 #[.agg #[.int .i64 n, .slice a l.length c], .int .i64 N, .int .i64 A] w _
  obtain ⟨S, hS⟩ : ∃ S, S = smallB n l.length N A := ⟨_, rfl⟩
  have hR : rightB n l N A = (S && decide (checkL n l = 0)) := by rw [hS]; rfl
  rw [hR]
  have HS := Lib.hid hS
  clear hS hR
  cases S with
  | false =>
    go_enter Tryz.func52, Tryz.ntmps52
    go_wp2_with (first | (go_at_call 101; rw [← HW.out]; refine (small_any n a l.length c N A _).mono ?_; rintro e w2 ⟨rfl, hb2⟩; rw [← HS.out]; have HB := Lib.hid hb2; clear hb2))
    go_ret
    exact ⟨rfl, HA.out.2.1.trans (HB.out.mono HA.out.2.1.size)⟩
  | true =>
    by_cases hc : checkL n l = 0
    all_goals
      have hcd : (checkL n l == 0) = decide (checkL n l = 0) := rfl
      first | (have hd : decide (checkL n l = 0) = true := by simpa using hc) | (have hd : decide (checkL n l = 0) = false := by simpa using hc)
      rw [hd] at hcd ⊢
      clear hc hd
      go_enter Tryz.func52, Tryz.ntmps52
      go_wp2_with (first
        | (go_at_call 101; rw [← HW.out]; refine (small_any n a l.length c N A _).mono ?_; rintro e w2 ⟨rfl, hb2⟩; rw [← HS.out]; have hr2 := HA.out.2.2.under hb2 HA.out.2.2.lt; have r0 := hr2.cell 0; have r1 := hr2.cell 1; simp only [List.getElem?_toArray, List.getElem?_cons_zero, List.getElem?_cons_succ] at r0 r1; have HB := Lib.hid hb2; clear hb2 hr2)
        | (go_at_call 64; refine (rcheck_any n a l c _ (HA.out.1.under HB.out)).mono ?_; rintro e w3 ⟨rfl, hb3⟩; have HB3 := Lib.hid hb3; clear hb3))
      go_ret
      exact ⟨rfl, HA.out.2.1.trans ((HB.out.trans (HB3.out.mono HB.out.size)).mono HA.out.2.1.size)⟩
theorem ret_intC {a b : Int} (h : a = b) : Ending.returned (.int .i64 a) = .returned (.int .i64 b) := by rw [h]
theorem ret_val {a b : Int} (h : a = b) : Value.int .i64 a = .int .i64 b := by rw [h]
theorem part_any (x n : Int) (w : World) (hn : 0 < n) (hn2 : n ≤ 4294967296) (hx : Fit x) : Calls Tryz.prog 115 #[.int .i64 x, .int .i64 n] w fun e w' => e = .returned (.int .i64 (x % n)) ∧ w = w' := by
  have hn0 : n ≠ 0 := by omega
  have hlt := Int.tmod_lt_of_pos x hn
  have hgt : -n < x.tmod n := by
    have := Int.tmod_lt_of_pos (-x) hn
    rw [Int.neg_tmod] at this
    omega
  have h2 : (x.tmod n) % n = x % n := by
    rw [Int.tmod_eq_emod]
    split
    · simp
    · have e : (n.natAbs : Int) = n := by omega
      rw [e, show x % n - n = x % n + n * (-1) by omega, Int.add_mul_emod_self_left, Int.emod_emod]
  unfold Fit at hx
  have hx1 := hx.1
  have hx2 := hx.2
  by_cases hneg : x.tmod n < 0
  · have hem : x.tmod n + n = x % n := by
      rw [← h2, ← Int.add_emod_right (x.tmod n) n, Int.emod_eq_of_lt (by omega) (by omega)]
    have hd : decide (x.tmod n < 0) = true := by simpa using hneg
    have hw : wrap64 (x.tmod n + n) = x.tmod n + n := by
      have := IntKind.wrap_i64 (x.tmod n + n)
      first | (rw [← IntKind.wrap_i64]; exact IntWalk.i64_in _ (by omega)) | (unfold wrap64; omega)
    rw [← hem]
    have HWr := Lib.hid hw
    clear hx hneg hem h2 hlt hgt hw
    go_enter Tryz.func115, Tryz.ntmps115
    go_wp2
    go_ret
    exact ⟨ret_intC HWr.out, rfl⟩
  · have hem : x.tmod n = x % n := by
      rw [← h2, Int.emod_eq_of_lt (by omega) (by omega)]
    have hd : decide (x.tmod n < 0) = false := by simpa using hneg
    rw [← hem]
    clear hx hneg hem h2 hlt hgt
    go_enter Tryz.func115, Tryz.ntmps115
    go_wp2
    go_ret
    exact ⟨rfl, rfl⟩
def ofN (n : Int) : Nat := (max 1 (min n 12)).toNat
def ofA (N : Nat) (x : Ar) : Ar := (x.1 % (N : Int), x.2.1 % (N : Int), x.2.2 % 2147483649)
def ofL (n : Int) (l : List Ar) : List Ar := (l.take 40).map (ofA (ofN n))
theorem ofN_le (n : Int) : 1 ≤ ofN n ∧ ofN n ≤ 12 := by unfold ofN; omega
theorem ofN_int (n : Int) : max 1 (min n 12) = (ofN n : Int) := by unfold ofN; omega
/-- Behind the append. -/
theorem of_tail {w w2 wq : World} {N qb ck : Nat} {ak : Option Addr} {L L' : List Ar} {x0 x1 x2 : Int} (hs2 : w2.heap.size = w.heap.size + 2)
    (hmq : Row wq (w.heap.size + 1) 24 #[.int .i64 (N : Nat), .slice ak L.length ck]) (hzq : Row wq w.heap.size 24 #[.int .i64 0, .slice none 0 0]) (hbq : Below w.heap.size w wq)
    (hqb : Row wq qb 88 #[.int .i64 x0, .int .i64 x1, .int .i64 x2]) (hsq : wq.heap.size = qb + 1) (hvl : ∀ q, (Value.slice ak L.length ck).ownBlock = some q → w2.heap.size ≤ q ∧ q < qb) (hsz : w2.heap.size ≤ qb) (htk : L' = L ++ [ofA N (x0, x1, x2)]) :
    ∀ g' cap w4, w4.ownsRow w2.heap.size 88 3 (.slice (some ⟨g', 0, none⟩) (L.length + 1) cap) (L.length + 1) (acells L ++ [.int .i64 (x0 % (N : Int)), .int .i64 (x1 % (N : Int)), .int .i64 (x2 % 2147483649)]) →
      (wq.drew.alloc (.cells #[.int .i64 (x0 % (N : Int)), .int .i64 (x1 % (N : Int)), .int .i64 (x2 % 2147483649)] 88)).grownBy w4 (Value.slice ak L.length ck).ownBlock → ((Value.slice ak L.length ck).ownBlock = some g' ∨ g' = (wq.drew.alloc (.cells #[.int .i64 (x0 % (N : Int)), .int .i64 (x1 % (N : Int)), .int .i64 (x2 % 2147483649)] 88)).heap.size) →
      Row w4 (w.heap.size + 1) 24 #[.int .i64 (N : Nat), .slice ak L.length ck] ∧
      (w4.cell? ⟨qb, 0, none⟩ = some (.int .i64 x0) ∧ w4.cell? ⟨qb, 1, none⟩ = some (.int .i64 x1) ∧ w4.cell? ⟨qb, 2, none⟩ = some (.int .i64 x2)) ∧
      ((w4.setCell ⟨w.heap.size + 1, 1, none⟩ (.slice (some ⟨g', 0, none⟩) (L.length + 1) cap)).cell? ⟨qb, 0, none⟩ = some (.int .i64 x0) ∧ (w4.setCell ⟨w.heap.size + 1, 1, none⟩ (.slice (some ⟨g', 0, none⟩) (L.length + 1) cap)).cell? ⟨qb, 1, none⟩ = some (.int .i64 x1) ∧ (w4.setCell ⟨w.heap.size + 1, 1, none⟩ (.slice (some ⟨g', 0, none⟩) (L.length + 1) cap)).cell? ⟨qb, 2, none⟩ = some (.int .i64 x2)) ∧
      ∃ (v' : Value), Row (w4.setCell ⟨w.heap.size + 1, 1, none⟩ (.slice (some ⟨g', 0, none⟩) (L.length + 1) cap)) (w.heap.size + 1) 24 #[.int .i64 (N : Nat), v'] ∧ AV (w4.setCell ⟨w.heap.size + 1, 1, none⟩ (.slice (some ⟨g', 0, none⟩) (L.length + 1) cap)) w2.heap.size v' L' ∧ Row (w4.setCell ⟨w.heap.size + 1, 1, none⟩ (.slice (some ⟨g', 0, none⟩) (L.length + 1) cap)) w.heap.size 24 #[.int .i64 0, .slice none 0 0] ∧ Below w.heap.size w (w4.setCell ⟨w.heap.size + 1, 1, none⟩ (.slice (some ⟨g', 0, none⟩) (L.length + 1) cap)) ∧ w2.heap.size ≤ (w4.setCell ⟨w.heap.size + 1, 1, none⟩ (.slice (some ⟨g', 0, none⟩) (L.length + 1) cap)).heap.size := by
  intro g' cap w4 hown hg hat
  have hbd : Below wq.heap.size wq (wq.drew.alloc (.cells #[.int .i64 (x0 % (N : Int)), .int .i64 (x1 % (N : Int)), .int .i64 (x2 % 2147483649)] 88)) := ((Below.refl wq.heap.size wq).drew).alloc (Nat.le_refl _) _
  have ho : Only (fun q => (Value.slice ak L.length ck).ownBlock = some q) wq w4 := ((Only.of_below _ hbd) : Only (fun q => (Value.slice ak L.length ck).ownBlock = some q) wq _).grown hg (fun q e => .inl e)
  have hno : ∀ q, q < w2.heap.size → ¬ (Value.slice ak L.length ck).ownBlock = some q := fun q h e => by have := (hvl q e).1; omega
  have hnq : ¬ (Value.slice ak L.length ck).ownBlock = some qb := fun e => by have := (hvl qb e).2; omega
  have hm4 := hmq.only ho (hno _ (by omega))
  have hz4 := hzq.only ho (hno _ (by omega))
  have hq4 := hqb.only ho hnq
  have hb4 : Below w.heap.size w w4 := hbq.trans (ho.below (K := w.heap.size) (fun q e => by have := (hvl q e).1; omega) hbq.size)
  have hqm : ¬ qb = w.heap.size + 1 := by omega
  have h4s := ho.size
  refine ⟨hm4, ⟨hq4.cell 0, hq4.cell 1, hq4.cell 2⟩, ⟨(hq4.away (a := ⟨w.heap.size + 1, 1, none⟩) hqm _).cell 0, (hq4.away (a := ⟨w.heap.size + 1, 1, none⟩) hqm _).cell 1, (hq4.away (a := ⟨w.heap.size + 1, 1, none⟩) hqm _).cell 2⟩, .slice (some ⟨g', 0, none⟩) (L.length + 1) cap, ?_, ?_, hz4.away (a := ⟨w.heap.size + 1, 1, none⟩) (by simp) _, hb4.setCell (by simp) _, ?_⟩
  · have := hm4.put 1 (.slice (some ⟨g', 0, none⟩) (L.length + 1) cap)
    simpa using this
  · subst htk
    show World.ownsRow _ _ _ _ _ (L ++ [ofA N (x0, x1, x2)]).length (acells (L ++ [ofA N (x0, x1, x2)]))
    rw [List.length_append, acells_append]
    exact owns_only hown ((Only.refl (fun q => q = w.heap.size + 1) w4).setCell (p := ⟨w.heap.size + 1, 1, none⟩) (.inl rfl) _) (fun q e h => by have := (owns_lt hown q e).1; omega)
  · simp only [World.setCell, Array.size_modify]
    omega
set_option maxRecDepth 100000 in
set_option maxHeartbeats 4000000 in
theorem of_map (n : Int) (a : Option Addr) (l : List Ar) (c : Nat) (w : World) (hA : Arcs w a l) (hF : ∀ y ∈ l, FitA y) : Calls Tryz.prog 79 #[.int .i64 n, .slice a l.length c] w fun e w' => Below w.heap.size w w' ∧ ∃ a' c', e = .returned (mV (ofN n : Nat) a' (ofL n l).length c') ∧ AV w' w.heap.size (.slice a' (ofL n l).length c') (ofL n l) := by
  have hN := ofN_int n
  have hN1 := ofN_le n
  have HA := Lib.hid (And.intro hA hF)
  have HN1 := Lib.hid hN1
  obtain ⟨N, hNe⟩ : ∃ N, N = ofN n := ⟨_, rfl⟩
  rw [← hNe] at hN hN1
  have HNe := Lib.hid hNe
  clear hA hF hNe
  obtain ⟨w1, hw1⟩ : ∃ w1, w1 = w.alloc (.cells #[.int .i64 0, .slice none 0 0] 24) := ⟨_, rfl⟩
  have hb1 : Below w.heap.size w w1 := by rw [hw1]; exact (Below.refl _ _).alloc (Nat.le_refl _) _
  have hr1 : Row w1 w.heap.size 24 #[.int .i64 0, .slice none 0 0] := by rw [hw1]; exact Row.fresh w _ _
  have hs1 : w1.heap.size = w.heap.size + 1 := by rw [hw1]; simp
  have HW1 := Lib.hid hw1
  have H1 := Lib.hid (And.intro hb1 (And.intro hr1 hs1))
  clear hw1 hb1 hr1 hs1
  have HNi := Lib.hid hN
  clear hN
  go_enter Tryz.func79, Tryz.ntmps79
  go_upto_region 1 with (fail)
  rw [← HW1.out]
  go_cut [0] from 8 to 10 (fun v wx => v = .int .i64 (N : Nat) ∧ wx = w1)
  case first =>
    go_wp2
    all_goals
      go_meet
      refine ⟨ret_val ?_, rfl⟩
      have := HNi.out
      omega
  case rest =>
    obtain ⟨rfl, rfl⟩ := hcut
    obtain ⟨w2, hw2⟩ : ∃ w2, w2 = wc.alloc (.cells #[.int .i64 (N : Nat), .slice none 0 0] 24) := ⟨_, rfl⟩
    have hb2 : Below wc.heap.size wc w2 := by rw [hw2]; exact (Below.refl _ _).alloc (Nat.le_refl _) _
    have hr2 : Row w2 (w.heap.size + 1) 24 #[.int .i64 (N : Nat), .slice none 0 0] := by
      rw [hw2]
      have := Row.fresh wc 24 #[.int .i64 (N : Nat), .slice none 0 0]
      rwa [H1.out.2.2] at this
    have hs2 : w2.heap.size = w.heap.size + 2 := by rw [hw2, World.size_alloc, H1.out.2.2]
    have hs1 := H1.out.2.2
    go_wp2
    rw [← hw2]
    have H2 := Lib.hid (And.intro (H1.out.1.trans (hb2.mono (by omega))) (And.intro hr2 (And.intro hs2 (H1.out.2.1.under hb2 (by omega)))))
    clear hw2 hb2 hr2 hs2
    obtain ⟨i0, hi, hz0, hz1, hz2⟩ := info_partsC infoA
    go_loopw [6] (fun i wr => ∃ (k : Nat) (v : Value), i = .int .i64 k ∧ k ≤ 40 ∧ k ≤ l.length ∧ Row wr (w.heap.size + 1) 24 #[.int .i64 (N : Nat), v] ∧ AV wr w2.heap.size v ((l.take k).map (ofA N)) ∧ Row wr w.heap.size 24 #[.int .i64 0, .slice none 0 0] ∧ Below w.heap.size w wr ∧ w2.heap.size ≤ wr.heap.size) (fun i _ => 40 - (intOf i).toNat)
    case atStart => exact ⟨0, .slice none 0 0, rfl, by omega, by omega, H2.out.2.1, AV.nil _ _, H2.out.2.2.2, H2.out.1, Nat.le_refl _⟩
    case round =>
      obtain ⟨k, v, rfl, hk, hkl, hm, hv, hz, hb, hsz⟩ := hrel
      by_cases hlt : k < 40 ∧ k < l.length
      · have hlt1 : (k : Int) < 40 := by omega
        have hlt2 : (k : Int) < (l.length : Int) := by omega
        have hd1 : decide ((k : Int) < 40) = true := by simpa using hlt1
        have hd2 : decide ((k : Int) < (l.length : Int)) = true := by simpa using hlt2
        have hw1' : IntKind.i64.wrap ((k : Int) + 1) = (k : Int) + 1 := by rw [IntKind.wrap_i64]; omega
        obtain ⟨ak, ck, rfl⟩ := hv.shape
        have hkl2 := hlt.2
        have hll : ((l.take k).map (ofA N)).length = k := by rw [List.length_map, List.length_take]; omega
        have htk : (l.take (k + 1)).map (ofA N) = (l.take k).map (ofA N) ++ [ofA N (l[k]'hkl2)] := by rw [List.take_succ_eq_append_getElem hkl2, List.map_append]; rfl
        obtain ⟨ba, oa, rfl, y0, y1, y2⟩ := (HA.out.1.under hb).at_ hkl2
        have hfx := HA.out.2 _ (List.getElem_mem hkl2)
        generalize hLe : (l.take k).map (ofA N) = L at *
        generalize l[k]'hkl2 = x at *
        obtain ⟨x0, x1, x2⟩ := x
        simp only at y0 y1 y2
        have HFx := Lib.hid (show Fit x0 ∧ Fit x1 ∧ Fit x2 from hfx)
        have HR := Lib.hid (And.intro hm (And.intro hv (And.intro hz (And.intro hb (And.intro hsz (And.intro hll (And.intro htk hLe)))))))
        clear hm hv hz hb hsz hll htk hfx hLe hlt
        have hmlt : w.heap.size + 1 < wr.heap.size := HR.out.1.lt
        have hqb := Row.fresh wr 88 #[.int .i64 x0, .int .i64 x1, .int .i64 x2]
        have hmq := HR.out.1.past (.cells #[.int .i64 x0, .int .i64 x1, .int .i64 x2] 88)
        have hzq := HR.out.2.2.1.past (.cells #[.int .i64 x0, .int .i64 x1, .int .i64 x2] 88)
        have hvq := World.ownsRow.alloc HR.out.2.1 (.cells #[.int .i64 x0, .int .i64 x1, .int .i64 x2] 88)
        have hbq := HR.out.2.2.2.1.alloc HR.out.2.2.2.1.size (.cells #[.int .i64 x0, .int .i64 x1, .int .i64 x2] 88)
        have hsq : (wr.alloc (.cells #[.int .i64 x0, .int .i64 x1, .int .i64 x2] 88)).heap.size = wr.heap.size + 1 := by simp
        have hvl : ∀ q, (Value.slice ak L.length ck).ownBlock = some q → w2.heap.size ≤ q ∧ q < wr.heap.size := fun q e => owns_lt HR.out.2.1 q e
        go_upto_region 7 with (fail)
        generalize wr.heap.size = qb at *
        generalize wr.alloc (.cells #[.int .i64 x0, .int .i64 x1, .int .i64 x2] 88) = wq at *
        have c1 := hmq.cell 1
        simp only [List.getElem?_toArray, List.getElem?_cons_zero, List.getElem?_cons_succ] at c1
        have HSt := Lib.hid (show ∀ W, Below wq.heap.size wq W → (W.cell? ⟨qb, 0, none⟩ = some (.int .i64 x0) ∧ W.cell? ⟨qb, 1, none⟩ = some (.int .i64 x1) ∧ W.cell? ⟨qb, 2, none⟩ = some (.int .i64 x2)) from fun W hW => ⟨(hqb.under hW hqb.lt).cell 0, (hqb.under hW hqb.lt).cell 1, (hqb.under hW hqb.lt).cell 2⟩)
        have HV := Lib.hid (show wq.drew.ownsRow w2.heap.size 88 3 (.slice ak L.length ck) L.length (acells L) from hvq)
        have HQs := Lib.hid (show w2.heap.size ≤ wq.heap.size by have := HR.out.2.2.2.2.1; omega)
        have hml2 : w.heap.size + 1 < wq.heap.size := hmq.lt
        have HTail := Lib.hid (of_tail (hs2 := H2.out.2.2.1) hmq hzq hbq hqb hsq hvl HR.out.2.2.2.2.1 HR.out.2.2.2.2.2.2.1)
        clear hqb hmq hzq hvq hbq hsq hvl y0 y1 y2
        refine wp_region_held_drew (S := fun W => W.cell? ⟨qb, 0, none⟩ = some (.int .i64 x0) ∧ W.cell? ⟨qb, 1, none⟩ = some (.int .i64 x1) ∧ W.cell? ⟨qb, 2, none⟩ = some (.int .i64 x2)) (by kernel_rfl) (HSt.out _ (Below.refl _ _).drew) (fun hHeld => ?_)
        refine wpAnyH_take (i := 0) (oi := ⟨some 27, _, _, _, _, _⟩) (v := ?_) rfl (by kernel_rfl) (by kernel_rfl) (by kernel_rfl) (fun _ _ _ h => h) (Or.inl ⟨by rfl, ?_⟩) hHeld ?_
        rotate_left
        · intro W hSw
          obtain ⟨s0, s1, s2⟩ := hSw
          go_simp
          with_reducible rfl
        simp only [Act.put, List.setIfInBounds_toArray, List.set_cons_zero, List.set_cons_succ]
        refine wpAnyH_take (i := 2) (oi := ⟨some 29, _, _, _, _, _⟩) (v := ?_) rfl (by kernel_rfl) (by kernel_rfl) (by kernel_rfl) (fun _ _ _ h => h) (Or.inl ⟨by rfl, ?_⟩) hHeld ?_
        rotate_left
        · intro W hSw
          obtain ⟨s0, s1, s2⟩ := hSw
          go_simp
          with_reducible rfl
        simp only [Act.put, List.setIfInBounds_toArray, List.set_cons_zero, List.set_cons_succ]
        refine wpAnyH_take (i := 3) (oi := ⟨some 30, _, _, _, _, _⟩) (v := ?_) rfl (by kernel_rfl) (by kernel_rfl) (by kernel_rfl) (fun _ _ _ h => h) (Or.inl ⟨by rfl, ?_⟩) hHeld ?_
        rotate_left
        · intro W hSw
          obtain ⟨s0, s1, s2⟩ := hSw
          go_simp
          with_reducible rfl
        simp only [Act.put, List.setIfInBounds_toArray, List.set_cons_zero, List.set_cons_succ]
        refine wpAnyH_take (i := 4) (oi := ⟨some 31, _, _, _, _, _⟩) (v := ?_) rfl (by kernel_rfl) (by kernel_rfl) (by kernel_rfl) (fun _ _ _ h => h) (Or.inl ⟨by rfl, ?_⟩) hHeld ?_
        rotate_left
        · intro W hSw
          obtain ⟨s0, s1, s2⟩ := hSw
          go_simp
          with_reducible rfl
        simp only [Act.put, List.setIfInBounds_toArray, List.set_cons_zero, List.set_cons_succ]
        refine wpAnyH_take (i := 6) (oi := ⟨some 33, _, _, _, _, _⟩) (v := ?_) rfl (by kernel_rfl) (by kernel_rfl) (by kernel_rfl) (fun _ _ _ h => h) (Or.inl ⟨by rfl, ?_⟩) hHeld ?_
        rotate_left
        · intro W hSw
          obtain ⟨s0, s1, s2⟩ := hSw
          go_simp
          with_reducible rfl
        simp only [Act.put, List.setIfInBounds_toArray, List.set_cons_zero, List.set_cons_succ]
        refine wpAnyH_take (i := 7) (oi := ⟨some 34, _, _, _, _, _⟩) (v := ?_) rfl (by kernel_rfl) (by kernel_rfl) (by kernel_rfl) (fun _ _ _ h => h) (Or.inl ⟨by rfl, ?_⟩) hHeld ?_
        rotate_left
        · intro W hSw
          obtain ⟨s0, s1, s2⟩ := hSw
          go_simp
          with_reducible rfl
        simp only [Act.put, List.setIfInBounds_toArray, List.set_cons_zero, List.set_cons_succ]
        refine wpAnyH_take (i := 8) (oi := ⟨some 35, _, _, _, _, _⟩) (v := ?_) rfl (by kernel_rfl) (by kernel_rfl) (by kernel_rfl) (fun _ _ _ h => h) (Or.inl ⟨by rfl, ?_⟩) hHeld ?_
        rotate_left
        · intro W hSw
          obtain ⟨s0, s1, s2⟩ := hSw
          go_simp
          with_reducible rfl
        simp only [Act.put, List.setIfInBounds_toArray, List.set_cons_zero, List.set_cons_succ]
        refine wpAnyH_take (i := 10) (oi := ⟨some 37, _, _, _, _, _⟩) (v := ?_) rfl (by kernel_rfl) (by kernel_rfl) (by kernel_rfl) (fun _ _ _ h => h) (Or.inl ⟨by rfl, ?_⟩) hHeld ?_
        rotate_left
        · intro W hSw
          obtain ⟨s0, s1, s2⟩ := hSw
          go_simp
          with_reducible rfl
        simp only [Act.put, List.setIfInBounds_toArray, List.set_cons_zero, List.set_cons_succ]
        refine wpAnyH_take (i := 11) (oi := ⟨some 38, _, _, _, _, _⟩) (v := ?_) rfl (by kernel_rfl) (by kernel_rfl) (by kernel_rfl) (fun _ _ _ h => h) (Or.inl ⟨by rfl, ?_⟩) hHeld ?_
        rotate_left
        · intro W hSw
          obtain ⟨s0, s1, s2⟩ := hSw
          go_simp
          with_reducible rfl
        simp only [Act.put, List.setIfInBounds_toArray, List.set_cons_zero, List.set_cons_succ]
        refine wpAnyH_ready (rs := [1, 5]) (by kernel_rfl) (by simp) ?_
        refine (AllReadyH.cons (o := ⟨some 28, _, _, _, _, _⟩) rfl (fun K hK => ?_) (AllReadyH.cons (o := ⟨some 32, _, _, _, _, _⟩) rfl (fun K hK => ?_) AllReadyH.nil))
        · skip
          go_simp
          refine hK.out _ _ hHeld (fun hHeld2 => ?_)
          clear hK hHeld
          have hHeld := hHeld2
          clear hHeld2
          refine wpAnyH_ready (rs := [5]) (by kernel_rfl) (by simp) ?_
          refine (AllReadyH.cons (o := ⟨some 32, _, _, _, _, _⟩) rfl (fun K hK => ?_) AllReadyH.nil)
          go_simp
          refine (part_any x0 (N : Nat) _ (by omega) (by omega) HFx.out.1).mono ?_
          rintro e W' ⟨rfl, hWW⟩
          subst hWW
          refine hK.out _ _ hHeld (fun hHeld2 => ?_)
          clear hK hHeld
          have hHeld := hHeld2
          clear hHeld2
          refine wpAnyH_ready (rs := [9]) (by kernel_rfl) (by simp) ?_
          refine (AllReadyH.cons (o := ⟨some 36, _, _, _, _, _⟩) rfl (fun K hK => ?_) AllReadyH.nil)
          go_simp
          refine (part_any x1 (N : Nat) _ (by omega) (by omega) HFx.out.2.1).mono ?_
          rintro e W' ⟨rfl, hWW⟩
          subst hWW
          refine hK.out _ _ hHeld (fun hHeld2 => ?_)
          clear hK hHeld
          have hHeld := hHeld2
          clear hHeld2
          refine wpAnyH_ready (rs := [12]) (by kernel_rfl) (by simp) ?_
          refine (AllReadyH.cons (o := ⟨some 39, _, _, _, _, _⟩) rfl (fun K hK => ?_) AllReadyH.nil)
          go_simp
          refine (part_any x2 2147483649 _ (by omega) (by omega) HFx.out.2.2).mono ?_
          rintro e W' ⟨rfl, hWW⟩
          subst hWW
          refine hK.out _ _ hHeld (fun hHeld2 => ?_)
          clear hK hHeld
          have hHeld := hHeld2
          clear hHeld2
          refine wpAnyH_take (i := 13) (oi := ⟨some 40, _, _, _, _, _⟩) (v := ?_) rfl (by kernel_rfl) (by kernel_rfl) (by kernel_rfl) (fun _ _ _ h => h) (Or.inl ⟨by rfl, ?_⟩) hHeld ?_
          rotate_left
          · intro W hSw
            obtain ⟨s0, s1, s2⟩ := hSw
            go_simp
            with_reducible rfl
          simp only [Act.put, List.setIfInBounds_toArray, List.set_cons_zero, List.set_cons_succ]
          refine wpAnyH_ready (rs := [14]) (by kernel_rfl) (by simp) ?_
          refine (AllReadyH.cons (o := ⟨some 41, _, _, _, _, _⟩) rfl (fun K hK => ?_) AllReadyH.nil)
          go_simp
          refine hK.out _ _ (HSt.out _ (((Below.refl wq.heap.size wq).drew).alloc (Nat.le_refl _) _)) (fun hHeld2 => ?_)
          clear hK hHeld
          have hHeld := hHeld2
          clear hHeld2
          refine wpAnyH_ready (rs := [15]) (by kernel_rfl) (by simp) ?_
          refine (AllReadyH.cons (o := ⟨some 42, _, _, _, _, _⟩) rfl (fun K hK => ?_) AllReadyH.nil)
          refine step_append_lies _ rfl (.tmp 28) (.tmp 41) 22 rfl w2.heap.size 88 i0 (.agg #[.int .i64 0, .int .i64 0, .int .i64 0]) 3 24 Tryz.underlying22 hi hz0 hz1 hz2 rfl (by omega) (.slice ak L.length ck) L.length (acells L) (by rfl) (HV.out.alloc _) ⟨wq.heap.size, 0, none⟩ 1 1 [.int .i64 (x0 % (N : Int)), .int .i64 (x1 % (N : Int)), .int .i64 (x2 % 2147483649)] (by rfl) rfl (news3 wq.drew _ _ _ _) (by intro u hu; simp at hu; rcases hu with rfl | rfl | rfl <;> rfl) (by omega) (by unfold maxLen; have := HR.out.2.2.2.2.2.1; omega) (by have := HR.out.2.2.2.2.2.1; omega) (by have := HQs.out; first | exact this | exact Nat.le_trans this (Nat.le_succ _) | exact Nat.le_trans this (by rw [show ∀ W : World, W.drew.heap.size = W.heap.size from fun _ => rfl, World.size_alloc]; exact Nat.le_succ _)) _ rfl ?_
          intro g' cap w4 hown hgrow hat hlt
          have HT := Lib.hid (HTail.out g' cap w4 hown hgrow hat)
          have t1 := HT.out.1.cell 1
          have t2 := HT.out.1.thaw 1
          simp only [List.getElem?_toArray, List.getElem?_cons_zero, List.getElem?_cons_succ] at t1
          have hs4 := HT.out.2.1
          clear hown hgrow hat hlt
          refine hK.out _ _ hs4 (fun hHeld2 => ?_)
          clear hK hHeld
          have hHeld := hHeld2
          clear hHeld2
          refine wpAnyH_take (i := 16) (oi := ⟨some 43, _, _, _, _, _⟩) (v := ?_) rfl (by kernel_rfl) (by kernel_rfl) (by kernel_rfl) (fun _ _ _ h => h) (Or.inl ⟨by rfl, ?_⟩) hHeld ?_
          rotate_left
          · intro W hSw
            obtain ⟨s0, s1, s2⟩ := hSw
            go_simp
            with_reducible rfl
          simp only [Act.put, List.setIfInBounds_toArray, List.set_cons_zero, List.set_cons_succ]
          refine wpAnyH_ready (rs := [17]) (by kernel_rfl) (by simp) ?_
          refine (AllReadyH.cons (o := ⟨none, _, _, _, _, _⟩) rfl (fun K hK => ?_) AllReadyH.nil)
          go_simp
          refine hK.out _ _ HT.out.2.2.1 (fun _ => ?_)
          clear hK
          refine wpAnyH_done (by kernel_rfl) ?_ _
          go_wp2
          obtain ⟨v', q⟩ := HT.out.2.2.2
          refine ⟨⟨k + 1, v', by go_num, by omega, by omega, q⟩, by have := hlt1; simp [intOf]; omega⟩
        · skip
          go_simp
          refine (part_any x0 (N : Nat) _ (by omega) (by omega) HFx.out.1).mono ?_
          rintro e W' ⟨rfl, hWW⟩
          subst hWW
          refine hK.out _ _ hHeld (fun hHeld2 => ?_)
          clear hK hHeld
          have hHeld := hHeld2
          clear hHeld2
          refine wpAnyH_ready (rs := [1, 9]) (by kernel_rfl) (by simp) ?_
          refine (AllReadyH.cons (o := ⟨some 28, _, _, _, _, _⟩) rfl (fun K hK => ?_) (AllReadyH.cons (o := ⟨some 36, _, _, _, _, _⟩) rfl (fun K hK => ?_) AllReadyH.nil))
          · skip
            go_simp
            refine hK.out _ _ hHeld (fun hHeld2 => ?_)
            clear hK hHeld
            have hHeld := hHeld2
            clear hHeld2
            refine wpAnyH_ready (rs := [9]) (by kernel_rfl) (by simp) ?_
            refine (AllReadyH.cons (o := ⟨some 36, _, _, _, _, _⟩) rfl (fun K hK => ?_) AllReadyH.nil)
            go_simp
            refine (part_any x1 (N : Nat) _ (by omega) (by omega) HFx.out.2.1).mono ?_
            rintro e W' ⟨rfl, hWW⟩
            subst hWW
            refine hK.out _ _ hHeld (fun hHeld2 => ?_)
            clear hK hHeld
            have hHeld := hHeld2
            clear hHeld2
            refine wpAnyH_ready (rs := [12]) (by kernel_rfl) (by simp) ?_
            refine (AllReadyH.cons (o := ⟨some 39, _, _, _, _, _⟩) rfl (fun K hK => ?_) AllReadyH.nil)
            go_simp
            refine (part_any x2 2147483649 _ (by omega) (by omega) HFx.out.2.2).mono ?_
            rintro e W' ⟨rfl, hWW⟩
            subst hWW
            refine hK.out _ _ hHeld (fun hHeld2 => ?_)
            clear hK hHeld
            have hHeld := hHeld2
            clear hHeld2
            refine wpAnyH_take (i := 13) (oi := ⟨some 40, _, _, _, _, _⟩) (v := ?_) rfl (by kernel_rfl) (by kernel_rfl) (by kernel_rfl) (fun _ _ _ h => h) (Or.inl ⟨by rfl, ?_⟩) hHeld ?_
            rotate_left
            · intro W hSw
              obtain ⟨s0, s1, s2⟩ := hSw
              go_simp
              with_reducible rfl
            simp only [Act.put, List.setIfInBounds_toArray, List.set_cons_zero, List.set_cons_succ]
            refine wpAnyH_ready (rs := [14]) (by kernel_rfl) (by simp) ?_
            refine (AllReadyH.cons (o := ⟨some 41, _, _, _, _, _⟩) rfl (fun K hK => ?_) AllReadyH.nil)
            go_simp
            refine hK.out _ _ (HSt.out _ (((Below.refl wq.heap.size wq).drew).alloc (Nat.le_refl _) _)) (fun hHeld2 => ?_)
            clear hK hHeld
            have hHeld := hHeld2
            clear hHeld2
            refine wpAnyH_ready (rs := [15]) (by kernel_rfl) (by simp) ?_
            refine (AllReadyH.cons (o := ⟨some 42, _, _, _, _, _⟩) rfl (fun K hK => ?_) AllReadyH.nil)
            refine step_append_lies _ rfl (.tmp 28) (.tmp 41) 22 rfl w2.heap.size 88 i0 (.agg #[.int .i64 0, .int .i64 0, .int .i64 0]) 3 24 Tryz.underlying22 hi hz0 hz1 hz2 rfl (by omega) (.slice ak L.length ck) L.length (acells L) (by rfl) (HV.out.alloc _) ⟨wq.heap.size, 0, none⟩ 1 1 [.int .i64 (x0 % (N : Int)), .int .i64 (x1 % (N : Int)), .int .i64 (x2 % 2147483649)] (by rfl) rfl (news3 wq.drew _ _ _ _) (by intro u hu; simp at hu; rcases hu with rfl | rfl | rfl <;> rfl) (by omega) (by unfold maxLen; have := HR.out.2.2.2.2.2.1; omega) (by have := HR.out.2.2.2.2.2.1; omega) (by have := HQs.out; first | exact this | exact Nat.le_trans this (Nat.le_succ _) | exact Nat.le_trans this (by rw [show ∀ W : World, W.drew.heap.size = W.heap.size from fun _ => rfl, World.size_alloc]; exact Nat.le_succ _)) _ rfl ?_
            intro g' cap w4 hown hgrow hat hlt
            have HT := Lib.hid (HTail.out g' cap w4 hown hgrow hat)
            have t1 := HT.out.1.cell 1
            have t2 := HT.out.1.thaw 1
            simp only [List.getElem?_toArray, List.getElem?_cons_zero, List.getElem?_cons_succ] at t1
            have hs4 := HT.out.2.1
            clear hown hgrow hat hlt
            refine hK.out _ _ hs4 (fun hHeld2 => ?_)
            clear hK hHeld
            have hHeld := hHeld2
            clear hHeld2
            refine wpAnyH_take (i := 16) (oi := ⟨some 43, _, _, _, _, _⟩) (v := ?_) rfl (by kernel_rfl) (by kernel_rfl) (by kernel_rfl) (fun _ _ _ h => h) (Or.inl ⟨by rfl, ?_⟩) hHeld ?_
            rotate_left
            · intro W hSw
              obtain ⟨s0, s1, s2⟩ := hSw
              go_simp
              with_reducible rfl
            simp only [Act.put, List.setIfInBounds_toArray, List.set_cons_zero, List.set_cons_succ]
            refine wpAnyH_ready (rs := [17]) (by kernel_rfl) (by simp) ?_
            refine (AllReadyH.cons (o := ⟨none, _, _, _, _, _⟩) rfl (fun K hK => ?_) AllReadyH.nil)
            go_simp
            refine hK.out _ _ HT.out.2.2.1 (fun _ => ?_)
            clear hK
            refine wpAnyH_done (by kernel_rfl) ?_ _
            go_wp2
            obtain ⟨v', q⟩ := HT.out.2.2.2
            refine ⟨⟨k + 1, v', by go_num, by omega, by omega, q⟩, by have := hlt1; simp [intOf]; omega⟩
          · skip
            go_simp
            refine (part_any x1 (N : Nat) _ (by omega) (by omega) HFx.out.2.1).mono ?_
            rintro e W' ⟨rfl, hWW⟩
            subst hWW
            refine hK.out _ _ hHeld (fun hHeld2 => ?_)
            clear hK hHeld
            have hHeld := hHeld2
            clear hHeld2
            refine wpAnyH_ready (rs := [1, 12]) (by kernel_rfl) (by simp) ?_
            refine (AllReadyH.cons (o := ⟨some 28, _, _, _, _, _⟩) rfl (fun K hK => ?_) (AllReadyH.cons (o := ⟨some 39, _, _, _, _, _⟩) rfl (fun K hK => ?_) AllReadyH.nil))
            · skip
              go_simp
              refine hK.out _ _ hHeld (fun hHeld2 => ?_)
              clear hK hHeld
              have hHeld := hHeld2
              clear hHeld2
              refine wpAnyH_ready (rs := [12]) (by kernel_rfl) (by simp) ?_
              refine (AllReadyH.cons (o := ⟨some 39, _, _, _, _, _⟩) rfl (fun K hK => ?_) AllReadyH.nil)
              go_simp
              refine (part_any x2 2147483649 _ (by omega) (by omega) HFx.out.2.2).mono ?_
              rintro e W' ⟨rfl, hWW⟩
              subst hWW
              refine hK.out _ _ hHeld (fun hHeld2 => ?_)
              clear hK hHeld
              have hHeld := hHeld2
              clear hHeld2
              refine wpAnyH_take (i := 13) (oi := ⟨some 40, _, _, _, _, _⟩) (v := ?_) rfl (by kernel_rfl) (by kernel_rfl) (by kernel_rfl) (fun _ _ _ h => h) (Or.inl ⟨by rfl, ?_⟩) hHeld ?_
              rotate_left
              · intro W hSw
                obtain ⟨s0, s1, s2⟩ := hSw
                go_simp
                with_reducible rfl
              simp only [Act.put, List.setIfInBounds_toArray, List.set_cons_zero, List.set_cons_succ]
              refine wpAnyH_ready (rs := [14]) (by kernel_rfl) (by simp) ?_
              refine (AllReadyH.cons (o := ⟨some 41, _, _, _, _, _⟩) rfl (fun K hK => ?_) AllReadyH.nil)
              go_simp
              refine hK.out _ _ (HSt.out _ (((Below.refl wq.heap.size wq).drew).alloc (Nat.le_refl _) _)) (fun hHeld2 => ?_)
              clear hK hHeld
              have hHeld := hHeld2
              clear hHeld2
              refine wpAnyH_ready (rs := [15]) (by kernel_rfl) (by simp) ?_
              refine (AllReadyH.cons (o := ⟨some 42, _, _, _, _, _⟩) rfl (fun K hK => ?_) AllReadyH.nil)
              refine step_append_lies _ rfl (.tmp 28) (.tmp 41) 22 rfl w2.heap.size 88 i0 (.agg #[.int .i64 0, .int .i64 0, .int .i64 0]) 3 24 Tryz.underlying22 hi hz0 hz1 hz2 rfl (by omega) (.slice ak L.length ck) L.length (acells L) (by rfl) (HV.out.alloc _) ⟨wq.heap.size, 0, none⟩ 1 1 [.int .i64 (x0 % (N : Int)), .int .i64 (x1 % (N : Int)), .int .i64 (x2 % 2147483649)] (by rfl) rfl (news3 wq.drew _ _ _ _) (by intro u hu; simp at hu; rcases hu with rfl | rfl | rfl <;> rfl) (by omega) (by unfold maxLen; have := HR.out.2.2.2.2.2.1; omega) (by have := HR.out.2.2.2.2.2.1; omega) (by have := HQs.out; first | exact this | exact Nat.le_trans this (Nat.le_succ _) | exact Nat.le_trans this (by rw [show ∀ W : World, W.drew.heap.size = W.heap.size from fun _ => rfl, World.size_alloc]; exact Nat.le_succ _)) _ rfl ?_
              intro g' cap w4 hown hgrow hat hlt
              have HT := Lib.hid (HTail.out g' cap w4 hown hgrow hat)
              have t1 := HT.out.1.cell 1
              have t2 := HT.out.1.thaw 1
              simp only [List.getElem?_toArray, List.getElem?_cons_zero, List.getElem?_cons_succ] at t1
              have hs4 := HT.out.2.1
              clear hown hgrow hat hlt
              refine hK.out _ _ hs4 (fun hHeld2 => ?_)
              clear hK hHeld
              have hHeld := hHeld2
              clear hHeld2
              refine wpAnyH_take (i := 16) (oi := ⟨some 43, _, _, _, _, _⟩) (v := ?_) rfl (by kernel_rfl) (by kernel_rfl) (by kernel_rfl) (fun _ _ _ h => h) (Or.inl ⟨by rfl, ?_⟩) hHeld ?_
              rotate_left
              · intro W hSw
                obtain ⟨s0, s1, s2⟩ := hSw
                go_simp
                with_reducible rfl
              simp only [Act.put, List.setIfInBounds_toArray, List.set_cons_zero, List.set_cons_succ]
              refine wpAnyH_ready (rs := [17]) (by kernel_rfl) (by simp) ?_
              refine (AllReadyH.cons (o := ⟨none, _, _, _, _, _⟩) rfl (fun K hK => ?_) AllReadyH.nil)
              go_simp
              refine hK.out _ _ HT.out.2.2.1 (fun _ => ?_)
              clear hK
              refine wpAnyH_done (by kernel_rfl) ?_ _
              go_wp2
              obtain ⟨v', q⟩ := HT.out.2.2.2
              refine ⟨⟨k + 1, v', by go_num, by omega, by omega, q⟩, by have := hlt1; simp [intOf]; omega⟩
            · skip
              go_simp
              refine (part_any x2 2147483649 _ (by omega) (by omega) HFx.out.2.2).mono ?_
              rintro e W' ⟨rfl, hWW⟩
              subst hWW
              refine hK.out _ _ hHeld (fun hHeld2 => ?_)
              clear hK hHeld
              have hHeld := hHeld2
              clear hHeld2
              refine wpAnyH_take (i := 13) (oi := ⟨some 40, _, _, _, _, _⟩) (v := ?_) rfl (by kernel_rfl) (by kernel_rfl) (by kernel_rfl) (fun _ _ _ h => h) (Or.inl ⟨by rfl, ?_⟩) hHeld ?_
              rotate_left
              · intro W hSw
                obtain ⟨s0, s1, s2⟩ := hSw
                go_simp
                with_reducible rfl
              simp only [Act.put, List.setIfInBounds_toArray, List.set_cons_zero, List.set_cons_succ]
              refine wpAnyH_ready (rs := [1, 14]) (by kernel_rfl) (by simp) ?_
              refine (AllReadyH.cons (o := ⟨some 28, _, _, _, _, _⟩) rfl (fun K hK => ?_) (AllReadyH.cons (o := ⟨some 41, _, _, _, _, _⟩) rfl (fun K hK => ?_) AllReadyH.nil))
              · skip
                go_simp
                refine hK.out _ _ hHeld (fun hHeld2 => ?_)
                clear hK hHeld
                have hHeld := hHeld2
                clear hHeld2
                refine wpAnyH_ready (rs := [14]) (by kernel_rfl) (by simp) ?_
                refine (AllReadyH.cons (o := ⟨some 41, _, _, _, _, _⟩) rfl (fun K hK => ?_) AllReadyH.nil)
                go_simp
                refine hK.out _ _ (HSt.out _ (((Below.refl wq.heap.size wq).drew).alloc (Nat.le_refl _) _)) (fun hHeld2 => ?_)
                clear hK hHeld
                have hHeld := hHeld2
                clear hHeld2
                refine wpAnyH_ready (rs := [15]) (by kernel_rfl) (by simp) ?_
                refine (AllReadyH.cons (o := ⟨some 42, _, _, _, _, _⟩) rfl (fun K hK => ?_) AllReadyH.nil)
                refine step_append_lies _ rfl (.tmp 28) (.tmp 41) 22 rfl w2.heap.size 88 i0 (.agg #[.int .i64 0, .int .i64 0, .int .i64 0]) 3 24 Tryz.underlying22 hi hz0 hz1 hz2 rfl (by omega) (.slice ak L.length ck) L.length (acells L) (by rfl) (HV.out.alloc _) ⟨wq.heap.size, 0, none⟩ 1 1 [.int .i64 (x0 % (N : Int)), .int .i64 (x1 % (N : Int)), .int .i64 (x2 % 2147483649)] (by rfl) rfl (news3 wq.drew _ _ _ _) (by intro u hu; simp at hu; rcases hu with rfl | rfl | rfl <;> rfl) (by omega) (by unfold maxLen; have := HR.out.2.2.2.2.2.1; omega) (by have := HR.out.2.2.2.2.2.1; omega) (by have := HQs.out; first | exact this | exact Nat.le_trans this (Nat.le_succ _) | exact Nat.le_trans this (by rw [show ∀ W : World, W.drew.heap.size = W.heap.size from fun _ => rfl, World.size_alloc]; exact Nat.le_succ _)) _ rfl ?_
                intro g' cap w4 hown hgrow hat hlt
                have HT := Lib.hid (HTail.out g' cap w4 hown hgrow hat)
                have t1 := HT.out.1.cell 1
                have t2 := HT.out.1.thaw 1
                simp only [List.getElem?_toArray, List.getElem?_cons_zero, List.getElem?_cons_succ] at t1
                have hs4 := HT.out.2.1
                clear hown hgrow hat hlt
                refine hK.out _ _ hs4 (fun hHeld2 => ?_)
                clear hK hHeld
                have hHeld := hHeld2
                clear hHeld2
                refine wpAnyH_take (i := 16) (oi := ⟨some 43, _, _, _, _, _⟩) (v := ?_) rfl (by kernel_rfl) (by kernel_rfl) (by kernel_rfl) (fun _ _ _ h => h) (Or.inl ⟨by rfl, ?_⟩) hHeld ?_
                rotate_left
                · intro W hSw
                  obtain ⟨s0, s1, s2⟩ := hSw
                  go_simp
                  with_reducible rfl
                simp only [Act.put, List.setIfInBounds_toArray, List.set_cons_zero, List.set_cons_succ]
                refine wpAnyH_ready (rs := [17]) (by kernel_rfl) (by simp) ?_
                refine (AllReadyH.cons (o := ⟨none, _, _, _, _, _⟩) rfl (fun K hK => ?_) AllReadyH.nil)
                go_simp
                refine hK.out _ _ HT.out.2.2.1 (fun _ => ?_)
                clear hK
                refine wpAnyH_done (by kernel_rfl) ?_ _
                go_wp2
                obtain ⟨v', q⟩ := HT.out.2.2.2
                refine ⟨⟨k + 1, v', by go_num, by omega, by omega, q⟩, by have := hlt1; simp [intOf]; omega⟩
              · skip
                go_simp
                refine hK.out _ _ (HSt.out _ (((Below.refl wq.heap.size wq).drew).alloc (Nat.le_refl _) _)) (fun hHeld2 => ?_)
                clear hK hHeld
                have hHeld := hHeld2
                clear hHeld2
                refine wpAnyH_ready (rs := [1]) (by kernel_rfl) (by simp) ?_
                refine (AllReadyH.cons (o := ⟨some 28, _, _, _, _, _⟩) rfl (fun K hK => ?_) AllReadyH.nil)
                go_simp
                refine hK.out _ _ hHeld (fun hHeld2 => ?_)
                clear hK hHeld
                have hHeld := hHeld2
                clear hHeld2
                refine wpAnyH_ready (rs := [15]) (by kernel_rfl) (by simp) ?_
                refine (AllReadyH.cons (o := ⟨some 42, _, _, _, _, _⟩) rfl (fun K hK => ?_) AllReadyH.nil)
                refine step_append_lies _ rfl (.tmp 28) (.tmp 41) 22 rfl w2.heap.size 88 i0 (.agg #[.int .i64 0, .int .i64 0, .int .i64 0]) 3 24 Tryz.underlying22 hi hz0 hz1 hz2 rfl (by omega) (.slice ak L.length ck) L.length (acells L) (by rfl) (HV.out.alloc _) ⟨wq.heap.size, 0, none⟩ 1 1 [.int .i64 (x0 % (N : Int)), .int .i64 (x1 % (N : Int)), .int .i64 (x2 % 2147483649)] (by rfl) rfl (news3 wq.drew _ _ _ _) (by intro u hu; simp at hu; rcases hu with rfl | rfl | rfl <;> rfl) (by omega) (by unfold maxLen; have := HR.out.2.2.2.2.2.1; omega) (by have := HR.out.2.2.2.2.2.1; omega) (by have := HQs.out; first | exact this | exact Nat.le_trans this (Nat.le_succ _) | exact Nat.le_trans this (by rw [show ∀ W : World, W.drew.heap.size = W.heap.size from fun _ => rfl, World.size_alloc]; exact Nat.le_succ _)) _ rfl ?_
                intro g' cap w4 hown hgrow hat hlt
                have HT := Lib.hid (HTail.out g' cap w4 hown hgrow hat)
                have t1 := HT.out.1.cell 1
                have t2 := HT.out.1.thaw 1
                simp only [List.getElem?_toArray, List.getElem?_cons_zero, List.getElem?_cons_succ] at t1
                have hs4 := HT.out.2.1
                clear hown hgrow hat hlt
                refine hK.out _ _ hs4 (fun hHeld2 => ?_)
                clear hK hHeld
                have hHeld := hHeld2
                clear hHeld2
                refine wpAnyH_take (i := 16) (oi := ⟨some 43, _, _, _, _, _⟩) (v := ?_) rfl (by kernel_rfl) (by kernel_rfl) (by kernel_rfl) (fun _ _ _ h => h) (Or.inl ⟨by rfl, ?_⟩) hHeld ?_
                rotate_left
                · intro W hSw
                  obtain ⟨s0, s1, s2⟩ := hSw
                  go_simp
                  with_reducible rfl
                simp only [Act.put, List.setIfInBounds_toArray, List.set_cons_zero, List.set_cons_succ]
                refine wpAnyH_ready (rs := [17]) (by kernel_rfl) (by simp) ?_
                refine (AllReadyH.cons (o := ⟨none, _, _, _, _, _⟩) rfl (fun K hK => ?_) AllReadyH.nil)
                go_simp
                refine hK.out _ _ HT.out.2.2.1 (fun _ => ?_)
                clear hK
                refine wpAnyH_done (by kernel_rfl) ?_ _
                go_wp2
                obtain ⟨v', q⟩ := HT.out.2.2.2
                refine ⟨⟨k + 1, v', by go_num, by omega, by omega, q⟩, by have := hlt1; simp [intOf]; omega⟩
      · have hkk : k = min 40 l.length := by omega
        obtain ⟨ak, ck, rfl⟩ := hv.shape
        have hoL : (l.take k).map (ofA N) = ofL n l := by
          unfold ofL
          rw [HNe.out]
          congr 1
          rw [hkk]
          by_cases h : l.length ≤ 40
          · rw [List.take_of_length_le (by omega), List.take_of_length_le (by omega)]
          · rw [show min 40 l.length = 40 by omega]
        rw [hoL] at hv hm
        have m0 := hm.cell 0
        have m1 := hm.cell 1
        have z0 := hz.cell 0
        have z1 := hz.cell 1
        have zf0 := hz.thaw 0
        have zf1 := hz.thaw 1
        simp only [List.getElem?_toArray, List.getElem?_cons_zero, List.getElem?_cons_succ] at m0 m1 z0 z1
        have HR := Lib.hid (And.intro hz (And.intro hb (And.intro hv hsz)))
        have hwl : w.heap.size + 1 < wr.heap.size := hm.lt
        by_cases h40 : k < 40
        · have hlt1 : (k : Int) < 40 := by omega
          have hlt2 : ¬ (k : Int) < (l.length : Int) := by omega
          have hd1 : decide ((k : Int) < 40) = true := by simpa using hlt1
          have hd2 : decide ((k : Int) < (l.length : Int)) = false := by simpa using hlt2
          clear hm hv hz hb hsz hlt hkk hoL h40
          go_wp2
          have hq := (HR.out.1.put 0 (.int .i64 (N : Nat))).put 1 (.slice ak (ofL n l).length ck)
          simp only [List.setIfInBounds_toArray, List.set_cons_zero, List.set_cons_succ] at hq
          have q0 := hq.cell 0
          have q1 := hq.cell 1
          simp only [List.getElem?_toArray, List.getElem?_cons_zero, List.getElem?_cons_succ] at q0 q1
          have hon : Only (fun j => j = w.heap.size) wr ((wr.setCell ⟨w.heap.size, 0, none⟩ (.int .i64 (N : Nat))).setCell ⟨w.heap.size, 1, none⟩ (.slice ak (ofL n l).length ck)) :=
            ((Only.refl (fun j => j = w.heap.size) wr).setCell (p := ⟨w.heap.size, 0, none⟩) (.inl rfl) _).setCell (p := ⟨w.heap.size, 1, none⟩) (.inl rfl) _
          have hs2 := H2.out.2.2.1
          refine bodyPost_ret (v := .agg #[.int .i64 (N : Nat), .slice ak (ofL n l).length ck]) (by simp [results, Tryz.results79, go_sem, q0, q1]) rfl ⟨HR.out.2.1.trans (hon.below (K := w.heap.size) (fun j e => by omega) HR.out.2.1.size), ak, ck, by rw [← HNe.out], owns_base (owns_only HR.out.2.2.1 hon (fun q e h => by have := (owns_lt HR.out.2.2.1 q e).1; omega)) (by omega)⟩
        · have hlt1 : ¬ (k : Int) < 40 := by omega
          have hd1 : decide ((k : Int) < 40) = false := by simpa using hlt1
          clear hm hv hz hb hsz hlt hkk hoL h40
          go_wp2
          all_goals
            have hq := (HR.out.1.put 0 (.int .i64 (N : Nat))).put 1 (.slice ak (ofL n l).length ck)
            simp only [List.setIfInBounds_toArray, List.set_cons_zero, List.set_cons_succ] at hq
            have q0 := hq.cell 0
            have q1 := hq.cell 1
            simp only [List.getElem?_toArray, List.getElem?_cons_zero, List.getElem?_cons_succ] at q0 q1
            have hon : Only (fun j => j = w.heap.size) wr ((wr.setCell ⟨w.heap.size, 0, none⟩ (.int .i64 (N : Nat))).setCell ⟨w.heap.size, 1, none⟩ (.slice ak (ofL n l).length ck)) :=
              ((Only.refl (fun j => j = w.heap.size) wr).setCell (p := ⟨w.heap.size, 0, none⟩) (.inl rfl) _).setCell (p := ⟨w.heap.size, 1, none⟩) (.inl rfl) _
            have hs2 := H2.out.2.2.1
            refine bodyPost_ret (v := .agg #[.int .i64 (N : Nat), .slice ak (ofL n l).length ck]) (by simp [results, Tryz.results79, go_sem, q0, q1]) rfl ⟨HR.out.2.1.trans (hon.below (K := w.heap.size) (fun j e => by omega) HR.out.2.1.size), ak, ck, by rw [← HNe.out], owns_base (owns_only HR.out.2.2.1 hon (fun q e h => by have := (owns_lt HR.out.2.2.1 q e).1; omega)) (by omega)⟩
end Go.Proofs.YtdkpdmpghibmmaaGreat
