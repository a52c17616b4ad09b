/- graph.Print. -/
import Derived.Test.YthljgkaigjokjaaGhX
namespace Go.Proofs.Ythljgkaigjokjaa
open Go.RowKit Go.Shelf Grm Lay

/-- One number more. -/
def mixS (z x : Int) : Int := bits .xor .u64 (IntKind.u64.wrap (bits .xor .u64 z (IntKind.u64.wrap x) * 1099511628211)) (IntKind.u64.wrap (bits .xor .u64 z (IntKind.u64.wrap x) * 1099511628211) / 4294967296)
def mixL (h : Int) (xs : List Int) : Int := xs.foldl mixS h
def printF (n : Nat) (l : List Ar) : Int := l.foldl (fun h a => mixL h [a.1, a.2.1, a.2.2]) (mixL 14695981039346656037 [(n : Int)])
theorem ret_u64 {a b : Int} (h : a = b) : Ending.returned (.int .u64 a) = .returned (.int .u64 b) := by rw [h]
set_option maxRecDepth 100000 in
set_option maxHeartbeats 1000000 in
theorem mix_any (h : Int) (a : Option Addr) (xs : List Int) (n c : Nat) (w : World) (hz : Zs w a xs) (hn : xs.length = n) (hl : n ≤ 1000) : Calls Try.prog 56 #[.int .u64 h, .slice a n c] w fun e w' => e = .returned (.int .u64 (mixL h xs)) ∧ w = w' := by
  subst hn
  have HZ := Lib.hid hz
  have hl' : (xs.length : Int) ≤ 1000 := by omega
  clear hz
  go_enter Try.func56, Try.ntmps56
  go_wp2
  go_loop [0, 9] (fun v i => ∃ k : Nat, i = .int .i64 k ∧ k ≤ xs.length ∧ v = .int .u64 (mixL h (xs.take k))) (fun _ i => xs.length - (intOf i).toNat)
  case atStart => exact ⟨0, rfl, by omega, rfl⟩
  case round =>
    obtain ⟨k, rfl, hk, rfl⟩ := hrel
    by_cases hlt : k < xs.length
    · have hlt' : (k : Int) < (xs.length : Int) := by omega
      obtain ⟨b, o, rfl, x0⟩ := HZ.out.at_ hlt
      have HT : Hid (mixL h (xs.take (k + 1)) = mixS (mixL h (xs.take k)) (xs[k]'hlt)) := Lib.hid (by
        rw [List.take_succ_eq_append_getElem hlt]
        unfold mixL
        rw [List.foldl_append]
        rfl)
      generalize xs[k]'hlt = x at *
      generalize mixL h (xs.take k) = z at *
      go_wp2
      exact ⟨⟨k + 1, by go_num, hlt, by rw [HT.out]; rfl⟩, by simp [intOf]; omega⟩
    · obtain rfl : k = xs.length := by omega
      have hlt' : ¬ (xs.length : Int) < (xs.length : Int) := by omega
      rw [List.take_length]
      go_wp2
      go_ret
      exact ⟨rfl, rfl⟩
theorem print_nil (w : World) : Calls Try.prog 27 #[.pointer none] w fun e w' => e = .returned (.int .u64 0) ∧ w = w' := by
  go_enter Try.func27, Try.ntmps27
  go_wp2
  go_ret
  exact ⟨rfl, rfl⟩
theorem Zs.row {w : World} {g : Nat} {t : TypeId} {l : List Int} (h : Row w g t (l.map (Value.int .i64)).toArray) : Zs w (some ⟨g, 0, none⟩) l := by
  refine .inr ⟨g, 0, rfl, fun i y hi => ?_⟩
  rw [Nat.zero_add, h.cell]
  simp [hi]
set_option maxRecDepth 100000 in
set_option maxHeartbeats 1000000 in
theorem print_any {w : World} {K M g n : Nat} {l : List Ar} (h : Gra w K M g n l) : Calls Try.prog 27 #[ptr g] w fun e w' => e = .returned (.int .u64 (printF n l)) ∧ Below w.heap.size w w' := by
  obtain ⟨a, c, ib, cb, jb, db, h⟩ := h
  have g0 := Row.cell h.gb 0
  have g1 := Row.cell h.gb 1
  simp only [List.getElem?_toArray, List.getElem?_cons_zero, List.getElem?_cons_succ] at g0 g1
  have hgl := Row.lt h.gb
  have hli : (l.length : Int) ≤ 67108864 := by have := h.hl; omega
  have HG := Lib.hid h
  obtain ⟨w1, hw1⟩ : ∃ w1, w1 = w.alloc (.cells #[.int .i64 (n : Nat)] 3) := ⟨_, rfl⟩
  have hb1 : Below w.heap.size w w1 := by rw [hw1]; exact (Below.refl _ _).alloc (Nat.le_refl _) _
  have hz1 : Zs w1 (some ⟨w.heap.size, 0, none⟩) [(n : Int)] := Zs.row (t := 3) (by rw [hw1]; exact Row.fresh w _ _)
  have HZ1 := Lib.hid hz1
  have HB1 := Lib.hid hb1
  have HW1 := Lib.hid hw1
  have g1' := Row.cell (h.under hb1).gb 1
  simp only [List.getElem?_toArray, List.getElem?_cons_zero, List.getElem?_cons_succ] at g1'
  clear h hb1 hz1 hw1
  go_enter Try.func27, Try.ntmps27
  go_wp2_with (first | (go_at_call 56; rw [← HW1.out]; refine (mix_any _ _ [(n : Int)] 1 _ _ HZ1.out rfl (by omega)).mono ?_; rintro e w2 ⟨rfl, hw2⟩; subst w2))
  have hpe : printF n l = l.foldl (fun h a => mixL h [a.1, a.2.1, a.2.2]) (mixL 14695981039346656037 [(n : Int)]) := rfl
  have HPe := Lib.hid hpe
  clear hpe
  generalize mixL 14695981039346656037 [(n : Int)] = s0 at *
  go_loopw [3, 19] (fun v i wr => ∃ k : Nat, i = .int .i64 k ∧ k ≤ l.length ∧ v = .int .u64 ((l.take k).foldl (fun h a => mixL h [a.1, a.2.1, a.2.2]) s0) ∧ Below w.heap.size w wr) (fun _ i _ => l.length - (intOf i).toNat)
  case atStart => exact ⟨0, rfl, by omega, rfl, HB1.out⟩
  case round =>
    obtain ⟨k, rfl, hk, rfl, hb⟩ := hrel
    by_cases hlt : k < l.length
    · have hlt' : (k : Int) < (l.length : Int) := by omega
      have hw1' : IntKind.i64.wrap ((k : Int) + 1) = (k : Int) + 1 := by rw [IntKind.wrap_i64]; omega
      obtain ⟨b, o, rfl, x0, x1, x2⟩ := (HG.out.arcs.under hb).at_ hlt
      have HT : Hid ((l.take (k + 1)).foldl (fun h a => mixL h [a.1, a.2.1, a.2.2]) s0 = mixL ((l.take k).foldl (fun h a => mixL h [a.1, a.2.1, a.2.2]) s0) [(l[k]'hlt).1, (l[k]'hlt).2.1, (l[k]'hlt).2.2]) := Lib.hid (by
        rw [List.take_succ_eq_append_getElem hlt, List.foldl_append, List.foldl_cons, List.foldl_nil])
      generalize l[k]'hlt = x at *
      generalize (l.take k).foldl (fun h a => mixL h [a.1, a.2.1, a.2.2]) s0 = z at HT ⊢
      obtain ⟨w3, hw3⟩ : ∃ w3, w3 = (wr.alloc (.cells #[.int .i64 x.1, .int .i64 x.2.1, .int .i64 x.2.2] 33)).alloc (.cells #[.int .i64 x.1, .int .i64 x.2.1, .int .i64 x.2.2] 3) := ⟨_, rfl⟩
      have hb3 : Below wr.heap.size wr w3 := by rw [hw3]; exact ((Below.refl _ _).alloc (Nat.le_refl _) _).alloc (by simp) _
      have hz3 : Zs w3 (some ⟨wr.heap.size + 1, 0, none⟩) [x.1, x.2.1, x.2.2] := Zs.row (t := 3) (by
        rw [hw3]
        have := Row.fresh (wr.alloc (.cells #[.int .i64 x.1, .int .i64 x.2.1, .int .i64 x.2.2] 33)) 3 #[.int .i64 x.1, .int .i64 x.2.1, .int .i64 x.2.2]
        rwa [World.size_alloc] at this)
      have H3 := Lib.hid (And.intro hz3 (hb.trans (hb3.mono hb.size)))
      have HW3 := Lib.hid hw3
      clear hb3 hz3 hw3 hb
      go_wp2_with (first | (go_at_call 56; rw [← HW3.out]; refine (mix_any _ _ [x.1, x.2.1, x.2.2] 3 _ _ H3.out.1 rfl (by omega)).mono ?_; rintro e w4 ⟨rfl, hw4⟩; subst w4))
      exact ⟨⟨k + 1, by go_num, hlt, by rw [HT.out], H3.out.2⟩, by simp [intOf]; omega⟩
    · obtain rfl : k = l.length := by omega
      have hlt' : ¬ (l.length : Int) < (l.length : Int) := by omega
      rw [List.take_length]
      have HB := Lib.hid hb
      clear hb
      go_wp2
      go_ret
      exact ⟨ret_u64 HPe.out.symm, HB.out⟩
end Go.Proofs.Ythljgkaigjokjaa
