/- gr's reader: the line that tells how many. -/
import Derived.Test.YtdjfmmfggkkbaaaDoorGrU
namespace Go.Proofs.YtdjfmmfggkkbaaaDoor
open Go.RowKit Go.Shelf Grm

/-- A reader's cells. -/
abbrev rC (n : Int) (av : Value) (b : Bool) (many : Int) : Array Value := #[.int .i64 n, av, .bool b, .int .i64 many]
/-- These words, from cell o of block g on. -/
def Wds (w : World) (g o : Nat) (l : List Tx) : Prop := g < w.heap.size ∧ (∀ i x, l[i]? = some x → w.cell? ⟨g, o + i, none⟩ = some (txV x)) ∧ ∀ x ∈ l, x.length ≤ 140737488351232
def spT : Tx := [115, 112]
def headL (b : Bool) : List Tx → Option (Nat × Nat)
  | [s, x, y] => if b = false ∧ s = spT then (match numsL [x, y] [16777216, 67108864] with | some [n, k] => some (n, k) | _ => none) else none
  | _ => none
theorem grownBy_dr {w w' : World} {row : Option Nat} (h : w.grownBy w' row) : w.grownBy w'.drew row := ⟨h.os, h.tape, h.output, h.size, h.block⟩
/-- What takeHead tells. -/
def HeadP (w : World) (r : Nat) (av : Value) (R : Option (Nat × Nat)) (e : Ending) (w' : World) : Prop :=
  (R = none ∧ e = .returned (.bool false) ∧ Below w.heap.size w w') ∨ ∃ n k, R = some (n, k) ∧ e = .returned (.bool true) ∧ w.grownBy w' (some r) ∧ Row w' r 53 (rC (n : Nat) av true (k : Nat))
theorem numsL_two {x y : Tx} {m m' : Int} {ns : List Nat} (h : numsL [x, y] [m, m'] = some ns) : ∃ a b, ns = [a, b] := by
  simp only [numsL] at h
  cases hx : numL x m with
  | none => rw [hx] at h; cases h
  | some a =>
    cases hy : numL y m' with
    | none => rw [hx, hy] at h; cases h
    | some b => rw [hx, hy] at h; exact ⟨a, b, (Option.some.inj h).symm⟩
set_option maxRecDepth 100000 in
set_option maxHeartbeats 2000000 in
theorem head_begun (r g : Nat) (n many : Int) (av : Value) (k c : Nat) (a : Option Addr) (w : World) (hr : Row w r 53 (rC n av true many)) :
    Calls Tryd.prog 37 #[.pointer (some ⟨r, 0, none⟩), .slice a k c] w fun e w' => e = .returned (.bool false) ∧ w' = w := by
  have k2 : w.cell? ⟨r, 2, none⟩ = some (.bool true) := hr.cell 2
  have HR := Lib.hid hr
  clear hr
  go_enter Tryd.func37, Tryd.ntmps37
  go_wp2
  go_ret
  exact ⟨rfl, rfl⟩
set_option maxRecDepth 100000 in
set_option maxHeartbeats 2000000 in
theorem head_none (r : Nat) (n many : Int) (av : Value) (c : Nat) (a : Option Addr) (w : World) (hr : Row w r 53 (rC n av false many)) :
    Calls Tryd.prog 37 #[.pointer (some ⟨r, 0, none⟩), .slice a 0 c] w fun e w' => e = .returned (.bool false) ∧ w' = w := by
  have k2 : w.cell? ⟨r, 2, none⟩ = some (.bool false) := hr.cell 2
  have HR := Lib.hid hr
  clear hr
  go_enter Tryd.func37, Tryd.ntmps37
  go_wp2
  go_ret
  exact ⟨rfl, rfl⟩
set_option maxRecDepth 100000 in
set_option maxHeartbeats 2000000 in
theorem head_other (r g : Nat) (n many : Int) (av : Value) (s : Tx) (k : Nat) (w : World) (hs : s ≠ spT) (hr : Row w r 53 (rC n av false many)) (hk : w.cell? ⟨g, 1, none⟩ = some (txV s)) :
    Calls Tryd.prog 37 #[.pointer (some ⟨r, 0, none⟩), .slice (some ⟨g, 1, none⟩) (k + 1) 4] w fun e w' => e = .returned (.bool false) ∧ w' = w := by
  have k2 : w.cell? ⟨r, 2, none⟩ = some (.bool false) := hr.cell 2
  have hne : (s == [115, 112]) = false := beq_eq_false_iff_ne.2 hs
  have hk0 : ((k : Int) + 1 == 0) = false := beq_eq_false_iff_ne.2 (by omega)
  have HR := Lib.hid hr
  clear hr
  go_enter Tryd.func37, Tryd.ntmps37
  go_wp2
  go_ret
  exact ⟨rfl, rfl⟩
set_option maxRecDepth 100000 in
set_option maxHeartbeats 2000000 in
theorem head_two (r g : Nat) (n many : Int) (av : Value) (x y : Tx) (w : World) (hr : Row w r 53 (rC n av false many)) (hg : g < w.heap.size) (hx : x.length ≤ 140737488351232) (hy : y.length ≤ 140737488351232) (hk : w.cell? ⟨g, 1, none⟩ = some (txV spT)) (hk1 : w.cell? ⟨g, 2, none⟩ = some (txV x)) (hk2 : w.cell? ⟨g, 3, none⟩ = some (txV y)) :
    Calls Tryd.prog 37 #[.pointer (some ⟨r, 0, none⟩), .slice (some ⟨g, 1, none⟩) 3 4] w (HeadP w r av (headL false [spT, x, y])) := by
  have k2 : w.cell? ⟨r, 2, none⟩ = some (.bool false) := hr.cell 2
  have HR := Lib.hid hr
  obtain ⟨R, hR⟩ : ∃ R, R = headL false [spT, x, y] := ⟨_, rfl⟩
  rw [← hR]
  have HRr := Lib.hid hR
  have hA := Row.fresh w 3 #[.int .i64 16777216, .int .i64 67108864]
  have HC := Lib.hid (nums2 x y 16777216 67108864 g w.heap.size (w.alloc (.cells #[.int .i64 16777216, .int .i64 67108864] 3)) hx hy (by simp; omega) (by simp) ((World.cell?_alloc_lt _ _ _ hg).trans hk1) ((World.cell?_alloc_lt _ _ _ hg).trans hk2) (hA.cell 0) (hA.cell 1))
  have HH := Lib.hid (And.intro hr hg)
  clear hr hR hA hk1 hk2 hg hx hy
  unfold spT at hk
  go_enter Tryd.func37, Tryd.ntmps37
  go_wp2_with fail
  refine HC.out.mono ?_
  rintro e w1 ⟨hb, ⟨hN, rfl⟩ | ⟨ns, hN, rfl, hrow⟩⟩
  · have HB := Lib.hid (And.intro hb hN)
    clear hb hN
    go_wp2
    go_ret
    refine .inl ⟨by rw [HRr.out]; simp [headL, HB.out.2], rfl, ?_⟩
    exact ((Below.refl _ w).alloc (Nat.le_refl _) _).trans (HB.out.1.mono (by simp))
  · obtain ⟨a, b, rfl⟩ := numsL_two hN
    have hr1 : Row w1 r 53 (rC n av false many) := (HH.out.1.past _).under hb (by have := HH.out.1.lt; simp; omega)
    have c0 : w1.cell? ⟨r, 0, none⟩ = some (.int .i64 n) := hr1.cell 0
    have c2 : w1.cell? ⟨r, 2, none⟩ = some (.bool false) := hr1.cell 2
    have c3 : w1.cell? ⟨r, 3, none⟩ = some (.int .i64 many) := hr1.cell 3
    have f0 := hr1.thaw 0
    have f2 := hr1.thaw 2
    have f3 := hr1.thaw 3
    have l0 : w1.cell? ⟨(w.alloc (.cells #[.int .i64 16777216, .int .i64 67108864] 3)).heap.size, 0, none⟩ = some (.int .i64 (a : Nat)) := hrow.cell 0
    have l1 : w1.cell? ⟨(w.alloc (.cells #[.int .i64 16777216, .int .i64 67108864] 3)).heap.size, 1, none⟩ = some (.int .i64 (b : Nat)) := hrow.cell 1
    have hbn : w.heap.size ≤ (w.alloc (.cells #[.int .i64 16777216, .int .i64 67108864] 3)).heap.size := by simp
    generalize (w.alloc (.cells #[.int .i64 16777216, .int .i64 67108864] 3)).heap.size = bn at *
    have HBN := Lib.hid hbn
    clear hbn
    have HB := Lib.hid (And.intro hb (And.intro hN (And.intro hrow hr1)))
    clear hb hN hrow hr1
    go_upto_region 6 with (fail)
    go_region
    go_wp2
    go_ret
    have hx := HB.out
    have hr2 := ((hx.2.2.2.put 2 (.bool true)).put 0 (.int .i64 (a : Nat))).put 3 (.int .i64 (b : Nat))
    refine .inr ⟨a, b, by rw [HRr.out]; simp [headL, hx.2.1], rfl, ?_, hr2⟩
    have hb0 : Below w.heap.size w w1 := ((Below.refl _ w).alloc (Nat.le_refl _) _).trans (hx.1.mono HBN.out)
    refine grownBy_dr ?_
    refine ⟨hb0.os, hb0.tape, hb0.output, by simpa [World.setCell] using hb0.size, fun k hk hn => ?_⟩
    have hne : k ≠ r := fun e => hn (by rw [e])
    rw [Below.heap_setCell _ _ _ _ hne, Below.heap_setCell _ _ _ _ hne, Below.heap_setCell _ _ _ _ hne]
    exact hb0.block k hk
set_option maxRecDepth 100000 in
set_option maxHeartbeats 2000000 in
theorem head_odd (r g k : Nat) (n many : Int) (av : Value) (w : World) (h2 : k ≤ 3) (h3 : k ≠ 2) (hr : Row w r 53 (rC n av false many)) (hk : w.cell? ⟨g, 1, none⟩ = some (txV spT)) :
    Calls Tryd.prog 37 #[.pointer (some ⟨r, 0, none⟩), .slice (some ⟨g, 1, none⟩) (k + 1) 4] w fun e w' => e = .returned (.bool false) ∧ Below w.heap.size w w' := by
  have k2 : w.cell? ⟨r, 2, none⟩ = some (.bool false) := hr.cell 2
  have HR := Lib.hid hr
  unfold spT at hk
  clear hr
  have HB := Lib.hid ((Below.refl w.heap.size w).alloc (Nat.le_refl _) (.cells #[.int .i64 16777216, .int .i64 67108864] 3))
  obtain rfl | rfl | rfl : k = 0 ∨ k = 1 ∨ k = 3 := by omega
  all_goals
    clear h2 h3
    go_enter Tryd.func37, Tryd.ntmps37
    go_wp2
    go_ret
    exact ⟨rfl, HB.out⟩
/-- takeHead. -/
theorem head_any (r g : Nat) (n many : Int) (av : Value) (b : Bool) (ws : List Tx) (w : World) (hr : Row w r 53 (rC n av b many)) (hw : Wds w g 1 ws) (h4 : ws.length ≤ 4) :
    Calls Tryd.prog 37 #[.pointer (some ⟨r, 0, none⟩), .slice (some ⟨g, 1, none⟩) ws.length 4] w (HeadP w r av (headL b ws)) := by
  have no : ∀ {e : Ending} {w' : World} (R : Option (Nat × Nat)), R = none → e = .returned (.bool false) ∧ Below w.heap.size w w' → HeadP w r av R e w' := fun R h q => .inl ⟨h, q.1, q.2⟩
  cases b with
  | true =>
    refine (head_begun r g n many av _ _ _ w hr).mono fun e w' q => no _ (by rcases ws with _ | ⟨_, _ | ⟨_, _ | ⟨_, _ | _⟩⟩⟩ <;> simp [headL]) ⟨q.1, by rw [q.2]; exact Below.refl _ _⟩
  | false =>
    rcases ws with _ | ⟨s, t⟩
    · exact (head_none r n many av _ _ w hr).mono fun e w' q => no _ rfl ⟨q.1, by rw [q.2]; exact Below.refl _ _⟩
    · have hs := hw.2.1 0 s rfl
      by_cases hsp : s = spT
      · subst hsp
        by_cases ht : t.length = 2
        · rcases t with _ | ⟨x, _ | ⟨y, _ | _⟩⟩ <;> simp at ht
          exact head_two r g n many av x y w hr hw.1 (hw.2.2 x (by simp)) (hw.2.2 y (by simp)) hs (hw.2.1 1 x rfl) (hw.2.1 2 y rfl)
        · refine (head_odd r g t.length n many av w (by simp at h4; omega) ht hr hs).mono fun e w' q => no _ ?_ q
          rcases t with _ | ⟨x, _ | ⟨y, _ | _⟩⟩ <;> simp_all [headL]
      · refine (head_other r g n many av s t.length w hsp hr hs).mono fun e w' q => no _ ?_ ⟨q.1, by rw [q.2]; exact Below.refl _ _⟩
        unfold headL
        split
        · rename_i h; injection h with h1 _; subst h1; simp [hsp]
        · rfl
end Go.Proofs.YtdjfmmfggkkbaaaDoor
