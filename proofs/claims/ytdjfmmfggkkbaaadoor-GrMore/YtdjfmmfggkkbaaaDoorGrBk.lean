/- What is printed is read: pure. -/
import Derived.Test.YtdjfmmfggkkbaaaDoorGrPa
import Derived.Test.YtdjfmmfggkkbaaaDoorGrLawB
namespace Go.Proofs.YtdjfmmfggkkbaaaDoor
open Go.RowKit Go.Shelf Grm

/-! ### Cutting -/
theorem cutc_app (c : UInt8) (l m : Tx) : cut c (l ++ c :: m) = cut c l ++ cut c m := by
  induction l with
  | nil => simp [cut]
  | cons x r ih =>
    rw [List.cons_append, cut_cons, cut_cons]
    by_cases hx : x = c
    · rw [if_pos hx, if_pos hx, ih]; rfl
    · rw [if_neg hx, if_neg hx, ih]
      cases h : cut c r with
      | nil => exact absurd h (cut_ne _ _)
      | cons a t => simp
theorem cutc_one (c : UInt8) {l : Tx} (h : ∀ x ∈ l, x ≠ c) : cut c l = [l] := by
  induction l with
  | nil => rfl
  | cons x r ih => rw [cut_cons, if_neg (h x (by simp)), ih (fun y hy => h y (by simp [hy]))]
/-! ### Lines -/
def joinL (Ls : List Tx) : Tx := Ls.flatMap (· ++ [10])
theorem joinL_cut {Ls : List Tx} {l : Tx} (h : ∀ L ∈ Ls, ∀ x ∈ L, x ≠ 10) (hl : ∀ x ∈ l, x ≠ 10) : cut 10 (joinL Ls ++ l) = Ls ++ [l] := by
  induction Ls with
  | nil => simpa [joinL] using cutc_one 10 hl
  | cons a t ih =>
    have e : joinL (a :: t) ++ l = a ++ 10 :: (joinL t ++ l) := by simp [joinL]
    rw [e, cutc_app, cutc_one 10 (h a (by simp)), ih (fun L hL => h L (by simp [hL]))]
    rfl
theorem joinL_app (A B : List Tx) : joinL (A ++ B) = joinL A ++ joinL B := by simp [joinL]
theorem joinL_lines {Ls : List Tx} (hne : Ls ≠ []) (h : ∀ L ∈ Ls, ∀ x ∈ L, x ≠ 10) : linesL (joinL Ls) = Ls := by
  have hl := List.dropLast_concat_getLast hne
  have e : joinL Ls = (joinL Ls.dropLast ++ Ls.getLast hne) ++ [10] := by
    conv => lhs; rw [← hl, joinL_app]
    simp [joinL]
  have e0 : joinL Ls ≠ [] := by rw [e]; simp
  unfold linesL
  rw [if_neg e0, e, trim_end, joinL_cut (fun L hL => h L (List.dropLast_subset _ hL)) (h _ (List.getLast_mem hne)), hl]
/-! ### The reading, without the lines' numbers -/
def runL (s : Rst) : List Tx → Option Rst
  | [] => some s
  | l :: r => match takeL s (five (cut 32 l)) with
    | none => none
    | some s' => runL s' r
theorem runL_cons (s : Rst) (l : Tx) (r : List Tx) : runL s (l :: r) = (takeL s (five (cut 32 l))).bind fun s' => runL s' r := by
  show (match takeL s (five (cut 32 l)) with | none => none | some s' => runL s' r) = _
  cases takeL s (five (cut 32 l)) <;> rfl
theorem goL_run (L : List Tx) : ∀ (s : Rst) (k : Nat), (goL s k L).2 = runL s L := by
  induction L with
  | nil => intro s k; rfl
  | cons l r ih =>
    intro s k
    unfold goL runL
    split
    · rename_i h; rw [h]
    · rename_i s' h; rw [h]; exact ih s' _
theorem runL_app (A B : List Tx) : ∀ s : Rst, runL s (A ++ B) = (runL s A).bind fun s' => runL s' B := by
  induction A with
  | nil => intro s; rfl
  | cons l r ih =>
    intro s
    rw [List.cons_append, runL_cons, runL_cons]
    cases takeL s (five (cut 32 l)) with
    | none => rfl
    | some s' => exact ih s'
theorem goL_at {L : List Tx} {l : Tx} {s' : Rst} (M : List Tx) : ∀ {s : Rst} {k : Nat}, runL s L = some s' → takeL s' (five (cut 32 l)) = none → goL s k (L ++ l :: M) = (k + L.length, none) := by
  induction L with
  | nil => intro s k h e; cases h; simp [goL, e]
  | cons a r ih =>
    intro s k h e
    rw [List.cons_append]
    unfold runL at h
    unfold goL
    split at h
    · cases h
    · rename_i s2 h2
      rw [h2]
      simp only
      rw [ih h e]
      simp; omega
theorem parse_run {m : Tx} {Ls : List Tx} (hL : linesL m = Ls) {s : Rst} (h : runL Rst.zero Ls = some s) : parseL m = if s.whole then .inr (s.n, s.arcs) else .inl (1 + Ls.length) := by
  unfold parseL
  rw [hL]
  have h2 := goL_run Ls Rst.zero 1
  rcases hg : goL Rst.zero 1 Ls with ⟨k, _ | st⟩
  · rw [hg, h] at h2; cases h2
  · rw [hg, h] at h2
    obtain rfl := Option.some.inj h2
    have := goL_end hg
    simp [this]
/-! ### The words of printed lines -/
theorem dig_ne {n : Nat} {c : UInt8} (hc : dig c = false) : ∀ x ∈ digL n, x ≠ c := by
  intro x hx e
  subst e
  have := List.all_eq_true.1 (digL_dig n) x hx
  rw [hc] at this
  cases this
theorem digL_ne (n : Nat) : digL n ≠ [] := by
  have := digL_pos n
  intro e
  rw [e] at this
  simp at this
theorem cut_nsT (w : Tx) (hw : ∀ x ∈ w, x ≠ 32) (ns : List Nat) : cut 32 (w ++ nsT ns) = w :: ns.map digL := by
  induction ns generalizing w with
  | nil => simpa [nsT] using cutc_one 32 hw
  | cons a t ih =>
    have e : w ++ nsT (a :: t) = w ++ 32 :: (digL a ++ nsT t) := by simp [nsT, nT]
    rw [e, cutc_app, cutc_one 32 hw, ih (digL a) (dig_ne (by decide))]
    rfl
theorem full_dig (n : Nat) : full (digL n) = true := by
  unfold full
  cases h : digL n with
  | nil => exact absurd h (digL_ne n)
  | cons a t => rfl
theorem filter_dig (ns : List Nat) : (ns.map digL).filter full = ns.map digL := by
  induction ns with
  | nil => rfl
  | cons a t ih => rw [List.map_cons, List.filter_cons_of_pos (full_dig a), ih]
/-- A line, its end taken off. -/
def headW (n : Int) (l : List Ar) : Tx := [112, 32, 115, 112] ++ nsT [n.toNat, l.length]
def arcW (x : Ar) : Tx := [97] ++ nsT [(x.1 + 1).toNat, (x.2.1 + 1).toNat, x.2.2.toNat]
theorem words_head (n : Int) (l : List Ar) : wordsL (headW n l) = [[112], spT, digL n.toNat, digL l.length] := by
  unfold wordsL headW
  have e : [112, 32, 115, 112] ++ nsT [n.toNat, l.length] = [112] ++ 32 :: ([115, 112] ++ nsT [n.toNat, l.length]) := rfl
  rw [e, cutc_app, cutc_one 32 (by decide), cut_nsT [115, 112] (by decide)]
  have : ([[112]] ++ [115, 112] :: [n.toNat, l.length].map digL : List Tx) = [112] :: [115, 112] :: [n.toNat, l.length].map digL := rfl
  rw [this, List.filter_cons_of_pos (by decide), List.filter_cons_of_pos (by decide), filter_dig]
  rfl
theorem words_arc (x : Ar) : wordsL (arcW x) = [[97], digL (x.1 + 1).toNat, digL (x.2.1 + 1).toNat, digL x.2.2.toNat] := by
  unfold wordsL arcW
  rw [cut_nsT [97] (by decide), List.filter_cons_of_pos (by decide), filter_dig]
  rfl
theorem five_of {m : Tx} {ws : List Tx} (h : wordsL m = ws) (h5 : ws.length ≤ 5) : five (cut 32 m) = ws := by
  show (wordsL m).take 5 = ws
  rw [h, List.take_of_length_le h5]
theorem nsT_mem {ns : List Nat} : ∀ x ∈ nsT ns, x ≠ 10 := by
  intro x hx e
  subst e
  unfold nsT at hx
  obtain ⟨n, _, hn⟩ := List.mem_flatMap.1 hx
  simp only [nT, List.mem_cons] at hn
  rcases hn with hn | hn
  · exact absurd hn (by decide)
  · exact dig_ne (n := n) (c := 10) (by decide) _ hn rfl
theorem headW_ne (n : Int) (l : List Ar) : ∀ x ∈ headW n l, x ≠ 10 := by
  intro x hx
  simp only [headW, List.mem_append] at hx
  rcases hx with hx | hx
  · intro e; subst e; revert hx; decide
  · exact nsT_mem x hx
theorem arcW_ne (a : Ar) : ∀ x ∈ arcW a, x ≠ 10 := by
  intro x hx
  simp only [arcW, List.mem_append] at hx
  rcases hx with hx | hx
  · intro e; subst e; revert hx; decide
  · exact nsT_mem x hx
theorem printL_join (n : Int) (l : List Ar) : printL n l = joinL (headW n l :: l.map arcW) := by
  unfold printL joinL
  rw [List.flatMap_cons]
  have : linesT l = (l.map arcW).flatMap (· ++ [10]) := by
    rw [List.flatMap_map]; rfl
  rw [this]
  rfl
theorem take_head {n : Int} {l : List Ar} (h0 : 0 ≤ n) (hn : n ≤ 16777216) (hl : l.length ≤ 67108864) : takeL Rst.zero (five (cut 32 (headW n l))) = some ⟨n.toNat, [], true, l.length⟩ := by
  rw [five_of (words_head n l) (by simp)]
  show (headL false [spT, digL n.toNat, digL l.length]).map _ = _
  simp only [headL, numsL, true_and, if_true]
  rw [num_dig _ _ (by omega), num_dig _ _ (by omega), if_pos (by omega), if_pos (by omega)]
  rfl
theorem take_arc {n : Int} {x : Ar} (hn : n ≤ 16777216) (hb : badA n x = false) (s : Rst) (h1 : s.n = n.toNat) (h2 : s.begun = true) (h3 : s.arcs.length ≠ s.many) : takeL s (five (cut 32 (arcW x))) = some { s with arcs := s.arcs ++ [x] } := by
  obtain ⟨x0, x1, x2⟩ := x
  simp only [badA, decide_eq_false_iff_not] at hb
  rw [five_of (words_arc _) (by simp)]
  show (arcL s.n s.arcs s.begun s.many [digL (x0 + 1).toNat, digL (x1 + 1).toNat, digL x2.toNat]).map _ = _
  simp only [arcL, numsL, h2, h1]
  rw [if_pos ⟨trivial, h3⟩, num_dig _ _ (by omega), num_dig _ _ (by omega), num_dig _ _ (by omega), if_pos (by omega), if_pos (by omega), if_pos (by omega)]
  simp only [Option.bind_some, Option.map_some]
  rw [if_neg (by omega)]
  have e : (((x0 + 1).toNat : Int) - 1, ((x1 + 1).toNat : Int) - 1, (x2.toNat : Int)) = (x0, x1, x2) := by
    congr 1
    · omega
    · congr 1 <;> omega
  rw [e]
  rfl
theorem take_over {x : Ar} (s : Rst) (h3 : s.arcs.length = s.many) : takeL s (five (cut 32 (arcW x))) = none := by
  rw [five_of (words_arc _) (by simp)]
  show (arcL s.n s.arcs s.begun s.many [_, _, _]).map _ = none
  simp [arcL, h3]
theorem run_arcs {n : Int} (hn : n ≤ 16777216) : ∀ (l : List Ar) (s : Rst), (∀ x ∈ l, badA n x = false) → s.n = n.toNat → s.begun = true → s.arcs.length + l.length ≤ s.many → runL s (l.map arcW) = some { s with arcs := s.arcs ++ l } := by
  intro l
  induction l with
  | nil => intro s _ _ _ _; simp [runL]
  | cons x t ih =>
    intro s hb h1 h2 h3
    rw [List.map_cons, runL_cons]
    simp at h3
    rw [take_arc hn (hb x (by simp)) s h1 h2 (by omega), Option.bind_some]
    rw [ih { s with arcs := s.arcs ++ [x] } (fun y hy => hb y (by simp [hy])) h1 h2 (by simp; omega)]
    simp
theorem run_print {n : Int} {l : List Ar} (hc : checkL n l = 0) : runL Rst.zero (headW n l :: l.map arcW) = some ⟨n.toNat, l, true, l.length⟩ := by
  obtain ⟨h0, hn, hl, hb⟩ := check_ok hc
  rw [runL_cons, take_head h0 hn hl, Option.bind_some, run_arcs hn l _ hb rfl rfl (by simp)]
  simp
theorem lines_ne (n : Int) (l k : List Ar) : ∀ L ∈ headW n k :: l.map arcW, ∀ x ∈ L, x ≠ 10 := by
  intro L hL
  simp only [List.mem_cons, List.mem_map] at hL
  rcases hL with rfl | ⟨a, _, rfl⟩
  · exact headW_ne n k
  · exact arcW_ne a
/-- WHAT IS PRINTED IS READ. -/
theorem parse_print {n : Int} {l : List Ar} (hc : checkL n l = 0) : parseL (printL n l) = .inr (n.toNat, l) := by
  rw [printL_join, parse_run (joinL_lines (by simp) (lines_ne n l l)) (run_print hc)]
  simp [Rst.whole]
/-! ### Blanks more, and lines of notes -/
def fb (note : Tx) (c : UInt8) : Tx := c :: ((if c = 32 then [32, 32] else []) ++ (if c = 10 then [32, 32, 32, 99, 32] ++ note ++ [10] else []))
def tri (L : Tx) : Tx := L.flatMap fun c => c :: (if c = 32 then [32, 32] else [])
theorem fb_line (note : Tx) {L : Tx} (h : ∀ x ∈ L, x ≠ 10) : L.flatMap (fb note) = tri L := by
  induction L with
  | nil => rfl
  | cons x r ih =>
    have h0 : x ≠ 10 := h x (by simp)
    simp only [tri, List.flatMap_cons, fb, h0, if_false, List.append_nil] at ih ⊢
    rw [ih (fun y hy => h y (by simp [hy]))]
def cmt (note : Tx) : Tx := [32, 32, 32, 99, 32] ++ note
theorem fb_join (note : Tx) {Ls : List Tx} (h : ∀ L ∈ Ls, ∀ x ∈ L, x ≠ 10) : (joinL Ls).flatMap (fb note) = joinL (Ls.flatMap fun L => [tri L, cmt note]) := by
  induction Ls with
  | nil => rfl
  | cons a t ih =>
    have e1 : joinL (a :: t) = a ++ ([10] ++ joinL t) := by simp [joinL]
    rw [e1, List.flatMap_append, List.flatMap_append, fb_line note (h a (by simp)), ih (fun L hL => h L (by simp [hL])), List.flatMap_cons (xs := t), joinL_app]
    simp [joinL, cmt, fb]
theorem cut_tri (r : Tx) : ∃ h t t', cut 32 (tri r) = h :: t' ∧ cut 32 r = h :: t ∧ t'.filter full = t.filter full := by
  induction r with
  | nil => exact ⟨[], [], [], rfl, rfl, rfl⟩
  | cons x r ih =>
    obtain ⟨h, t, t', e1, e2, e3⟩ := ih
    by_cases hx : x = 32
    · subst hx
      have e : tri (32 :: r) = 32 :: 32 :: 32 :: tri r := by simp [tri]
      refine ⟨[], h :: t, [] :: [] :: h :: t', ?_, ?_, ?_⟩
      · rw [e, cut_cons, if_pos rfl, cut_cons, if_pos rfl, cut_cons, if_pos rfl, e1]
      · rw [cut_cons, if_pos rfl, e2]
      · rw [List.filter_cons_of_neg (by decide), List.filter_cons_of_neg (by decide), List.filter_cons, List.filter_cons, e3]
    · have e : tri (x :: r) = x :: tri r := by simp [tri, hx]
      refine ⟨x :: h, t, t', ?_, ?_, e3⟩
      · rw [e, cut_cons, if_neg hx, e1]
      · rw [cut_cons, if_neg hx, e2]
theorem words_tri (r : Tx) : wordsL (tri r) = wordsL r := by
  obtain ⟨h, t, t', e1, e2, e3⟩ := cut_tri r
  unfold wordsL
  rw [e1, e2, List.filter_cons, List.filter_cons, e3]
theorem words_c (m : Tx) : ∃ ws, five (cut 32 ([99, 32] ++ m)) = [99] :: ws := by
  have e : cut 32 ([99, 32] ++ m) = [99] :: cut 32 m := by
    rw [show ([99, 32] ++ m : Tx) = [99] ++ 32 :: m from rfl, cutc_app, cutc_one 32 (by decide)]
    rfl
  rw [e]
  refine ⟨((cut 32 m).filter full).take 4, ?_⟩
  unfold five
  rw [List.filter_cons_of_pos (by decide)]
  rfl
theorem words_cmt (m : Tx) : ∃ ws, five (cut 32 (cmt m)) = [99] :: ws := by
  obtain ⟨ws, h⟩ := words_c m
  refine ⟨ws, ?_⟩
  rw [← h]
  have e : cut 32 (cmt m) = [] :: [] :: [] :: cut 32 ([99, 32] ++ m) := by
    rw [show cmt m = 32 :: 32 :: 32 :: ([99, 32] ++ m) from rfl, cut_cons, if_pos rfl, cut_cons, if_pos rfl, cut_cons, if_pos rfl]
  unfold five
  rw [e, List.filter_cons_of_neg (by decide), List.filter_cons_of_neg (by decide), List.filter_cons_of_neg (by decide)]
theorem run_fuzz (note : Tx) (Ls : List Tx) : ∀ s : Rst, runL s (Ls.flatMap fun L => [tri L, cmt note]) = runL s Ls := by
  induction Ls with
  | nil => intro s; rfl
  | cons a t ih =>
    intro s
    rw [List.flatMap_cons]
    show runL s (tri a :: cmt note :: (t.flatMap fun L => [tri L, cmt note])) = _
    rw [runL_cons, runL_cons]
    have e : five (cut 32 (tri a)) = five (cut 32 a) := by
      show (wordsL (tri a)).take 5 = (wordsL a).take 5
      rw [words_tri]
    rw [e]
    cases takeL s (five (cut 32 a)) with
    | none => rfl
    | some s' =>
      obtain ⟨ws, h⟩ := words_cmt note
      rw [Option.bind_some, Option.bind_some, runL_cons, h]
      exact ih s'
theorem tri_ne {L : Tx} (h : ∀ x ∈ L, x ≠ 10) : ∀ x ∈ tri L, x ≠ 10 := by
  intro x hx
  obtain ⟨y, hy, hm⟩ := List.mem_flatMap.1 hx
  simp only [List.mem_cons] at hm
  rcases hm with rfl | hm
  · exact h x hy
  · split at hm
    · intro e; subst e; revert hm; decide
    · cases hm
def fuzzL (note : Tx) (s : Tx) : Tx := [99, 32] ++ note ++ [10, 10] ++ s.flatMap (fb note)
/-- BLANKS MORE, AND LINES OF NOTES, CHANGE NOTHING. -/
theorem parse_fuzz {n : Int} {l : List Ar} (note : Tx) (hnote : ∀ x ∈ note, x ≠ 10) (hc : checkL n l = 0) : parseL (fuzzL note (printL n l)) = .inr (n.toNat, l) := by
  have e : fuzzL note (printL n l) = joinL (([99, 32] ++ note) :: [] :: ((headW n l :: l.map arcW).flatMap fun L => [tri L, cmt note])) := by
    unfold fuzzL
    rw [printL_join, fb_join note (lines_ne n l l)]
    simp [joinL]
  have hne : ∀ L ∈ (([99, 32] ++ note) :: [] :: ((headW n l :: l.map arcW).flatMap fun L => [tri L, cmt note])), ∀ x ∈ L, x ≠ 10 := by
    intro L hL
    rw [List.mem_cons, List.mem_cons] at hL
    rcases hL with rfl | rfl | hL
    · intro x hx
      simp only [List.mem_append] at hx
      rcases hx with hx | hx
      · intro e; subst e; revert hx; decide
      · exact hnote x hx
    · intro x hx; cases hx
    · obtain ⟨M, hM, hL⟩ := List.mem_flatMap.1 hL
      simp only [List.mem_cons, List.not_mem_nil, or_false] at hL
      rcases hL with rfl | rfl
      · exact tri_ne (lines_ne n l l M hM)
      · intro x hx
        simp only [cmt, List.mem_append] at hx
        rcases hx with hx | hx
        · intro e; subst e; revert hx; decide
        · exact hnote x hx
  have hrun : runL Rst.zero (([99, 32] ++ note) :: [] :: ((headW n l :: l.map arcW).flatMap fun L => [tri L, cmt note])) = some ⟨n.toNat, l, true, l.length⟩ := by
    obtain ⟨ws, h⟩ := words_c note
    rw [runL_cons, h]
    show runL Rst.zero ([] :: ((headW n l :: l.map arcW).flatMap fun L => [tri L, cmt note])) = _
    rw [runL_cons]
    show runL Rst.zero ((headW n l :: l.map arcW).flatMap fun L => [tri L, cmt note]) = _
    rw [run_fuzz, run_print hc]
  rw [e, parse_run (joinL_lines (by simp) hne) hrun]
  simp [Rst.whole]
end Go.Proofs.YtdjfmmfggkkbaaaDoor
