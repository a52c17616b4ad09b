/- graph.Best. -/
import Derived.Test.YthljgkaigjokjaaGhS
namespace Go.Proofs.Ythljgkaigjokjaa
open Go.RowKit Go.Shelf Grm Lay
attribute [local go_sem] Oper.semAt_some

/-- The first edge to v, sought as far as they rise. -/
def bestW (v : Int) : List Ed → Option Ed
  | [] => none
  | e :: t => if e.1 = v then some e else if v < e.1 then none else bestW v t
abbrev eC (e : Ed) : Array Value := #[.int .i64 e.1, .int .i64 e.2.1, .int .i64 (e.2.2 : Nat)]
abbrev eZ : Array Value := #[.int .i64 0, .int .i64 0, .int .i64 0]
/-- What lies beside the range: the results' cells, and v's. -/
structure BestM (w : World) (v : Int) (cs : Array Value) (b : Bool) (W : World) : Prop where
  pv : Row W w.heap.size 3 #[.int .i64 v]
  re : Row W (w.heap.size + 1) 37 cs
  rb : Row W (w.heap.size + 2) 4 #[.bool b]
  bw : Below w.heap.size w W
theorem BestM.only {S : Nat → Prop} {w : World} {v : Int} {cs : Array Value} {b : Bool} {W W' : World} (h : BestM w v cs b W) (ho : Only S W W') (hS : ∀ k, S k → w.heap.size + 2 < k) : BestM w v cs b W' :=
  ⟨h.pv.only ho (fun q => by have := hS _ q; omega), h.re.only ho (fun q => by have := hS _ q; omega), h.rb.only ho (fun q => by have := hS _ q; omega), h.bw.trans (ho.below (K := w.heap.size) (fun k q => by have := hS _ q; omega) h.bw.size)⟩
def BestI (w : World) (v : Int) (E : List Ed) (pre : List Ed) (_ : Foot) (W : World) : Prop :=
  BestM w v eZ false W ∧ ∃ rest, E = pre ++ rest ∧ bestW v E = bestW v rest
def BestX (w : World) (v : Int) (E : List Ed) (c : Code) (_ : List Ed) (_ : Foot) (W : World) : Prop :=
  (c = .ret ∧ ∃ e, bestW v E = some e ∧ BestM w v (eC e) true W) ∨ (c = .exit 0 ∧ bestW v E = none ∧ BestM w v eZ false W)
theorem BestI.abide {w : World} {v : Int} {E : List Ed} {B : Nat} (hB : w.heap.size + 2 < B) : Abide B (BestI w v E) := by
  rintro pre T A A' ⟨h, h2⟩ _ ho
  exact ⟨h.only ho (fun k q => by omega), h2⟩
theorem BestX.abide {w : World} {v : Int} {E : List Ed} {B : Nat} (hB : w.heap.size + 2 < B) (c : Code) : Abide B (BestX w v E c) := by
  rintro pre T A A' h _ ho
  rcases h with ⟨h1, e, h2, h3⟩ | ⟨h1, h2, h3⟩
  · exact .inl ⟨h1, e, h2, h3.only ho (fun k q => by omega)⟩
  · exact .inr ⟨h1, h2, h3.only ho (fun k q => by omega)⟩
def bestV : Option Ed → Value
  | some x => .tuple #[.agg (eC x), .bool true]
  | none => .tuple #[.agg eZ, .bool false]
/-- The end: the results are read when the range's frame is put away. -/
theorem BestM.put {w : World} {v : Int} {cs : Array Value} {b : Bool} {W : World} {D : Nat} (h : BestM w v cs b W) (hD : w.heap.size + 2 < D) : BestM w v cs b (W.putObj D (.deferred none)) :=
  h.only (Only.putObj (S := fun k => k = D) _ rfl) (fun k q => by omega)
set_option maxRecDepth 100000 in
theorem best_nil (u v : Int) (w : World) : Calls Try.prog 23 #[.pointer none, .int .i64 u, .int .i64 v] w fun e w' => e = .returned (.tuple #[.agg eZ, .bool false]) ∧ Below w.heap.size w w' := by
  refine (callsIn_wide (n := 6)).1 ?_
  refine callsIn_of_wp_marks Try.func23 rfl trivial ?_ rfl
  simp only [Try.ntmps23, List.size_toArray, List.length_cons, List.length_nil, Nat.reduceAdd, Nat.reduceSub, Array.replicate_succ, Array.replicate_zero, List.push_toArray, List.append_toArray, List.nil_append, List.cons_append]
  refine wpIn_mono ?_ noP_le
  rw [wpIn_wide]
  go_wp2
  refine noP_ret ?_
  refine ⟨.tuple #[.agg eZ, .bool false], by simp [results, Try.results23, go_sem], rfl, ?_⟩
  exact (((Below.refl _ _).alloc (Nat.le_refl _) _).alloc (by simp) _).alloc (by simp; omega) _
set_option maxRecDepth 100000 in
set_option maxHeartbeats 4000000 in
theorem best_any {w : World} {K M g n : Nat} {l : List Ar} (h : Gra w K M g n l) (u v : Int) : Calls Try.prog 23 #[ptr g, .int .i64 u, .int .i64 v] w fun e w' => e = .returned (bestV (bestW v (outI n l u))) ∧ Below w.heap.size w w' := by
  obtain ⟨a, c, ib, cb, jb, db, h⟩ := h
  obtain ⟨w1, hw1⟩ : ∃ w1, w1 = ((w.alloc (.cells #[.int .i64 v] 3)).alloc (.cells eZ 37)).alloc (.cells #[.bool false] 4) := ⟨_, rfl⟩
  have hb1 : Below w.heap.size w w1 := by rw [hw1]; exact (((Below.refl _ _).alloc (Nat.le_refl _) _).alloc (by simp) _).alloc (by simp; omega) _
  have hs1 : w1.heap.size = w.heap.size + 3 := by rw [hw1]; simp
  have h1 := h.under hb1
  obtain ⟨wc, hwc⟩ : ∃ wc, wc = (w1.alloc (.cells #[.slice (some ⟨ib, 0, none⟩) (outs n l).length (outs n l).length, .slice (some ⟨cb, 0, none⟩) (n + 1) (n + 1)] 76)).alloc (.cells #[.int .i64 u] 3) := ⟨_, rfl⟩
  have hbc : Below w1.heap.size w1 wc := by rw [hwc]; exact ((Below.refl _ _).alloc (Nat.le_refl _) _).alloc (by simp) _
  have hsc : wc.heap.size = w1.heap.size + 2 := by rw [hwc]; simp
  have hm1 : BestM w v eZ false w1 := by
    refine ⟨?_, ?_, ?_, hb1⟩
    · rw [hw1]; exact ((Row.fresh w _ _).past _).past _
    · rw [hw1]
      have := (Row.fresh (w.alloc (.cells #[.int .i64 v] 3)) 37 eZ).past (.cells #[.bool false] 4)
      rwa [World.size_alloc] at this
    · rw [hw1]
      have := Row.fresh ((w.alloc (.cells #[.int .i64 v] 3)).alloc (.cells eZ 37)) 4 #[.bool false]
      rwa [World.size_alloc, World.size_alloc] at this
  have hmc := hm1.only (Only.of_below (fun _ => False) hbc) (fun _ q => q.elim)
  have g2 := Row.cell h.gb 2
  have g3 := Row.cell h.gb 3
  have hgl := Row.lt h.gb
  have hgl1 : g < w.heap.size + 1 := by omega
  have hgl2 : g < w.heap.size + 1 + 1 := by omega
  simp only [List.getElem?_toArray, List.getElem?_cons_zero, List.getElem?_cons_succ] at g2 g3
  have HSeq := Lib.hid (out_seq h1 u wc hwc (fun k => k = w.heap.size + 1 ∨ k = w.heap.size + 2) wc (Below.refl _ _) (fun q => by have := h.io.lt; omega))
  have HS := Lib.hid (And.intro hs1 (And.intro hsc hmc))
  have HW1 := Lib.hid hw1
  have HWc := Lib.hid hwc
  clear h h1 hb1 hs1 hbc hsc hm1 hmc hw1 hwc
  generalize (outs n l).length = LL at *
  refine (callsIn_wide (n := 6)).1 ?_
  refine callsIn_of_wp_marks Try.func23 rfl trivial ?_ rfl
  simp only [Try.ntmps23, List.size_toArray, List.length_cons, List.length_nil, Nat.reduceAdd, Nat.reduceSub, Array.replicate_succ, Array.replicate_zero, List.push_toArray, List.append_toArray, List.nil_append, List.cons_append]
  refine wpIn_mono ?_ noP_le
  rw [wpIn_wide]
  go_wp2_with (first | (go_at_call 54; rw [← HW1.out]; refine (of_any _ _ _ _).mono ?_; rintro e w3 ⟨rfl, hw3⟩; rw [← HWc.out] at hw3; subst w3))
  refine (wpIn_wide (n := 6)).1 ?_
  refine wpIn_rangeFunc_sepX (F := Fence.wide) rfl (by omega) (gf := 71) (lb := #[ptr (w1.heap.size + 1), ptr w1.heap.size]) rfl trivial (enters_of Try.func71 (by kernel_rfl) rfl) HSeq.out (fun k h => by have := HS.out; omega) (fun _ => rfl)
    (BestI w v (outI n l u)) (BestX w v (outI n l u)) (BestI.abide (by have := HS.out; omega)) (fun c => BestX.abide (by have := HS.out; omega) c) ⟨HS.out.2.2, _, rfl, rfl⟩ 37 (fun x => eC x) (mk := ?mk) ?assign ?grow ?body ?done ?stop
  case assign =>
    intro l x b W K hb hK
    gi_wp2
    exact hK
  case grow => exact fun pre T T' W h _ => h
  case body =>
    rintro lb pre x bx T W ⟨hm, rest, hR, hB⟩ hx hbx hTx ⟨rest', hR'⟩ hT hW
    have hrest : rest = x :: rest' := by
      rw [hR'] at hR
      exact (List.append_cancel_left hR).symm
    subst hrest
    have c5 := hm.pv.cell 0
    have x0 := hx.cell 0
    have x1 := hx.cell 1
    have x2 := hx.cell 2
    have e0 := hm.re.cell 0
    have e1 := hm.re.cell 1
    have e2 := hm.re.cell 2
    have b0 := hm.rb.cell 0
    have f0 := hm.re.thaw 0
    have f1 := hm.re.thaw 1
    have f2 := hm.re.thaw 2
    have f3 := hm.rb.thaw 0
    simp only [List.getElem?_toArray, List.getElem?_cons_zero, List.getElem?_cons_succ] at c5 x0 x1 x2 e0 e1 e2 b0
    have hs3 := HS.out
    have hWs : w.heap.size + 2 < W.heap.size := by omega
    have HQ := Lib.hid (And.intro hm (And.intro hR' (And.intro hB (And.intro hT hW))))
    clear hm hR hR' hB hT hW hs3 hx hbx hTx
    by_cases h1 : x.1 = v
    · have h1' : (x.1 == v) = true := by simpa using h1
      have HH := Lib.hid h1
      clear h1
      gi_wp2
      have ho : Only (fun k => k = w.heap.size + 1 ∨ k = w.heap.size + 2) W ((((W.setCell ⟨w.heap.size + 1, 0, none⟩ (.int .i64 x.1)).setCell ⟨w.heap.size + 1, 1, none⟩ (.int .i64 x.2.1)).setCell ⟨w.heap.size + 1, 2, none⟩ (.int .i64 (x.2.2 : Nat))).setCell ⟨w.heap.size + 2, 0, none⟩ (.bool true)) :=
        ((((Only.refl _ W).setCell (p := ⟨w.heap.size + 1, 0, none⟩) (.inl (.inl rfl)) _).setCell (p := ⟨w.heap.size + 1, 1, none⟩) (.inl (.inl rfl)) _).setCell (p := ⟨w.heap.size + 1, 2, none⟩) (.inl (.inl rfl)) _).setCell (p := ⟨w.heap.size + 2, 0, none⟩) (.inl (.inr rfl)) _
      refine ⟨T, .inl ⟨rfl, x, ?_, ?_, ?_, ?_, ?_⟩, ⟨fun _ h => h, fun _ h => .inl h, fun k h => Nat.lt_of_lt_of_le (HQ.out.2.2.2.1 k h).2 ho.size, ho.mono (fun k h => .inl (.inl h))⟩⟩
      · rw [HQ.out.2.2.1, bestW, if_pos HH.out]
      · exact HQ.out.1.pv.only ho (by omega)
      · have h := ((HQ.out.1.re.put 0 (.int .i64 x.1)).put 1 (.int .i64 x.2.1)).put 2 (.int .i64 (x.2.2 : Nat))
        have h2 := h.away (a := ⟨w.heap.size + 2, 0, none⟩) (by simp) (.bool true)
        simpa using h2
      · have h := (((HQ.out.1.rb.away (a := ⟨w.heap.size + 1, 0, none⟩) (by simp) (.int .i64 x.1)).away (a := ⟨w.heap.size + 1, 1, none⟩) (by simp) (.int .i64 x.2.1)).away (a := ⟨w.heap.size + 1, 2, none⟩) (by simp) (.int .i64 (x.2.2 : Nat))).put 0 (.bool true)
        simpa using h
      · exact HQ.out.1.bw.trans (ho.below (K := w.heap.size) (fun k q => by omega) HQ.out.1.bw.size)
    · have h1' : (x.1 == v) = false := by simpa using h1
      by_cases h2 : v < x.1
      · have h2' : decide (v < x.1) = true := by simpa using h2
        have HH := Lib.hid (And.intro h1 h2)
        clear h1 h2
        gi_wp2
        exact ⟨T, .inr ⟨rfl, by rw [HQ.out.2.2.1, bestW, if_neg HH.out.1, if_pos HH.out.2], HQ.out.1⟩, Ext.refl _ _ _ (fun k h => (HQ.out.2.2.2.1 k h).2)⟩
      · have h2' : decide (v < x.1) = false := by simpa using h2
        have HH := Lib.hid (And.intro h1 h2)
        clear h1 h2
        gi_wp2
        exact ⟨T, ⟨HQ.out.1, rest', by rw [HQ.out.2.1]; simp, by rw [HQ.out.2.2.1, bestW, if_neg HH.out.1, if_neg (by have := HH.out.2; omega)]⟩, Ext.refl _ _ _ (fun k h => (HQ.out.2.2.2.1 k h).2)⟩
  case done =>
    rintro D pre T W hD hpre ⟨hm, rest, hR, hB⟩ hT hK
    have hn : bestW v (outI n l u) = none := by
      rw [hB]
      rw [hpre] at hR
      have : rest = [] := by simpa using hR
      rw [this]
      rfl
    have e0 := hm.re.cell 0
    have e1 := hm.re.cell 1
    have e2 := hm.re.cell 2
    have b0 := hm.rb.cell 0
    have f0 := hm.re.thaw 0
    have f1 := hm.re.thaw 1
    have f2 := hm.re.thaw 2
    have f3 := hm.rb.thaw 0
    simp only [List.getElem?_toArray, List.getElem?_cons_zero, List.getElem?_cons_succ] at e0 e1 e2 b0
    have HQ := Lib.hid (And.intro hm (And.intro hn (And.intro hK (And.intro hD HS.out.1))))
    clear hm hR hB hT hK hpre hn
    go_wp2
    refine noP_ret ?_
    have hD := HQ.out.2.2.2.1
    have hs3 := HS.out
    have ho : Only (fun k => k = w.heap.size + 1 ∨ k = w.heap.size + 2) W ((((W.setCell ⟨w.heap.size + 1, 0, none⟩ (.int .i64 0)).setCell ⟨w.heap.size + 1, 1, none⟩ (.int .i64 0)).setCell ⟨w.heap.size + 1, 2, none⟩ (.int .i64 0)).setCell ⟨w.heap.size + 2, 0, none⟩ (.bool false)) :=
        ((((Only.refl _ W).setCell (p := ⟨w.heap.size + 1, 0, none⟩) (.inl (.inl rfl)) _).setCell (p := ⟨w.heap.size + 1, 1, none⟩) (.inl (.inl rfl)) _).setCell (p := ⟨w.heap.size + 1, 2, none⟩) (.inl (.inl rfl)) _).setCell (p := ⟨w.heap.size + 2, 0, none⟩) (.inl (.inr rfl)) _
    have hm' : BestM w v eZ false ((((W.setCell ⟨w.heap.size + 1, 0, none⟩ (.int .i64 0)).setCell ⟨w.heap.size + 1, 1, none⟩ (.int .i64 0)).setCell ⟨w.heap.size + 1, 2, none⟩ (.int .i64 0)).setCell ⟨w.heap.size + 2, 0, none⟩ (.bool false)) := by
      refine ⟨?_, ?_, ?_, ?_⟩
      · exact HQ.out.1.pv.only ho (by omega)
      · have h := ((HQ.out.1.re.put 0 (.int .i64 0)).put 1 (.int .i64 0)).put 2 (.int .i64 0)
        have h2 := h.away (a := ⟨w.heap.size + 2, 0, none⟩) (by simp) (.bool false)
        simpa using h2
      · have h := (((HQ.out.1.rb.away (a := ⟨w.heap.size + 1, 0, none⟩) (by simp) (.int .i64 0)).away (a := ⟨w.heap.size + 1, 1, none⟩) (by simp) (.int .i64 0)).away (a := ⟨w.heap.size + 1, 2, none⟩) (by simp) (.int .i64 0)).put 0 (.bool false)
        simpa using h
      · exact HQ.out.1.bw.trans (ho.below (K := w.heap.size) (fun k q => by omega) HQ.out.1.bw.size)
    have hK' := (ho.block D (Array.getElem?_eq_some_iff.1 HQ.out.2.2.1).1 (fun q => by omega)).trans HQ.out.2.2.1
    refine ⟨by simp, .inl ⟨_, _, rfl, run_takeDeferred hK', ?_⟩⟩
    have hf := hm'.put (D := D) (by omega)
    have r0 := hf.re.cell 0
    have r1 := hf.re.cell 1
    have r2 := hf.re.cell 2
    have r3 := hf.rb.cell 0
    simp only [List.getElem?_toArray, List.getElem?_cons_zero, List.getElem?_cons_succ] at r0 r1 r2 r3
    have hn := HQ.out.2.1
    generalize World.putObj _ D (.deferred none) = WF at *
    refine ⟨.tuple #[.agg eZ, .bool false], by simp [results, Try.results23, go_sem, r0, r1, r2, r3], ?_⟩
    exact ⟨by rw [hn]; rfl, hf.bw⟩
  case stop =>
    rintro D c pre T W hD h hT hK
    rcases h with ⟨rfl, e, h2, hm⟩ | ⟨rfl, h2, hm⟩
    · have HQ := Lib.hid (And.intro hm (And.intro h2 (And.intro hK (And.intro hD HS.out.1))))
      clear hm h2 hK hT
      refine wpIn_wide.2 ?_
      go_wp2
      refine noP_ret ?_
      have hD := HQ.out.2.2.2.1
      have hs3 := HS.out
      refine ⟨by simp, .inl ⟨_, _, rfl, run_takeDeferred HQ.out.2.2.1, ?_⟩⟩
      have hf := HQ.out.1.put (D := D) (by omega)
      have r0 := hf.re.cell 0
      have r1 := hf.re.cell 1
      have r2 := hf.re.cell 2
      have r3 := hf.rb.cell 0
      simp only [List.getElem?_toArray, List.getElem?_cons_zero, List.getElem?_cons_succ] at r0 r1 r2 r3
      have hn := HQ.out.2.1
      generalize World.putObj _ D (.deferred none) = WF at *
      refine ⟨.tuple #[.agg (eC e), .bool true], by simp [results, Try.results23, go_sem, r0, r1, r2, r3], ?_⟩
      exact ⟨by rw [hn]; rfl, hf.bw⟩
    · have HQ := Lib.hid (And.intro hm (And.intro h2 (And.intro hK (And.intro hD HS.out.1))))
      have e0 := hm.re.cell 0
      have e1 := hm.re.cell 1
      have e2 := hm.re.cell 2
      have b0 := hm.rb.cell 0
      have f0 := hm.re.thaw 0
      have f1 := hm.re.thaw 1
      have f2 := hm.re.thaw 2
      have f3 := hm.rb.thaw 0
      simp only [List.getElem?_toArray, List.getElem?_cons_zero, List.getElem?_cons_succ] at e0 e1 e2 b0
      clear hm h2 hK hT
      refine wpIn_wide.2 ?_
      go_wp2
      refine noP_ret ?_
      have hD := HQ.out.2.2.2.1
      have hs3 := HS.out
      have ho : Only (fun k => k = w.heap.size + 1 ∨ k = w.heap.size + 2) W ((((W.setCell ⟨w.heap.size + 1, 0, none⟩ (.int .i64 0)).setCell ⟨w.heap.size + 1, 1, none⟩ (.int .i64 0)).setCell ⟨w.heap.size + 1, 2, none⟩ (.int .i64 0)).setCell ⟨w.heap.size + 2, 0, none⟩ (.bool false)) :=
          ((((Only.refl _ W).setCell (p := ⟨w.heap.size + 1, 0, none⟩) (.inl (.inl rfl)) _).setCell (p := ⟨w.heap.size + 1, 1, none⟩) (.inl (.inl rfl)) _).setCell (p := ⟨w.heap.size + 1, 2, none⟩) (.inl (.inl rfl)) _).setCell (p := ⟨w.heap.size + 2, 0, none⟩) (.inl (.inr rfl)) _
      have hm' : BestM w v eZ false ((((W.setCell ⟨w.heap.size + 1, 0, none⟩ (.int .i64 0)).setCell ⟨w.heap.size + 1, 1, none⟩ (.int .i64 0)).setCell ⟨w.heap.size + 1, 2, none⟩ (.int .i64 0)).setCell ⟨w.heap.size + 2, 0, none⟩ (.bool false)) := by
        refine ⟨?_, ?_, ?_, ?_⟩
        · exact HQ.out.1.pv.only ho (by omega)
        · have h := ((HQ.out.1.re.put 0 (.int .i64 0)).put 1 (.int .i64 0)).put 2 (.int .i64 0)
          have h2 := h.away (a := ⟨w.heap.size + 2, 0, none⟩) (by simp) (.bool false)
          simpa using h2
        · have h := (((HQ.out.1.rb.away (a := ⟨w.heap.size + 1, 0, none⟩) (by simp) (.int .i64 0)).away (a := ⟨w.heap.size + 1, 1, none⟩) (by simp) (.int .i64 0)).away (a := ⟨w.heap.size + 1, 2, none⟩) (by simp) (.int .i64 0)).put 0 (.bool false)
          simpa using h
        · exact HQ.out.1.bw.trans (ho.below (K := w.heap.size) (fun k q => by omega) HQ.out.1.bw.size)
      have hK' := (ho.block D (Array.getElem?_eq_some_iff.1 HQ.out.2.2.1).1 (fun q => by omega)).trans HQ.out.2.2.1
      refine ⟨by simp, .inl ⟨_, _, rfl, run_takeDeferred hK', ?_⟩⟩
      have hf := hm'.put (D := D) (by omega)
      have r0 := hf.re.cell 0
      have r1 := hf.re.cell 1
      have r2 := hf.re.cell 2
      have r3 := hf.rb.cell 0
      simp only [List.getElem?_toArray, List.getElem?_cons_zero, List.getElem?_cons_succ] at r0 r1 r2 r3
      have hn := HQ.out.2.1
      generalize World.putObj _ D (.deferred none) = WF at *
      refine ⟨.tuple #[.agg eZ, .bool false], by simp [results, Try.results23, go_sem, r0, r1, r2, r3], ?_⟩
      exact ⟨by rw [hn]; rfl, hf.bw⟩
/-- Of edges that rise: the one to v. -/
theorem bestW_some {v : Int} {e : Ed} : ∀ {E : List Ed}, E.Pairwise (fun a b => a.1 < b.1) → (bestW v E = some e ↔ e ∈ E ∧ e.1 = v)
  | [], _ => by simp [bestW]
  | x :: t, h => by
    have hp := List.pairwise_cons.1 h
    have ih := bestW_some (v := v) (e := e) hp.2
    unfold bestW
    by_cases h1 : x.1 = v
    · rw [if_pos h1]
      constructor
      · intro q; cases q; exact ⟨by simp, h1⟩
      · rintro ⟨q1, q2⟩
        rcases List.mem_cons.1 q1 with rfl | q1
        · rfl
        · have := hp.1 e q1; omega
    · rw [if_neg h1]
      by_cases h2 : v < x.1
      · rw [if_pos h2]
        constructor
        · intro q; cases q
        · rintro ⟨q1, q2⟩
          rcases List.mem_cons.1 q1 with rfl | q1
          · omega
          · have := hp.1 e q1; omega
      · rw [if_neg h2, ih]
        constructor
        · rintro ⟨q1, q2⟩; exact ⟨List.mem_cons_of_mem _ q1, q2⟩
        · rintro ⟨q1, q2⟩
          rcases List.mem_cons.1 q1 with rfl | q1
          · exact absurd q2 h1
          · exact ⟨q1, q2⟩
end Go.Proofs.Ythljgkaigjokjaa
