/- The document's Parse (written by mkgro.py). -/
import Derived.Test.YtdjfmmfggkkbaaaDoorGrN
namespace Go.Proofs.YtdjfmmfggkkbaaaDoor
open Go.RowKit Go.Shelf Grm

theorem only_drew {S : Nat → Prop} {w w' : World} (h : Only S w.drew w') : Only S w w' := ⟨h.os, h.tape, h.output, h.size, h.block⟩
/-- What line tells, in one form. -/
def LineR (w : World) (K : Nat) (v : Value) (R : Option Rst) (n m : Int) (a : Option Addr) (k c : Nat) (p ok : Bool) (w' : World) : Prop :=
  Only (fun j => v.ownBlock = some j) w w' ∧ ((R = none ∧ ok = false) ∨ ∃ st', R = some st' ∧ ok = true ∧ n = (st'.n : Nat) ∧ m = (st'.many : Nat) ∧ p = st'.begun ∧ k = st'.arcs.length ∧ AV w' K (.slice a k c) st'.arcs)
theorem lineP_form {w w' : World} {K : Nat} {v : Value} {R : Option Rst} {e : Ending} (h : LineP w K v R e w') : ∃ (n m : Int) (a : Option Addr) (k c : Nat) (p ok : Bool), e = .returned (.tuple #[.agg #[.int .i64 n, .slice a k c, .int .i64 m, .bool p], .bool ok]) ∧ LineR w K v R n m a k c p ok w' := by
  rcases h with ⟨ho, ⟨h1, n, m, a, k, c, p, h2⟩ | ⟨st', v', h1, h2, h3⟩⟩
  · exact ⟨n, m, a, k, c, p, false, h2, ho, .inl ⟨h1, rfl⟩⟩
  · obtain ⟨a, c, rfl⟩ := h3.shape
    exact ⟨_, _, a, _, c, _, true, h2, ho, .inr ⟨st', h1, rfl, rfl, rfl, rfl, rfl, h3⟩⟩
theorem rparse_nil (w : World) : Calls Tryd.prog 12 #[txV []] w (ParseP w (parseL [])) := by
  have hp : parseL [] = .inl 1 := by kernel_rfl
  rw [hp]
  have hr := ((Row.fresh w 25 #[.int .i64 0, .slice none 0 0]).put 0 (.int .i64 0)).put 1 (.slice none 0 0)
  have HB := Lib.hid ((((Below.refl w.heap.size w).alloc (Nat.le_refl _) (.cells #[.int .i64 0, .slice none 0 0] 25)).setCell (p := ⟨w.heap.size, 0, none⟩) (Nat.le_refl _) (.int .i64 0)).setCell (p := ⟨w.heap.size, 1, none⟩) (Nat.le_refl _) (.slice none 0 0))
  have HB0 := Lib.hid ((Below.refl w.heap.size w).alloc (Nat.le_refl _) (.cells #[.int .i64 0, .slice none 0 0] 25))
  clear hr
  go_enter Tryd.func12, Tryd.ntmps12
  go_wp2
  exact bodyPost_ret (v := .tuple #[mV 0 none 0 0, .int .i64 12, .int .i64 1]) (by simp [results, Tryd.results12, go_sem]) rfl ⟨by first | exact HB.out | exact HB0.out, .inl ⟨1, rfl, rfl⟩⟩
/-- The rest of Parse, behind the cut. -/
structure RpI (w : World) (hz K bt : Nat) (L : List Tx) (lv v : Value) (st : Rst) (wr : World) : Prop where
  rm : Row wr hz 25 #[.int .i64 0, .slice none 0 0]
  rt : Row wr bt 62 (tC st v)
  av : AV wr K v st.arcs
  tv : TV wr w.heap.size lv L
  below : Below w.heap.size w wr
  ok : st.ok2
  sz : K ≤ wr.heap.size
theorem TV.only {S : Nat → Prop} {w w' : World} {K : Nat} {v : Value} {l : List Tx} (h : TV w K v l) (ho : Only S w w') (hS : ∀ k, v.ownBlock = some k → ¬ S k) : TV w' K v l := by
  refine ⟨h.1, ?_⟩
  rcases h.2 with q | ⟨g, cap, cur, rfl, h1, h2, h3⟩
  · exact .inl q
  · exact .inr ⟨g, cap, cur, rfl, h1, (ho.block g (Array.getElem?_eq_some_iff.1 h2).1 (hS g rfl)).trans h2, h3⟩
theorem TV.mono {w : World} {K K' : Nat} {v : Value} {l : List Tx} (h : TV w K v l) (hk : K' ≤ K) : TV w K' v l := by
  refine ⟨h.1, ?_⟩
  rcases h.2 with q | ⟨g, cap, cur, rfl, h1, h2⟩
  · exact .inl q
  · exact .inr ⟨g, cap, cur, rfl, Nat.le_trans hk h1, h2⟩
theorem goL_step {L : List Tx} {st st' : Rst} {j : Nat} (hj : j < L.length) (h : ∀ rest, goL Rst.zero 1 (L.take j ++ rest) = goL st (j + 1) rest) (e : takeL st (five (cut 32 (L[j]'hj))) = some st') : ∀ rest, goL Rst.zero 1 (L.take (j + 1) ++ rest) = goL st' (j + 1 + 1) rest := fun rest => by
  rw [List.take_succ_eq_append_getElem hj, List.append_assoc, h]
  simp only [List.singleton_append, goL, e]
theorem goL_stop {L : List Tx} {st : Rst} {j : Nat} (hj : j < L.length) (h : ∀ rest, goL Rst.zero 1 (L.take j ++ rest) = goL st (j + 1) rest) (e : takeL st (five (cut 32 (L[j]'hj))) = none) : goL Rst.zero 1 L = (j + 1, none) := by
  have h1 := h (L.drop j)
  rw [List.take_append_drop] at h1
  rw [h1, List.drop_eq_getElem_cons hj]
  simp only [goL, e]
/-- Behind line, its answer laid in block bu. -/
structure RpU (w : World) (hz K bt bu : Nat) (L : List Tx) (lv v : Value) (st : Rst) (R : Option Rst) (n m : Int) (a : Option Addr) (k c : Nat) (p ok : Bool) (wr : World) : Prop where
  rm : Row wr hz 25 #[.int .i64 0, .slice none 0 0]
  rt : Row wr bt 62 (tC st v)
  ru : Row wr bu 62 #[.int .i64 n, .slice a k c, .int .i64 m, .bool p]
  tv : TV wr w.heap.size lv L
  below : Below w.heap.size w wr
  ok : (R = none ∧ ok = false) ∨ ∃ st', R = some st' ∧ ok = true ∧ n = (st'.n : Nat) ∧ m = (st'.many : Nat) ∧ p = st'.begun ∧ k = st'.arcs.length ∧ AV wr K (.slice a k c) st'.arcs
  sz : K ≤ wr.heap.size
section
variable {w wr w2 : World} {bt lb lc : Nat} {L : List Tx} {v : Value} {st : Rst} {R : Option Rst} {n m : Int} {a : Option Addr} {k c : Nat} {p ok : Bool}
theorem RpI.moved (h : RpI w w.heap.size (bt + 1) bt L (.slice (some ⟨lb, 0, none⟩) L.length lc) v st wr) (hlb : lb < bt) (hbt : w.heap.size < bt) (ho : Only (fun j => v.ownBlock = some j) wr w2) :
    Row w2 w.heap.size 25 #[.int .i64 0, .slice none 0 0] ∧ Row w2 bt 62 (tC st v) ∧ TV w2 w.heap.size (.slice (some ⟨lb, 0, none⟩) L.length lc) L ∧ Below w.heap.size w w2 ∧ bt + 1 ≤ w2.heap.size := by
  have hown := fun j e => (h.av.own j e).1
  refine ⟨h.rm.only ho (fun e => by have := hown _ e; omega), h.rt.only ho (fun e => by have := hown _ e; omega), h.tv.only ho (fun j e e2 => ?_), h.below.trans (ho.below (fun j e => by have := hown _ e; omega) (by have := h.sz; omega)), by have := h.sz; have := ho.size; omega⟩
  have e3 : lb = j := by simpa [Value.ownBlock] using e
  have := hown _ e2
  omega
theorem RpI.first (h : RpI w w.heap.size (bt + 1) bt L (.slice (some ⟨lb, 0, none⟩) L.length lc) v st wr) (hlb : lb < bt) (hbt : w.heap.size < bt) (hL : LineR wr.drew (bt + 1) v R n m a k c p ok w2) :
    RpU w w.heap.size (bt + 1) bt w2.heap.size L (.slice (some ⟨lb, 0, none⟩) L.length lc) v st R n m a k c p ok (w2.alloc (.cells #[.int .i64 n, .slice a k c, .int .i64 m, .bool p] 62)) := by
  obtain ⟨q1, q2, q3, q4, q5⟩ := h.moved hlb hbt (only_drew hL.1)
  have hb : Below w2.heap.size w2 (w2.alloc (.cells #[.int .i64 n, .slice a k c, .int .i64 m, .bool p] 62)) := (Below.refl _ _).alloc (Nat.le_refl _) _
  refine ⟨q1.past _, q2.past _, Row.fresh w2 _ _, q3.under hb (Nat.le_refl _), q4.alloc q4.size _, ?_, by rw [World.size_alloc]; omega⟩
  rcases hL.2 with q | ⟨st', a1, a2, a3, a4, a5, a6, a7⟩
  · exact .inl q
  · exact .inr ⟨st', a1, a2, a3, a4, a5, a6, a7.under hb (Nat.le_refl _)⟩
theorem RpI.second (h : RpI w w.heap.size (bt + 1) bt L (.slice (some ⟨lb, 0, none⟩) L.length lc) v st wr) (hlb : lb < bt) (hbt : w.heap.size < bt) {cs : Array Value} {x0 x1 x2 x3 : Value} (hcs : cs = #[x0, x1, x2, x3]) (hL : LineR (wr.alloc (.cells cs 62)).drew (bt + 1) v R n m a k c p ok w2) :
    RpU w w.heap.size (bt + 1) bt wr.heap.size L (.slice (some ⟨lb, 0, none⟩) L.length lc) v st R n m a k c p ok (putT w2 wr.heap.size (.int .i64 n) (.slice a k c) (.int .i64 m) (.bool p)) := by
  subst hcs
  have hnew := (Row.fresh wr 62 #[x0, x1, x2, x3]).only (only_drew hL.1) (fun e => by have := (h.av.own _ e).2; omega)
  have ho : Only (fun j => v.ownBlock = some j) wr w2 := ((Only.refl (fun j => v.ownBlock = some j) wr).alloc (.cells #[x0, x1, x2, x3] 62)).trans (only_drew hL.1) (fun i e => .inl e)
  obtain ⟨q1, q2, q3, q4, q5⟩ := h.moved hlb hbt ho
  have hs := h.sz
  have hwr := h.below.size
  have ho2 : Only (fun j => j = wr.heap.size) w2 (putT w2 wr.heap.size (.int .i64 n) (.slice a k c) (.int .i64 m) (.bool p)) := ((((Only.refl (fun j => j = wr.heap.size) w2).setCell (p := ⟨wr.heap.size, 0, none⟩) (.inl rfl) (.int .i64 n)).setCell (p := ⟨wr.heap.size, 1, none⟩) (.inl rfl) (.slice a k c)).setCell (p := ⟨wr.heap.size, 2, none⟩) (.inl rfl) (.int .i64 m)).setCell (p := ⟨wr.heap.size, 3, none⟩) (.inl rfl) (.bool p)
  refine ⟨q1.only ho2 (by omega), q2.only ho2 (by omega), putT_row hnew _ _ _ _, q3.only ho2 (fun j e e2 => ?_), putT_below q4 (by omega) _ _ _ _, ?_, by have := ho2.size; omega⟩
  · have e3 : lb = j := by simpa [Value.ownBlock] using e
    omega
  · rcases hL.2 with q | ⟨st', a1, a2, a3, a4, a5, a6, a7⟩
    · exact .inl q
    · refine .inr ⟨st', a1, a2, a3, a4, a5, a6, ?_⟩
      have hne : (Value.slice a k c).ownBlock ≠ some wr.heap.size := fun e => by
        rcases a7.2 with ⟨hv, _⟩ | ⟨g, cap, cur, hv, _, hg, _⟩
        · rw [hv] at e; cases e
        · rw [hv] at e
          have e4 : g = wr.heap.size := by simpa [Value.ownBlock] using e
          subst e4
          rw [hnew] at hg
          injection hg with hg
          injection hg with _ ht _
          exact absurd ht (by decide)
      exact av_put (av_put (av_put (av_put a7 hne) hne) hne) hne
theorem RpU.next {bu : Nat} {st' : Rst} (h : RpU w w.heap.size (bt + 1) bt bu L (.slice (some ⟨lb, 0, none⟩) L.length lc) v st R n m a k c p ok wr) (hlb : lb < bt) (hbt : w.heap.size < bt) (hok : st'.ok2) (hn : n = (st'.n : Nat)) (hm : m = (st'.many : Nat)) (hp : p = st'.begun) (hav : AV wr (bt + 1) (.slice a k c) st'.arcs) :
    RpI w w.heap.size (bt + 1) bt L (.slice (some ⟨lb, 0, none⟩) L.length lc) (.slice a k c) st' (putT wr bt (.int .i64 n) (.slice a k c) (.int .i64 m) (.bool p)) := by
  have ho2 : Only (fun j => j = bt) wr (putT wr bt (.int .i64 n) (.slice a k c) (.int .i64 m) (.bool p)) := ((((Only.refl (fun j => j = bt) wr).setCell (p := ⟨bt, 0, none⟩) (.inl rfl) (.int .i64 n)).setCell (p := ⟨bt, 1, none⟩) (.inl rfl) (.slice a k c)).setCell (p := ⟨bt, 2, none⟩) (.inl rfl) (.int .i64 m)).setCell (p := ⟨bt, 3, none⟩) (.inl rfl) (.bool p)
  have hne : (Value.slice a k c).ownBlock ≠ some bt := fun e => by have := (hav.own _ e).1; omega
  have hrt := putT_row h.rt (.int .i64 n) (.slice a k c) (.int .i64 m) (.bool p)
  refine ⟨h.rm.only ho2 (by omega), ?_, av_put (av_put (av_put (av_put hav hne) hne) hne) hne, h.tv.only ho2 (fun j e e2 => ?_), putT_below h.below (by omega) _ _ _ _, hok, by have := ho2.size; have := h.sz; omega⟩
  · subst hn hm hp
    exact hrt
  · have e3 : lb = j := by simpa [Value.ownBlock] using e
    omega
/-- The map's two cells, laid. -/
abbrev putM (w : World) (b : Nat) (x y : Value) : World := (w.setCell ⟨b, 0, none⟩ x).setCell ⟨b, 1, none⟩ y
theorem putM_row {b : Nat} {x0 x1 : Value} (h : Row wr b 25 #[x0, x1]) (x y : Value) : Row (putM wr b x y) b 25 #[x, y] := (h.put 0 x).put 1 y
end
set_option maxRecDepth 100000 in
set_option maxHeartbeats 4000000 in
theorem rparse_feed (s m : Tx) (k : Nat) (h9 : s.length ≤ 2000) (hk : s.length = k + 1) (hs : s = m ++ [10]) (w : World) : Calls Tryd.prog 12 #[txV s] w (ParseP w (parseL s)) := by
  have e1 : (⟨s.toArray⟩ : ByteArray).size = k + 1 := by rw [gr_size]; exact hk
  have i1 : (k : Int) ≤ 2000 := by omega
  obtain ⟨P, hP⟩ : ∃ P, P = parseL s := ⟨_, rfl⟩
  rw [← hP]
  have HP := Lib.hid hP
  have hm9 : m.length ≤ 2000 := by rw [hs] at h9; simp at h9; omega
  have hkm : k = m.length := by rw [hs] at hk; simp at hk; omega
  have hx2 : ((⟨s.toArray⟩ : ByteArray)[k]'(by rw [e1]; exact Nat.lt_succ_self k)).toNat = 10 := by
    show (s[k]'(by omega)).toNat = 10
    subst hs hkm
    simp
  have ex : (⟨s.toArray⟩ : ByteArray).extract 0 k = ⟨m.toArray⟩ := by
    rw [ex_take, hs, hkm]
    simp
  have hli : linesL s = cut 10 m := by
    have : s ≠ [] := by rw [hs]; simp
    rw [show linesL s = cut 10 (trimL s) by simp [linesL, this], hs, trim_end]
  clear hs hkm
  have HLi := Lib.hid hli
  have HCut := Lib.hid (show Calls Tryd.prog 26 #[txV m, .int .u8 10] (w.alloc (.cells #[.int .i64 0, .slice none 0 0] 25)) fun e w' => (∃ v, e = .returned v ∧ TV w' (w.alloc (.cells #[.int .i64 0, .slice none 0 0] 25)).heap.size v (cut 10 m)) ∧ Below (w.alloc (.cells #[.int .i64 0, .slice none 0 0] 25)).heap.size (w.alloc (.cells #[.int .i64 0, .slice none 0 0] 25)) w' from rcut_any m 10 _ hm9)
  have HLs := Lib.hid (show ∀ x ∈ cut 10 m, x.length ≤ 2000 from fun x hx => Nat.le_trans (cut_le 10 m x hx) hm9)
  have HLc := Lib.hid (cut_count2 10 m hm9)
  have HLn0 := Lib.hid (cut_ne 10 m)
  clear hP hli hm9 h9 hk
  generalize cut 10 m = L at *
  go_enter Tryd.func12, Tryd.ntmps12
  go_wp2_with fail
  refine HCut.out.mono ?_
  rintro e w1 ⟨⟨lv, rfl, htv⟩, hb1⟩
  have hLp : 0 < L.length := List.length_pos_iff.2 HLn0.out
  obtain ⟨lb, lc, rfl, hlb, hl0⟩ := htv.at_ (k := 0) hLp
  have iL : (L.length : Int) ≤ 2001 := by have := HLc.out; omega
  obtain ⟨bt, hbt⟩ : ∃ bt, bt = w1.heap.size := ⟨_, rfl⟩
  have hz1 : (w.alloc (.cells #[.int .i64 0, .slice none 0 0] 25)).heap.size = w.heap.size + 1 := World.size_alloc _ _
  have hrm := (Row.fresh w 25 #[.int .i64 0, .slice none 0 0]).under hb1 (by rw [hz1]; omega)
  have hbw : Below w.heap.size w w1 := ((Below.refl _ w).alloc (Nat.le_refl _) _).trans (hb1.mono (by rw [hz1]; omega))
  have HI0 := Lib.hid (show RpI w w.heap.size (bt + 1) bt L (.slice (some ⟨lb, 0, none⟩) L.length lc) (.slice none 0 0) Rst.zero (w1.alloc (.cells #[.int .i64 0, .slice none 0 0, .int .i64 0, .bool false] 62)) from
    ⟨hrm.past _, by rw [hbt]; exact Row.fresh w1 _ _, AV.nil _ _, (htv.mono (by rw [hz1]; omega)).under ((Below.refl _ w1).alloc (Nat.le_refl _) _) (Nat.le_refl _), hbw.alloc hbw.size _, ⟨Rst.ok_zero, fun _ => rfl⟩, by rw [World.size_alloc, hbt]; exact Nat.le_refl _⟩)
  have HLb := Lib.hid (show lb < bt by rw [hbt]; exact hlb)
  have HBt := Lib.hid (show w.heap.size < bt by rw [hbt]; have := hb1.size; rw [hz1] at this; omega)
  clear hl0 htv hb1 hz1 hrm hbw hLp hlb
  go_wp2
  rw [← hbt]
  clear hbt
  go_loopw [7] (fun i wr => ∃ (j : Nat) (st : Rst) (v : Value), j ≤ L.length ∧ i = .int .i64 j ∧ RpI w w.heap.size (bt + 1) bt L (.slice (some ⟨lb, 0, none⟩) L.length lc) v st wr ∧ ∀ rest, goL Rst.zero 1 (L.take j ++ rest) = goL st (j + 1) rest) (fun i _ => L.length - (intOf i).toNat)
  case atStart => exact ⟨0, Rst.zero, .slice none 0 0, by omega, rfl, HI0.out, fun _ => rfl⟩
  case round =>
    obtain ⟨j, st, v, hj, rfl, hI, hgo⟩ := hrel
    obtain ⟨va, vc, rfl⟩ := hI.av.shape
    have HI := Lib.hid hI
    have HG := Lib.hid hgo
    by_cases hlt : j < L.length
    · have hlt' : (j : Int) < (L.length : Int) := by omega
      have HXl := Lib.hid (HLs.out (L[j]'hlt) (List.getElem_mem hlt))
      have HSp := Lib.hid (And.intro (fun st' => goL_step (st' := st') hlt hgo) (goL_stop hlt hgo))
      have HSt := Lib.hid (show ∀ W, Only (fun k => (Value.slice va st.arcs.length vc).ownBlock = some k) wr W → ((W.cell? ⟨bt, 0, none⟩ = some (.int .i64 (st.n : Nat)) ∧ W.cell? ⟨bt, 1, none⟩ = some (.slice va st.arcs.length vc) ∧ W.cell? ⟨bt, 2, none⟩ = some (.int .i64 (st.many : Nat)) ∧ W.cell? ⟨bt, 3, none⟩ = some (.bool st.begun)) ∧ W.cell? ⟨lb, j, none⟩ = some (txV (L[j]'hlt))) from fun W ho => by
        obtain ⟨_, q1, q2, _, _⟩ := hI.moved HLb.out HBt.out ho
        obtain ⟨lb2, lc2, hlv2, _, hlx2⟩ := q2.at_ hlt
        cases hlv2
        exact ⟨⟨q1.cell 0, q1.cell 1, q1.cell 2, q1.cell 3⟩, hlx2⟩)
      generalize L[j]'hlt = x at *
      have HLn := Lib.hid (line_any (w := wr.drew) (v := .slice va st.arcs.length vc) (st := st) x HXl.out (show AV wr.drew (bt + 1) _ _ from hI.av) hI.ok hI.sz)
      have HLnB := Lib.hid (line_any (w := (wr.alloc (.cells #[.int .i64 0, .slice none 0 0, .int .i64 0, .bool false] 62)).drew) (v := .slice va st.arcs.length vc) (st := st) x HXl.out (show AV (wr.alloc (.cells #[.int .i64 0, .slice none 0 0, .int .i64 0, .bool false] 62)).drew (bt + 1) _ _ from hI.av.under (w' := wr.alloc (.cells #[.int .i64 0, .slice none 0 0, .int .i64 0, .bool false] 62)) ((Below.refl wr.heap.size wr).alloc (Nat.le_refl _) _) (Nat.le_refl _)) hI.ok (by show bt + 1 ≤ (wr.alloc (.cells #[.int .i64 0, .slice none 0 0, .int .i64 0, .bool false] 62)).heap.size; rw [World.size_alloc]; have := hI.sz; omega))
      have HSA := Lib.hid (show ∀ (W : World) (o : Obj), ((W.cell? ⟨bt, 0, none⟩ = some (.int .i64 (st.n : Nat)) ∧ W.cell? ⟨bt, 1, none⟩ = some (.slice va st.arcs.length vc) ∧ W.cell? ⟨bt, 2, none⟩ = some (.int .i64 (st.many : Nat)) ∧ W.cell? ⟨bt, 3, none⟩ = some (.bool st.begun)) ∧ W.cell? ⟨lb, j, none⟩ = some (txV x)) → (((W.alloc o).cell? ⟨bt, 0, none⟩ = some (.int .i64 (st.n : Nat)) ∧ (W.alloc o).cell? ⟨bt, 1, none⟩ = some (.slice va st.arcs.length vc) ∧ (W.alloc o).cell? ⟨bt, 2, none⟩ = some (.int .i64 (st.many : Nat)) ∧ (W.alloc o).cell? ⟨bt, 3, none⟩ = some (.bool st.begun)) ∧ (W.alloc o).cell? ⟨lb, j, none⟩ = some (txV x)) from fun W o h => ⟨⟨(World.cell?_alloc_lt _ _ _ (block_lt_of_cell h.1.1)).trans h.1.1, (World.cell?_alloc_lt _ _ _ (block_lt_of_cell h.1.2.1)).trans h.1.2.1, (World.cell?_alloc_lt _ _ _ (block_lt_of_cell h.1.2.2.1)).trans h.1.2.2.1, (World.cell?_alloc_lt _ _ _ (block_lt_of_cell h.1.2.2.2)).trans h.1.2.2.2⟩, (World.cell?_alloc_lt _ _ _ (block_lt_of_cell h.2)).trans h.2⟩)
      have HSP := Lib.hid (show ∀ (W : World) (p0 p1 p2 p3 : Value), ((W.cell? ⟨bt, 0, none⟩ = some (.int .i64 (st.n : Nat)) ∧ W.cell? ⟨bt, 1, none⟩ = some (.slice va st.arcs.length vc) ∧ W.cell? ⟨bt, 2, none⟩ = some (.int .i64 (st.many : Nat)) ∧ W.cell? ⟨bt, 3, none⟩ = some (.bool st.begun)) ∧ W.cell? ⟨lb, j, none⟩ = some (txV x)) → (((putT W wr.heap.size p0 p1 p2 p3).cell? ⟨bt, 0, none⟩ = some (.int .i64 (st.n : Nat)) ∧ (putT W wr.heap.size p0 p1 p2 p3).cell? ⟨bt, 1, none⟩ = some (.slice va st.arcs.length vc) ∧ (putT W wr.heap.size p0 p1 p2 p3).cell? ⟨bt, 2, none⟩ = some (.int .i64 (st.many : Nat)) ∧ (putT W wr.heap.size p0 p1 p2 p3).cell? ⟨bt, 3, none⟩ = some (.bool st.begun)) ∧ (putT W wr.heap.size p0 p1 p2 p3).cell? ⟨lb, j, none⟩ = some (txV x)) from fun W p0 p1 p2 p3 h => by
        have hs := hI.sz
        have hl := HLb.out
        have f1 : ∀ o, (putT W wr.heap.size p0 p1 p2 p3).cell? ⟨bt, o, none⟩ = W.cell? ⟨bt, o, none⟩ := fun o => by
          unfold putT
          rw [World.cell?_setCell_far _ _ _ _ (show wr.heap.size ≠ bt by omega), World.cell?_setCell_far _ _ _ _ (show wr.heap.size ≠ bt by omega), World.cell?_setCell_far _ _ _ _ (show wr.heap.size ≠ bt by omega), World.cell?_setCell_far _ _ _ _ (show wr.heap.size ≠ bt by omega)]
        have f2 : (putT W wr.heap.size p0 p1 p2 p3).cell? ⟨lb, j, none⟩ = W.cell? ⟨lb, j, none⟩ := by
          unfold putT
          rw [World.cell?_setCell_far _ _ _ _ (show wr.heap.size ≠ lb by omega), World.cell?_setCell_far _ _ _ _ (show wr.heap.size ≠ lb by omega), World.cell?_setCell_far _ _ _ _ (show wr.heap.size ≠ lb by omega), World.cell?_setCell_far _ _ _ _ (show wr.heap.size ≠ lb by omega)]
        rw [f1, f1, f1, f1, f2]
        exact h)
      obtain ⟨R, hR⟩ : ∃ R, R = takeL st (five (cut 32 x)) := ⟨_, rfl⟩
      have HRr := Lib.hid hR
      rw [← hR] at HLn HLnB HSp
      clear hI hgo hR
      go_upto_region 10 with (fail)
      refine wp_region_held_drew (S := fun W => (W.cell? ⟨bt, 0, none⟩ = some (.int .i64 (st.n : Nat)) ∧ W.cell? ⟨bt, 1, none⟩ = some (.slice va st.arcs.length vc) ∧ W.cell? ⟨bt, 2, none⟩ = some (.int .i64 (st.many : Nat)) ∧ W.cell? ⟨bt, 3, none⟩ = some (.bool st.begun)) ∧ W.cell? ⟨lb, j, none⟩ = some (txV x)) (by kernel_rfl) (HSt.out _ (Only.of_below _ (Below.refl _ _).drew)) (fun hHeld => ?_)
      refine wpAnyH_take (i := 0) (oi := ⟨some 39, _, _, _, _, _⟩) (v := ?_) rfl (by kernel_rfl) (by kernel_rfl) (by kernel_rfl) (fun _ _ _ h => h) (Or.inl ⟨by rfl, ?_⟩) hHeld ?_
      rotate_left
      · intro W hSw
        obtain ⟨⟨s0, s1, s2, s3⟩, s4⟩ := hSw
        go_simp
        with_reducible rfl
      simp only [Act.put, List.setIfInBounds_toArray, List.set_cons_zero, List.set_cons_succ]
      refine wpAnyH_take (i := 1) (oi := ⟨some 40, _, _, _, _, _⟩) (v := ?_) rfl (by kernel_rfl) (by kernel_rfl) (by kernel_rfl) (fun _ _ _ h => h) (Or.inl ⟨by rfl, ?_⟩) hHeld ?_
      rotate_left
      · intro W hSw
        obtain ⟨⟨s0, s1, s2, s3⟩, s4⟩ := hSw
        go_simp
        with_reducible rfl
      simp only [Act.put, List.setIfInBounds_toArray, List.set_cons_zero, List.set_cons_succ]
      refine wpAnyH_take (i := 2) (oi := ⟨some 41, _, _, _, _, _⟩) (v := ?_) rfl (by kernel_rfl) (by kernel_rfl) (by kernel_rfl) (fun _ _ _ h => h) (Or.inl ⟨by rfl, ?_⟩) hHeld ?_
      rotate_left
      · intro W hSw
        obtain ⟨⟨s0, s1, s2, s3⟩, s4⟩ := hSw
        go_simp
        with_reducible rfl
      simp only [Act.put, List.setIfInBounds_toArray, List.set_cons_zero, List.set_cons_succ]
      refine wpAnyH_take (i := 3) (oi := ⟨some 42, _, _, _, _, _⟩) (v := ?_) rfl (by kernel_rfl) (by kernel_rfl) (by kernel_rfl) (fun _ _ _ h => h) (Or.inl ⟨by rfl, ?_⟩) hHeld ?_
      rotate_left
      · intro W hSw
        obtain ⟨⟨s0, s1, s2, s3⟩, s4⟩ := hSw
        go_simp
        with_reducible rfl
      simp only [Act.put, List.setIfInBounds_toArray, List.set_cons_zero, List.set_cons_succ]
      refine wpAnyH_take (i := 4) (oi := ⟨some 43, _, _, _, _, _⟩) (v := ?_) rfl (by kernel_rfl) (by kernel_rfl) (by kernel_rfl) (fun _ _ _ h => h) (Or.inl ⟨by rfl, ?_⟩) hHeld ?_
      rotate_left
      · intro W hSw
        obtain ⟨⟨s0, s1, s2, s3⟩, s4⟩ := hSw
        go_simp
        with_reducible rfl
      simp only [Act.put, List.setIfInBounds_toArray, List.set_cons_zero, List.set_cons_succ]
      refine wpAnyH_ready (rs := [5, 9]) (by kernel_rfl) (by simp) ?_
      refine (AllReadyH.cons (o := ⟨some 44, _, _, _, _, _⟩) rfl (fun K hK => ?_) (AllReadyH.cons (o := ⟨some 8, _, _, _, _, _⟩) rfl (fun K hK => ?_) AllReadyH.nil))
      · skip
        go_simp
        refine (HLn.out).mono ?_
        rintro e w2 hLP
        obtain ⟨n2, m2, a2, k2, c2, p2, ok2, rfl, hL2⟩ := lineP_form hLP
        have HL2 := Lib.hid hL2
        have hs2 := HSt.out w2 (only_drew hLP.1)
        clear hLP hL2
        refine hK.out _ _ hs2 (fun hHeld2 => ?_)
        clear hK K hHeld
        have hHeld := hHeld2
        clear hHeld2
        refine wpAnyH_take (i := 6) (oi := ⟨some 38, _, _, _, _, _⟩) (v := ?_) rfl (by kernel_rfl) (by kernel_rfl) (by kernel_rfl) (fun _ _ _ h => h) (Or.inl ⟨by rfl, ?_⟩) hHeld ?_
        rotate_left
        · intro W hSw
          obtain ⟨⟨s0, s1, s2, s3⟩, s4⟩ := hSw
          go_simp
          with_reducible rfl
        simp only [Act.put, List.setIfInBounds_toArray, List.set_cons_zero, List.set_cons_succ]
        refine wpAnyH_take (i := 7) (oi := ⟨some 45, _, _, _, _, _⟩) (v := ?_) rfl (by kernel_rfl) (by kernel_rfl) (by kernel_rfl) (fun _ _ _ h => h) (Or.inl ⟨by rfl, ?_⟩) hHeld ?_
        rotate_left
        · intro W hSw
          obtain ⟨⟨s0, s1, s2, s3⟩, s4⟩ := hSw
          go_simp
          with_reducible rfl
        simp only [Act.put, List.setIfInBounds_toArray, List.set_cons_zero, List.set_cons_succ]
        refine wpAnyH_take (i := 8) (oi := ⟨some 46, _, _, _, _, _⟩) (v := ?_) rfl (by kernel_rfl) (by kernel_rfl) (by kernel_rfl) (fun _ _ _ h => h) (Or.inl ⟨by rfl, ?_⟩) hHeld ?_
        rotate_left
        · intro W hSw
          obtain ⟨⟨s0, s1, s2, s3⟩, s4⟩ := hSw
          go_simp
          with_reducible rfl
        simp only [Act.put, List.setIfInBounds_toArray, List.set_cons_zero, List.set_cons_succ]
        refine wpAnyH_ready (rs := [9]) (by kernel_rfl) (by simp) ?_
        refine (AllReadyH.cons (o := ⟨some 8, _, _, _, _, _⟩) rfl (fun K hK => ?_) AllReadyH.nil)
        go_simp
        refine hK.out _ _ (HSA.out _ _ hHeld) (fun hHeld2 => ?_)
        clear hK K hHeld
        have hHeld := hHeld2
        clear hHeld2
        refine wpAnyH_ready (rs := [10]) (by kernel_rfl) (by simp) ?_
        refine (AllReadyH.cons (o := ⟨none, _, _, _, _, _⟩) rfl (fun K hK => ?_) AllReadyH.nil)
        go_simp
        refine hK.out _ _ (HSA.out _ _ hs2) (fun hHeld2 => ?_)
        clear hK K hHeld
        have hHeld := hHeld2
        clear hHeld2
        refine wpAnyH_take (i := 11) (oi := ⟨some 9, _, _, _, _, _⟩) (v := ?_) rfl (by kernel_rfl) (by kernel_rfl) (by kernel_rfl) (fun _ _ _ h => h) (Or.inl ⟨by rfl, ?_⟩) hHeld ?_
        rotate_left
        · intro W hSw
          obtain ⟨⟨s0, s1, s2, s3⟩, s4⟩ := hSw
          go_simp
          with_reducible rfl
        simp only [Act.put, List.setIfInBounds_toArray, List.set_cons_zero, List.set_cons_succ]
        refine wpAnyH_done (by kernel_rfl) ?_ _
        have hU := HI.out.first HLb.out HBt.out HL2.out
        generalize hWF : w2.alloc (.cells #[.int .i64 n2, .slice a2 k2 c2, .int .i64 m2, .bool p2] 62) = WF at *
        generalize w2.heap.size = bu at *
        have HU := Lib.hid hU
        have b0 := hU.rt.cell 0
        have b1 := hU.rt.cell 1
        have b2 := hU.rt.cell 2
        have b3 := hU.rt.cell 3
        have u0 := hU.ru.cell 0
        have u1 := hU.ru.cell 1
        have u2 := hU.ru.cell 2
        have u3 := hU.ru.cell 3
        have f0 := hU.rt.thaw 0
        have f1 := hU.rt.thaw 1
        have f2 := hU.rt.thaw 2
        have f3 := hU.rt.thaw 3
        have m0 := hU.rm.cell 0
        have m1 := hU.rm.cell 1
        have g0 := hU.rm.thaw 0
        have g1 := hU.rm.thaw 1
        simp only [tC, List.getElem?_toArray, List.getElem?_cons_zero, List.getElem?_cons_succ] at b0 b1 b2 b3 u0 u1 u2 u3 m0 m1
        have hU2 := hU.ok
        clear hU
        rcases hU2 with ⟨hR0, rfl⟩ | ⟨st', hR1, rfl, hn2, hm2, hp2, hk2, hav2⟩
        · have HSp2 := Lib.hid (HSp.out.2 hR0)
          have hr := putM_row HU.out.rm (.int .i64 0) (.slice none 0 0)
          have q0 := hr.cell 0
          have q1 := hr.cell 1
          simp only [List.getElem?_toArray, List.getElem?_cons_zero, List.getElem?_cons_succ] at q0 q1
          have HBf := Lib.hid (show Below w.heap.size w (putM WF w.heap.size (.int .i64 0) (.slice none 0 0)) from (HU.out.below.setCell (Nat.le_refl _) _).setCell (Nat.le_refl _) _)
          clear hr
          clear hR0
          go_wp2
          refine bodyPost_ret (v := .tuple #[mV 0 none 0 0, .int .i64 12, .int .i64 ((j : Int) + 1)]) (by simp [results, Tryd.results12, go_sem, q0, q1]) rfl ⟨HBf.out, .inl ⟨j + 1, ?_, by simp⟩⟩
          rw [HP.out]
          unfold parseL
          rw [HLi.out, HSp2.out]
        · subst hk2
          have HNx := Lib.hid (HU.out.next HLb.out HBt.out (takeL_ok HI.out.ok (HRr.out.symm.trans hR1)) hn2 hm2 hp2 hav2)
          have HGo := Lib.hid (HSp.out.1 st' hR1)
          clear hn2 hm2 hp2 hav2 hR1 m0 m1 g0 g1
          go_wp2
          exact ⟨⟨j + 1, st', _, by omega, by go_num, HNx.out, HGo.out⟩, by simp [intOf]; omega⟩
      · skip
        go_simp
        refine hK.out _ _ (HSA.out _ _ hHeld) (fun hHeld2 => ?_)
        clear hK K hHeld
        have hHeld := hHeld2
        clear hHeld2
        refine wpAnyH_ready (rs := [5]) (by kernel_rfl) (by simp) ?_
        refine (AllReadyH.cons (o := ⟨some 44, _, _, _, _, _⟩) rfl (fun K hK => ?_) AllReadyH.nil)
        go_simp
        refine (HLnB.out).mono ?_
        rintro e w2 hLP
        obtain ⟨n2, m2, a2, k2, c2, p2, ok2, rfl, hL2⟩ := lineP_form hLP
        have HL2 := Lib.hid hL2
        have hs2 := HSt.out w2 (((Only.refl _ wr).alloc (.cells #[.int .i64 0, .slice none 0 0, .int .i64 0, .bool false] 62)).trans (only_drew hLP.1) (fun i e => .inl e))
        clear hLP hL2
        have hnw := (Row.fresh wr 62 #[.int .i64 0, .slice none 0 0, .int .i64 0, .bool false]).only (only_drew HL2.out.1) (fun e => by have := (HI.out.av.own _ e).2; omega)
        have z0 := hnw.cell 0
        have z1 := hnw.cell 1
        have z2 := hnw.cell 2
        have z3 := hnw.cell 3
        have y0 := hnw.thaw 0
        have y1 := hnw.thaw 1
        have y2 := hnw.thaw 2
        have y3 := hnw.thaw 3
        simp only [List.getElem?_toArray, List.getElem?_cons_zero, List.getElem?_cons_succ] at z0 z1 z2 z3
        clear hnw
        refine hK.out _ _ hs2 (fun hHeld2 => ?_)
        clear hK K hHeld
        have hHeld := hHeld2
        clear hHeld2
        refine wpAnyH_take (i := 6) (oi := ⟨some 38, _, _, _, _, _⟩) (v := ?_) rfl (by kernel_rfl) (by kernel_rfl) (by kernel_rfl) (fun _ _ _ h => h) (Or.inl ⟨by rfl, ?_⟩) hHeld ?_
        rotate_left
        · intro W hSw
          obtain ⟨⟨s0, s1, s2, s3⟩, s4⟩ := hSw
          go_simp
          with_reducible rfl
        simp only [Act.put, List.setIfInBounds_toArray, List.set_cons_zero, List.set_cons_succ]
        refine wpAnyH_take (i := 7) (oi := ⟨some 45, _, _, _, _, _⟩) (v := ?_) rfl (by kernel_rfl) (by kernel_rfl) (by kernel_rfl) (fun _ _ _ h => h) (Or.inl ⟨by rfl, ?_⟩) hHeld ?_
        rotate_left
        · intro W hSw
          obtain ⟨⟨s0, s1, s2, s3⟩, s4⟩ := hSw
          go_simp
          with_reducible rfl
        simp only [Act.put, List.setIfInBounds_toArray, List.set_cons_zero, List.set_cons_succ]
        refine wpAnyH_take (i := 8) (oi := ⟨some 46, _, _, _, _, _⟩) (v := ?_) rfl (by kernel_rfl) (by kernel_rfl) (by kernel_rfl) (fun _ _ _ h => h) (Or.inl ⟨by rfl, ?_⟩) hHeld ?_
        rotate_left
        · intro W hSw
          obtain ⟨⟨s0, s1, s2, s3⟩, s4⟩ := hSw
          go_simp
          with_reducible rfl
        simp only [Act.put, List.setIfInBounds_toArray, List.set_cons_zero, List.set_cons_succ]
        refine wpAnyH_ready (rs := [10]) (by kernel_rfl) (by simp) ?_
        refine (AllReadyH.cons (o := ⟨none, _, _, _, _, _⟩) rfl (fun K hK => ?_) AllReadyH.nil)
        go_simp
        refine hK.out _ _ (HSP.out _ _ _ _ _ hs2) (fun hHeld2 => ?_)
        clear hK K hHeld
        have hHeld := hHeld2
        clear hHeld2
        refine wpAnyH_take (i := 11) (oi := ⟨some 9, _, _, _, _, _⟩) (v := ?_) rfl (by kernel_rfl) (by kernel_rfl) (by kernel_rfl) (fun _ _ _ h => h) (Or.inl ⟨by rfl, ?_⟩) hHeld ?_
        rotate_left
        · intro W hSw
          obtain ⟨⟨s0, s1, s2, s3⟩, s4⟩ := hSw
          go_simp
          with_reducible rfl
        simp only [Act.put, List.setIfInBounds_toArray, List.set_cons_zero, List.set_cons_succ]
        refine wpAnyH_done (by kernel_rfl) ?_ _
        have hU := HI.out.second HLb.out HBt.out rfl HL2.out
        generalize hWF : putT w2 wr.heap.size (.int .i64 n2) (.slice a2 k2 c2) (.int .i64 m2) (.bool p2) = WF at *
        generalize hbu : wr.heap.size = bu at *
        have HU := Lib.hid hU
        have b0 := hU.rt.cell 0
        have b1 := hU.rt.cell 1
        have b2 := hU.rt.cell 2
        have b3 := hU.rt.cell 3
        have u0 := hU.ru.cell 0
        have u1 := hU.ru.cell 1
        have u2 := hU.ru.cell 2
        have u3 := hU.ru.cell 3
        have f0 := hU.rt.thaw 0
        have f1 := hU.rt.thaw 1
        have f2 := hU.rt.thaw 2
        have f3 := hU.rt.thaw 3
        have m0 := hU.rm.cell 0
        have m1 := hU.rm.cell 1
        have g0 := hU.rm.thaw 0
        have g1 := hU.rm.thaw 1
        simp only [tC, List.getElem?_toArray, List.getElem?_cons_zero, List.getElem?_cons_succ] at b0 b1 b2 b3 u0 u1 u2 u3 m0 m1
        have hU2 := hU.ok
        clear hU
        rcases hU2 with ⟨hR0, rfl⟩ | ⟨st', hR1, rfl, hn2, hm2, hp2, hk2, hav2⟩
        · have HSp2 := Lib.hid (HSp.out.2 hR0)
          have hr := putM_row HU.out.rm (.int .i64 0) (.slice none 0 0)
          have q0 := hr.cell 0
          have q1 := hr.cell 1
          simp only [List.getElem?_toArray, List.getElem?_cons_zero, List.getElem?_cons_succ] at q0 q1
          have HBf := Lib.hid (show Below w.heap.size w (putM WF w.heap.size (.int .i64 0) (.slice none 0 0)) from (HU.out.below.setCell (Nat.le_refl _) _).setCell (Nat.le_refl _) _)
          clear hr
          clear hR0
          go_wp2
          refine bodyPost_ret (v := .tuple #[mV 0 none 0 0, .int .i64 12, .int .i64 ((j : Int) + 1)]) (by simp [results, Tryd.results12, go_sem, q0, q1]) rfl ⟨HBf.out, .inl ⟨j + 1, ?_, by simp⟩⟩
          rw [HP.out]
          unfold parseL
          rw [HLi.out, HSp2.out]
        · subst hk2
          have HNx := Lib.hid (HU.out.next HLb.out HBt.out (takeL_ok HI.out.ok (HRr.out.symm.trans hR1)) hn2 hm2 hp2 hav2)
          have HGo := Lib.hid (HSp.out.1 st' hR1)
          clear hn2 hm2 hp2 hav2 hR1 m0 m1 g0 g1
          go_wp2
          exact ⟨⟨j + 1, st', _, by omega, by go_num, HNx.out, HGo.out⟩, by simp [intOf]; omega⟩
    · obtain rfl : j = L.length := by omega
      have hlt' : ¬ (L.length : Int) < (L.length : Int) := by omega
      have hgo2 := hgo []
      rw [List.take_length, List.append_nil] at hgo2
      have HG2 := Lib.hid (show parseL s = if st.whole then .inr (st.n, st.arcs) else .inl (L.length + 1) by unfold parseL; rw [HLi.out, hgo2]; rfl)
      obtain ⟨n, arcs, begun, many⟩ := st
      have b0 := hI.rt.cell 0
      have b1 := hI.rt.cell 1
      have b2 := hI.rt.cell 2
      have b3 := hI.rt.cell 3
      have m0 := hI.rm.cell 0
      have m1 := hI.rm.cell 1
      have g0 := hI.rm.thaw 0
      have g1 := hI.rm.thaw 1
      simp only [tC, List.getElem?_toArray, List.getElem?_cons_zero, List.getElem?_cons_succ] at b0 b1 b2 b3 m0 m1
      have hr := putM_row hI.rm (.int .i64 0) (.slice none 0 0)
      have q0 := hr.cell 0
      have q1 := hr.cell 1
      have hr2 := putM_row hI.rm (.int .i64 (n : Nat)) (.slice va arcs.length vc)
      have p0 := hr2.cell 0
      have p1 := hr2.cell 1
      simp only [List.getElem?_toArray, List.getElem?_cons_zero, List.getElem?_cons_succ] at q0 q1 p0 p1
      have HBf := Lib.hid (show ∀ x y, Below w.heap.size w (putM wr w.heap.size x y) from fun x y => (hI.below.setCell (Nat.le_refl _) _).setCell (Nat.le_refl _) _)
      have hne : (Value.slice va arcs.length vc).ownBlock ≠ some w.heap.size := fun e => by have := (hI.av.own _ e).1; have := HBt.out; omega
      have HAf := Lib.hid (show AV (putM wr w.heap.size (.int .i64 (n : Nat)) (.slice va arcs.length vc)) w.heap.size (.slice va arcs.length vc) arcs from av_mono (av_put (av_put hI.av hne) hne) (by have := HBt.out; omega))
      clear hI hgo hgo2 hr hr2 hne
      cases begun with
      | false =>
        have HW := Lib.hid (show parseL s = .inl (L.length + 1) by rw [HG2.out]; simp [Rst.whole])
        clear p0 p1
        go_wp2
        refine bodyPost_ret (v := .tuple #[mV 0 none 0 0, .int .i64 12, .int .i64 ((L.length : Int) + 1)]) (by simp [results, Tryd.results12, go_sem, q0, q1]) rfl ⟨HBf.out _ _, .inl ⟨L.length + 1, ?_, by simp⟩⟩
        rw [HP.out, HW.out]
      | true =>
        by_cases hq : arcs.length = many
        · subst hq
          have HW := Lib.hid (show parseL s = .inr (n, arcs) by rw [HG2.out]; simp [Rst.whole])
          clear q0 q1
          go_wp2
          refine bodyPost_ret (v := .tuple #[.agg #[.int .i64 (n : Nat), .slice va arcs.length vc], .int .i64 0, .int .i64 0]) (by simp [results, Tryd.results12, go_sem, p0, p1]) rfl ⟨HBf.out _ _, .inr ⟨n, arcs, _, ?_, rfl, HAf.out⟩⟩
          rw [HP.out, HW.out]
        · have HW := Lib.hid (show parseL s = .inl (L.length + 1) by rw [HG2.out]; simp [Rst.whole, hq])
          have hq2 : ¬ (arcs.length : Int) = (many : Int) := by omega
          clear p0 p1 hq
          go_wp2
          refine bodyPost_ret (v := .tuple #[mV 0 none 0 0, .int .i64 12, .int .i64 ((L.length : Int) + 1)]) (by simp [results, Tryd.results12, go_sem, q0, q1]) rfl ⟨HBf.out _ _, .inl ⟨L.length + 1, ?_, by simp⟩⟩
          rw [HP.out, HW.out]
set_option maxRecDepth 100000 in
set_option maxHeartbeats 4000000 in
theorem rparse_other (s : Tx) (k : Nat) (h9 : s.length ≤ 2000) (hk : s.length = k + 1) (hs : ¬ ∃ t, s = t ++ [10]) (w : World) : Calls Tryd.prog 12 #[txV s] w (ParseP w (parseL s)) := by
  have e1 : (⟨s.toArray⟩ : ByteArray).size = k + 1 := by rw [gr_size]; exact hk
  have i1 : (k : Int) ≤ 2000 := by omega
  obtain ⟨P, hP⟩ : ∃ P, P = parseL s := ⟨_, rfl⟩
  rw [← hP]
  have HP := Lib.hid hP
  have hm9 := h9
  obtain ⟨y, hy⟩ : ∃ y, y = (s[k]'(by omega)).toNat := ⟨_, rfl⟩
  have hx2 : ((⟨s.toArray⟩ : ByteArray)[k]'(by rw [e1]; exact Nat.lt_succ_self k)).toNat = y := by rw [hy]; rfl
  have hy2 : ¬ (y : Int) = 10 := fun e => hs ⟨s.take k, by
    have h1 : s[k]'(by omega) = 10 := UInt8.toNat_inj.1 (by show (s[k]'(by omega)).toNat = 10; omega)
    have h2 : s.take (k + 1) = s.take k ++ [10] := by rw [List.take_succ_eq_append_getElem (by omega), h1]
    rw [← h2, ← hk, List.take_length]⟩
  have hne : s ≠ [] := fun e => by subst e; simp at hk
  have hne2 : (s == []) = false := beq_eq_false_iff_ne.2 hne
  have hli : linesL s = cut 10 s := by rw [show linesL s = cut 10 (trimL s) by simp [linesL, hne], trim_not hs]
  clear hs hy hne
  have HLi := Lib.hid hli
  have HCut := Lib.hid (show Calls Tryd.prog 26 #[txV s, .int .u8 10] (w.alloc (.cells #[.int .i64 0, .slice none 0 0] 25)) fun e w' => (∃ v, e = .returned v ∧ TV w' (w.alloc (.cells #[.int .i64 0, .slice none 0 0] 25)).heap.size v (cut 10 s)) ∧ Below (w.alloc (.cells #[.int .i64 0, .slice none 0 0] 25)).heap.size (w.alloc (.cells #[.int .i64 0, .slice none 0 0] 25)) w' from rcut_any s 10 _ hm9)
  have HLs := Lib.hid (show ∀ x ∈ cut 10 s, x.length ≤ 2000 from fun x hx => Nat.le_trans (cut_le 10 s x hx) hm9)
  have HLc := Lib.hid (cut_count2 10 s hm9)
  have HLn0 := Lib.hid (cut_ne 10 s)
  clear hP hli hm9 h9 hk
  generalize cut 10 s = L at *
  go_enter Tryd.func12, Tryd.ntmps12
  go_wp2_with fail
  refine HCut.out.mono ?_
  rintro e w1 ⟨⟨lv, rfl, htv⟩, hb1⟩
  have hLp : 0 < L.length := List.length_pos_iff.2 HLn0.out
  obtain ⟨lb, lc, rfl, hlb, hl0⟩ := htv.at_ (k := 0) hLp
  have iL : (L.length : Int) ≤ 2001 := by have := HLc.out; omega
  obtain ⟨bt, hbt⟩ : ∃ bt, bt = w1.heap.size := ⟨_, rfl⟩
  have hz1 : (w.alloc (.cells #[.int .i64 0, .slice none 0 0] 25)).heap.size = w.heap.size + 1 := World.size_alloc _ _
  have hrm := (Row.fresh w 25 #[.int .i64 0, .slice none 0 0]).under hb1 (by rw [hz1]; omega)
  have hbw : Below w.heap.size w w1 := ((Below.refl _ w).alloc (Nat.le_refl _) _).trans (hb1.mono (by rw [hz1]; omega))
  have HI0 := Lib.hid (show RpI w w.heap.size (bt + 1) bt L (.slice (some ⟨lb, 0, none⟩) L.length lc) (.slice none 0 0) Rst.zero (w1.alloc (.cells #[.int .i64 0, .slice none 0 0, .int .i64 0, .bool false] 62)) from
    ⟨hrm.past _, by rw [hbt]; exact Row.fresh w1 _ _, AV.nil _ _, (htv.mono (by rw [hz1]; omega)).under ((Below.refl _ w1).alloc (Nat.le_refl _) _) (Nat.le_refl _), hbw.alloc hbw.size _, ⟨Rst.ok_zero, fun _ => rfl⟩, by rw [World.size_alloc, hbt]; exact Nat.le_refl _⟩)
  have HLb := Lib.hid (show lb < bt by rw [hbt]; exact hlb)
  have HBt := Lib.hid (show w.heap.size < bt by rw [hbt]; have := hb1.size; rw [hz1] at this; omega)
  clear hl0 htv hb1 hz1 hrm hbw hLp hlb
  go_wp2
  rw [← hbt]
  clear hbt
  go_loopw [7] (fun i wr => ∃ (j : Nat) (st : Rst) (v : Value), j ≤ L.length ∧ i = .int .i64 j ∧ RpI w w.heap.size (bt + 1) bt L (.slice (some ⟨lb, 0, none⟩) L.length lc) v st wr ∧ ∀ rest, goL Rst.zero 1 (L.take j ++ rest) = goL st (j + 1) rest) (fun i _ => L.length - (intOf i).toNat)
  case atStart => exact ⟨0, Rst.zero, .slice none 0 0, by omega, rfl, HI0.out, fun _ => rfl⟩
  case round =>
    obtain ⟨j, st, v, hj, rfl, hI, hgo⟩ := hrel
    obtain ⟨va, vc, rfl⟩ := hI.av.shape
    have HI := Lib.hid hI
    have HG := Lib.hid hgo
    by_cases hlt : j < L.length
    · have hlt' : (j : Int) < (L.length : Int) := by omega
      have HXl := Lib.hid (HLs.out (L[j]'hlt) (List.getElem_mem hlt))
      have HSp := Lib.hid (And.intro (fun st' => goL_step (st' := st') hlt hgo) (goL_stop hlt hgo))
      have HSt := Lib.hid (show ∀ W, Only (fun k => (Value.slice va st.arcs.length vc).ownBlock = some k) wr W → ((W.cell? ⟨bt, 0, none⟩ = some (.int .i64 (st.n : Nat)) ∧ W.cell? ⟨bt, 1, none⟩ = some (.slice va st.arcs.length vc) ∧ W.cell? ⟨bt, 2, none⟩ = some (.int .i64 (st.many : Nat)) ∧ W.cell? ⟨bt, 3, none⟩ = some (.bool st.begun)) ∧ W.cell? ⟨lb, j, none⟩ = some (txV (L[j]'hlt))) from fun W ho => by
        obtain ⟨_, q1, q2, _, _⟩ := hI.moved HLb.out HBt.out ho
        obtain ⟨lb2, lc2, hlv2, _, hlx2⟩ := q2.at_ hlt
        cases hlv2
        exact ⟨⟨q1.cell 0, q1.cell 1, q1.cell 2, q1.cell 3⟩, hlx2⟩)
      generalize L[j]'hlt = x at *
      have HLn := Lib.hid (line_any (w := wr.drew) (v := .slice va st.arcs.length vc) (st := st) x HXl.out (show AV wr.drew (bt + 1) _ _ from hI.av) hI.ok hI.sz)
      have HLnB := Lib.hid (line_any (w := (wr.alloc (.cells #[.int .i64 0, .slice none 0 0, .int .i64 0, .bool false] 62)).drew) (v := .slice va st.arcs.length vc) (st := st) x HXl.out (show AV (wr.alloc (.cells #[.int .i64 0, .slice none 0 0, .int .i64 0, .bool false] 62)).drew (bt + 1) _ _ from hI.av.under (w' := wr.alloc (.cells #[.int .i64 0, .slice none 0 0, .int .i64 0, .bool false] 62)) ((Below.refl wr.heap.size wr).alloc (Nat.le_refl _) _) (Nat.le_refl _)) hI.ok (by show bt + 1 ≤ (wr.alloc (.cells #[.int .i64 0, .slice none 0 0, .int .i64 0, .bool false] 62)).heap.size; rw [World.size_alloc]; have := hI.sz; omega))
      have HSA := Lib.hid (show ∀ (W : World) (o : Obj), ((W.cell? ⟨bt, 0, none⟩ = some (.int .i64 (st.n : Nat)) ∧ W.cell? ⟨bt, 1, none⟩ = some (.slice va st.arcs.length vc) ∧ W.cell? ⟨bt, 2, none⟩ = some (.int .i64 (st.many : Nat)) ∧ W.cell? ⟨bt, 3, none⟩ = some (.bool st.begun)) ∧ W.cell? ⟨lb, j, none⟩ = some (txV x)) → (((W.alloc o).cell? ⟨bt, 0, none⟩ = some (.int .i64 (st.n : Nat)) ∧ (W.alloc o).cell? ⟨bt, 1, none⟩ = some (.slice va st.arcs.length vc) ∧ (W.alloc o).cell? ⟨bt, 2, none⟩ = some (.int .i64 (st.many : Nat)) ∧ (W.alloc o).cell? ⟨bt, 3, none⟩ = some (.bool st.begun)) ∧ (W.alloc o).cell? ⟨lb, j, none⟩ = some (txV x)) from fun W o h => ⟨⟨(World.cell?_alloc_lt _ _ _ (block_lt_of_cell h.1.1)).trans h.1.1, (World.cell?_alloc_lt _ _ _ (block_lt_of_cell h.1.2.1)).trans h.1.2.1, (World.cell?_alloc_lt _ _ _ (block_lt_of_cell h.1.2.2.1)).trans h.1.2.2.1, (World.cell?_alloc_lt _ _ _ (block_lt_of_cell h.1.2.2.2)).trans h.1.2.2.2⟩, (World.cell?_alloc_lt _ _ _ (block_lt_of_cell h.2)).trans h.2⟩)
      have HSP := Lib.hid (show ∀ (W : World) (p0 p1 p2 p3 : Value), ((W.cell? ⟨bt, 0, none⟩ = some (.int .i64 (st.n : Nat)) ∧ W.cell? ⟨bt, 1, none⟩ = some (.slice va st.arcs.length vc) ∧ W.cell? ⟨bt, 2, none⟩ = some (.int .i64 (st.many : Nat)) ∧ W.cell? ⟨bt, 3, none⟩ = some (.bool st.begun)) ∧ W.cell? ⟨lb, j, none⟩ = some (txV x)) → (((putT W wr.heap.size p0 p1 p2 p3).cell? ⟨bt, 0, none⟩ = some (.int .i64 (st.n : Nat)) ∧ (putT W wr.heap.size p0 p1 p2 p3).cell? ⟨bt, 1, none⟩ = some (.slice va st.arcs.length vc) ∧ (putT W wr.heap.size p0 p1 p2 p3).cell? ⟨bt, 2, none⟩ = some (.int .i64 (st.many : Nat)) ∧ (putT W wr.heap.size p0 p1 p2 p3).cell? ⟨bt, 3, none⟩ = some (.bool st.begun)) ∧ (putT W wr.heap.size p0 p1 p2 p3).cell? ⟨lb, j, none⟩ = some (txV x)) from fun W p0 p1 p2 p3 h => by
        have hs := hI.sz
        have hl := HLb.out
        have f1 : ∀ o, (putT W wr.heap.size p0 p1 p2 p3).cell? ⟨bt, o, none⟩ = W.cell? ⟨bt, o, none⟩ := fun o => by
          unfold putT
          rw [World.cell?_setCell_far _ _ _ _ (show wr.heap.size ≠ bt by omega), World.cell?_setCell_far _ _ _ _ (show wr.heap.size ≠ bt by omega), World.cell?_setCell_far _ _ _ _ (show wr.heap.size ≠ bt by omega), World.cell?_setCell_far _ _ _ _ (show wr.heap.size ≠ bt by omega)]
        have f2 : (putT W wr.heap.size p0 p1 p2 p3).cell? ⟨lb, j, none⟩ = W.cell? ⟨lb, j, none⟩ := by
          unfold putT
          rw [World.cell?_setCell_far _ _ _ _ (show wr.heap.size ≠ lb by omega), World.cell?_setCell_far _ _ _ _ (show wr.heap.size ≠ lb by omega), World.cell?_setCell_far _ _ _ _ (show wr.heap.size ≠ lb by omega), World.cell?_setCell_far _ _ _ _ (show wr.heap.size ≠ lb by omega)]
        rw [f1, f1, f1, f1, f2]
        exact h)
      obtain ⟨R, hR⟩ : ∃ R, R = takeL st (five (cut 32 x)) := ⟨_, rfl⟩
      have HRr := Lib.hid hR
      rw [← hR] at HLn HLnB HSp
      clear hI hgo hR
      go_upto_region 10 with (fail)
      refine wp_region_held_drew (S := fun W => (W.cell? ⟨bt, 0, none⟩ = some (.int .i64 (st.n : Nat)) ∧ W.cell? ⟨bt, 1, none⟩ = some (.slice va st.arcs.length vc) ∧ W.cell? ⟨bt, 2, none⟩ = some (.int .i64 (st.many : Nat)) ∧ W.cell? ⟨bt, 3, none⟩ = some (.bool st.begun)) ∧ W.cell? ⟨lb, j, none⟩ = some (txV x)) (by kernel_rfl) (HSt.out _ (Only.of_below _ (Below.refl _ _).drew)) (fun hHeld => ?_)
      refine wpAnyH_take (i := 0) (oi := ⟨some 39, _, _, _, _, _⟩) (v := ?_) rfl (by kernel_rfl) (by kernel_rfl) (by kernel_rfl) (fun _ _ _ h => h) (Or.inl ⟨by rfl, ?_⟩) hHeld ?_
      rotate_left
      · intro W hSw
        obtain ⟨⟨s0, s1, s2, s3⟩, s4⟩ := hSw
        go_simp
        with_reducible rfl
      simp only [Act.put, List.setIfInBounds_toArray, List.set_cons_zero, List.set_cons_succ]
      refine wpAnyH_take (i := 1) (oi := ⟨some 40, _, _, _, _, _⟩) (v := ?_) rfl (by kernel_rfl) (by kernel_rfl) (by kernel_rfl) (fun _ _ _ h => h) (Or.inl ⟨by rfl, ?_⟩) hHeld ?_
      rotate_left
      · intro W hSw
        obtain ⟨⟨s0, s1, s2, s3⟩, s4⟩ := hSw
        go_simp
        with_reducible rfl
      simp only [Act.put, List.setIfInBounds_toArray, List.set_cons_zero, List.set_cons_succ]
      refine wpAnyH_take (i := 2) (oi := ⟨some 41, _, _, _, _, _⟩) (v := ?_) rfl (by kernel_rfl) (by kernel_rfl) (by kernel_rfl) (fun _ _ _ h => h) (Or.inl ⟨by rfl, ?_⟩) hHeld ?_
      rotate_left
      · intro W hSw
        obtain ⟨⟨s0, s1, s2, s3⟩, s4⟩ := hSw
        go_simp
        with_reducible rfl
      simp only [Act.put, List.setIfInBounds_toArray, List.set_cons_zero, List.set_cons_succ]
      refine wpAnyH_take (i := 3) (oi := ⟨some 42, _, _, _, _, _⟩) (v := ?_) rfl (by kernel_rfl) (by kernel_rfl) (by kernel_rfl) (fun _ _ _ h => h) (Or.inl ⟨by rfl, ?_⟩) hHeld ?_
      rotate_left
      · intro W hSw
        obtain ⟨⟨s0, s1, s2, s3⟩, s4⟩ := hSw
        go_simp
        with_reducible rfl
      simp only [Act.put, List.setIfInBounds_toArray, List.set_cons_zero, List.set_cons_succ]
      refine wpAnyH_take (i := 4) (oi := ⟨some 43, _, _, _, _, _⟩) (v := ?_) rfl (by kernel_rfl) (by kernel_rfl) (by kernel_rfl) (fun _ _ _ h => h) (Or.inl ⟨by rfl, ?_⟩) hHeld ?_
      rotate_left
      · intro W hSw
        obtain ⟨⟨s0, s1, s2, s3⟩, s4⟩ := hSw
        go_simp
        with_reducible rfl
      simp only [Act.put, List.setIfInBounds_toArray, List.set_cons_zero, List.set_cons_succ]
      refine wpAnyH_ready (rs := [5, 9]) (by kernel_rfl) (by simp) ?_
      refine (AllReadyH.cons (o := ⟨some 44, _, _, _, _, _⟩) rfl (fun K hK => ?_) (AllReadyH.cons (o := ⟨some 8, _, _, _, _, _⟩) rfl (fun K hK => ?_) AllReadyH.nil))
      · skip
        go_simp
        refine (HLn.out).mono ?_
        rintro e w2 hLP
        obtain ⟨n2, m2, a2, k2, c2, p2, ok2, rfl, hL2⟩ := lineP_form hLP
        have HL2 := Lib.hid hL2
        have hs2 := HSt.out w2 (only_drew hLP.1)
        clear hLP hL2
        refine hK.out _ _ hs2 (fun hHeld2 => ?_)
        clear hK K hHeld
        have hHeld := hHeld2
        clear hHeld2
        refine wpAnyH_take (i := 6) (oi := ⟨some 38, _, _, _, _, _⟩) (v := ?_) rfl (by kernel_rfl) (by kernel_rfl) (by kernel_rfl) (fun _ _ _ h => h) (Or.inl ⟨by rfl, ?_⟩) hHeld ?_
        rotate_left
        · intro W hSw
          obtain ⟨⟨s0, s1, s2, s3⟩, s4⟩ := hSw
          go_simp
          with_reducible rfl
        simp only [Act.put, List.setIfInBounds_toArray, List.set_cons_zero, List.set_cons_succ]
        refine wpAnyH_take (i := 7) (oi := ⟨some 45, _, _, _, _, _⟩) (v := ?_) rfl (by kernel_rfl) (by kernel_rfl) (by kernel_rfl) (fun _ _ _ h => h) (Or.inl ⟨by rfl, ?_⟩) hHeld ?_
        rotate_left
        · intro W hSw
          obtain ⟨⟨s0, s1, s2, s3⟩, s4⟩ := hSw
          go_simp
          with_reducible rfl
        simp only [Act.put, List.setIfInBounds_toArray, List.set_cons_zero, List.set_cons_succ]
        refine wpAnyH_take (i := 8) (oi := ⟨some 46, _, _, _, _, _⟩) (v := ?_) rfl (by kernel_rfl) (by kernel_rfl) (by kernel_rfl) (fun _ _ _ h => h) (Or.inl ⟨by rfl, ?_⟩) hHeld ?_
        rotate_left
        · intro W hSw
          obtain ⟨⟨s0, s1, s2, s3⟩, s4⟩ := hSw
          go_simp
          with_reducible rfl
        simp only [Act.put, List.setIfInBounds_toArray, List.set_cons_zero, List.set_cons_succ]
        refine wpAnyH_ready (rs := [9]) (by kernel_rfl) (by simp) ?_
        refine (AllReadyH.cons (o := ⟨some 8, _, _, _, _, _⟩) rfl (fun K hK => ?_) AllReadyH.nil)
        go_simp
        refine hK.out _ _ (HSA.out _ _ hHeld) (fun hHeld2 => ?_)
        clear hK K hHeld
        have hHeld := hHeld2
        clear hHeld2
        refine wpAnyH_ready (rs := [10]) (by kernel_rfl) (by simp) ?_
        refine (AllReadyH.cons (o := ⟨none, _, _, _, _, _⟩) rfl (fun K hK => ?_) AllReadyH.nil)
        go_simp
        refine hK.out _ _ (HSA.out _ _ hs2) (fun hHeld2 => ?_)
        clear hK K hHeld
        have hHeld := hHeld2
        clear hHeld2
        refine wpAnyH_take (i := 11) (oi := ⟨some 9, _, _, _, _, _⟩) (v := ?_) rfl (by kernel_rfl) (by kernel_rfl) (by kernel_rfl) (fun _ _ _ h => h) (Or.inl ⟨by rfl, ?_⟩) hHeld ?_
        rotate_left
        · intro W hSw
          obtain ⟨⟨s0, s1, s2, s3⟩, s4⟩ := hSw
          go_simp
          with_reducible rfl
        simp only [Act.put, List.setIfInBounds_toArray, List.set_cons_zero, List.set_cons_succ]
        refine wpAnyH_done (by kernel_rfl) ?_ _
        have hU := HI.out.first HLb.out HBt.out HL2.out
        generalize hWF : w2.alloc (.cells #[.int .i64 n2, .slice a2 k2 c2, .int .i64 m2, .bool p2] 62) = WF at *
        generalize w2.heap.size = bu at *
        have HU := Lib.hid hU
        have b0 := hU.rt.cell 0
        have b1 := hU.rt.cell 1
        have b2 := hU.rt.cell 2
        have b3 := hU.rt.cell 3
        have u0 := hU.ru.cell 0
        have u1 := hU.ru.cell 1
        have u2 := hU.ru.cell 2
        have u3 := hU.ru.cell 3
        have f0 := hU.rt.thaw 0
        have f1 := hU.rt.thaw 1
        have f2 := hU.rt.thaw 2
        have f3 := hU.rt.thaw 3
        have m0 := hU.rm.cell 0
        have m1 := hU.rm.cell 1
        have g0 := hU.rm.thaw 0
        have g1 := hU.rm.thaw 1
        simp only [tC, List.getElem?_toArray, List.getElem?_cons_zero, List.getElem?_cons_succ] at b0 b1 b2 b3 u0 u1 u2 u3 m0 m1
        have hU2 := hU.ok
        clear hU
        rcases hU2 with ⟨hR0, rfl⟩ | ⟨st', hR1, rfl, hn2, hm2, hp2, hk2, hav2⟩
        · have HSp2 := Lib.hid (HSp.out.2 hR0)
          have hr := putM_row HU.out.rm (.int .i64 0) (.slice none 0 0)
          have q0 := hr.cell 0
          have q1 := hr.cell 1
          simp only [List.getElem?_toArray, List.getElem?_cons_zero, List.getElem?_cons_succ] at q0 q1
          have HBf := Lib.hid (show Below w.heap.size w (putM WF w.heap.size (.int .i64 0) (.slice none 0 0)) from (HU.out.below.setCell (Nat.le_refl _) _).setCell (Nat.le_refl _) _)
          clear hr
          clear hR0
          go_wp2
          refine bodyPost_ret (v := .tuple #[mV 0 none 0 0, .int .i64 12, .int .i64 ((j : Int) + 1)]) (by simp [results, Tryd.results12, go_sem, q0, q1]) rfl ⟨HBf.out, .inl ⟨j + 1, ?_, by simp⟩⟩
          rw [HP.out]
          unfold parseL
          rw [HLi.out, HSp2.out]
        · subst hk2
          have HNx := Lib.hid (HU.out.next HLb.out HBt.out (takeL_ok HI.out.ok (HRr.out.symm.trans hR1)) hn2 hm2 hp2 hav2)
          have HGo := Lib.hid (HSp.out.1 st' hR1)
          clear hn2 hm2 hp2 hav2 hR1 m0 m1 g0 g1
          go_wp2
          exact ⟨⟨j + 1, st', _, by omega, by go_num, HNx.out, HGo.out⟩, by simp [intOf]; omega⟩
      · skip
        go_simp
        refine hK.out _ _ (HSA.out _ _ hHeld) (fun hHeld2 => ?_)
        clear hK K hHeld
        have hHeld := hHeld2
        clear hHeld2
        refine wpAnyH_ready (rs := [5]) (by kernel_rfl) (by simp) ?_
        refine (AllReadyH.cons (o := ⟨some 44, _, _, _, _, _⟩) rfl (fun K hK => ?_) AllReadyH.nil)
        go_simp
        refine (HLnB.out).mono ?_
        rintro e w2 hLP
        obtain ⟨n2, m2, a2, k2, c2, p2, ok2, rfl, hL2⟩ := lineP_form hLP
        have HL2 := Lib.hid hL2
        have hs2 := HSt.out w2 (((Only.refl _ wr).alloc (.cells #[.int .i64 0, .slice none 0 0, .int .i64 0, .bool false] 62)).trans (only_drew hLP.1) (fun i e => .inl e))
        clear hLP hL2
        have hnw := (Row.fresh wr 62 #[.int .i64 0, .slice none 0 0, .int .i64 0, .bool false]).only (only_drew HL2.out.1) (fun e => by have := (HI.out.av.own _ e).2; omega)
        have z0 := hnw.cell 0
        have z1 := hnw.cell 1
        have z2 := hnw.cell 2
        have z3 := hnw.cell 3
        have y0 := hnw.thaw 0
        have y1 := hnw.thaw 1
        have y2 := hnw.thaw 2
        have y3 := hnw.thaw 3
        simp only [List.getElem?_toArray, List.getElem?_cons_zero, List.getElem?_cons_succ] at z0 z1 z2 z3
        clear hnw
        refine hK.out _ _ hs2 (fun hHeld2 => ?_)
        clear hK K hHeld
        have hHeld := hHeld2
        clear hHeld2
        refine wpAnyH_take (i := 6) (oi := ⟨some 38, _, _, _, _, _⟩) (v := ?_) rfl (by kernel_rfl) (by kernel_rfl) (by kernel_rfl) (fun _ _ _ h => h) (Or.inl ⟨by rfl, ?_⟩) hHeld ?_
        rotate_left
        · intro W hSw
          obtain ⟨⟨s0, s1, s2, s3⟩, s4⟩ := hSw
          go_simp
          with_reducible rfl
        simp only [Act.put, List.setIfInBounds_toArray, List.set_cons_zero, List.set_cons_succ]
        refine wpAnyH_take (i := 7) (oi := ⟨some 45, _, _, _, _, _⟩) (v := ?_) rfl (by kernel_rfl) (by kernel_rfl) (by kernel_rfl) (fun _ _ _ h => h) (Or.inl ⟨by rfl, ?_⟩) hHeld ?_
        rotate_left
        · intro W hSw
          obtain ⟨⟨s0, s1, s2, s3⟩, s4⟩ := hSw
          go_simp
          with_reducible rfl
        simp only [Act.put, List.setIfInBounds_toArray, List.set_cons_zero, List.set_cons_succ]
        refine wpAnyH_take (i := 8) (oi := ⟨some 46, _, _, _, _, _⟩) (v := ?_) rfl (by kernel_rfl) (by kernel_rfl) (by kernel_rfl) (fun _ _ _ h => h) (Or.inl ⟨by rfl, ?_⟩) hHeld ?_
        rotate_left
        · intro W hSw
          obtain ⟨⟨s0, s1, s2, s3⟩, s4⟩ := hSw
          go_simp
          with_reducible rfl
        simp only [Act.put, List.setIfInBounds_toArray, List.set_cons_zero, List.set_cons_succ]
        refine wpAnyH_ready (rs := [10]) (by kernel_rfl) (by simp) ?_
        refine (AllReadyH.cons (o := ⟨none, _, _, _, _, _⟩) rfl (fun K hK => ?_) AllReadyH.nil)
        go_simp
        refine hK.out _ _ (HSP.out _ _ _ _ _ hs2) (fun hHeld2 => ?_)
        clear hK K hHeld
        have hHeld := hHeld2
        clear hHeld2
        refine wpAnyH_take (i := 11) (oi := ⟨some 9, _, _, _, _, _⟩) (v := ?_) rfl (by kernel_rfl) (by kernel_rfl) (by kernel_rfl) (fun _ _ _ h => h) (Or.inl ⟨by rfl, ?_⟩) hHeld ?_
        rotate_left
        · intro W hSw
          obtain ⟨⟨s0, s1, s2, s3⟩, s4⟩ := hSw
          go_simp
          with_reducible rfl
        simp only [Act.put, List.setIfInBounds_toArray, List.set_cons_zero, List.set_cons_succ]
        refine wpAnyH_done (by kernel_rfl) ?_ _
        have hU := HI.out.second HLb.out HBt.out rfl HL2.out
        generalize hWF : putT w2 wr.heap.size (.int .i64 n2) (.slice a2 k2 c2) (.int .i64 m2) (.bool p2) = WF at *
        generalize hbu : wr.heap.size = bu at *
        have HU := Lib.hid hU
        have b0 := hU.rt.cell 0
        have b1 := hU.rt.cell 1
        have b2 := hU.rt.cell 2
        have b3 := hU.rt.cell 3
        have u0 := hU.ru.cell 0
        have u1 := hU.ru.cell 1
        have u2 := hU.ru.cell 2
        have u3 := hU.ru.cell 3
        have f0 := hU.rt.thaw 0
        have f1 := hU.rt.thaw 1
        have f2 := hU.rt.thaw 2
        have f3 := hU.rt.thaw 3
        have m0 := hU.rm.cell 0
        have m1 := hU.rm.cell 1
        have g0 := hU.rm.thaw 0
        have g1 := hU.rm.thaw 1
        simp only [tC, List.getElem?_toArray, List.getElem?_cons_zero, List.getElem?_cons_succ] at b0 b1 b2 b3 u0 u1 u2 u3 m0 m1
        have hU2 := hU.ok
        clear hU
        rcases hU2 with ⟨hR0, rfl⟩ | ⟨st', hR1, rfl, hn2, hm2, hp2, hk2, hav2⟩
        · have HSp2 := Lib.hid (HSp.out.2 hR0)
          have hr := putM_row HU.out.rm (.int .i64 0) (.slice none 0 0)
          have q0 := hr.cell 0
          have q1 := hr.cell 1
          simp only [List.getElem?_toArray, List.getElem?_cons_zero, List.getElem?_cons_succ] at q0 q1
          have HBf := Lib.hid (show Below w.heap.size w (putM WF w.heap.size (.int .i64 0) (.slice none 0 0)) from (HU.out.below.setCell (Nat.le_refl _) _).setCell (Nat.le_refl _) _)
          clear hr
          clear hR0
          go_wp2
          refine bodyPost_ret (v := .tuple #[mV 0 none 0 0, .int .i64 12, .int .i64 ((j : Int) + 1)]) (by simp [results, Tryd.results12, go_sem, q0, q1]) rfl ⟨HBf.out, .inl ⟨j + 1, ?_, by simp⟩⟩
          rw [HP.out]
          unfold parseL
          rw [HLi.out, HSp2.out]
        · subst hk2
          have HNx := Lib.hid (HU.out.next HLb.out HBt.out (takeL_ok HI.out.ok (HRr.out.symm.trans hR1)) hn2 hm2 hp2 hav2)
          have HGo := Lib.hid (HSp.out.1 st' hR1)
          clear hn2 hm2 hp2 hav2 hR1 m0 m1 g0 g1
          go_wp2
          exact ⟨⟨j + 1, st', _, by omega, by go_num, HNx.out, HGo.out⟩, by simp [intOf]; omega⟩
    · obtain rfl : j = L.length := by omega
      have hlt' : ¬ (L.length : Int) < (L.length : Int) := by omega
      have hgo2 := hgo []
      rw [List.take_length, List.append_nil] at hgo2
      have HG2 := Lib.hid (show parseL s = if st.whole then .inr (st.n, st.arcs) else .inl (L.length + 1) by unfold parseL; rw [HLi.out, hgo2]; rfl)
      obtain ⟨n, arcs, begun, many⟩ := st
      have b0 := hI.rt.cell 0
      have b1 := hI.rt.cell 1
      have b2 := hI.rt.cell 2
      have b3 := hI.rt.cell 3
      have m0 := hI.rm.cell 0
      have m1 := hI.rm.cell 1
      have g0 := hI.rm.thaw 0
      have g1 := hI.rm.thaw 1
      simp only [tC, List.getElem?_toArray, List.getElem?_cons_zero, List.getElem?_cons_succ] at b0 b1 b2 b3 m0 m1
      have hr := putM_row hI.rm (.int .i64 0) (.slice none 0 0)
      have q0 := hr.cell 0
      have q1 := hr.cell 1
      have hr2 := putM_row hI.rm (.int .i64 (n : Nat)) (.slice va arcs.length vc)
      have p0 := hr2.cell 0
      have p1 := hr2.cell 1
      simp only [List.getElem?_toArray, List.getElem?_cons_zero, List.getElem?_cons_succ] at q0 q1 p0 p1
      have HBf := Lib.hid (show ∀ x y, Below w.heap.size w (putM wr w.heap.size x y) from fun x y => (hI.below.setCell (Nat.le_refl _) _).setCell (Nat.le_refl _) _)
      have hne : (Value.slice va arcs.length vc).ownBlock ≠ some w.heap.size := fun e => by have := (hI.av.own _ e).1; have := HBt.out; omega
      have HAf := Lib.hid (show AV (putM wr w.heap.size (.int .i64 (n : Nat)) (.slice va arcs.length vc)) w.heap.size (.slice va arcs.length vc) arcs from av_mono (av_put (av_put hI.av hne) hne) (by have := HBt.out; omega))
      clear hI hgo hgo2 hr hr2 hne
      cases begun with
      | false =>
        have HW := Lib.hid (show parseL s = .inl (L.length + 1) by rw [HG2.out]; simp [Rst.whole])
        clear p0 p1
        go_wp2
        refine bodyPost_ret (v := .tuple #[mV 0 none 0 0, .int .i64 12, .int .i64 ((L.length : Int) + 1)]) (by simp [results, Tryd.results12, go_sem, q0, q1]) rfl ⟨HBf.out _ _, .inl ⟨L.length + 1, ?_, by simp⟩⟩
        rw [HP.out, HW.out]
      | true =>
        by_cases hq : arcs.length = many
        · subst hq
          have HW := Lib.hid (show parseL s = .inr (n, arcs) by rw [HG2.out]; simp [Rst.whole])
          clear q0 q1
          go_wp2
          refine bodyPost_ret (v := .tuple #[.agg #[.int .i64 (n : Nat), .slice va arcs.length vc], .int .i64 0, .int .i64 0]) (by simp [results, Tryd.results12, go_sem, p0, p1]) rfl ⟨HBf.out _ _, .inr ⟨n, arcs, _, ?_, rfl, HAf.out⟩⟩
          rw [HP.out, HW.out]
        · have HW := Lib.hid (show parseL s = .inl (L.length + 1) by rw [HG2.out]; simp [Rst.whole, hq])
          have hq2 : ¬ (arcs.length : Int) = (many : Int) := by omega
          clear p0 p1 hq
          go_wp2
          refine bodyPost_ret (v := .tuple #[mV 0 none 0 0, .int .i64 12, .int .i64 ((L.length : Int) + 1)]) (by simp [results, Tryd.results12, go_sem, q0, q1]) rfl ⟨HBf.out _ _, .inl ⟨L.length + 1, ?_, by simp⟩⟩
          rw [HP.out, HW.out]
/-- The document's Parse. -/
theorem rparse_any (s : Tx) (h9 : s.length ≤ 2000) (w : World) : Calls Tryd.prog 12 #[txV s] w (ParseP w (parseL s)) := by
  rcases hs : s with _ | ⟨y, t⟩
  · exact rparse_nil w
  · rw [← hs]
    have hk : s.length = t.length + 1 := by rw [hs]; rfl
    by_cases he : ∃ m, s = m ++ [10]
    · obtain ⟨m, hm⟩ := he
      exact rparse_feed s m t.length h9 hk hm w
    · exact rparse_other s t.length h9 hk he w
end Go.Proofs.YtdjfmmfggkkbaaaDoor
