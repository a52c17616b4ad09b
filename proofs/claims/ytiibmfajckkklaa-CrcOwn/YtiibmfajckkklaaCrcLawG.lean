/- Walk of the law CrcOwn. -/
import Derived.Test.YtiibmfajckkklaaCrcLawF
import Derived.Test.YtiibmfajckkklaaBytes3
namespace Go.Proofs.Ytiibmfajckkklaa
open Go.RowKit

theorem own_big (a : Option Addr) (n c : Nat) (w : World) (h : 1000 < n) :
    Calls Try.prog 10 #[.slice a n c] w fun e w' => e = .returned (.bool true) ∧ Below w.heap.size w w' := by
  have h2 : (1000 : Int) < (n : Int) := by omega
  go_enter Try.func10, Try.ntmps10
  go_wp2_with fail
  refine (known_any _).mono ?_
  rintro e w8 ⟨rfl, hb8⟩
  go_wp2
  go_ret
  exact ⟨rfl, hb8⟩

/-- A row is a row of bytes of that length, whatever they are. -/
def Room (w : World) (g n : Nat) : Prop := ∃ cs, Row w g 5 cs ∧ cs.size = n
theorem Room.cell {w : World} {g n i : Nat} (h : Room w g n) (hi : i < n) : ∃ v, w.cell? ⟨g, i, none⟩ = some v := by
  obtain ⟨cs, hr, hs⟩ := h
  exact ⟨_, by rw [hr.cell]; exact Array.getElem?_eq_getElem (by omega)⟩
theorem Room.thaw {w : World} {g n : Nat} (h : Room w g n) (i : Nat) : w.frozen? ⟨g, i, none⟩ = false := by
  obtain ⟨cs, hr, _⟩ := h
  exact hr.thaw i
theorem Room.put {w : World} {g n : Nat} (h : Room w g n) (i : Nat) (v : Value) : Room (w.setCell ⟨g, i, none⟩ v) g n := by
  obtain ⟨cs, hr, hs⟩ := h
  exact ⟨_, hr.put i v, by simpa using hs⟩
theorem lent_at (a : Option Addr) (l : List (BitVec 8)) (n c : Nat) (w : World) (hB : Bytes w a l) (hn : l.length = n) (hl : l.length ≤ 1000000000) :
    Calls Try.prog 24 #[.slice a n c] w fun e w' => ∃ g cap, e = .returned (.slice (some ⟨g, 0, none⟩) n cap) ∧ w.heap.size ≤ g ∧ Lends w' g cap l ∧ Below w.heap.size w w' := by
  subst hn
  exact lent_any a l c w hB hl
theorem copy_at (a : Option Addr) (l : List (BitVec 8)) (n c : Nat) (w : World) (hB : Bytes w a l) (hn : l.length = n) (hl : l.length ≤ 1000000000) :
    Calls Try.prog 23 #[.slice a n c] w fun e w' => ∃ v, e = .returned v ∧ Owns w' w.heap.size v l ∧ Below w.heap.size w w' := by
  subst hn
  exact copy_any a l c w hB hl
theorem whole_at (g cap : Nat) (b : Option Addr) (l : List (BitVec 8)) (n m c : Nat) (w : World) (hL : Lends w g cap l) (hB : Bytes w b l) (hn : l.length = n) (hm : l.length = m) (hl : l.length ≤ 1000000000) :
    Calls Try.prog 25 #[.slice (some ⟨g, 0, none⟩) n cap, .slice b m c] w fun e w' => e = .returned (.bool true) ∧ w = w' := by
  subst hn
  subst hm
  exact whole_any g cap b l c w hL hB hl

theorem grown_put {a w : World} {g : Nat} (h : a.grownBy w (some g)) (i : Nat) (v : Value) : a.grownBy (w.setCell ⟨g, i, none⟩ v) (some g) :=
  ⟨h.os, h.tape, h.output, by simpa [World.setCell] using h.size, fun k hk hne => (Below.heap_setCell w ⟨g, i, none⟩ v k (by intro e; exact hne (by rw [e]))).trans (h.block k hk hne)⟩

set_option maxHeartbeats 1000000 in
set_option maxRecDepth 100000 in
theorem own_small (a : Option Addr) (l : List (BitVec 8)) (c : Nat) (w : World) (hB : Bytes w a l) (hl : l.length ≤ 1000) :
    Calls Try.prog 10 #[.slice a l.length c] w fun e w' => e = .returned (.bool true) ∧ Below w.heap.size w w' := by
  have HT := Lib.hid (show (U (Crc.sum l) != U (rdTo (le4 (Crc.sum l)) 4)) = false by rw [open_test _ _ (le4_length _)]; simp)
  have h2 : (l.length : Int) ≤ 1000 := by omega
  have hd : decide ((1000 : Int) < (l.length : Int)) = false := decide_eq_false (by omega)
  have HA := Lib.hid hB
  clear hB
  go_enter Try.func10, Try.ntmps10
  go_wp2_with fail
  refine (lent_any a l c w HA.out (by omega)).mono ?_
  rintro e w1 ⟨gx, cx, rfl, hgx, hLx, hb1⟩
  go_wp2_with fail
  refine (wrap_any _ l cx w1 hLx.bytes (by omega)).mono ?_
  rintro e w2 ⟨gw, rfl, hgw, hrw, hb2⟩
  go_wp2_with fail
  refine (lent_at _ (wrap l) _ _ w2 hrw.bytes (wrap_length l) (by rw [wrap_length]; omega)).mono ?_
  rintro e w3 ⟨gv, cv, rfl, hgv, hLv, hb3⟩
  go_wp2_with fail
  refine (open_good (some ⟨gv, 0, none⟩) l (le4 (Crc.sum l)) cv w3 hLv.bytes (le4_length _) (by obtain ⟨_, _, _, h, _⟩ := hLv; rw [wrap_length] at h; omega) (by omega) HT.out).mono ?_
  rintro e w4 ⟨go, rfl, hgo, hro, hb4⟩
  have xw : gx < w1.heap.size := hLx.lt
  have ww : gw < w2.heap.size := hrw.lt
  have vw : gv < w3.heap.size := hLv.lt
  have s1 := hb1.size
  have s2 := hb2.size
  have s3 := hb3.size
  have s4 := hb4.size
  have hLx4 := Lib.hid (hLx.keep ((hb4.block gx (by omega)).trans ((hb3.block gx (by omega)).trans (hb2.block gx xw))))
  have hLv4 := Lib.hid (hLv.keep (hb4.block gv vw))
  have hrw4 := Lib.hid ((hrw.under hb3 ww).under hb4 (by omega))
  have hro4 : Room w4 go l.length := ⟨_, hro, by simp [cells_length]⟩
  have hb04 := bth hb1 (bth hb2 (bth hb3 hb4))
  clear hLx hLv hrw hro hb1 hb2 hb3 hb4
  go_wp2
  go_loopw [8] (fun i wr => ∃ k : Nat, k ≤ l.length ∧ i = .int .i64 k ∧ Room wr go l.length ∧ Below go w4 wr) (fun i _ => l.length - (intOf i).toNat)
  case atStart => exact ⟨0, by omega, rfl, hro4, Below.refl _ _⟩
  case round =>
    obtain ⟨k, hk, rfl, hroom, hbk⟩ := hrel
    by_cases hlt : k < l.length
    · obtain ⟨v, hc⟩ := hroom.cell hlt
      have hf := hroom.thaw k
      have HR := Lib.hid (hroom.put k (.int .u8 7))
      have HB := Lib.hid (hbk.setCell (p := ⟨go, k, none⟩) (Nat.le_refl _) (.int .u8 7))
      clear hroom hbk hro4
      go_wp2
      go_roundw
      case rel => exact ⟨k + 1, by omega, by go_num, HR.out, HB.out⟩
      case measure => simp [intOf]; omega
    · have hLx5 := Lib.hid (hLx4.out.keep (hbk.block gx (by omega)))
      have hLv5 := Lib.hid (hLv4.out.keep (hbk.block gv (by omega)))
      have hrw5 := Lib.hid (hrw4.out.under hbk (by omega))
      have hb05 := hb04.trans (hbk.mono (by omega))
      clear hLx4 hLv4 hrw4 hb04 hbk hroom hro4
      go_wp2_with fail
      refine (copy_at _ (wrap l) _ _ _ hrw5.out.bytes (wrap_length l) (by rw [wrap_length]; omega)).mono ?_
      rintro e w6 ⟨u, rfl, hown, hb6⟩
      have hsz := hb05.size
      have hgwr : gw < wr.heap.size := hrw5.out.lt
      have hLx6 := hLx5.out.keep (hb6.block gx (by have := hLx5.out.lt; omega))
      have hLv6 := hLv5.out.keep (hb6.block gv (by have := hLv5.out.lt; omega))
      have hrw6 := hrw5.out.under hb6 (by have := hrw5.out.lt; omega)
      have hroom6 : Room w6 gw (l.length + 4) := ⟨_, hrw6, by simp [cells_length, wrap_length]⟩
      have hb06 := bth hb05 hb6
      clear hLx5 hLv5 hrw5 hb05 hrw6
      go_wp2
      have HOw := Lib.hid hown
      have HLx := Lib.hid hLx6
      have HLv := Lib.hid hLv6
      clear hown hLx6 hLv6 hb6
      obtain ⟨K0, hK0⟩ : ∃ K0, K0 = wr.heap.size := ⟨_, rfl⟩
      rw [← hK0] at HOw hgwr
      clear hK0 hsz
      clear hd
      go_loopw [10] (fun i wq => ∃ j : Nat, j ≤ l.length + 4 ∧ i = .int .i64 j ∧ Room wq gw (l.length + 4) ∧ w6.grownBy wq (some gw) ∧ Below w.heap.size w wq) (fun i _ => l.length + 4 - (intOf i).toNat)
      case atStart => exact ⟨0, by omega, rfl, hroom6, World.grownBy.refl _ _, hb06⟩
      case round =>
        obtain ⟨j, hj, rfl, hroom, hgr, hbq⟩ := hrel
        by_cases hjl : j < l.length + 4
        · obtain ⟨v, hc⟩ := hroom.cell hjl
          have hf := hroom.thaw j
          have HR := Lib.hid (hroom.put j (.int .u8 9))
          have HG := Lib.hid (grown_put hgr j (.int .u8 9))
          have HB := Lib.hid (hbq.setCell (p := ⟨gw, j, none⟩) (by show w.heap.size ≤ gw; omega) (.int .u8 9))
          have hjl' : (j : Int) < (l.length : Int) + 4 := by omega
          clear hroom hgr hbq hroom6
          go_wp2
          go_roundw
          case rel => exact ⟨j + 1, by omega, by go_num, HR.out, HG.out, HB.out⟩
          case measure => simp [intOf]; omega
        · have hjl' : (l.length : Int) + 4 ≤ (j : Int) := by omega
          have hLx7 := Lib.hid (HLx.out.keep (hgr.block gx HLx.out.lt (by simp; omega)))
          have hLv7 := Lib.hid (HLv.out.keep (hgr.block gv HLv.out.lt (by simp; omega)))
          have hown7 : Owns _ K0 u (wrap l) := World.ownsRow.kept HOw.out hgr (.inr (fun e => by have := (HOw.out.lt gw e).1; omega))
          obtain ⟨au, cu, hu, hBu, _⟩ := hown7.shape
          subst hu
          have HU := Lib.hid hBu
          clear hroom hgr hown7 hBu HLx HLv HOw hroom6 hb06
          go_wp2_with fail
          refine (whole_at gx cx a l _ _ c _ hLx7.out (HA.out.under hbq) rfl rfl (by omega)).mono ?_
          rintro e w7 ⟨rfl, rfl⟩
          go_wp2_with fail
          refine (whole_at gv cv au (wrap l) _ _ cu _ hLv7.out HU.out (wrap_length l) rfl (by rw [wrap_length]; omega)).mono ?_
          rintro e w7 ⟨rfl, rfl⟩
          go_wp2_with fail
          refine (known_any _).mono ?_
          rintro e w8 ⟨rfl, hb8⟩
          go_wp2
          go_ret
          exact ⟨rfl, bth hbq hb8⟩

theorem own_walk (a : Option Addr) (l : List (BitVec 8)) (c : Nat) (w : World) (hB : Bytes w a l) :
    Calls Try.prog 10 #[.slice a l.length c] w fun e w' => e = .returned (.bool true) ∧ Below w.heap.size w w' := by
  by_cases h : 1000 < l.length
  · exact own_big a l.length c w h
  · exact own_small a l c w hB (by omega)
end Go.Proofs.Ytiibmfajckkklaa
