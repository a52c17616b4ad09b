/- Walk: SameInts, of the same numbers. -/
import Derived.Test.YtejmcplikhglbaaCodecE
import Derived.Test.YtejmcplikhglbaaCodecLawB
import Derived.WalkSmall
namespace Go.Proofs.Ytejmcplikhglbaa
open Go.RowKit

theorem sameInts_any (a b : Option Addr) (l : List (BitVec 64)) (c d : Nat) (w : World) (hA : Nums w a l) (hB : Nums w b l) (hl : l.length ≤ 1000000000) :
    Calls Try.prog 22 #[.slice a l.length c, .slice b l.length d] w fun e w' => e = .returned (.bool true) ∧ Below w.heap.size w w' := by
  have HA := Lib.hid hA
  have HB := Lib.hid hB
  clear hA hB
  go_enter Try.func22, Try.ntmps22
  go_wp2
  go_loopw [5] (fun i wr => ∃ k : Nat, k ≤ l.length ∧ i = .int .i64 k ∧ Below w.heap.size w wr) (fun i _ => l.length - (intOf i).toNat)
  case atStart => exact ⟨0, by omega, rfl, Below.refl _ _⟩
  case round =>
    obtain ⟨k, hk, rfl, hb⟩ := hrel
    by_cases hlt : k < l.length
    · obtain ⟨b1, o1, rfl, _, hc1⟩ := (HA.out.under hb).at_ (i := k) hlt
      obtain ⟨b2, o2, rfl, _, hc2⟩ := (HB.out.under hb).at_ (i := k) hlt
      unfold num64 at hc1 hc2
      generalize l[k]'hlt = x at *
      have hlt' : (k : Int) < (l.length : Int) := by omega
      have HX := Lib.hid hb
      clear hb
      go_wp2
      go_quiet (fail)
      go_wp2
      go_roundw
      case rel => exact ⟨k + 1, by omega, by go_num, below_drewN HX.out _⟩
      case measure => simp [intOf]; omega
    · obtain rfl : k = l.length := by omega
      go_wp2
      go_ret
      exact ⟨rfl, hb⟩
theorem sameInts_at (a b : Option Addr) (l : List (BitVec 64)) (n m c d : Nat) (w : World) (hA : Nums w a l) (hB : Nums w b l) (hn : l.length = n) (hm : l.length = m) (hl : l.length ≤ 1000000000) :
    Calls Try.prog 22 #[.slice a n c, .slice b m d] w fun e w' => e = .returned (.bool true) ∧ Below w.heap.size w w' := by
  subst hn
  subst hm
  exact sameInts_any a b l c d w hA hB hl
end Go.Proofs.Ytejmcplikhglbaa
