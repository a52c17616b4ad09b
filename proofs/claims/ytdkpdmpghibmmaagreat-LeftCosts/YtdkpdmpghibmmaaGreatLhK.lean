/- LeftCosts, as its row wants it. -/
import Derived.Test.YtdkpdmpghibmmaaGreatLhJ
namespace Go.Proofs.YtdkpdmpghibmmaaGreat
open Go.RowKit Go.Maps Go.Shelf Grm Lay
theorem u8_wfT {x : Int} (h : (Lit.int .u8 x).wf = true) : 0 ≤ x ∧ x < 256 := by
  simp [Lit.wf] at h
  have e1 : IntKind.u8.max = 255 := rfl
  have e2 : IntKind.u8.min = 0 := rfl
  omega
theorem leftcosts_row (n : Int) (a : Option Addr) (l : List Ar) (c : Nat) (x y : Int) (w : World) (hA : Arcs w a l) (hF : ∀ y ∈ l, FitA y) (hx : (Lit.int .u8 x).wf = true) (hy : (Lit.int .u8 y).wf = true) :
    Calls Tryz.prog 6 #[.int .i64 n, .slice a l.length c, .int .u8 x, .int .u8 y] w fun e w' => e = .returned (.bool true) ∧ Below w.heap.size w w' :=
  leftcosts_walk n a l c x y w hA hF (u8_wfT hx) (u8_wfT hy)
end Go.Proofs.YtdkpdmpghibmmaaGreat
