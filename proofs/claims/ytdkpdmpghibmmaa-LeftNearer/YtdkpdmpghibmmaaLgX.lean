/- The laws' arguments as their rows want them. -/
import Derived.Test.YtdkpdmpghibmmaaLgW
namespace Go.Proofs.Ytdkpdmpghibmmaa
open Go.RowKit Go.Maps Go.Shelf Grm Lay
theorem u8_wf {x : Int} (h : (Lit.int .u8 x).wf = true) : 0 ≤ x ∧ x < 256 := by
  simp [Lit.wf] at h
  have e1 : IntKind.u8.max = 255 := rfl
  have e2 : IntKind.u8.min = 0 := rfl
  omega
theorem u16_wf {x : Int} (h : (Lit.int .u16 x).wf = true) : 0 ≤ x ∧ x < 65536 := by
  simp [Lit.wf] at h
  have e1 : IntKind.u16.max = 65535 := rfl
  have e2 : IntKind.u16.min = 0 := rfl
  omega
theorem leftputs_row (n : Int) (a : Option Addr) (l : List Ar) (c : Nat) (x y d : Int) (w : World) (hA : Arcs w a l) (hF : ∀ y ∈ l, FitA y) (hx : (Lit.int .u8 x).wf = true) (hy : (Lit.int .u8 y).wf = true) (hd : (Lit.int .u16 d).wf = true) :
    Calls Try.prog 3 #[.int .i64 n, .slice a l.length c, .int .u8 x, .int .u8 y, .int .u16 d] w fun e w' => e = .returned (.bool true) ∧ Below w.heap.size w w' :=
  leftputs_walk n a l c x y d w hA hF (u8_wf hx) (u8_wf hy) (u16_wf hd)
end Go.Proofs.Ytdkpdmpghibmmaa
