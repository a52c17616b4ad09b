/- The library's table of powers of ten, as the rows list it. -/
import Derived.Test.YtdjfmmfggkkbaaaDoorRows
import Derived.Test.YtdjfmmfggkkbaaaDoorGrQ
import Derived.Lib.LaidTab
import Derived.Stop.LaidErr
import Derived.MakeChecks
namespace Go.Proofs.YtdjfmmfggkkbaaaDoor
open Go.RowKit Grm

theorem tab_data : (Rows.laid_internal_strconv_uint64pow10 : DataW Unit) = Lib.tabData .u64 Lib.pow10Tab := by kernel_rfl
theorem tab_of_laid {W : World} (h : laidMetH Tryd.prog Rows.grPrintsRow.laid W) : TabW W := by
  rw [MakeChecks.laidMetH_plain _ _ _ (by kernel_rfl)] at h
  have h2 : laidMet Tryd.prog (("internal/strconv.uint64pow10", Lib.tabData .u64 Lib.pow10Tab) :: [("unicode/utf8.acceptRanges", Rows.laid_unicode_utf8_acceptRanges), ("unicode/utf8.first", Rows.laid_unicode_utf8_first)]) W := by
    rw [← tab_data]
    exact laidMet.tail (laidMet.tail h)
  exact Lib.tabIs_of_head (g := (Tryd.prog.globalNamed "internal/strconv.uint64pow10").getD 0) (t := 108) (e := 95) (n := 20) (by kernel_rfl) (by kernel_rfl) Tryd.underlying108 Tryd.underlying95 (by kernel_rfl) (by kernel_rfl) h2
end Go.Proofs.YtdjfmmfggkkbaaaDoor
