/- graph.row's of: the edges of a place, told one by one (written by mkof.py). -/
import Derived.Test.YtdkpdmpghibmmaaGhB
import Derived.Test.YtdkpdmpghibmmaaColl
namespace Go.Proofs.Ytdkpdmpghibmmaa
open Go.RowKit Go.Shelf Grm Lay
attribute [local go_sem] Oper.semAt_some

end Go.Proofs.Ytdkpdmpghibmmaa
