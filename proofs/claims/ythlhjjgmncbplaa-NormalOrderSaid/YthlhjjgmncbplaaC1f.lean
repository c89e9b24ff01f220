/- Layer 1, the program: Count, Valid. -/
import Derived.Test.YthlhjjgmncbplaaC1e
import Derived.Test.YthlhjjgmncbplaaShelf
namespace Go.Proofs.Ythlhjjgmncbplaa
open Go.RowKit
set_option maxRecDepth 100000
set_option maxHeartbeats 1000000

theorem hasPrefix_iff (a b : List UInt8) : Lib.hasPrefix a b = decide (b <+: a) := by
  unfold Lib.hasPrefix
  rw [Bool.eq_iff_iff, List.isPrefixOf_iff_prefix, decide_eq_true_eq]

end Go.Proofs.Ythlhjjgmncbplaa
