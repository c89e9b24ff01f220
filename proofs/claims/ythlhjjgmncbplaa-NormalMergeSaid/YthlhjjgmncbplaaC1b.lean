/- Layer 1, the reference: first. -/
import Derived.Test.YthlhjjgmncbplaaC1a
namespace Go.Proofs.Ythlhjjgmncbplaa
open Go.RowKit
set_option maxRecDepth 100000
set_option maxHeartbeats 1000000

theorem contF_next (l : List UInt8) (n0 j : Nat) (h : nth l (j + 1) / 64 = 2) : ((contF l n0 (j + 1) : Nat) : Int) = (contF l n0 j : Int) * 64 + (nth l (j + 1) : Int) - 128 := by
  show ((contF l n0 j * 64 + (nth l (j + 1) - 128) : Nat) : Int) = _
  omega
end Go.Proofs.Ythlhjjgmncbplaa
