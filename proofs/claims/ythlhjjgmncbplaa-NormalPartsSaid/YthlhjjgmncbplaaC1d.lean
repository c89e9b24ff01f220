/- Layer 1, the reference: Valid, Count, Cut. -/
import Derived.Test.YthlhjjgmncbplaaC1c
import Derived.Deep.QuietTactic
import Derived.BigQuiet
namespace Go.Proofs.Ythlhjjgmncbplaa
open Go.RowKit
set_option maxRecDepth 100000
set_option maxHeartbeats 1000000

def cntF (l : List UInt8) : Int := match dec l with | none => -1 | some cs => (cs.length : Int)
def cutF (l : List UInt8) (a b : Int) : List UInt8 × Int :=
  match dec l with
  | none => ([], 3)
  | some cs => if 0 ≤ a ∧ a ≤ b ∧ b ≤ cs.length then (encs ((cs.take b.toNat).drop a.toNat), 0) else ([], 6)

end Go.Proofs.Ythlhjjgmncbplaa
