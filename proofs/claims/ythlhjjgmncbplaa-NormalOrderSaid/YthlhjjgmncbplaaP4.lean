/- Layer 4, the program: In, Out, May, Keep (over the copy). -/
import Derived.Test.YthlhjjgmncbplaaC4b
import Derived.Test.YthlhjjgmncbplaaP3
namespace Go.Proofs.Ythlhjjgmncbplaa
open Go.RowKit
set_option maxRecDepth 100000
set_option maxHeartbeats 1000000
end Go.Proofs.Ythlhjjgmncbplaa
