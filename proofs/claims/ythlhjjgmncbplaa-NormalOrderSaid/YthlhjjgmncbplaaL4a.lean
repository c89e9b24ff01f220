/- Layer 4, the statements' own functions: shown, few. -/
import Derived.Test.YthlhjjgmncbplaaP4
import Derived.Test.YthlhjjgmncbplaaBe
import Derived.Test.YthlhjjgmncbplaaFr
namespace Go.Proofs.Ythlhjjgmncbplaa
open Go.RowKit
set_option maxRecDepth 100000
set_option maxHeartbeats 1000000
end Go.Proofs.Ythlhjjgmncbplaa
