/- Layer 3, the program: ruleOf, textMay, May, In, Out, over the table of rules. -/
import Derived.Test.YthlhjjgmncbplaaC3
import Derived.Test.YthlhjjgmncbplaaC1f
import Derived.Test.YthlhjjgmncbplaaBt
namespace Go.Proofs.Ythlhjjgmncbplaa
open Go.RowKit
set_option maxRecDepth 100000
set_option maxHeartbeats 1000000


end Go.Proofs.Ythlhjjgmncbplaa
