/- Layer 10, the reference: Chain, Of. -/
import Derived.Test.YtplbpddkmhmjiaaDoorMk
import Derived.Test.YtplbpddkmhmjiaaDoorC9b
namespace Go.Proofs.YtplbpddkmhmjiaaDoor
open Go.RowKit
set_option maxRecDepth 100000
set_option maxHeartbeats 4000000
end Go.Proofs.YtplbpddkmhmjiaaDoor
