/- Layer 4, the statements' own functions: shown, few. -/
import Derived.Test.YtggoimakbadbkaaDoorP4
import Derived.Test.YtggoimakbadbkaaDoorBa
import Derived.Test.YtggoimakbadbkaaDoorFr
namespace Go.Proofs.YtggoimakbadbkaaDoor
open Go.RowKit
set_option maxRecDepth 100000
set_option maxHeartbeats 1000000
end Go.Proofs.YtggoimakbadbkaaDoor
