/- Layer 4, the statements' own functions: shown, few. -/
import Derived.Test.YtmfeggeinoaheaaDoorP4
import Derived.Test.YtmfeggeinoaheaaDoorBa
import Derived.Test.YtmfeggeinoaheaaDoorFr
namespace Go.Proofs.YtmfeggeinoaheaaDoor
open Go.RowKit
set_option maxRecDepth 100000
set_option maxHeartbeats 1000000
end Go.Proofs.YtmfeggeinoaheaaDoor
