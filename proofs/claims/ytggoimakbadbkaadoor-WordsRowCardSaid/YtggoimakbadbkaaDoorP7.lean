/- Layer 7, the program: none, All. -/
import Derived.Test.YtggoimakbadbkaaDoorM7
import Derived.Test.YtggoimakbadbkaaDoorC6
import Derived.Test.YtggoimakbadbkaaDoorP4
import Derived.Test.YtggoimakbadbkaaDoorC1f
import Derived.Test.YtggoimakbadbkaaDoorBk
import Derived.Test.YtggoimakbadbkaaDoorP5
import Derived.Test.YtggoimakbadbkaaDoorBs
import Derived.Test.YtggoimakbadbkaaDoorC7
namespace Go.Proofs.YtggoimakbadbkaaDoor
open Go.RowKit
set_option maxRecDepth 100000
set_option maxHeartbeats 4000000
theorem sumT_one (l : List Sp) : ∀ s ∈ l, s.2.2.size ≤ sumT l := by
  induction l with
  | nil => intro s hs; cases hs
  | cons a t ih =>
    intro s hs
    have e : sumT (a :: t) = a.2.2.size + sumT t := rfl
    rcases List.mem_cons.1 hs with rfl | hs
    · omega
    · have := ih s hs; omega
end Go.Proofs.YtggoimakbadbkaaDoor
namespace Go.Proofs.YtggoimakbadbkaaDoor
open Go.RowKit
set_option maxRecDepth 100000
set_option maxHeartbeats 4000000
end Go.Proofs.YtggoimakbadbkaaDoor
