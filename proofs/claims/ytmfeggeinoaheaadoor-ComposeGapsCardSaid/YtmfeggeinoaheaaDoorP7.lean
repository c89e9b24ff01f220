/- Layer 7, the program: none, All. -/
import Derived.Test.YtmfeggeinoaheaaDoorM7
import Derived.Test.YtmfeggeinoaheaaDoorC6
import Derived.Test.YtmfeggeinoaheaaDoorP4
import Derived.Test.YtmfeggeinoaheaaDoorC1f
import Derived.Test.YtmfeggeinoaheaaDoorC1g
import Derived.Test.YtmfeggeinoaheaaDoorBk
import Derived.Test.YtmfeggeinoaheaaDoorP5
import Derived.Test.YtmfeggeinoaheaaDoorBs
import Derived.Test.YtmfeggeinoaheaaDoorC7
namespace Go.Proofs.YtmfeggeinoaheaaDoor
open Go.RowKit
set_option maxRecDepth 100000
set_option maxHeartbeats 4000000
theorem sumT_one (l : List Sp) : ∀ s ∈ l, s.2.2.size ≤ sumT l := by
  induction l with
  | nil => intro s hs; cases hs
  | cons a t ih =>
    intro s hs
    have e : sumT (a :: t) = a.2.2.size + sumT t := rfl
    rcases List.mem_cons.1 hs with rfl | hs
    · omega
    · have := ih s hs; omega
end Go.Proofs.YtmfeggeinoaheaaDoor
namespace Go.Proofs.YtmfeggeinoaheaaDoor
open Go.RowKit
set_option maxRecDepth 100000
set_option maxHeartbeats 4000000
end Go.Proofs.YtmfeggeinoaheaaDoor
