/- Layer 7, the program: none, All. -/
import Derived.Test.YtplbpddkmhmjiaaDoorM7
import Derived.Test.YtplbpddkmhmjiaaDoorC6
import Derived.Test.YtplbpddkmhmjiaaDoorP4
import Derived.Test.YtplbpddkmhmjiaaDoorC1f
import Derived.Test.YtplbpddkmhmjiaaDoorC1g
import Derived.Test.YtplbpddkmhmjiaaDoorBk
import Derived.Test.YtplbpddkmhmjiaaDoorP5
import Derived.Test.YtplbpddkmhmjiaaDoorBs
import Derived.Test.YtplbpddkmhmjiaaDoorC7
namespace Go.Proofs.YtplbpddkmhmjiaaDoor
open Go.RowKit
set_option maxRecDepth 100000
set_option maxHeartbeats 4000000
theorem sumT_one (l : List Sp) : ∀ s ∈ l, s.2.2.size ≤ sumT l := by
  induction l with
  | nil => intro s hs; cases hs
  | cons a t ih =>
    intro s hs
    have e : sumT (a :: t) = a.2.2.size + sumT t := rfl
    rcases List.mem_cons.1 hs with rfl | hs
    · omega
    · have := ih s hs; omega
end Go.Proofs.YtplbpddkmhmjiaaDoor
namespace Go.Proofs.YtplbpddkmhmjiaaDoor
open Go.RowKit
set_option maxRecDepth 100000
set_option maxHeartbeats 4000000
end Go.Proofs.YtplbpddkmhmjiaaDoor
