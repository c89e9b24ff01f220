/- Layer 4, the reference: Keep. -/
import Derived.Test.YthlhjjgmncbplaaDoorC4
namespace Go.Proofs.YthlhjjgmncbplaaDoor
open Go.RowKit
set_option maxRecDepth 100000
set_option maxHeartbeats 1000000
/-- What Keep answers. -/
def keepL (n : Int) : List Sp := if n = 0 then [] else [(1, n, ⟨#[]⟩)]
def KeepR (w : World) (n : Int) (e : Ending) (w' : World) : Prop :=
  Ext w w' ∧ (((n < 0 ∨ 1048576 < n) ∧ e = .returned (.tuple #[.slice none 0 0, .int .i64 2])) ∨
    (0 ≤ n ∧ n ≤ 1048576 ∧ ∃ v, e = .returned (.tuple #[v, .int .i64 0]) ∧ Rd w' 3 v (keepL n).length (spCells (keepL n))))
end Go.Proofs.YthlhjjgmncbplaaDoor
