/- Layer 1, the program: offset, Cut. -/
import Derived.Test.YtplbpddkmhmjiaaDoorC1f
namespace Go.Proofs.YtplbpddkmhmjiaaDoor
open Go.RowKit
set_option maxRecDepth 100000
set_option maxHeartbeats 1000000

theorem encs_take_succ (cs : List Nat) (i : Nat) (h : i < cs.length) : encs (cs.take (i + 1)) = encs (cs.take i) ++ enc1 cs[i] := by
  rw [List.take_succ_eq_append_getElem h, encs_append, encs_single]

end Go.Proofs.YtplbpddkmhmjiaaDoor
