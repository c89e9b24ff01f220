/- Layer 1, the reference: Cut. -/
import Derived.Test.YthlhjjgmncbplaaDoorC1d
namespace Go.Proofs.YthlhjjgmncbplaaDoor
open Go.RowKit
set_option maxRecDepth 100000
set_option maxHeartbeats 1000000

theorem startsV_at (cs : List Nat) (i : Nat) (h : i ≤ cs.length) : (startsV cs)[i]? = some (Value.int .i64 ((encs (cs.take i)).length : Nat)) := by
  unfold startsV startsL
  rw [List.map_map, List.getElem?_map, List.getElem?_range (by omega)]
  rfl
theorem encs_take_drop (cs : List Nat) (i : Nat) : encs cs = encs (cs.take i) ++ encs (cs.drop i) := by rw [← encs_append, List.take_append_drop]
theorem encs_cut (cs : List Nat) (i j : Nat) (h : i ≤ j) :
    ((encs cs).drop (encs (cs.take i)).length).take ((encs (cs.take j)).length - (encs (cs.take i)).length) = encs ((cs.take j).drop i) := by
  have e1 : cs.take j = cs.take i ++ (cs.take j).drop i := by
    rw [show cs.take i = (cs.take j).take i from by rw [List.take_take, Nat.min_eq_left h]]; exact (List.take_append_drop i (cs.take j)).symm
  have e2 : encs cs = encs (cs.take i) ++ (encs ((cs.take j).drop i) ++ encs (cs.drop j)) := by
    rw [encs_take_drop cs j, e1, encs_append, List.append_assoc]
    congr 2
    rw [← e1]
  have e3 : (encs (cs.take j)).length - (encs (cs.take i)).length = (encs ((cs.take j).drop i)).length := by
    conv => lhs; rw [e1, encs_append, List.length_append]
    omega
  rw [e3]
  conv => lhs; rw [e2]
  rw [List.drop_left, List.take_left]
theorem encs_take_le (cs : List Nat) (i j : Nat) (h : i ≤ j) : (encs (cs.take i)).length ≤ (encs (cs.take j)).length := by
  have e : cs.take i = (cs.take j).take i := by rw [List.take_take, Nat.min_eq_left h]
  have := congrArg List.length (encs_take_drop (cs.take j) i)
  rw [List.length_append, ← e] at this
  omega

def cutV (r : List UInt8 × Int) : Value := .tuple #[.string (mkS r.1), .int .i64 r.2]

end Go.Proofs.YthlhjjgmncbplaaDoor
