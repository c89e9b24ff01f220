/- Layer 1, the reference: Starts. -/
import Derived.Test.YthlhjjgmncbplaaC1b
import Derived.Test.YthlhjjgmncbplaaBb
namespace Go.Proofs.Ythlhjjgmncbplaa
open Go.RowKit
set_option maxRecDepth 100000
set_option maxHeartbeats 1000000

/-- The places at which code points begin, and the end. -/
def startsL (cs : List Nat) : List Nat := (List.range (cs.length + 1)).map fun i => (encs (cs.take i)).length
def startsV (cs : List Nat) : List Value := (startsL cs).map fun (i : Nat) => Value.int .i64 i
theorem startsL_length (cs : List Nat) : (startsL cs).length = cs.length + 1 := by simp [startsL]
theorem startsV_length (cs : List Nat) : (startsV cs).length = cs.length + 1 := by simp [startsV, startsL_length]
theorem startsL_snoc (cs : List Nat) (c : Nat) : startsL (cs ++ [c]) = startsL cs ++ [(encs (cs ++ [c])).length] := by
  unfold startsL
  rw [List.length_append, List.length_singleton, List.range_succ, List.map_append]
  congr 1
  · apply List.map_congr_left
    intro i hi
    rw [List.mem_range] at hi
    rw [List.take_append_of_le_length (by omega)]
  · simp only [List.map_cons, List.map_nil]
    rw [List.take_of_length_le (by simp)]
theorem startsV_snoc (cs : List Nat) (c : Nat) : startsV (cs ++ [c]) = startsV cs ++ [Value.int .i64 ((encs (cs ++ [c])).length : Nat)] := by
  simp [startsV, startsL_snoc]

def StartsR (w : World) (l : List UInt8) (e : Ending) (w' : World) : Prop :=
  Ext w w' ∧ ((dec l = none ∧ e = .returned (.tuple #[.slice none 0 0, .bool false])) ∨
    ∃ cs v, dec l = some cs ∧ e = .returned (.tuple #[v, .bool true]) ∧ Own w' w.heap.size 3 1 v (cs.length + 1) (startsV cs))

theorem info_int : (Try.prog.info? 3).map (fun i => (i.zero, i.size, i.bytes)) = some (some (.int .i64 0), 1, 8) := by kernel_rfl

end Go.Proofs.Ythlhjjgmncbplaa
