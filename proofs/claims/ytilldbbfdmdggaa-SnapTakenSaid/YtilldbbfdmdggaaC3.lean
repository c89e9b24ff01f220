/- Layer 3, the reference: May, In, Out. -/
import Derived.Test.YtilldbbfdmdggaaC1a
namespace Go.Proofs.Ytilldbbfdmdggaa
open Go.RowKit
set_option maxRecDepth 100000
set_option maxHeartbeats 1000000

theorem toList_bs (t : ByteArray) : t.toList = bs t := by
  rw [ByteArray.toList_eq]; rfl
/-- A span's value: three cells. -/
def spanV (k n : Int) (t : ByteArray) : Value := .agg #[.int .i64 k, .int .i64 n, .string t]
def mayS (k n : Int) (t : ByteArray) : Int :=
  if k = 1 ∨ k = 3 then (if n < 0 ∨ 1048576 < n then 2 else if (bs t).isEmpty then 0 else 3)
  else if k = 2 then (if n = 0 then (if (dec (bs t)).isSome then 0 else 3) else 2) else 1
def inS (k n : Int) : Int := if k = 1 ∨ k = 3 then n else 0
def outS (k n : Int) (t : ByteArray) : Int := if k = 1 then n else if k = 2 then max (cntF (bs t)) 0 else 0
end Go.Proofs.Ytilldbbfdmdggaa
