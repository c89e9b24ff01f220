/-
  No cell of these rows narrows 'for every input' (looked for: loops, veiled, ifaces, maps, wideKeys, modest, calm, conditions, laid).
  DERIVED. THE GIVEN ROWS OF THIS SEAT. 6 by the template 'for every input the law returns true; each argument reads behind the call as it read before'; 0 by the template 'total and deterministic' (their statements: YtpiklijbdpdjcaaTotals.lean).
  GIVEN WITH THE SEED: the statements are not yours to turn. If you find one false, say at which input.
  Laid BY PROGRAM, IN A SANDBOX (cutbox-rows.mjs): the forced cells as the released guide's own fill.sh prints them over the translation 2f7146f50a8afaf6… (all of the seat's roots in one cut). By AI agents, Wed Nov 11 2026. No macro, syntax, notation, axiom, sorry.
-/
import Derived.Test.YtpiklijbdpdjcaaChecked
import GoSem.Claim
import GoSem.ClaimJoined
import GoSem.ClaimMapViews
import Derived.JoinedTies
import Derived.KernelRfl
namespace Go.Proofs.Ytpiklijbdpdjcaa
/- THE CELL 'sum', in the pinned program and in every row, IS THE sha256 OF THE DUMP (.gsa) THAT YtpiklijbdpdjcaaProg.lean LOADS. Nothing in Lean hashes anything: it is a label: what it is worth is what the hold of that sum in a sandbox is worth. -/
noncomputable def Try.pinned : Pinned := { name := "ytpiklijbdpdjcaa", sum := "2f7146f50a8afaf6f01df62eca3eaad9cc744fa0f7f652e8099473f72e1b1670", checked := Try.checked }
namespace Rows
def none {H : Type} : Left H := { results := [], args := [] }

/-- 'epitomelaw01.PointsAll': WHATEVER THE INPUT: true; the input reads as it did. -/
def pointsAllSpec : ChangeSpec := { name := "pointsAll", fn := fun _ => fun
  | [d1, d2, d3] => { results := [.lit (.bool true)], args := [d1, d2, d3] }
  | _ => none }
def pointsAllRow : OpenClaim := { program := "ytpiklijbdpdjcaa", sum := "2f7146f50a8afaf6f01df62eca3eaad9cc744fa0f7f652e8099473f72e1b1670", func := "epitome/epitomelaw01.PointsAll", spec := "pointsAll", apart := false }
def PointsAllSaid : Prop := pointsAllRow.holds Try.pinned (OpenSpec.ofChange pointsAllSpec)

/-- ITS FALSE NEIGHBOUR: 'it returns false'. Refute it at one input. -/
def pointsAllWrong : ChangeSpec := { name := "pointsAll", fn := fun _ => fun
  | [d1, d2, d3] => { results := [.lit (.bool false)], args := [d1, d2, d3] }
  | _ => none }
def PointsAllWrongFalsely : Prop := pointsAllRow.holds Try.pinned (OpenSpec.ofChange pointsAllWrong)

/-- 'epitomelaw01.PointsOf': WHATEVER THE INPUT: true; the input reads as it did. -/
def pointsOfSpec : ChangeSpec := { name := "pointsOf", fn := fun _ => fun
  | [d] => { results := [.lit (.bool true)], args := [d] }
  | _ => none }
def pointsOfRow : OpenClaim := { program := "ytpiklijbdpdjcaa", sum := "2f7146f50a8afaf6f01df62eca3eaad9cc744fa0f7f652e8099473f72e1b1670", func := "epitome/epitomelaw01.PointsOf", spec := "pointsOf", inPlace := ["internal/abi.NoEscape"], apart := false }
def PointsOfSaid : Prop := pointsOfRow.holds Try.pinned (OpenSpec.ofChange pointsOfSpec)

/-- ITS FALSE NEIGHBOUR: 'it returns false'. Refute it at one input. -/
def pointsOfWrong : ChangeSpec := { name := "pointsOf", fn := fun _ => fun
  | [d] => { results := [.lit (.bool false)], args := [d] }
  | _ => none }
def PointsOfWrongFalsely : Prop := pointsOfRow.holds Try.pinned (OpenSpec.ofChange pointsOfWrong)

/-- 'epitomelaw01.PointsParts': WHATEVER THE INPUT: true; the input reads as it did. -/
def pointsPartsSpec : ChangeSpec := { name := "pointsParts", fn := fun _ => fun
  | [d1, d2, d3] => { results := [.lit (.bool true)], args := [d1, d2, d3] }
  | _ => none }
def pointsPartsRow : OpenClaim := { program := "ytpiklijbdpdjcaa", sum := "2f7146f50a8afaf6f01df62eca3eaad9cc744fa0f7f652e8099473f72e1b1670", func := "epitome/epitomelaw01.PointsParts", spec := "pointsParts", apart := false }
def PointsPartsSaid : Prop := pointsPartsRow.holds Try.pinned (OpenSpec.ofChange pointsPartsSpec)

/-- ITS FALSE NEIGHBOUR: 'it returns false'. Refute it at one input. -/
def pointsPartsWrong : ChangeSpec := { name := "pointsParts", fn := fun _ => fun
  | [d1, d2, d3] => { results := [.lit (.bool false)], args := [d1, d2, d3] }
  | _ => none }
def PointsPartsWrongFalsely : Prop := pointsPartsRow.holds Try.pinned (OpenSpec.ofChange pointsPartsWrong)

/-- 'epitomelaw01.PointsJoin': WHATEVER THE INPUT: true; the input reads as it did. -/
def pointsJoinSpec : ChangeSpec := { name := "pointsJoin", fn := fun _ => fun
  | [d1, d2, d3] => { results := [.lit (.bool true)], args := [d1, d2, d3] }
  | _ => none }
def pointsJoinRow : OpenClaim := { program := "ytpiklijbdpdjcaa", sum := "2f7146f50a8afaf6f01df62eca3eaad9cc744fa0f7f652e8099473f72e1b1670", func := "epitome/epitomelaw01.PointsJoin", spec := "pointsJoin", apart := false }
def PointsJoinSaid : Prop := pointsJoinRow.holds Try.pinned (OpenSpec.ofChange pointsJoinSpec)

/-- ITS FALSE NEIGHBOUR: 'it returns false'. Refute it at one input. -/
def pointsJoinWrong : ChangeSpec := { name := "pointsJoin", fn := fun _ => fun
  | [d1, d2, d3] => { results := [.lit (.bool false)], args := [d1, d2, d3] }
  | _ => none }
def PointsJoinWrongFalsely : Prop := pointsJoinRow.holds Try.pinned (OpenSpec.ofChange pointsJoinWrong)

/-- 'epitomelaw01.PointsTwice': WHATEVER THE INPUT: true; the input reads as it did. -/
def pointsTwiceSpec : ChangeSpec := { name := "pointsTwice", fn := fun _ => fun
  | [d1, d2] => { results := [.lit (.bool true)], args := [d1, d2] }
  | _ => none }
def pointsTwiceRow : OpenClaim := { program := "ytpiklijbdpdjcaa", sum := "2f7146f50a8afaf6f01df62eca3eaad9cc744fa0f7f652e8099473f72e1b1670", func := "epitome/epitomelaw01.PointsTwice", spec := "pointsTwice", apart := false }
def PointsTwiceSaid : Prop := pointsTwiceRow.holds Try.pinned (OpenSpec.ofChange pointsTwiceSpec)

/-- ITS FALSE NEIGHBOUR: 'it returns false'. Refute it at one input. -/
def pointsTwiceWrong : ChangeSpec := { name := "pointsTwice", fn := fun _ => fun
  | [d1, d2] => { results := [.lit (.bool false)], args := [d1, d2] }
  | _ => none }
def PointsTwiceWrongFalsely : Prop := pointsTwiceRow.holds Try.pinned (OpenSpec.ofChange pointsTwiceWrong)

/-- 'epitomelaw01.PointsOne': WHATEVER THE INPUT: true; the input reads as it did. -/
def pointsOneSpec : ChangeSpec := { name := "pointsOne", fn := fun _ => fun
  | [d] => { results := [.lit (.bool true)], args := [d] }
  | _ => none }
def pointsOneRow : OpenClaim := { program := "ytpiklijbdpdjcaa", sum := "2f7146f50a8afaf6f01df62eca3eaad9cc744fa0f7f652e8099473f72e1b1670", func := "epitome/epitomelaw01.PointsOne", spec := "pointsOne", inPlace := ["internal/abi.NoEscape"], apart := false }
def PointsOneSaid : Prop := pointsOneRow.holds Try.pinned (OpenSpec.ofChange pointsOneSpec)

/-- ITS FALSE NEIGHBOUR: 'it returns false'. Refute it at one input. -/
def pointsOneWrong : ChangeSpec := { name := "pointsOne", fn := fun _ => fun
  | [d] => { results := [.lit (.bool false)], args := [d] }
  | _ => none }
def PointsOneWrongFalsely : Prop := pointsOneRow.holds Try.pinned (OpenSpec.ofChange pointsOneWrong)

/- THE SECOND FORM. 'bulk': how many values and letters a reading holds, each counted each time it is reached (what is shared counts as often as it is met; a slice's spare places count too). A statement '..UptoSaid' is the law's where the arguments, and the package variables that the reading takes, are together of bulk at most 1048576: NARROWER than '..Said'. Prove '..Said' where nothing that the law and all that it calls make is longer than what came in: it says more and counts as full. Else prove '..UptoSaid'. A law counts once. -/
mutual
def uptoBulk {H : Type} : DataW H → Nat
  | .lit (.string bytes) => bytes.length + 1
  | .lit _ => 1
  | .nil => 1
  | .ptr d => uptoBulk d + 1
  | .slice elems spare => uptoBulkAll elems + uptoBulkAll spare + 1
  | .agg parts => uptoBulkAll parts + 1
  | .iface _ d => uptoBulk d + 1
  | .map entries => uptoBulkEntries entries + 1
  | .held _ => 1
def uptoBulkAll {H : Type} : List (DataW H) → Nat
  | [] => 0
  | d :: r => uptoBulk d + uptoBulkAll r
def uptoBulkEntries {H : Type} : List (Lit × DataW H) → Nat
  | [] => 0
  | x :: r => uptoBulkEntry x + uptoBulkEntries r
def uptoBulkEntry {H : Type} : Lit × DataW H → Nat
  | (.string bytes, d) => bytes.length + uptoBulk d + 1
  | (_, d) => uptoBulk d + 1
 end
def uptoSmall : (H : Type) → List (DataW H) → Bool := fun _ ds => decide (uptoBulkAll ds ≤ 1048576)
def OpenSpec.upto (s : _root_.Go.ChangeSpec) : _root_.Go.OpenSpec := { _root_.Go.OpenSpec.ofChange s with cond := some uptoSmall }

/-- 'epitomelaw01.PointsAll', WHERE WHAT IT READS IS OF BULK AT MOST 1048576: true; the input reads as it did. -/
def pointsAllUptoRow : OpenClaim := { program := "ytpiklijbdpdjcaa", sum := "2f7146f50a8afaf6f01df62eca3eaad9cc744fa0f7f652e8099473f72e1b1670", func := "epitome/epitomelaw01.PointsAll", spec := "pointsAll", apart := false, narrowed := true }
def PointsAllUptoSaid : Prop := pointsAllUptoRow.holds Try.pinned (OpenSpec.upto pointsAllSpec)

/-- 'epitomelaw01.PointsOf', WHERE WHAT IT READS IS OF BULK AT MOST 1048576: true; the input reads as it did. -/
def pointsOfUptoRow : OpenClaim := { program := "ytpiklijbdpdjcaa", sum := "2f7146f50a8afaf6f01df62eca3eaad9cc744fa0f7f652e8099473f72e1b1670", func := "epitome/epitomelaw01.PointsOf", spec := "pointsOf", inPlace := ["internal/abi.NoEscape"], apart := false, narrowed := true }
def PointsOfUptoSaid : Prop := pointsOfUptoRow.holds Try.pinned (OpenSpec.upto pointsOfSpec)

/-- 'epitomelaw01.PointsParts', WHERE WHAT IT READS IS OF BULK AT MOST 1048576: true; the input reads as it did. -/
def pointsPartsUptoRow : OpenClaim := { program := "ytpiklijbdpdjcaa", sum := "2f7146f50a8afaf6f01df62eca3eaad9cc744fa0f7f652e8099473f72e1b1670", func := "epitome/epitomelaw01.PointsParts", spec := "pointsParts", apart := false, narrowed := true }
def PointsPartsUptoSaid : Prop := pointsPartsUptoRow.holds Try.pinned (OpenSpec.upto pointsPartsSpec)

/-- 'epitomelaw01.PointsJoin', WHERE WHAT IT READS IS OF BULK AT MOST 1048576: true; the input reads as it did. -/
def pointsJoinUptoRow : OpenClaim := { program := "ytpiklijbdpdjcaa", sum := "2f7146f50a8afaf6f01df62eca3eaad9cc744fa0f7f652e8099473f72e1b1670", func := "epitome/epitomelaw01.PointsJoin", spec := "pointsJoin", apart := false, narrowed := true }
def PointsJoinUptoSaid : Prop := pointsJoinUptoRow.holds Try.pinned (OpenSpec.upto pointsJoinSpec)

/-- 'epitomelaw01.PointsTwice', WHERE WHAT IT READS IS OF BULK AT MOST 1048576: true; the input reads as it did. -/
def pointsTwiceUptoRow : OpenClaim := { program := "ytpiklijbdpdjcaa", sum := "2f7146f50a8afaf6f01df62eca3eaad9cc744fa0f7f652e8099473f72e1b1670", func := "epitome/epitomelaw01.PointsTwice", spec := "pointsTwice", apart := false, narrowed := true }
def PointsTwiceUptoSaid : Prop := pointsTwiceUptoRow.holds Try.pinned (OpenSpec.upto pointsTwiceSpec)

/-- 'epitomelaw01.PointsOne', WHERE WHAT IT READS IS OF BULK AT MOST 1048576: true; the input reads as it did. -/
def pointsOneUptoRow : OpenClaim := { program := "ytpiklijbdpdjcaa", sum := "2f7146f50a8afaf6f01df62eca3eaad9cc744fa0f7f652e8099473f72e1b1670", func := "epitome/epitomelaw01.PointsOne", spec := "pointsOne", inPlace := ["internal/abi.NoEscape"], apart := false, narrowed := true }
def PointsOneUptoSaid : Prop := pointsOneUptoRow.holds Try.pinned (OpenSpec.upto pointsOneSpec)

end Rows
end Go.Proofs.Ytpiklijbdpdjcaa
