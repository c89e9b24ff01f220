/-
  NARROWER THAN 'FOR EVERY INPUT', by the rows' own cells (each row's printed sentence says how): PlaceAll: laid · PlaceGaps: laid · PlaceLeast: laid · PlaceNormal: laid.
  DERIVED. THE GIVEN ROWS OF THIS SEAT. 4 by the template 'for every input the law returns true; each argument reads behind the call as it read before'; 0 by the template 'total and deterministic' (their statements: YtapkfmcbphljcaaDoorTotals.lean).
  GIVEN WITH THE SEED: the statements are not yours to turn. If you find one false, say at which input.
  Laid BY PROGRAM, IN A SANDBOX (cutbox-rows.mjs): the forced cells as the released guide's own fill.sh prints them over the translation 36c9540580f1e2d7… (all of the seat's roots in one cut). By AI agents, Wed Nov 11 2026. No macro, syntax, notation, axiom, sorry.
-/
import Derived.Test.YtapkfmcbphljcaaDoorChecked
import GoSem.Claim
import GoSem.ClaimJoined
import GoSem.ClaimMapViews
import Derived.JoinedTies
import Derived.KernelRfl
namespace Go.Proofs.YtapkfmcbphljcaaDoor
/- THE CELL 'sum', in the pinned program and in every row, IS THE sha256 OF THE DUMP (.gsa) THAT YtapkfmcbphljcaaDoorProg.lean LOADS. Nothing in Lean hashes anything: it is a label: what it is worth is what the hold of that sum in a sandbox is worth. -/
noncomputable def Tryd.pinned : Pinned := { name := "ytapkfmcbphljcaadoor", sum := "36c9540580f1e2d70b80051e694ec721b3b73fbda99f9a4b162cd29b1ff40a11", checked := Tryd.checked }
namespace Rows
def none {H : Type} : Left H := { results := [], args := [] }

/- WHAT THE LISTED PACKAGE-LEVEL VARIABLES READ AS WHEN THE CALL BEGINS. Each datum BY PROGRAM (the guide's laid-datum.mjs) off the statement by which the dump's own 'gosem.cut.vars' lays the variable. In a bare row this is a premise. The card (YtapkfmcbphljcaaDoorCards.lean) ties it to the program's text. -/
def laid_epitome_span_rules {H : Type} : DataW H := .agg [.agg [.lit (.bool false), .lit (.int .i64 0), .lit (.bool false), .lit (.bool false), .lit (.bool false)], .agg [.lit (.bool true), .lit (.int .i64 1048576), .lit (.bool true), .lit (.bool true), .lit (.bool false)], .agg [.lit (.bool true), .lit (.int .i64 0), .lit (.bool false), .lit (.bool false), .lit (.bool true)], .agg [.lit (.bool true), .lit (.int .i64 1048576), .lit (.bool true), .lit (.bool false), .lit (.bool false)]]

/-- 'epitomelaw08.PlaceAll': WHATEVER THE INPUT: true; the input reads as it did. -/
def placeAllSpec : ChangeSpec := { name := "placeAll", fn := fun _ => fun
  | [d1, d2, d3] => { results := [.lit (.bool true)], args := [d1, d2, d3] }
  | _ => none }
def placeAllRow : OpenClaim := { program := "ytapkfmcbphljcaadoor", sum := "36c9540580f1e2d70b80051e694ec721b3b73fbda99f9a4b162cd29b1ff40a11", func := "epitome/epitomelaw08.PlaceAll", spec := "placeAll", unfollowed := true, recurses := true, named := ["epitome/span.rules"], apart := false, laid := [("epitome/span.rules", laid_epitome_span_rules)] }
def PlaceAllSaid : Prop := placeAllRow.holds Tryd.pinned (OpenSpec.ofChange placeAllSpec)

/-- ITS FALSE NEIGHBOUR: 'it returns false'. Refute it at one input. -/
def placeAllWrong : ChangeSpec := { name := "placeAll", fn := fun _ => fun
  | [d1, d2, d3] => { results := [.lit (.bool false)], args := [d1, d2, d3] }
  | _ => none }
def PlaceAllWrongFalsely : Prop := placeAllRow.holds Tryd.pinned (OpenSpec.ofChange placeAllWrong)

/-- 'epitomelaw08.PlaceGaps': WHATEVER THE INPUT: true; the input reads as it did. -/
def placeGapsSpec : ChangeSpec := { name := "placeGaps", fn := fun _ => fun
  | [d1, d2] => { results := [.lit (.bool true)], args := [d1, d2] }
  | _ => none }
def placeGapsRow : OpenClaim := { program := "ytapkfmcbphljcaadoor", sum := "36c9540580f1e2d70b80051e694ec721b3b73fbda99f9a4b162cd29b1ff40a11", func := "epitome/epitomelaw08.PlaceGaps", spec := "placeGaps", inPlace := ["internal/abi.NoEscape"], unfollowed := true, recurses := true, named := ["epitome/span.rules"], apart := false, laid := [("epitome/span.rules", laid_epitome_span_rules)] }
def PlaceGapsSaid : Prop := placeGapsRow.holds Tryd.pinned (OpenSpec.ofChange placeGapsSpec)

/-- ITS FALSE NEIGHBOUR: 'it returns false'. Refute it at one input. -/
def placeGapsWrong : ChangeSpec := { name := "placeGaps", fn := fun _ => fun
  | [d1, d2] => { results := [.lit (.bool false)], args := [d1, d2] }
  | _ => none }
def PlaceGapsWrongFalsely : Prop := placeGapsRow.holds Tryd.pinned (OpenSpec.ofChange placeGapsWrong)

/-- 'epitomelaw08.PlaceLeast': WHATEVER THE INPUT: true; the input reads as it did. -/
def placeLeastSpec : ChangeSpec := { name := "placeLeast", fn := fun _ => fun
  | [d1, d2] => { results := [.lit (.bool true)], args := [d1, d2] }
  | _ => none }
def placeLeastRow : OpenClaim := { program := "ytapkfmcbphljcaadoor", sum := "36c9540580f1e2d70b80051e694ec721b3b73fbda99f9a4b162cd29b1ff40a11", func := "epitome/epitomelaw08.PlaceLeast", spec := "placeLeast", unfollowed := true, recurses := true, named := ["epitome/span.rules"], apart := false, laid := [("epitome/span.rules", laid_epitome_span_rules)] }
def PlaceLeastSaid : Prop := placeLeastRow.holds Tryd.pinned (OpenSpec.ofChange placeLeastSpec)

/-- ITS FALSE NEIGHBOUR: 'it returns false'. Refute it at one input. -/
def placeLeastWrong : ChangeSpec := { name := "placeLeast", fn := fun _ => fun
  | [d1, d2] => { results := [.lit (.bool false)], args := [d1, d2] }
  | _ => none }
def PlaceLeastWrongFalsely : Prop := placeLeastRow.holds Tryd.pinned (OpenSpec.ofChange placeLeastWrong)

/-- 'epitomelaw08.PlaceNormal': WHATEVER THE INPUT: true; the input reads as it did. -/
def placeNormalSpec : ChangeSpec := { name := "placeNormal", fn := fun _ => fun
  | [d1, d2, d3] => { results := [.lit (.bool true)], args := [d1, d2, d3] }
  | _ => none }
def placeNormalRow : OpenClaim := { program := "ytapkfmcbphljcaadoor", sum := "36c9540580f1e2d70b80051e694ec721b3b73fbda99f9a4b162cd29b1ff40a11", func := "epitome/epitomelaw08.PlaceNormal", spec := "placeNormal", inPlace := ["internal/abi.NoEscape"], unfollowed := true, recurses := true, named := ["epitome/span.rules"], apart := false, laid := [("epitome/span.rules", laid_epitome_span_rules)] }
def PlaceNormalSaid : Prop := placeNormalRow.holds Tryd.pinned (OpenSpec.ofChange placeNormalSpec)

/-- ITS FALSE NEIGHBOUR: 'it returns false'. Refute it at one input. -/
def placeNormalWrong : ChangeSpec := { name := "placeNormal", fn := fun _ => fun
  | [d1, d2, d3] => { results := [.lit (.bool false)], args := [d1, d2, d3] }
  | _ => none }
def PlaceNormalWrongFalsely : Prop := placeNormalRow.holds Tryd.pinned (OpenSpec.ofChange placeNormalWrong)

/- THE SECOND FORM. 'bulk': how many values and letters a reading holds, each counted each time it is reached (what is shared counts as often as it is met; a slice's spare places count too). A statement '..UptoSaid' is the law's where the arguments, and the package variables that the reading takes, are together of bulk at most 1048576: NARROWER than '..Said'. Prove '..Said' where nothing that the law and all that it calls make is longer than what came in: it says more and counts as full. Else prove '..UptoSaid'. A law counts once. -/
mutual
def uptoBulk {H : Type} : DataW H → Nat
  | .lit (.string bytes) => bytes.length + 1
  | .lit _ => 1
  | .nil => 1
  | .ptr d => uptoBulk d + 1
  | .slice elems spare => uptoBulkAll elems + uptoBulkAll spare + 1
  | .agg parts => uptoBulkAll parts + 1
  | .iface _ d => uptoBulk d + 1
  | .map entries => uptoBulkEntries entries + 1
  | .held _ => 1
def uptoBulkAll {H : Type} : List (DataW H) → Nat
  | [] => 0
  | d :: r => uptoBulk d + uptoBulkAll r
def uptoBulkEntries {H : Type} : List (Lit × DataW H) → Nat
  | [] => 0
  | x :: r => uptoBulkEntry x + uptoBulkEntries r
def uptoBulkEntry {H : Type} : Lit × DataW H → Nat
  | (.string bytes, d) => bytes.length + uptoBulk d + 1
  | (_, d) => uptoBulk d + 1
 end
def uptoSmall : (H : Type) → List (DataW H) → Bool := fun _ ds => decide (uptoBulkAll ds ≤ 1048576)
def OpenSpec.upto (s : _root_.Go.ChangeSpec) : _root_.Go.OpenSpec := { _root_.Go.OpenSpec.ofChange s with cond := some uptoSmall }

/-- 'epitomelaw08.PlaceAll', WHERE WHAT IT READS IS OF BULK AT MOST 1048576: true; the input reads as it did. -/
def placeAllUptoRow : OpenClaim := { program := "ytapkfmcbphljcaadoor", sum := "36c9540580f1e2d70b80051e694ec721b3b73fbda99f9a4b162cd29b1ff40a11", func := "epitome/epitomelaw08.PlaceAll", spec := "placeAll", unfollowed := true, recurses := true, named := ["epitome/span.rules"], apart := false, laid := [("epitome/span.rules", laid_epitome_span_rules)], narrowed := true }
def PlaceAllUptoSaid : Prop := placeAllUptoRow.holds Tryd.pinned (OpenSpec.upto placeAllSpec)

/-- 'epitomelaw08.PlaceGaps', WHERE WHAT IT READS IS OF BULK AT MOST 1048576: true; the input reads as it did. -/
def placeGapsUptoRow : OpenClaim := { program := "ytapkfmcbphljcaadoor", sum := "36c9540580f1e2d70b80051e694ec721b3b73fbda99f9a4b162cd29b1ff40a11", func := "epitome/epitomelaw08.PlaceGaps", spec := "placeGaps", inPlace := ["internal/abi.NoEscape"], unfollowed := true, recurses := true, named := ["epitome/span.rules"], apart := false, laid := [("epitome/span.rules", laid_epitome_span_rules)], narrowed := true }
def PlaceGapsUptoSaid : Prop := placeGapsUptoRow.holds Tryd.pinned (OpenSpec.upto placeGapsSpec)

/-- 'epitomelaw08.PlaceLeast', WHERE WHAT IT READS IS OF BULK AT MOST 1048576: true; the input reads as it did. -/
def placeLeastUptoRow : OpenClaim := { program := "ytapkfmcbphljcaadoor", sum := "36c9540580f1e2d70b80051e694ec721b3b73fbda99f9a4b162cd29b1ff40a11", func := "epitome/epitomelaw08.PlaceLeast", spec := "placeLeast", unfollowed := true, recurses := true, named := ["epitome/span.rules"], apart := false, laid := [("epitome/span.rules", laid_epitome_span_rules)], narrowed := true }
def PlaceLeastUptoSaid : Prop := placeLeastUptoRow.holds Tryd.pinned (OpenSpec.upto placeLeastSpec)

/-- 'epitomelaw08.PlaceNormal', WHERE WHAT IT READS IS OF BULK AT MOST 1048576: true; the input reads as it did. -/
def placeNormalUptoRow : OpenClaim := { program := "ytapkfmcbphljcaadoor", sum := "36c9540580f1e2d70b80051e694ec721b3b73fbda99f9a4b162cd29b1ff40a11", func := "epitome/epitomelaw08.PlaceNormal", spec := "placeNormal", inPlace := ["internal/abi.NoEscape"], unfollowed := true, recurses := true, named := ["epitome/span.rules"], apart := false, laid := [("epitome/span.rules", laid_epitome_span_rules)], narrowed := true }
def PlaceNormalUptoSaid : Prop := placeNormalUptoRow.holds Tryd.pinned (OpenSpec.upto placeNormalSpec)

end Rows
end Go.Proofs.YtapkfmcbphljcaaDoor
