/-
  NARROWER THAN 'FOR EVERY INPUT', by the rows' own cells (each row's printed sentence says how): ApplyAll: laid · ApplyRow: laid · ApplyNormal: laid · ApplyPlaces: laid · ApplyKeeps: laid · ApplyParts: laid.
  DERIVED. THE GIVEN ROWS OF THIS SEAT. 6 by the template 'for every input the law returns true; each argument reads behind the call as it read before'; 0 by the template 'total and deterministic' (their statements: YtngdlplcdinjdaaDoorTotals.lean).
  GIVEN WITH THE SEED: the statements are not yours to turn. If you find one false, say at which input.
  Laid BY PROGRAM, IN A SANDBOX (cutbox-rows.mjs): the forced cells as the released guide's own fill.sh prints them over the translation b6273d8964c9d21a… (all of the seat's roots in one cut). By AI agents, Wed Nov 11 2026. No macro, syntax, notation, axiom, sorry.
-/
import Derived.Test.YtngdlplcdinjdaaDoorChecked
import GoSem.Claim
import GoSem.ClaimJoined
import GoSem.ClaimMapViews
import Derived.JoinedTies
import Derived.KernelRfl
namespace Go.Proofs.YtngdlplcdinjdaaDoor
/- THE CELL 'sum', in the pinned program and in every row, IS THE sha256 OF THE DUMP (.gsa) THAT YtngdlplcdinjdaaDoorProg.lean LOADS. Nothing in Lean hashes anything: it is a label: what it is worth is what the hold of that sum in a sandbox is worth. -/
noncomputable def Tryd.pinned : Pinned := { name := "ytngdlplcdinjdaadoor", sum := "b6273d8964c9d21ae62371645052cd839a42394e9c2c3efacfe9be41049f86bb", checked := Tryd.checked }
namespace Rows
def none {H : Type} : Left H := { results := [], args := [] }

/- WHAT THE LISTED PACKAGE-LEVEL VARIABLES READ AS WHEN THE CALL BEGINS. Each datum BY PROGRAM (the guide's laid-datum.mjs) off the statement by which the dump's own 'gosem.cut.vars' lays the variable. In a bare row this is a premise. The card (YtngdlplcdinjdaaDoorCards.lean) ties it to the program's text. -/
def laid_epitome_span_rules {H : Type} : DataW H := .agg [.agg [.lit (.bool false), .lit (.int .i64 0), .lit (.bool false), .lit (.bool false), .lit (.bool false)], .agg [.lit (.bool true), .lit (.int .i64 1048576), .lit (.bool true), .lit (.bool true), .lit (.bool false)], .agg [.lit (.bool true), .lit (.int .i64 0), .lit (.bool false), .lit (.bool false), .lit (.bool true)], .agg [.lit (.bool true), .lit (.int .i64 1048576), .lit (.bool true), .lit (.bool false), .lit (.bool false)]]

/-- 'epitomelaw07.ApplyAll': WHATEVER THE INPUT: true; the input reads as it did. -/
def applyAllSpec : ChangeSpec := { name := "applyAll", fn := fun _ => fun
  | [d1, d2] => { results := [.lit (.bool true)], args := [d1, d2] }
  | _ => none }
def applyAllRow : OpenClaim := { program := "ytngdlplcdinjdaadoor", sum := "b6273d8964c9d21ae62371645052cd839a42394e9c2c3efacfe9be41049f86bb", func := "epitome/epitomelaw07.ApplyAll", spec := "applyAll", inPlace := ["internal/abi.NoEscape"], unfollowed := true, recurses := true, named := ["epitome/span.rules"], apart := false, laid := [("epitome/span.rules", laid_epitome_span_rules)] }
def ApplyAllSaid : Prop := applyAllRow.holds Tryd.pinned (OpenSpec.ofChange applyAllSpec)

/-- ITS FALSE NEIGHBOUR: 'it returns false'. Refute it at one input. -/
def applyAllWrong : ChangeSpec := { name := "applyAll", fn := fun _ => fun
  | [d1, d2] => { results := [.lit (.bool false)], args := [d1, d2] }
  | _ => none }
def ApplyAllWrongFalsely : Prop := applyAllRow.holds Tryd.pinned (OpenSpec.ofChange applyAllWrong)

/-- 'epitomelaw07.ApplyRow': WHATEVER THE INPUT: true; the input reads as it did. -/
def applyRowSpec : ChangeSpec := { name := "applyRow", fn := fun _ => fun
  | [d1, d2, d3] => { results := [.lit (.bool true)], args := [d1, d2, d3] }
  | _ => none }
def applyRowRow : OpenClaim := { program := "ytngdlplcdinjdaadoor", sum := "b6273d8964c9d21ae62371645052cd839a42394e9c2c3efacfe9be41049f86bb", func := "epitome/epitomelaw07.ApplyRow", spec := "applyRow", inPlace := ["internal/abi.NoEscape"], unfollowed := true, recurses := true, named := ["epitome/span.rules"], apart := false, laid := [("epitome/span.rules", laid_epitome_span_rules)] }
def ApplyRowSaid : Prop := applyRowRow.holds Tryd.pinned (OpenSpec.ofChange applyRowSpec)

/-- ITS FALSE NEIGHBOUR: 'it returns false'. Refute it at one input. -/
def applyRowWrong : ChangeSpec := { name := "applyRow", fn := fun _ => fun
  | [d1, d2, d3] => { results := [.lit (.bool false)], args := [d1, d2, d3] }
  | _ => none }
def ApplyRowWrongFalsely : Prop := applyRowRow.holds Tryd.pinned (OpenSpec.ofChange applyRowWrong)

/-- 'epitomelaw07.ApplyNormal': WHATEVER THE INPUT: true; the input reads as it did. -/
def applyNormalSpec : ChangeSpec := { name := "applyNormal", fn := fun _ => fun
  | [d1, d2] => { results := [.lit (.bool true)], args := [d1, d2] }
  | _ => none }
def applyNormalRow : OpenClaim := { program := "ytngdlplcdinjdaadoor", sum := "b6273d8964c9d21ae62371645052cd839a42394e9c2c3efacfe9be41049f86bb", func := "epitome/epitomelaw07.ApplyNormal", spec := "applyNormal", inPlace := ["internal/abi.NoEscape"], unfollowed := true, recurses := true, named := ["epitome/span.rules"], apart := false, laid := [("epitome/span.rules", laid_epitome_span_rules)] }
def ApplyNormalSaid : Prop := applyNormalRow.holds Tryd.pinned (OpenSpec.ofChange applyNormalSpec)

/-- ITS FALSE NEIGHBOUR: 'it returns false'. Refute it at one input. -/
def applyNormalWrong : ChangeSpec := { name := "applyNormal", fn := fun _ => fun
  | [d1, d2] => { results := [.lit (.bool false)], args := [d1, d2] }
  | _ => none }
def ApplyNormalWrongFalsely : Prop := applyNormalRow.holds Tryd.pinned (OpenSpec.ofChange applyNormalWrong)

/-- 'epitomelaw07.ApplyPlaces': WHATEVER THE INPUT: true; the input reads as it did. -/
def applyPlacesSpec : ChangeSpec := { name := "applyPlaces", fn := fun _ => fun
  | [d1, d2] => { results := [.lit (.bool true)], args := [d1, d2] }
  | _ => none }
def applyPlacesRow : OpenClaim := { program := "ytngdlplcdinjdaadoor", sum := "b6273d8964c9d21ae62371645052cd839a42394e9c2c3efacfe9be41049f86bb", func := "epitome/epitomelaw07.ApplyPlaces", spec := "applyPlaces", inPlace := ["internal/abi.NoEscape"], unfollowed := true, recurses := true, named := ["epitome/span.rules"], apart := false, laid := [("epitome/span.rules", laid_epitome_span_rules)] }
def ApplyPlacesSaid : Prop := applyPlacesRow.holds Tryd.pinned (OpenSpec.ofChange applyPlacesSpec)

/-- ITS FALSE NEIGHBOUR: 'it returns false'. Refute it at one input. -/
def applyPlacesWrong : ChangeSpec := { name := "applyPlaces", fn := fun _ => fun
  | [d1, d2] => { results := [.lit (.bool false)], args := [d1, d2] }
  | _ => none }
def ApplyPlacesWrongFalsely : Prop := applyPlacesRow.holds Tryd.pinned (OpenSpec.ofChange applyPlacesWrong)

/-- 'epitomelaw07.ApplyKeeps': WHATEVER THE INPUT: true; the input reads as it did. -/
def applyKeepsSpec : ChangeSpec := { name := "applyKeeps", fn := fun _ => fun
  | [d1, d2] => { results := [.lit (.bool true)], args := [d1, d2] }
  | _ => none }
def applyKeepsRow : OpenClaim := { program := "ytngdlplcdinjdaadoor", sum := "b6273d8964c9d21ae62371645052cd839a42394e9c2c3efacfe9be41049f86bb", func := "epitome/epitomelaw07.ApplyKeeps", spec := "applyKeeps", inPlace := ["internal/abi.NoEscape"], unfollowed := true, recurses := true, named := ["epitome/span.rules"], apart := false, laid := [("epitome/span.rules", laid_epitome_span_rules)] }
def ApplyKeepsSaid : Prop := applyKeepsRow.holds Tryd.pinned (OpenSpec.ofChange applyKeepsSpec)

/-- ITS FALSE NEIGHBOUR: 'it returns false'. Refute it at one input. -/
def applyKeepsWrong : ChangeSpec := { name := "applyKeeps", fn := fun _ => fun
  | [d1, d2] => { results := [.lit (.bool false)], args := [d1, d2] }
  | _ => none }
def ApplyKeepsWrongFalsely : Prop := applyKeepsRow.holds Tryd.pinned (OpenSpec.ofChange applyKeepsWrong)

/-- 'epitomelaw07.ApplyParts': WHATEVER THE INPUT: true; the input reads as it did. -/
def applyPartsSpec : ChangeSpec := { name := "applyParts", fn := fun _ => fun
  | [d1, d2, d3] => { results := [.lit (.bool true)], args := [d1, d2, d3] }
  | _ => none }
def applyPartsRow : OpenClaim := { program := "ytngdlplcdinjdaadoor", sum := "b6273d8964c9d21ae62371645052cd839a42394e9c2c3efacfe9be41049f86bb", func := "epitome/epitomelaw07.ApplyParts", spec := "applyParts", inPlace := ["internal/abi.NoEscape"], unfollowed := true, recurses := true, named := ["epitome/span.rules"], apart := false, laid := [("epitome/span.rules", laid_epitome_span_rules)] }
def ApplyPartsSaid : Prop := applyPartsRow.holds Tryd.pinned (OpenSpec.ofChange applyPartsSpec)

/-- ITS FALSE NEIGHBOUR: 'it returns false'. Refute it at one input. -/
def applyPartsWrong : ChangeSpec := { name := "applyParts", fn := fun _ => fun
  | [d1, d2, d3] => { results := [.lit (.bool false)], args := [d1, d2, d3] }
  | _ => none }
def ApplyPartsWrongFalsely : Prop := applyPartsRow.holds Tryd.pinned (OpenSpec.ofChange applyPartsWrong)

/- THE SECOND FORM. 'bulk': how many values and letters a reading holds, each counted each time it is reached (what is shared counts as often as it is met; a slice's spare places count too). A statement '..UptoSaid' is the law's where the arguments, and the package variables that the reading takes, are together of bulk at most 1048576: NARROWER than '..Said'. Prove '..Said' where nothing that the law and all that it calls make is longer than what came in: it says more and counts as full. Else prove '..UptoSaid'. A law counts once. -/
mutual
def uptoBulk {H : Type} : DataW H → Nat
  | .lit (.string bytes) => bytes.length + 1
  | .lit _ => 1
  | .nil => 1
  | .ptr d => uptoBulk d + 1
  | .slice elems spare => uptoBulkAll elems + uptoBulkAll spare + 1
  | .agg parts => uptoBulkAll parts + 1
  | .iface _ d => uptoBulk d + 1
  | .map entries => uptoBulkEntries entries + 1
  | .held _ => 1
def uptoBulkAll {H : Type} : List (DataW H) → Nat
  | [] => 0
  | d :: r => uptoBulk d + uptoBulkAll r
def uptoBulkEntries {H : Type} : List (Lit × DataW H) → Nat
  | [] => 0
  | x :: r => uptoBulkEntry x + uptoBulkEntries r
def uptoBulkEntry {H : Type} : Lit × DataW H → Nat
  | (.string bytes, d) => bytes.length + uptoBulk d + 1
  | (_, d) => uptoBulk d + 1
 end
def uptoSmall : (H : Type) → List (DataW H) → Bool := fun _ ds => decide (uptoBulkAll ds ≤ 1048576)
def OpenSpec.upto (s : _root_.Go.ChangeSpec) : _root_.Go.OpenSpec := { _root_.Go.OpenSpec.ofChange s with cond := some uptoSmall }

/-- 'epitomelaw07.ApplyAll', WHERE WHAT IT READS IS OF BULK AT MOST 1048576: true; the input reads as it did. -/
def applyAllUptoRow : OpenClaim := { program := "ytngdlplcdinjdaadoor", sum := "b6273d8964c9d21ae62371645052cd839a42394e9c2c3efacfe9be41049f86bb", func := "epitome/epitomelaw07.ApplyAll", spec := "applyAll", inPlace := ["internal/abi.NoEscape"], unfollowed := true, recurses := true, named := ["epitome/span.rules"], apart := false, laid := [("epitome/span.rules", laid_epitome_span_rules)], narrowed := true }
def ApplyAllUptoSaid : Prop := applyAllUptoRow.holds Tryd.pinned (OpenSpec.upto applyAllSpec)

/-- 'epitomelaw07.ApplyRow', WHERE WHAT IT READS IS OF BULK AT MOST 1048576: true; the input reads as it did. -/
def applyRowUptoRow : OpenClaim := { program := "ytngdlplcdinjdaadoor", sum := "b6273d8964c9d21ae62371645052cd839a42394e9c2c3efacfe9be41049f86bb", func := "epitome/epitomelaw07.ApplyRow", spec := "applyRow", inPlace := ["internal/abi.NoEscape"], unfollowed := true, recurses := true, named := ["epitome/span.rules"], apart := false, laid := [("epitome/span.rules", laid_epitome_span_rules)], narrowed := true }
def ApplyRowUptoSaid : Prop := applyRowUptoRow.holds Tryd.pinned (OpenSpec.upto applyRowSpec)

/-- 'epitomelaw07.ApplyNormal', WHERE WHAT IT READS IS OF BULK AT MOST 1048576: true; the input reads as it did. -/
def applyNormalUptoRow : OpenClaim := { program := "ytngdlplcdinjdaadoor", sum := "b6273d8964c9d21ae62371645052cd839a42394e9c2c3efacfe9be41049f86bb", func := "epitome/epitomelaw07.ApplyNormal", spec := "applyNormal", inPlace := ["internal/abi.NoEscape"], unfollowed := true, recurses := true, named := ["epitome/span.rules"], apart := false, laid := [("epitome/span.rules", laid_epitome_span_rules)], narrowed := true }
def ApplyNormalUptoSaid : Prop := applyNormalUptoRow.holds Tryd.pinned (OpenSpec.upto applyNormalSpec)

/-- 'epitomelaw07.ApplyPlaces', WHERE WHAT IT READS IS OF BULK AT MOST 1048576: true; the input reads as it did. -/
def applyPlacesUptoRow : OpenClaim := { program := "ytngdlplcdinjdaadoor", sum := "b6273d8964c9d21ae62371645052cd839a42394e9c2c3efacfe9be41049f86bb", func := "epitome/epitomelaw07.ApplyPlaces", spec := "applyPlaces", inPlace := ["internal/abi.NoEscape"], unfollowed := true, recurses := true, named := ["epitome/span.rules"], apart := false, laid := [("epitome/span.rules", laid_epitome_span_rules)], narrowed := true }
def ApplyPlacesUptoSaid : Prop := applyPlacesUptoRow.holds Tryd.pinned (OpenSpec.upto applyPlacesSpec)

/-- 'epitomelaw07.ApplyKeeps', WHERE WHAT IT READS IS OF BULK AT MOST 1048576: true; the input reads as it did. -/
def applyKeepsUptoRow : OpenClaim := { program := "ytngdlplcdinjdaadoor", sum := "b6273d8964c9d21ae62371645052cd839a42394e9c2c3efacfe9be41049f86bb", func := "epitome/epitomelaw07.ApplyKeeps", spec := "applyKeeps", inPlace := ["internal/abi.NoEscape"], unfollowed := true, recurses := true, named := ["epitome/span.rules"], apart := false, laid := [("epitome/span.rules", laid_epitome_span_rules)], narrowed := true }
def ApplyKeepsUptoSaid : Prop := applyKeepsUptoRow.holds Tryd.pinned (OpenSpec.upto applyKeepsSpec)

/-- 'epitomelaw07.ApplyParts', WHERE WHAT IT READS IS OF BULK AT MOST 1048576: true; the input reads as it did. -/
def applyPartsUptoRow : OpenClaim := { program := "ytngdlplcdinjdaadoor", sum := "b6273d8964c9d21ae62371645052cd839a42394e9c2c3efacfe9be41049f86bb", func := "epitome/epitomelaw07.ApplyParts", spec := "applyParts", inPlace := ["internal/abi.NoEscape"], unfollowed := true, recurses := true, named := ["epitome/span.rules"], apart := false, laid := [("epitome/span.rules", laid_epitome_span_rules)], narrowed := true }
def ApplyPartsUptoSaid : Prop := applyPartsUptoRow.holds Tryd.pinned (OpenSpec.upto applyPartsSpec)

end Rows
end Go.Proofs.YtngdlplcdinjdaaDoor
