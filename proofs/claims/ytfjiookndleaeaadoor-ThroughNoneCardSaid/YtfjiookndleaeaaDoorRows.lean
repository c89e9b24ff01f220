/-
  NARROWER THAN 'FOR EVERY INPUT', by the rows' own cells (each row's printed sentence says how): ThroughAll: laid · ThroughMeets: laid · ThroughParts: laid · ThroughNone: laid · ThroughSteps: laid.
  DERIVED. THE GIVEN ROWS OF THIS SEAT. 5 by the template 'for every input the law returns true; each argument reads behind the call as it read before'; 0 by the template 'total and deterministic' (their statements: YtfjiookndleaeaaDoorTotals.lean).
  GIVEN WITH THE SEED: the statements are not yours to turn. If you find one false, say at which input.
  Laid BY PROGRAM, IN A SANDBOX (cutbox-rows.mjs): the forced cells as the released guide's own fill.sh prints them over the translation 2b1159385f13d15e… (all of the seat's roots in one cut). By AI agents, Wed Nov 11 2026. No macro, syntax, notation, axiom, sorry.
-/
import Derived.Test.YtfjiookndleaeaaDoorChecked
import GoSem.Claim
import GoSem.ClaimJoined
import GoSem.ClaimMapViews
import Derived.JoinedTies
import Derived.KernelRfl
namespace Go.Proofs.YtfjiookndleaeaaDoor
/- THE CELL 'sum', in the pinned program and in every row, IS THE sha256 OF THE DUMP (.gsa) THAT YtfjiookndleaeaaDoorProg.lean LOADS. Nothing in Lean hashes anything: it is a label: what it is worth is what the hold of that sum in a sandbox is worth. -/
noncomputable def Tryd.pinned : Pinned := { name := "ytfjiookndleaeaadoor", sum := "2b1159385f13d15e5eccbbc3c126bcca78201137efdefdc766c63f619434cb5b", checked := Tryd.checked }
namespace Rows
def none {H : Type} : Left H := { results := [], args := [] }

/- WHAT THE LISTED PACKAGE-LEVEL VARIABLES READ AS WHEN THE CALL BEGINS. Each datum BY PROGRAM (the guide's laid-datum.mjs) off the statement by which the dump's own 'gosem.cut.vars' lays the variable. In a bare row this is a premise. The card (YtfjiookndleaeaaDoorCards.lean) ties it to the program's text. -/
def laid_epitome_span_rules {H : Type} : DataW H := .agg [.agg [.lit (.bool false), .lit (.int .i64 0), .lit (.bool false), .lit (.bool false), .lit (.bool false)], .agg [.lit (.bool true), .lit (.int .i64 1048576), .lit (.bool true), .lit (.bool true), .lit (.bool false)], .agg [.lit (.bool true), .lit (.int .i64 0), .lit (.bool false), .lit (.bool false), .lit (.bool true)], .agg [.lit (.bool true), .lit (.int .i64 1048576), .lit (.bool true), .lit (.bool false), .lit (.bool false)]]

/-- 'epitomelaw13.ThroughAll': WHATEVER THE INPUT: true; the input reads as it did. -/
def throughAllSpec : ChangeSpec := { name := "throughAll", fn := fun _ => fun
  | [d1, d2, d3] => { results := [.lit (.bool true)], args := [d1, d2, d3] }
  | _ => none }
def throughAllRow : OpenClaim := { program := "ytfjiookndleaeaadoor", sum := "2b1159385f13d15e5eccbbc3c126bcca78201137efdefdc766c63f619434cb5b", func := "epitome/epitomelaw13.ThroughAll", spec := "throughAll", inPlace := ["internal/abi.NoEscape"], unfollowed := true, recurses := true, named := ["epitome/span.rules"], apart := false, laid := [("epitome/span.rules", laid_epitome_span_rules)] }
def ThroughAllSaid : Prop := throughAllRow.holds Tryd.pinned (OpenSpec.ofChange throughAllSpec)

/-- ITS FALSE NEIGHBOUR: 'it returns false'. Refute it at one input. -/
def throughAllWrong : ChangeSpec := { name := "throughAll", fn := fun _ => fun
  | [d1, d2, d3] => { results := [.lit (.bool false)], args := [d1, d2, d3] }
  | _ => none }
def ThroughAllWrongFalsely : Prop := throughAllRow.holds Tryd.pinned (OpenSpec.ofChange throughAllWrong)

/-- 'epitomelaw13.ThroughMeets': WHATEVER THE INPUT: true; the input reads as it did. -/
def throughMeetsSpec : ChangeSpec := { name := "throughMeets", fn := fun _ => fun
  | [d1, d2, d3] => { results := [.lit (.bool true)], args := [d1, d2, d3] }
  | _ => none }
def throughMeetsRow : OpenClaim := { program := "ytfjiookndleaeaadoor", sum := "2b1159385f13d15e5eccbbc3c126bcca78201137efdefdc766c63f619434cb5b", func := "epitome/epitomelaw13.ThroughMeets", spec := "throughMeets", inPlace := ["internal/abi.NoEscape"], unfollowed := true, recurses := true, named := ["epitome/span.rules"], apart := false, laid := [("epitome/span.rules", laid_epitome_span_rules)] }
def ThroughMeetsSaid : Prop := throughMeetsRow.holds Tryd.pinned (OpenSpec.ofChange throughMeetsSpec)

/-- ITS FALSE NEIGHBOUR: 'it returns false'. Refute it at one input. -/
def throughMeetsWrong : ChangeSpec := { name := "throughMeets", fn := fun _ => fun
  | [d1, d2, d3] => { results := [.lit (.bool false)], args := [d1, d2, d3] }
  | _ => none }
def ThroughMeetsWrongFalsely : Prop := throughMeetsRow.holds Tryd.pinned (OpenSpec.ofChange throughMeetsWrong)

/-- 'epitomelaw13.ThroughParts': WHATEVER THE INPUT: true; the input reads as it did. -/
def throughPartsSpec : ChangeSpec := { name := "throughParts", fn := fun _ => fun
  | [d1, d2, d3] => { results := [.lit (.bool true)], args := [d1, d2, d3] }
  | _ => none }
def throughPartsRow : OpenClaim := { program := "ytfjiookndleaeaadoor", sum := "2b1159385f13d15e5eccbbc3c126bcca78201137efdefdc766c63f619434cb5b", func := "epitome/epitomelaw13.ThroughParts", spec := "throughParts", inPlace := ["internal/abi.NoEscape"], unfollowed := true, recurses := true, named := ["epitome/span.rules"], apart := false, laid := [("epitome/span.rules", laid_epitome_span_rules)] }
def ThroughPartsSaid : Prop := throughPartsRow.holds Tryd.pinned (OpenSpec.ofChange throughPartsSpec)

/-- ITS FALSE NEIGHBOUR: 'it returns false'. Refute it at one input. -/
def throughPartsWrong : ChangeSpec := { name := "throughParts", fn := fun _ => fun
  | [d1, d2, d3] => { results := [.lit (.bool false)], args := [d1, d2, d3] }
  | _ => none }
def ThroughPartsWrongFalsely : Prop := throughPartsRow.holds Tryd.pinned (OpenSpec.ofChange throughPartsWrong)

/-- 'epitomelaw13.ThroughNone': WHATEVER THE INPUT: true; the input reads as it did. -/
def throughNoneSpec : ChangeSpec := { name := "throughNone", fn := fun _ => fun
  | [d1, d2, d3] => { results := [.lit (.bool true)], args := [d1, d2, d3] }
  | _ => none }
def throughNoneRow : OpenClaim := { program := "ytfjiookndleaeaadoor", sum := "2b1159385f13d15e5eccbbc3c126bcca78201137efdefdc766c63f619434cb5b", func := "epitome/epitomelaw13.ThroughNone", spec := "throughNone", inPlace := ["internal/abi.NoEscape"], unfollowed := true, recurses := true, named := ["epitome/span.rules"], apart := false, laid := [("epitome/span.rules", laid_epitome_span_rules)] }
def ThroughNoneSaid : Prop := throughNoneRow.holds Tryd.pinned (OpenSpec.ofChange throughNoneSpec)

/-- ITS FALSE NEIGHBOUR: 'it returns false'. Refute it at one input. -/
def throughNoneWrong : ChangeSpec := { name := "throughNone", fn := fun _ => fun
  | [d1, d2, d3] => { results := [.lit (.bool false)], args := [d1, d2, d3] }
  | _ => none }
def ThroughNoneWrongFalsely : Prop := throughNoneRow.holds Tryd.pinned (OpenSpec.ofChange throughNoneWrong)

/-- 'epitomelaw13.ThroughSteps': WHATEVER THE INPUT: true; the input reads as it did. -/
def throughStepsSpec : ChangeSpec := { name := "throughSteps", fn := fun _ => fun
  | [d1, d2, d3] => { results := [.lit (.bool true)], args := [d1, d2, d3] }
  | _ => none }
def throughStepsRow : OpenClaim := { program := "ytfjiookndleaeaadoor", sum := "2b1159385f13d15e5eccbbc3c126bcca78201137efdefdc766c63f619434cb5b", func := "epitome/epitomelaw13.ThroughSteps", spec := "throughSteps", inPlace := ["internal/abi.NoEscape"], unfollowed := true, recurses := true, named := ["epitome/span.rules"], apart := false, laid := [("epitome/span.rules", laid_epitome_span_rules)] }
def ThroughStepsSaid : Prop := throughStepsRow.holds Tryd.pinned (OpenSpec.ofChange throughStepsSpec)

/-- ITS FALSE NEIGHBOUR: 'it returns false'. Refute it at one input. -/
def throughStepsWrong : ChangeSpec := { name := "throughSteps", fn := fun _ => fun
  | [d1, d2, d3] => { results := [.lit (.bool false)], args := [d1, d2, d3] }
  | _ => none }
def ThroughStepsWrongFalsely : Prop := throughStepsRow.holds Tryd.pinned (OpenSpec.ofChange throughStepsWrong)

/- THE SECOND FORM. 'bulk': how many values and letters a reading holds, each counted each time it is reached (what is shared counts as often as it is met; a slice's spare places count too). A statement '..UptoSaid' is the law's where the arguments, and the package variables that the reading takes, are together of bulk at most 1048576: NARROWER than '..Said'. Prove '..Said' where nothing that the law and all that it calls make is longer than what came in: it says more and counts as full. Else prove '..UptoSaid'. A law counts once. -/
mutual
def uptoBulk {H : Type} : DataW H → Nat
  | .lit (.string bytes) => bytes.length + 1
  | .lit _ => 1
  | .nil => 1
  | .ptr d => uptoBulk d + 1
  | .slice elems spare => uptoBulkAll elems + uptoBulkAll spare + 1
  | .agg parts => uptoBulkAll parts + 1
  | .iface _ d => uptoBulk d + 1
  | .map entries => uptoBulkEntries entries + 1
  | .held _ => 1
def uptoBulkAll {H : Type} : List (DataW H) → Nat
  | [] => 0
  | d :: r => uptoBulk d + uptoBulkAll r
def uptoBulkEntries {H : Type} : List (Lit × DataW H) → Nat
  | [] => 0
  | x :: r => uptoBulkEntry x + uptoBulkEntries r
def uptoBulkEntry {H : Type} : Lit × DataW H → Nat
  | (.string bytes, d) => bytes.length + uptoBulk d + 1
  | (_, d) => uptoBulk d + 1
 end
def uptoSmall : (H : Type) → List (DataW H) → Bool := fun _ ds => decide (uptoBulkAll ds ≤ 1048576)
def OpenSpec.upto (s : _root_.Go.ChangeSpec) : _root_.Go.OpenSpec := { _root_.Go.OpenSpec.ofChange s with cond := some uptoSmall }

/-- 'epitomelaw13.ThroughAll', WHERE WHAT IT READS IS OF BULK AT MOST 1048576: true; the input reads as it did. -/
def throughAllUptoRow : OpenClaim := { program := "ytfjiookndleaeaadoor", sum := "2b1159385f13d15e5eccbbc3c126bcca78201137efdefdc766c63f619434cb5b", func := "epitome/epitomelaw13.ThroughAll", spec := "throughAll", inPlace := ["internal/abi.NoEscape"], unfollowed := true, recurses := true, named := ["epitome/span.rules"], apart := false, laid := [("epitome/span.rules", laid_epitome_span_rules)], narrowed := true }
def ThroughAllUptoSaid : Prop := throughAllUptoRow.holds Tryd.pinned (OpenSpec.upto throughAllSpec)

/-- 'epitomelaw13.ThroughMeets', WHERE WHAT IT READS IS OF BULK AT MOST 1048576: true; the input reads as it did. -/
def throughMeetsUptoRow : OpenClaim := { program := "ytfjiookndleaeaadoor", sum := "2b1159385f13d15e5eccbbc3c126bcca78201137efdefdc766c63f619434cb5b", func := "epitome/epitomelaw13.ThroughMeets", spec := "throughMeets", inPlace := ["internal/abi.NoEscape"], unfollowed := true, recurses := true, named := ["epitome/span.rules"], apart := false, laid := [("epitome/span.rules", laid_epitome_span_rules)], narrowed := true }
def ThroughMeetsUptoSaid : Prop := throughMeetsUptoRow.holds Tryd.pinned (OpenSpec.upto throughMeetsSpec)

/-- 'epitomelaw13.ThroughParts', WHERE WHAT IT READS IS OF BULK AT MOST 1048576: true; the input reads as it did. -/
def throughPartsUptoRow : OpenClaim := { program := "ytfjiookndleaeaadoor", sum := "2b1159385f13d15e5eccbbc3c126bcca78201137efdefdc766c63f619434cb5b", func := "epitome/epitomelaw13.ThroughParts", spec := "throughParts", inPlace := ["internal/abi.NoEscape"], unfollowed := true, recurses := true, named := ["epitome/span.rules"], apart := false, laid := [("epitome/span.rules", laid_epitome_span_rules)], narrowed := true }
def ThroughPartsUptoSaid : Prop := throughPartsUptoRow.holds Tryd.pinned (OpenSpec.upto throughPartsSpec)

/-- 'epitomelaw13.ThroughNone', WHERE WHAT IT READS IS OF BULK AT MOST 1048576: true; the input reads as it did. -/
def throughNoneUptoRow : OpenClaim := { program := "ytfjiookndleaeaadoor", sum := "2b1159385f13d15e5eccbbc3c126bcca78201137efdefdc766c63f619434cb5b", func := "epitome/epitomelaw13.ThroughNone", spec := "throughNone", inPlace := ["internal/abi.NoEscape"], unfollowed := true, recurses := true, named := ["epitome/span.rules"], apart := false, laid := [("epitome/span.rules", laid_epitome_span_rules)], narrowed := true }
def ThroughNoneUptoSaid : Prop := throughNoneUptoRow.holds Tryd.pinned (OpenSpec.upto throughNoneSpec)

/-- 'epitomelaw13.ThroughSteps', WHERE WHAT IT READS IS OF BULK AT MOST 1048576: true; the input reads as it did. -/
def throughStepsUptoRow : OpenClaim := { program := "ytfjiookndleaeaadoor", sum := "2b1159385f13d15e5eccbbc3c126bcca78201137efdefdc766c63f619434cb5b", func := "epitome/epitomelaw13.ThroughSteps", spec := "throughSteps", inPlace := ["internal/abi.NoEscape"], unfollowed := true, recurses := true, named := ["epitome/span.rules"], apart := false, laid := [("epitome/span.rules", laid_epitome_span_rules)], narrowed := true }
def ThroughStepsUptoSaid : Prop := throughStepsUptoRow.holds Tryd.pinned (OpenSpec.upto throughStepsSpec)

end Rows
end Go.Proofs.YtfjiookndleaeaaDoor
