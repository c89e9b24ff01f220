/-
  NARROWER THAN 'FOR EVERY INPUT', by the rows' own cells (each row's printed sentence says how): ComposeGaps: laid · FuseAll: laid · FuseDoes: laid · FuseParts: laid · FuseCancels: laid · FuseOne: laid · FuseFirst: laid.
  DERIVED. THE GIVEN ROWS OF THIS SEAT. 7 by the template 'for every input the law returns true; each argument reads behind the call as it read before'; 0 by the template 'total and deterministic' (their statements: YtcelgdoaohkgnaaDoorTotals.lean).
  GIVEN WITH THE SEED: the statements are not yours to turn. If you find one false, say at which input.
  Laid BY PROGRAM, IN A SANDBOX (cutbox-rows.mjs): the forced cells as the released guide's own fill.sh prints them over the translation 225f475b5278a205… (all of the seat's roots in one cut). By AI agents, Wed Nov 11 2026. No macro, syntax, notation, axiom, sorry.
-/
import Derived.Test.YtcelgdoaohkgnaaDoorChecked
import GoSem.Claim
import GoSem.ClaimJoined
import GoSem.ClaimMapViews
import Derived.JoinedTies
import Derived.KernelRfl
namespace Go.Proofs.YtcelgdoaohkgnaaDoor
/- THE CELL 'sum', in the pinned program and in every row, IS THE sha256 OF THE DUMP (.gsa) THAT YtcelgdoaohkgnaaDoorProg.lean LOADS. Nothing in Lean hashes anything: it is a label: what it is worth is what the hold of that sum in a sandbox is worth. -/
noncomputable def Tryd.pinned : Pinned := { name := "ytcelgdoaohkgnaadoor", sum := "225f475b5278a205f78865d6519707e4bb1c964cfbe8334d0f3c6e91f55551ae", checked := Tryd.checked }
namespace Rows
def none {H : Type} : Left H := { results := [], args := [] }

/- WHAT THE LISTED PACKAGE-LEVEL VARIABLES READ AS WHEN THE CALL BEGINS. Each datum BY PROGRAM (the guide's laid-datum.mjs) off the statement by which the dump's own 'gosem.cut.vars' lays the variable. In a bare row this is a premise. The card (YtcelgdoaohkgnaaDoorCards.lean) ties it to the program's text. -/
def laid_epitome_span_rules {H : Type} : DataW H := .agg [.agg [.lit (.bool false), .lit (.int .i64 0), .lit (.bool false), .lit (.bool false), .lit (.bool false)], .agg [.lit (.bool true), .lit (.int .i64 1048576), .lit (.bool true), .lit (.bool true), .lit (.bool false)], .agg [.lit (.bool true), .lit (.int .i64 0), .lit (.bool false), .lit (.bool false), .lit (.bool true)], .agg [.lit (.bool true), .lit (.int .i64 1048576), .lit (.bool true), .lit (.bool false), .lit (.bool false)]]

/-- 'epitomelaw09.ComposeGaps': WHATEVER THE INPUT: true; the input reads as it did. -/
def composeGapsSpec : ChangeSpec := { name := "composeGaps", fn := fun _ => fun
  | [d1, d2, d3] => { results := [.lit (.bool true)], args := [d1, d2, d3] }
  | _ => none }
def composeGapsRow : OpenClaim := { program := "ytcelgdoaohkgnaadoor", sum := "225f475b5278a205f78865d6519707e4bb1c964cfbe8334d0f3c6e91f55551ae", func := "epitome/epitomelaw09.ComposeGaps", spec := "composeGaps", inPlace := ["internal/abi.NoEscape"], unfollowed := true, recurses := true, named := ["epitome/span.rules"], apart := false, laid := [("epitome/span.rules", laid_epitome_span_rules)] }
def ComposeGapsSaid : Prop := composeGapsRow.holds Tryd.pinned (OpenSpec.ofChange composeGapsSpec)

/-- ITS FALSE NEIGHBOUR: 'it returns false'. Refute it at one input. -/
def composeGapsWrong : ChangeSpec := { name := "composeGaps", fn := fun _ => fun
  | [d1, d2, d3] => { results := [.lit (.bool false)], args := [d1, d2, d3] }
  | _ => none }
def ComposeGapsWrongFalsely : Prop := composeGapsRow.holds Tryd.pinned (OpenSpec.ofChange composeGapsWrong)

/-- 'epitomelaw10.FuseAll': WHATEVER THE INPUT: true; the input reads as it did. -/
def fuseAllSpec : ChangeSpec := { name := "fuseAll", fn := fun _ => fun
  | [d1, d2, d3] => { results := [.lit (.bool true)], args := [d1, d2, d3] }
  | _ => none }
def fuseAllRow : OpenClaim := { program := "ytcelgdoaohkgnaadoor", sum := "225f475b5278a205f78865d6519707e4bb1c964cfbe8334d0f3c6e91f55551ae", func := "epitome/epitomelaw10.FuseAll", spec := "fuseAll", inPlace := ["internal/abi.NoEscape"], unfollowed := true, recurses := true, named := ["epitome/span.rules"], apart := false, laid := [("epitome/span.rules", laid_epitome_span_rules)] }
def FuseAllSaid : Prop := fuseAllRow.holds Tryd.pinned (OpenSpec.ofChange fuseAllSpec)

/-- ITS FALSE NEIGHBOUR: 'it returns false'. Refute it at one input. -/
def fuseAllWrong : ChangeSpec := { name := "fuseAll", fn := fun _ => fun
  | [d1, d2, d3] => { results := [.lit (.bool false)], args := [d1, d2, d3] }
  | _ => none }
def FuseAllWrongFalsely : Prop := fuseAllRow.holds Tryd.pinned (OpenSpec.ofChange fuseAllWrong)

/-- 'epitomelaw10.FuseDoes': WHATEVER THE INPUT: true; the input reads as it did. -/
def fuseDoesSpec : ChangeSpec := { name := "fuseDoes", fn := fun _ => fun
  | [d1, d2] => { results := [.lit (.bool true)], args := [d1, d2] }
  | _ => none }
def fuseDoesRow : OpenClaim := { program := "ytcelgdoaohkgnaadoor", sum := "225f475b5278a205f78865d6519707e4bb1c964cfbe8334d0f3c6e91f55551ae", func := "epitome/epitomelaw10.FuseDoes", spec := "fuseDoes", inPlace := ["internal/abi.NoEscape"], unfollowed := true, recurses := true, named := ["epitome/span.rules"], apart := false, laid := [("epitome/span.rules", laid_epitome_span_rules)] }
def FuseDoesSaid : Prop := fuseDoesRow.holds Tryd.pinned (OpenSpec.ofChange fuseDoesSpec)

/-- ITS FALSE NEIGHBOUR: 'it returns false'. Refute it at one input. -/
def fuseDoesWrong : ChangeSpec := { name := "fuseDoes", fn := fun _ => fun
  | [d1, d2] => { results := [.lit (.bool false)], args := [d1, d2] }
  | _ => none }
def FuseDoesWrongFalsely : Prop := fuseDoesRow.holds Tryd.pinned (OpenSpec.ofChange fuseDoesWrong)

/-- 'epitomelaw10.FuseParts': WHATEVER THE INPUT: true; the input reads as it did. -/
def fusePartsSpec : ChangeSpec := { name := "fuseParts", fn := fun _ => fun
  | [d1, d2, d3] => { results := [.lit (.bool true)], args := [d1, d2, d3] }
  | _ => none }
def fusePartsRow : OpenClaim := { program := "ytcelgdoaohkgnaadoor", sum := "225f475b5278a205f78865d6519707e4bb1c964cfbe8334d0f3c6e91f55551ae", func := "epitome/epitomelaw10.FuseParts", spec := "fuseParts", inPlace := ["internal/abi.NoEscape"], unfollowed := true, recurses := true, named := ["epitome/span.rules"], apart := false, laid := [("epitome/span.rules", laid_epitome_span_rules)] }
def FusePartsSaid : Prop := fusePartsRow.holds Tryd.pinned (OpenSpec.ofChange fusePartsSpec)

/-- ITS FALSE NEIGHBOUR: 'it returns false'. Refute it at one input. -/
def fusePartsWrong : ChangeSpec := { name := "fuseParts", fn := fun _ => fun
  | [d1, d2, d3] => { results := [.lit (.bool false)], args := [d1, d2, d3] }
  | _ => none }
def FusePartsWrongFalsely : Prop := fusePartsRow.holds Tryd.pinned (OpenSpec.ofChange fusePartsWrong)

/-- 'epitomelaw10.FuseCancels': WHATEVER THE INPUT: true; the input reads as it did. -/
def fuseCancelsSpec : ChangeSpec := { name := "fuseCancels", fn := fun _ => fun
  | [d1, d2, d3] => { results := [.lit (.bool true)], args := [d1, d2, d3] }
  | _ => none }
def fuseCancelsRow : OpenClaim := { program := "ytcelgdoaohkgnaadoor", sum := "225f475b5278a205f78865d6519707e4bb1c964cfbe8334d0f3c6e91f55551ae", func := "epitome/epitomelaw10.FuseCancels", spec := "fuseCancels", inPlace := ["internal/abi.NoEscape"], unfollowed := true, recurses := true, named := ["epitome/span.rules"], apart := false, laid := [("epitome/span.rules", laid_epitome_span_rules)] }
def FuseCancelsSaid : Prop := fuseCancelsRow.holds Tryd.pinned (OpenSpec.ofChange fuseCancelsSpec)

/-- ITS FALSE NEIGHBOUR: 'it returns false'. Refute it at one input. -/
def fuseCancelsWrong : ChangeSpec := { name := "fuseCancels", fn := fun _ => fun
  | [d1, d2, d3] => { results := [.lit (.bool false)], args := [d1, d2, d3] }
  | _ => none }
def FuseCancelsWrongFalsely : Prop := fuseCancelsRow.holds Tryd.pinned (OpenSpec.ofChange fuseCancelsWrong)

/-- 'epitomelaw10.FuseOne': WHATEVER THE INPUT: true; the input reads as it did. -/
def fuseOneSpec : ChangeSpec := { name := "fuseOne", fn := fun _ => fun
  | [d1, d2, d3] => { results := [.lit (.bool true)], args := [d1, d2, d3] }
  | _ => none }
def fuseOneRow : OpenClaim := { program := "ytcelgdoaohkgnaadoor", sum := "225f475b5278a205f78865d6519707e4bb1c964cfbe8334d0f3c6e91f55551ae", func := "epitome/epitomelaw10.FuseOne", spec := "fuseOne", inPlace := ["internal/abi.NoEscape"], unfollowed := true, recurses := true, named := ["epitome/span.rules"], apart := false, laid := [("epitome/span.rules", laid_epitome_span_rules)] }
def FuseOneSaid : Prop := fuseOneRow.holds Tryd.pinned (OpenSpec.ofChange fuseOneSpec)

/-- ITS FALSE NEIGHBOUR: 'it returns false'. Refute it at one input. -/
def fuseOneWrong : ChangeSpec := { name := "fuseOne", fn := fun _ => fun
  | [d1, d2, d3] => { results := [.lit (.bool false)], args := [d1, d2, d3] }
  | _ => none }
def FuseOneWrongFalsely : Prop := fuseOneRow.holds Tryd.pinned (OpenSpec.ofChange fuseOneWrong)

/-- 'epitomelaw10.FuseFirst': WHATEVER THE INPUT: true; the input reads as it did. -/
def fuseFirstSpec : ChangeSpec := { name := "fuseFirst", fn := fun _ => fun
  | [d1, d2, d3] => { results := [.lit (.bool true)], args := [d1, d2, d3] }
  | _ => none }
def fuseFirstRow : OpenClaim := { program := "ytcelgdoaohkgnaadoor", sum := "225f475b5278a205f78865d6519707e4bb1c964cfbe8334d0f3c6e91f55551ae", func := "epitome/epitomelaw10.FuseFirst", spec := "fuseFirst", inPlace := ["internal/abi.NoEscape"], unfollowed := true, recurses := true, named := ["epitome/span.rules"], apart := false, laid := [("epitome/span.rules", laid_epitome_span_rules)] }
def FuseFirstSaid : Prop := fuseFirstRow.holds Tryd.pinned (OpenSpec.ofChange fuseFirstSpec)

/-- ITS FALSE NEIGHBOUR: 'it returns false'. Refute it at one input. -/
def fuseFirstWrong : ChangeSpec := { name := "fuseFirst", fn := fun _ => fun
  | [d1, d2, d3] => { results := [.lit (.bool false)], args := [d1, d2, d3] }
  | _ => none }
def FuseFirstWrongFalsely : Prop := fuseFirstRow.holds Tryd.pinned (OpenSpec.ofChange fuseFirstWrong)

/- THE SECOND FORM. 'bulk': how many values and letters a reading holds, each counted each time it is reached (what is shared counts as often as it is met; a slice's spare places count too). A statement '..UptoSaid' is the law's where the arguments, and the package variables that the reading takes, are together of bulk at most 1048576: NARROWER than '..Said'. Prove '..Said' where nothing that the law and all that it calls make is longer than what came in: it says more and counts as full. Else prove '..UptoSaid'. A law counts once. -/
mutual
def uptoBulk {H : Type} : DataW H → Nat
  | .lit (.string bytes) => bytes.length + 1
  | .lit _ => 1
  | .nil => 1
  | .ptr d => uptoBulk d + 1
  | .slice elems spare => uptoBulkAll elems + uptoBulkAll spare + 1
  | .agg parts => uptoBulkAll parts + 1
  | .iface _ d => uptoBulk d + 1
  | .map entries => uptoBulkEntries entries + 1
  | .held _ => 1
def uptoBulkAll {H : Type} : List (DataW H) → Nat
  | [] => 0
  | d :: r => uptoBulk d + uptoBulkAll r
def uptoBulkEntries {H : Type} : List (Lit × DataW H) → Nat
  | [] => 0
  | x :: r => uptoBulkEntry x + uptoBulkEntries r
def uptoBulkEntry {H : Type} : Lit × DataW H → Nat
  | (.string bytes, d) => bytes.length + uptoBulk d + 1
  | (_, d) => uptoBulk d + 1
 end
def uptoSmall : (H : Type) → List (DataW H) → Bool := fun _ ds => decide (uptoBulkAll ds ≤ 1048576)
def OpenSpec.upto (s : _root_.Go.ChangeSpec) : _root_.Go.OpenSpec := { _root_.Go.OpenSpec.ofChange s with cond := some uptoSmall }

/-- 'epitomelaw09.ComposeGaps', WHERE WHAT IT READS IS OF BULK AT MOST 1048576: true; the input reads as it did. -/
def composeGapsUptoRow : OpenClaim := { program := "ytcelgdoaohkgnaadoor", sum := "225f475b5278a205f78865d6519707e4bb1c964cfbe8334d0f3c6e91f55551ae", func := "epitome/epitomelaw09.ComposeGaps", spec := "composeGaps", inPlace := ["internal/abi.NoEscape"], unfollowed := true, recurses := true, named := ["epitome/span.rules"], apart := false, laid := [("epitome/span.rules", laid_epitome_span_rules)], narrowed := true }
def ComposeGapsUptoSaid : Prop := composeGapsUptoRow.holds Tryd.pinned (OpenSpec.upto composeGapsSpec)

/-- 'epitomelaw10.FuseAll', WHERE WHAT IT READS IS OF BULK AT MOST 1048576: true; the input reads as it did. -/
def fuseAllUptoRow : OpenClaim := { program := "ytcelgdoaohkgnaadoor", sum := "225f475b5278a205f78865d6519707e4bb1c964cfbe8334d0f3c6e91f55551ae", func := "epitome/epitomelaw10.FuseAll", spec := "fuseAll", inPlace := ["internal/abi.NoEscape"], unfollowed := true, recurses := true, named := ["epitome/span.rules"], apart := false, laid := [("epitome/span.rules", laid_epitome_span_rules)], narrowed := true }
def FuseAllUptoSaid : Prop := fuseAllUptoRow.holds Tryd.pinned (OpenSpec.upto fuseAllSpec)

/-- 'epitomelaw10.FuseDoes', WHERE WHAT IT READS IS OF BULK AT MOST 1048576: true; the input reads as it did. -/
def fuseDoesUptoRow : OpenClaim := { program := "ytcelgdoaohkgnaadoor", sum := "225f475b5278a205f78865d6519707e4bb1c964cfbe8334d0f3c6e91f55551ae", func := "epitome/epitomelaw10.FuseDoes", spec := "fuseDoes", inPlace := ["internal/abi.NoEscape"], unfollowed := true, recurses := true, named := ["epitome/span.rules"], apart := false, laid := [("epitome/span.rules", laid_epitome_span_rules)], narrowed := true }
def FuseDoesUptoSaid : Prop := fuseDoesUptoRow.holds Tryd.pinned (OpenSpec.upto fuseDoesSpec)

/-- 'epitomelaw10.FuseParts', WHERE WHAT IT READS IS OF BULK AT MOST 1048576: true; the input reads as it did. -/
def fusePartsUptoRow : OpenClaim := { program := "ytcelgdoaohkgnaadoor", sum := "225f475b5278a205f78865d6519707e4bb1c964cfbe8334d0f3c6e91f55551ae", func := "epitome/epitomelaw10.FuseParts", spec := "fuseParts", inPlace := ["internal/abi.NoEscape"], unfollowed := true, recurses := true, named := ["epitome/span.rules"], apart := false, laid := [("epitome/span.rules", laid_epitome_span_rules)], narrowed := true }
def FusePartsUptoSaid : Prop := fusePartsUptoRow.holds Tryd.pinned (OpenSpec.upto fusePartsSpec)

/-- 'epitomelaw10.FuseCancels', WHERE WHAT IT READS IS OF BULK AT MOST 1048576: true; the input reads as it did. -/
def fuseCancelsUptoRow : OpenClaim := { program := "ytcelgdoaohkgnaadoor", sum := "225f475b5278a205f78865d6519707e4bb1c964cfbe8334d0f3c6e91f55551ae", func := "epitome/epitomelaw10.FuseCancels", spec := "fuseCancels", inPlace := ["internal/abi.NoEscape"], unfollowed := true, recurses := true, named := ["epitome/span.rules"], apart := false, laid := [("epitome/span.rules", laid_epitome_span_rules)], narrowed := true }
def FuseCancelsUptoSaid : Prop := fuseCancelsUptoRow.holds Tryd.pinned (OpenSpec.upto fuseCancelsSpec)

/-- 'epitomelaw10.FuseOne', WHERE WHAT IT READS IS OF BULK AT MOST 1048576: true; the input reads as it did. -/
def fuseOneUptoRow : OpenClaim := { program := "ytcelgdoaohkgnaadoor", sum := "225f475b5278a205f78865d6519707e4bb1c964cfbe8334d0f3c6e91f55551ae", func := "epitome/epitomelaw10.FuseOne", spec := "fuseOne", inPlace := ["internal/abi.NoEscape"], unfollowed := true, recurses := true, named := ["epitome/span.rules"], apart := false, laid := [("epitome/span.rules", laid_epitome_span_rules)], narrowed := true }
def FuseOneUptoSaid : Prop := fuseOneUptoRow.holds Tryd.pinned (OpenSpec.upto fuseOneSpec)

/-- 'epitomelaw10.FuseFirst', WHERE WHAT IT READS IS OF BULK AT MOST 1048576: true; the input reads as it did. -/
def fuseFirstUptoRow : OpenClaim := { program := "ytcelgdoaohkgnaadoor", sum := "225f475b5278a205f78865d6519707e4bb1c964cfbe8334d0f3c6e91f55551ae", func := "epitome/epitomelaw10.FuseFirst", spec := "fuseFirst", inPlace := ["internal/abi.NoEscape"], unfollowed := true, recurses := true, named := ["epitome/span.rules"], apart := false, laid := [("epitome/span.rules", laid_epitome_span_rules)], narrowed := true }
def FuseFirstUptoSaid : Prop := fuseFirstUptoRow.holds Tryd.pinned (OpenSpec.upto fuseFirstSpec)

end Rows
end Go.Proofs.YtcelgdoaohkgnaaDoor
