/-
  NARROWER THAN 'FOR EVERY INPUT', by the rows' own cells (each row's printed sentence says how): GapsAll: laid · GapsBack: laid · GapsNormal: laid · GapsLeast: laid · GapsOne: laid · GapsJoin: laid.
  DERIVED. THE GIVEN ROWS OF THIS SEAT. 6 by the template 'for every input the law returns true; each argument reads behind the call as it read before'; 0 by the template 'total and deterministic' (their statements: YtelepadnbgcbnaaDoorTotals.lean).
  GIVEN WITH THE SEED: the statements are not yours to turn. If you find one false, say at which input.
  Laid BY PROGRAM, IN A SANDBOX (cutbox-rows.mjs): the forced cells as the released guide's own fill.sh prints them over the translation 5bcccc5283973ffd… (all of the seat's roots in one cut). By AI agents, Wed Nov 11 2026. No macro, syntax, notation, axiom, sorry.
-/
import Derived.Test.YtelepadnbgcbnaaDoorChecked
import GoSem.Claim
import GoSem.ClaimJoined
import GoSem.ClaimMapViews
import Derived.JoinedTies
import Derived.KernelRfl
namespace Go.Proofs.YtelepadnbgcbnaaDoor
/- THE CELL 'sum', in the pinned program and in every row, IS THE sha256 OF THE DUMP (.gsa) THAT YtelepadnbgcbnaaDoorProg.lean LOADS. Nothing in Lean hashes anything: it is a label: what it is worth is what the hold of that sum in a sandbox is worth. -/
noncomputable def Tryd.pinned : Pinned := { name := "ytelepadnbgcbnaadoor", sum := "5bcccc5283973ffd3e4263da632c1d63102d58cfb2fa5b9ebbdaa2bad7183536", checked := Tryd.checked }
namespace Rows
def none {H : Type} : Left H := { results := [], args := [] }

/- WHAT THE LISTED PACKAGE-LEVEL VARIABLES READ AS WHEN THE CALL BEGINS. Each datum BY PROGRAM (the guide's laid-datum.mjs) off the statement by which the dump's own 'gosem.cut.vars' lays the variable. In a bare row this is a premise. The card (YtelepadnbgcbnaaDoorCards.lean) ties it to the program's text. -/
def laid_epitome_span_rules {H : Type} : DataW H := .agg [.agg [.lit (.bool false), .lit (.int .i64 0), .lit (.bool false), .lit (.bool false), .lit (.bool false)], .agg [.lit (.bool true), .lit (.int .i64 1048576), .lit (.bool true), .lit (.bool true), .lit (.bool false)], .agg [.lit (.bool true), .lit (.int .i64 0), .lit (.bool false), .lit (.bool false), .lit (.bool true)], .agg [.lit (.bool true), .lit (.int .i64 1048576), .lit (.bool true), .lit (.bool false), .lit (.bool false)]]

/-- 'epitomelaw06.GapsAll': WHATEVER THE INPUT: true; the input reads as it did. -/
def gapsAllSpec : ChangeSpec := { name := "gapsAll", fn := fun _ => fun
  | [d1, d2] => { results := [.lit (.bool true)], args := [d1, d2] }
  | _ => none }
def gapsAllRow : OpenClaim := { program := "ytelepadnbgcbnaadoor", sum := "5bcccc5283973ffd3e4263da632c1d63102d58cfb2fa5b9ebbdaa2bad7183536", func := "epitome/epitomelaw06.GapsAll", spec := "gapsAll", inPlace := ["internal/abi.NoEscape"], unfollowed := true, recurses := true, named := ["epitome/span.rules"], apart := false, laid := [("epitome/span.rules", laid_epitome_span_rules)] }
def GapsAllSaid : Prop := gapsAllRow.holds Tryd.pinned (OpenSpec.ofChange gapsAllSpec)

/-- ITS FALSE NEIGHBOUR: 'it returns false'. Refute it at one input. -/
def gapsAllWrong : ChangeSpec := { name := "gapsAll", fn := fun _ => fun
  | [d1, d2] => { results := [.lit (.bool false)], args := [d1, d2] }
  | _ => none }
def GapsAllWrongFalsely : Prop := gapsAllRow.holds Tryd.pinned (OpenSpec.ofChange gapsAllWrong)

/-- 'epitomelaw06.GapsBack': WHATEVER THE INPUT: true; the input reads as it did. -/
def gapsBackSpec : ChangeSpec := { name := "gapsBack", fn := fun _ => fun
  | [d] => { results := [.lit (.bool true)], args := [d] }
  | _ => none }
def gapsBackRow : OpenClaim := { program := "ytelepadnbgcbnaadoor", sum := "5bcccc5283973ffd3e4263da632c1d63102d58cfb2fa5b9ebbdaa2bad7183536", func := "epitome/epitomelaw06.GapsBack", spec := "gapsBack", inPlace := ["internal/abi.NoEscape"], unfollowed := true, recurses := true, named := ["epitome/span.rules"], apart := false, laid := [("epitome/span.rules", laid_epitome_span_rules)] }
def GapsBackSaid : Prop := gapsBackRow.holds Tryd.pinned (OpenSpec.ofChange gapsBackSpec)

/-- ITS FALSE NEIGHBOUR: 'it returns false'. Refute it at one input. -/
def gapsBackWrong : ChangeSpec := { name := "gapsBack", fn := fun _ => fun
  | [d] => { results := [.lit (.bool false)], args := [d] }
  | _ => none }
def GapsBackWrongFalsely : Prop := gapsBackRow.holds Tryd.pinned (OpenSpec.ofChange gapsBackWrong)

/-- 'epitomelaw06.GapsNormal': WHATEVER THE INPUT: true; the input reads as it did. -/
def gapsNormalSpec : ChangeSpec := { name := "gapsNormal", fn := fun _ => fun
  | [d1, d2, d3] => { results := [.lit (.bool true)], args := [d1, d2, d3] }
  | _ => none }
def gapsNormalRow : OpenClaim := { program := "ytelepadnbgcbnaadoor", sum := "5bcccc5283973ffd3e4263da632c1d63102d58cfb2fa5b9ebbdaa2bad7183536", func := "epitome/epitomelaw06.GapsNormal", spec := "gapsNormal", inPlace := ["internal/abi.NoEscape"], unfollowed := true, recurses := true, named := ["epitome/span.rules"], apart := false, laid := [("epitome/span.rules", laid_epitome_span_rules)] }
def GapsNormalSaid : Prop := gapsNormalRow.holds Tryd.pinned (OpenSpec.ofChange gapsNormalSpec)

/-- ITS FALSE NEIGHBOUR: 'it returns false'. Refute it at one input. -/
def gapsNormalWrong : ChangeSpec := { name := "gapsNormal", fn := fun _ => fun
  | [d1, d2, d3] => { results := [.lit (.bool false)], args := [d1, d2, d3] }
  | _ => none }
def GapsNormalWrongFalsely : Prop := gapsNormalRow.holds Tryd.pinned (OpenSpec.ofChange gapsNormalWrong)

/-- 'epitomelaw06.GapsLeast': WHATEVER THE INPUT: true; the input reads as it did. -/
def gapsLeastSpec : ChangeSpec := { name := "gapsLeast", fn := fun _ => fun
  | [d1, d2] => { results := [.lit (.bool true)], args := [d1, d2] }
  | _ => none }
def gapsLeastRow : OpenClaim := { program := "ytelepadnbgcbnaadoor", sum := "5bcccc5283973ffd3e4263da632c1d63102d58cfb2fa5b9ebbdaa2bad7183536", func := "epitome/epitomelaw06.GapsLeast", spec := "gapsLeast", inPlace := ["internal/abi.NoEscape"], unfollowed := true, recurses := true, named := ["epitome/span.rules"], apart := false, laid := [("epitome/span.rules", laid_epitome_span_rules)] }
def GapsLeastSaid : Prop := gapsLeastRow.holds Tryd.pinned (OpenSpec.ofChange gapsLeastSpec)

/-- ITS FALSE NEIGHBOUR: 'it returns false'. Refute it at one input. -/
def gapsLeastWrong : ChangeSpec := { name := "gapsLeast", fn := fun _ => fun
  | [d1, d2] => { results := [.lit (.bool false)], args := [d1, d2] }
  | _ => none }
def GapsLeastWrongFalsely : Prop := gapsLeastRow.holds Tryd.pinned (OpenSpec.ofChange gapsLeastWrong)

/-- 'epitomelaw06.GapsOne': WHATEVER THE INPUT: true; the input reads as it did. -/
def gapsOneSpec : ChangeSpec := { name := "gapsOne", fn := fun _ => fun
  | [d1, d2] => { results := [.lit (.bool true)], args := [d1, d2] }
  | _ => none }
def gapsOneRow : OpenClaim := { program := "ytelepadnbgcbnaadoor", sum := "5bcccc5283973ffd3e4263da632c1d63102d58cfb2fa5b9ebbdaa2bad7183536", func := "epitome/epitomelaw06.GapsOne", spec := "gapsOne", inPlace := ["internal/abi.NoEscape"], unfollowed := true, recurses := true, named := ["epitome/span.rules"], apart := false, laid := [("epitome/span.rules", laid_epitome_span_rules)] }
def GapsOneSaid : Prop := gapsOneRow.holds Tryd.pinned (OpenSpec.ofChange gapsOneSpec)

/-- ITS FALSE NEIGHBOUR: 'it returns false'. Refute it at one input. -/
def gapsOneWrong : ChangeSpec := { name := "gapsOne", fn := fun _ => fun
  | [d1, d2] => { results := [.lit (.bool false)], args := [d1, d2] }
  | _ => none }
def GapsOneWrongFalsely : Prop := gapsOneRow.holds Tryd.pinned (OpenSpec.ofChange gapsOneWrong)

/-- 'epitomelaw06.GapsJoin': WHATEVER THE INPUT: true; the input reads as it did. -/
def gapsJoinSpec : ChangeSpec := { name := "gapsJoin", fn := fun _ => fun
  | [d1, d2, d3] => { results := [.lit (.bool true)], args := [d1, d2, d3] }
  | _ => none }
def gapsJoinRow : OpenClaim := { program := "ytelepadnbgcbnaadoor", sum := "5bcccc5283973ffd3e4263da632c1d63102d58cfb2fa5b9ebbdaa2bad7183536", func := "epitome/epitomelaw06.GapsJoin", spec := "gapsJoin", inPlace := ["internal/abi.NoEscape"], unfollowed := true, recurses := true, named := ["epitome/span.rules"], apart := false, laid := [("epitome/span.rules", laid_epitome_span_rules)] }
def GapsJoinSaid : Prop := gapsJoinRow.holds Tryd.pinned (OpenSpec.ofChange gapsJoinSpec)

/-- ITS FALSE NEIGHBOUR: 'it returns false'. Refute it at one input. -/
def gapsJoinWrong : ChangeSpec := { name := "gapsJoin", fn := fun _ => fun
  | [d1, d2, d3] => { results := [.lit (.bool false)], args := [d1, d2, d3] }
  | _ => none }
def GapsJoinWrongFalsely : Prop := gapsJoinRow.holds Tryd.pinned (OpenSpec.ofChange gapsJoinWrong)

/- THE SECOND FORM. 'bulk': how many values and letters a reading holds, each counted each time it is reached (what is shared counts as often as it is met; a slice's spare places count too). A statement '..UptoSaid' is the law's where the arguments, and the package variables that the reading takes, are together of bulk at most 1048576: NARROWER than '..Said'. Prove '..Said' where nothing that the law and all that it calls make is longer than what came in: it says more and counts as full. Else prove '..UptoSaid'. A law counts once. -/
mutual
def uptoBulk {H : Type} : DataW H → Nat
  | .lit (.string bytes) => bytes.length + 1
  | .lit _ => 1
  | .nil => 1
  | .ptr d => uptoBulk d + 1
  | .slice elems spare => uptoBulkAll elems + uptoBulkAll spare + 1
  | .agg parts => uptoBulkAll parts + 1
  | .iface _ d => uptoBulk d + 1
  | .map entries => uptoBulkEntries entries + 1
  | .held _ => 1
def uptoBulkAll {H : Type} : List (DataW H) → Nat
  | [] => 0
  | d :: r => uptoBulk d + uptoBulkAll r
def uptoBulkEntries {H : Type} : List (Lit × DataW H) → Nat
  | [] => 0
  | x :: r => uptoBulkEntry x + uptoBulkEntries r
def uptoBulkEntry {H : Type} : Lit × DataW H → Nat
  | (.string bytes, d) => bytes.length + uptoBulk d + 1
  | (_, d) => uptoBulk d + 1
 end
def uptoSmall : (H : Type) → List (DataW H) → Bool := fun _ ds => decide (uptoBulkAll ds ≤ 1048576)
def OpenSpec.upto (s : _root_.Go.ChangeSpec) : _root_.Go.OpenSpec := { _root_.Go.OpenSpec.ofChange s with cond := some uptoSmall }

/-- 'epitomelaw06.GapsAll', WHERE WHAT IT READS IS OF BULK AT MOST 1048576: true; the input reads as it did. -/
def gapsAllUptoRow : OpenClaim := { program := "ytelepadnbgcbnaadoor", sum := "5bcccc5283973ffd3e4263da632c1d63102d58cfb2fa5b9ebbdaa2bad7183536", func := "epitome/epitomelaw06.GapsAll", spec := "gapsAll", inPlace := ["internal/abi.NoEscape"], unfollowed := true, recurses := true, named := ["epitome/span.rules"], apart := false, laid := [("epitome/span.rules", laid_epitome_span_rules)], narrowed := true }
def GapsAllUptoSaid : Prop := gapsAllUptoRow.holds Tryd.pinned (OpenSpec.upto gapsAllSpec)

/-- 'epitomelaw06.GapsBack', WHERE WHAT IT READS IS OF BULK AT MOST 1048576: true; the input reads as it did. -/
def gapsBackUptoRow : OpenClaim := { program := "ytelepadnbgcbnaadoor", sum := "5bcccc5283973ffd3e4263da632c1d63102d58cfb2fa5b9ebbdaa2bad7183536", func := "epitome/epitomelaw06.GapsBack", spec := "gapsBack", inPlace := ["internal/abi.NoEscape"], unfollowed := true, recurses := true, named := ["epitome/span.rules"], apart := false, laid := [("epitome/span.rules", laid_epitome_span_rules)], narrowed := true }
def GapsBackUptoSaid : Prop := gapsBackUptoRow.holds Tryd.pinned (OpenSpec.upto gapsBackSpec)

/-- 'epitomelaw06.GapsNormal', WHERE WHAT IT READS IS OF BULK AT MOST 1048576: true; the input reads as it did. -/
def gapsNormalUptoRow : OpenClaim := { program := "ytelepadnbgcbnaadoor", sum := "5bcccc5283973ffd3e4263da632c1d63102d58cfb2fa5b9ebbdaa2bad7183536", func := "epitome/epitomelaw06.GapsNormal", spec := "gapsNormal", inPlace := ["internal/abi.NoEscape"], unfollowed := true, recurses := true, named := ["epitome/span.rules"], apart := false, laid := [("epitome/span.rules", laid_epitome_span_rules)], narrowed := true }
def GapsNormalUptoSaid : Prop := gapsNormalUptoRow.holds Tryd.pinned (OpenSpec.upto gapsNormalSpec)

/-- 'epitomelaw06.GapsLeast', WHERE WHAT IT READS IS OF BULK AT MOST 1048576: true; the input reads as it did. -/
def gapsLeastUptoRow : OpenClaim := { program := "ytelepadnbgcbnaadoor", sum := "5bcccc5283973ffd3e4263da632c1d63102d58cfb2fa5b9ebbdaa2bad7183536", func := "epitome/epitomelaw06.GapsLeast", spec := "gapsLeast", inPlace := ["internal/abi.NoEscape"], unfollowed := true, recurses := true, named := ["epitome/span.rules"], apart := false, laid := [("epitome/span.rules", laid_epitome_span_rules)], narrowed := true }
def GapsLeastUptoSaid : Prop := gapsLeastUptoRow.holds Tryd.pinned (OpenSpec.upto gapsLeastSpec)

/-- 'epitomelaw06.GapsOne', WHERE WHAT IT READS IS OF BULK AT MOST 1048576: true; the input reads as it did. -/
def gapsOneUptoRow : OpenClaim := { program := "ytelepadnbgcbnaadoor", sum := "5bcccc5283973ffd3e4263da632c1d63102d58cfb2fa5b9ebbdaa2bad7183536", func := "epitome/epitomelaw06.GapsOne", spec := "gapsOne", inPlace := ["internal/abi.NoEscape"], unfollowed := true, recurses := true, named := ["epitome/span.rules"], apart := false, laid := [("epitome/span.rules", laid_epitome_span_rules)], narrowed := true }
def GapsOneUptoSaid : Prop := gapsOneUptoRow.holds Tryd.pinned (OpenSpec.upto gapsOneSpec)

/-- 'epitomelaw06.GapsJoin', WHERE WHAT IT READS IS OF BULK AT MOST 1048576: true; the input reads as it did. -/
def gapsJoinUptoRow : OpenClaim := { program := "ytelepadnbgcbnaadoor", sum := "5bcccc5283973ffd3e4263da632c1d63102d58cfb2fa5b9ebbdaa2bad7183536", func := "epitome/epitomelaw06.GapsJoin", spec := "gapsJoin", inPlace := ["internal/abi.NoEscape"], unfollowed := true, recurses := true, named := ["epitome/span.rules"], apart := false, laid := [("epitome/span.rules", laid_epitome_span_rules)], narrowed := true }
def GapsJoinUptoSaid : Prop := gapsJoinUptoRow.holds Tryd.pinned (OpenSpec.upto gapsJoinSpec)

end Rows
end Go.Proofs.YtelepadnbgcbnaaDoor
