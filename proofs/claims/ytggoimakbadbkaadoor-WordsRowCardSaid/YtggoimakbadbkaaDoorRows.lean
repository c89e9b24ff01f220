/-
  NARROWER THAN 'FOR EVERY INPUT', by the rows' own cells (each row's printed sentence says how): WordsAll: laid · WordsBack: laid · WordsTaken: laid · WordsOdd: laid · WordsRow: laid · WordsSize: laid.
  DERIVED. THE GIVEN ROWS OF THIS SEAT. 6 by the template 'for every input the law returns true; each argument reads behind the call as it read before'; 0 by the template 'total and deterministic' (their statements: YtggoimakbadbkaaDoorTotals.lean).
  GIVEN WITH THE SEED: the statements are not yours to turn. If you find one false, say at which input.
  Laid BY PROGRAM, IN A SANDBOX (cutbox-rows.mjs): the forced cells as the released guide's own fill.sh prints them over the translation a35b7aa5ad66eeda… (all of the seat's roots in one cut). By AI agents, Wed Nov 11 2026. No macro, syntax, notation, axiom, sorry.
-/
import Derived.Test.YtggoimakbadbkaaDoorChecked
import GoSem.Claim
import GoSem.ClaimJoined
import GoSem.ClaimMapViews
import Derived.JoinedTies
import Derived.KernelRfl
namespace Go.Proofs.YtggoimakbadbkaaDoor
/- THE CELL 'sum', in the pinned program and in every row, IS THE sha256 OF THE DUMP (.gsa) THAT YtggoimakbadbkaaDoorProg.lean LOADS. Nothing in Lean hashes anything: it is a label: what it is worth is what the hold of that sum in a sandbox is worth. -/
noncomputable def Tryd.pinned : Pinned := { name := "ytggoimakbadbkaadoor", sum := "a35b7aa5ad66eedaf18370c389bd8d5a5249521252d1b38db66a361d2d925fc0", checked := Tryd.checked }
namespace Rows
def none {H : Type} : Left H := { results := [], args := [] }

/- WHAT THE LISTED PACKAGE-LEVEL VARIABLES READ AS WHEN THE CALL BEGINS. Each datum BY PROGRAM (the guide's laid-datum.mjs) off the statement by which the dump's own 'gosem.cut.vars' lays the variable. In a bare row this is a premise. The card (YtggoimakbadbkaaDoorCards.lean) ties it to the program's text. -/
def laid_epitome_span_rules {H : Type} : DataW H := .agg [.agg [.lit (.bool false), .lit (.int .i64 0), .lit (.bool false), .lit (.bool false), .lit (.bool false)], .agg [.lit (.bool true), .lit (.int .i64 1048576), .lit (.bool true), .lit (.bool true), .lit (.bool false)], .agg [.lit (.bool true), .lit (.int .i64 0), .lit (.bool false), .lit (.bool false), .lit (.bool true)], .agg [.lit (.bool true), .lit (.int .i64 1048576), .lit (.bool true), .lit (.bool false), .lit (.bool false)]]

/-- 'epitomelaw14.WordsAll': WHATEVER THE INPUT: true; the input reads as it did. -/
def wordsAllSpec : ChangeSpec := { name := "wordsAll", fn := fun _ => fun
  | [d1, d2] => { results := [.lit (.bool true)], args := [d1, d2] }
  | _ => none }
def wordsAllRow : OpenClaim := { program := "ytggoimakbadbkaadoor", sum := "a35b7aa5ad66eedaf18370c389bd8d5a5249521252d1b38db66a361d2d925fc0", func := "epitome/epitomelaw14.WordsAll", spec := "wordsAll", inPlace := ["internal/abi.NoEscape"], unfollowed := true, recurses := true, named := ["epitome/span.rules"], apart := false, laid := [("epitome/span.rules", laid_epitome_span_rules)] }
def WordsAllSaid : Prop := wordsAllRow.holds Tryd.pinned (OpenSpec.ofChange wordsAllSpec)

/-- ITS FALSE NEIGHBOUR: 'it returns false'. Refute it at one input. -/
def wordsAllWrong : ChangeSpec := { name := "wordsAll", fn := fun _ => fun
  | [d1, d2] => { results := [.lit (.bool false)], args := [d1, d2] }
  | _ => none }
def WordsAllWrongFalsely : Prop := wordsAllRow.holds Tryd.pinned (OpenSpec.ofChange wordsAllWrong)

/-- 'epitomelaw14.WordsBack': WHATEVER THE INPUT: true; the input reads as it did. -/
def wordsBackSpec : ChangeSpec := { name := "wordsBack", fn := fun _ => fun
  | [d1, d2, d3] => { results := [.lit (.bool true)], args := [d1, d2, d3] }
  | _ => none }
def wordsBackRow : OpenClaim := { program := "ytggoimakbadbkaadoor", sum := "a35b7aa5ad66eedaf18370c389bd8d5a5249521252d1b38db66a361d2d925fc0", func := "epitome/epitomelaw14.WordsBack", spec := "wordsBack", inPlace := ["internal/abi.NoEscape"], unfollowed := true, recurses := true, named := ["epitome/span.rules"], apart := false, laid := [("epitome/span.rules", laid_epitome_span_rules)] }
def WordsBackSaid : Prop := wordsBackRow.holds Tryd.pinned (OpenSpec.ofChange wordsBackSpec)

/-- ITS FALSE NEIGHBOUR: 'it returns false'. Refute it at one input. -/
def wordsBackWrong : ChangeSpec := { name := "wordsBack", fn := fun _ => fun
  | [d1, d2, d3] => { results := [.lit (.bool false)], args := [d1, d2, d3] }
  | _ => none }
def WordsBackWrongFalsely : Prop := wordsBackRow.holds Tryd.pinned (OpenSpec.ofChange wordsBackWrong)

/-- 'epitomelaw14.WordsTaken': WHATEVER THE INPUT: true; the input reads as it did. -/
def wordsTakenSpec : ChangeSpec := { name := "wordsTaken", fn := fun _ => fun
  | [d] => { results := [.lit (.bool true)], args := [d] }
  | _ => none }
def wordsTakenRow : OpenClaim := { program := "ytggoimakbadbkaadoor", sum := "a35b7aa5ad66eedaf18370c389bd8d5a5249521252d1b38db66a361d2d925fc0", func := "epitome/epitomelaw14.WordsTaken", spec := "wordsTaken", unfollowed := true, recurses := true, named := ["epitome/span.rules"], apart := false, laid := [("epitome/span.rules", laid_epitome_span_rules)] }
def WordsTakenSaid : Prop := wordsTakenRow.holds Tryd.pinned (OpenSpec.ofChange wordsTakenSpec)

/-- ITS FALSE NEIGHBOUR: 'it returns false'. Refute it at one input. -/
def wordsTakenWrong : ChangeSpec := { name := "wordsTaken", fn := fun _ => fun
  | [d] => { results := [.lit (.bool false)], args := [d] }
  | _ => none }
def WordsTakenWrongFalsely : Prop := wordsTakenRow.holds Tryd.pinned (OpenSpec.ofChange wordsTakenWrong)

/-- 'epitomelaw14.WordsOdd': WHATEVER THE INPUT: true; the input reads as it did. -/
def wordsOddSpec : ChangeSpec := { name := "wordsOdd", fn := fun _ => fun
  | [d1, d2] => { results := [.lit (.bool true)], args := [d1, d2] }
  | _ => none }
def wordsOddRow : OpenClaim := { program := "ytggoimakbadbkaadoor", sum := "a35b7aa5ad66eedaf18370c389bd8d5a5249521252d1b38db66a361d2d925fc0", func := "epitome/epitomelaw14.WordsOdd", spec := "wordsOdd", unfollowed := true, recurses := true, named := ["epitome/span.rules"], apart := false, laid := [("epitome/span.rules", laid_epitome_span_rules)] }
def WordsOddSaid : Prop := wordsOddRow.holds Tryd.pinned (OpenSpec.ofChange wordsOddSpec)

/-- ITS FALSE NEIGHBOUR: 'it returns false'. Refute it at one input. -/
def wordsOddWrong : ChangeSpec := { name := "wordsOdd", fn := fun _ => fun
  | [d1, d2] => { results := [.lit (.bool false)], args := [d1, d2] }
  | _ => none }
def WordsOddWrongFalsely : Prop := wordsOddRow.holds Tryd.pinned (OpenSpec.ofChange wordsOddWrong)

/-- 'epitomelaw14.WordsRow': WHATEVER THE INPUT: true; the input reads as it did. -/
def wordsRowSpec : ChangeSpec := { name := "wordsRow", fn := fun _ => fun
  | [d1, d2] => { results := [.lit (.bool true)], args := [d1, d2] }
  | _ => none }
def wordsRowRow : OpenClaim := { program := "ytggoimakbadbkaadoor", sum := "a35b7aa5ad66eedaf18370c389bd8d5a5249521252d1b38db66a361d2d925fc0", func := "epitome/epitomelaw14.WordsRow", spec := "wordsRow", inPlace := ["internal/abi.NoEscape"], unfollowed := true, recurses := true, named := ["epitome/span.rules"], apart := false, laid := [("epitome/span.rules", laid_epitome_span_rules)] }
def WordsRowSaid : Prop := wordsRowRow.holds Tryd.pinned (OpenSpec.ofChange wordsRowSpec)

/-- ITS FALSE NEIGHBOUR: 'it returns false'. Refute it at one input. -/
def wordsRowWrong : ChangeSpec := { name := "wordsRow", fn := fun _ => fun
  | [d1, d2] => { results := [.lit (.bool false)], args := [d1, d2] }
  | _ => none }
def WordsRowWrongFalsely : Prop := wordsRowRow.holds Tryd.pinned (OpenSpec.ofChange wordsRowWrong)

/-- 'epitomelaw14.WordsSize': WHATEVER THE INPUT: true; the input reads as it did. -/
def wordsSizeSpec : ChangeSpec := { name := "wordsSize", fn := fun _ => fun
  | [d1, d2] => { results := [.lit (.bool true)], args := [d1, d2] }
  | _ => none }
def wordsSizeRow : OpenClaim := { program := "ytggoimakbadbkaadoor", sum := "a35b7aa5ad66eedaf18370c389bd8d5a5249521252d1b38db66a361d2d925fc0", func := "epitome/epitomelaw14.WordsSize", spec := "wordsSize", inPlace := ["internal/abi.NoEscape"], unfollowed := true, recurses := true, named := ["epitome/span.rules"], apart := false, laid := [("epitome/span.rules", laid_epitome_span_rules)] }
def WordsSizeSaid : Prop := wordsSizeRow.holds Tryd.pinned (OpenSpec.ofChange wordsSizeSpec)

/-- ITS FALSE NEIGHBOUR: 'it returns false'. Refute it at one input. -/
def wordsSizeWrong : ChangeSpec := { name := "wordsSize", fn := fun _ => fun
  | [d1, d2] => { results := [.lit (.bool false)], args := [d1, d2] }
  | _ => none }
def WordsSizeWrongFalsely : Prop := wordsSizeRow.holds Tryd.pinned (OpenSpec.ofChange wordsSizeWrong)

/- THE SECOND FORM. 'bulk': how many values and letters a reading holds, each counted each time it is reached (what is shared counts as often as it is met; a slice's spare places count too). A statement '..UptoSaid' is the law's where the arguments, and the package variables that the reading takes, are together of bulk at most 1048576: NARROWER than '..Said'. Prove '..Said' where nothing that the law and all that it calls make is longer than what came in: it says more and counts as full. Else prove '..UptoSaid'. A law counts once. -/
mutual
def uptoBulk {H : Type} : DataW H → Nat
  | .lit (.string bytes) => bytes.length + 1
  | .lit _ => 1
  | .nil => 1
  | .ptr d => uptoBulk d + 1
  | .slice elems spare => uptoBulkAll elems + uptoBulkAll spare + 1
  | .agg parts => uptoBulkAll parts + 1
  | .iface _ d => uptoBulk d + 1
  | .map entries => uptoBulkEntries entries + 1
  | .held _ => 1
def uptoBulkAll {H : Type} : List (DataW H) → Nat
  | [] => 0
  | d :: r => uptoBulk d + uptoBulkAll r
def uptoBulkEntries {H : Type} : List (Lit × DataW H) → Nat
  | [] => 0
  | x :: r => uptoBulkEntry x + uptoBulkEntries r
def uptoBulkEntry {H : Type} : Lit × DataW H → Nat
  | (.string bytes, d) => bytes.length + uptoBulk d + 1
  | (_, d) => uptoBulk d + 1
 end
def uptoSmall : (H : Type) → List (DataW H) → Bool := fun _ ds => decide (uptoBulkAll ds ≤ 1048576)
def OpenSpec.upto (s : _root_.Go.ChangeSpec) : _root_.Go.OpenSpec := { _root_.Go.OpenSpec.ofChange s with cond := some uptoSmall }

/-- 'epitomelaw14.WordsAll', WHERE WHAT IT READS IS OF BULK AT MOST 1048576: true; the input reads as it did. -/
def wordsAllUptoRow : OpenClaim := { program := "ytggoimakbadbkaadoor", sum := "a35b7aa5ad66eedaf18370c389bd8d5a5249521252d1b38db66a361d2d925fc0", func := "epitome/epitomelaw14.WordsAll", spec := "wordsAll", inPlace := ["internal/abi.NoEscape"], unfollowed := true, recurses := true, named := ["epitome/span.rules"], apart := false, laid := [("epitome/span.rules", laid_epitome_span_rules)], narrowed := true }
def WordsAllUptoSaid : Prop := wordsAllUptoRow.holds Tryd.pinned (OpenSpec.upto wordsAllSpec)

/-- 'epitomelaw14.WordsBack', WHERE WHAT IT READS IS OF BULK AT MOST 1048576: true; the input reads as it did. -/
def wordsBackUptoRow : OpenClaim := { program := "ytggoimakbadbkaadoor", sum := "a35b7aa5ad66eedaf18370c389bd8d5a5249521252d1b38db66a361d2d925fc0", func := "epitome/epitomelaw14.WordsBack", spec := "wordsBack", inPlace := ["internal/abi.NoEscape"], unfollowed := true, recurses := true, named := ["epitome/span.rules"], apart := false, laid := [("epitome/span.rules", laid_epitome_span_rules)], narrowed := true }
def WordsBackUptoSaid : Prop := wordsBackUptoRow.holds Tryd.pinned (OpenSpec.upto wordsBackSpec)

/-- 'epitomelaw14.WordsTaken', WHERE WHAT IT READS IS OF BULK AT MOST 1048576: true; the input reads as it did. -/
def wordsTakenUptoRow : OpenClaim := { program := "ytggoimakbadbkaadoor", sum := "a35b7aa5ad66eedaf18370c389bd8d5a5249521252d1b38db66a361d2d925fc0", func := "epitome/epitomelaw14.WordsTaken", spec := "wordsTaken", unfollowed := true, recurses := true, named := ["epitome/span.rules"], apart := false, laid := [("epitome/span.rules", laid_epitome_span_rules)], narrowed := true }
def WordsTakenUptoSaid : Prop := wordsTakenUptoRow.holds Tryd.pinned (OpenSpec.upto wordsTakenSpec)

/-- 'epitomelaw14.WordsOdd', WHERE WHAT IT READS IS OF BULK AT MOST 1048576: true; the input reads as it did. -/
def wordsOddUptoRow : OpenClaim := { program := "ytggoimakbadbkaadoor", sum := "a35b7aa5ad66eedaf18370c389bd8d5a5249521252d1b38db66a361d2d925fc0", func := "epitome/epitomelaw14.WordsOdd", spec := "wordsOdd", unfollowed := true, recurses := true, named := ["epitome/span.rules"], apart := false, laid := [("epitome/span.rules", laid_epitome_span_rules)], narrowed := true }
def WordsOddUptoSaid : Prop := wordsOddUptoRow.holds Tryd.pinned (OpenSpec.upto wordsOddSpec)

/-- 'epitomelaw14.WordsRow', WHERE WHAT IT READS IS OF BULK AT MOST 1048576: true; the input reads as it did. -/
def wordsRowUptoRow : OpenClaim := { program := "ytggoimakbadbkaadoor", sum := "a35b7aa5ad66eedaf18370c389bd8d5a5249521252d1b38db66a361d2d925fc0", func := "epitome/epitomelaw14.WordsRow", spec := "wordsRow", inPlace := ["internal/abi.NoEscape"], unfollowed := true, recurses := true, named := ["epitome/span.rules"], apart := false, laid := [("epitome/span.rules", laid_epitome_span_rules)], narrowed := true }
def WordsRowUptoSaid : Prop := wordsRowUptoRow.holds Tryd.pinned (OpenSpec.upto wordsRowSpec)

/-- 'epitomelaw14.WordsSize', WHERE WHAT IT READS IS OF BULK AT MOST 1048576: true; the input reads as it did. -/
def wordsSizeUptoRow : OpenClaim := { program := "ytggoimakbadbkaadoor", sum := "a35b7aa5ad66eedaf18370c389bd8d5a5249521252d1b38db66a361d2d925fc0", func := "epitome/epitomelaw14.WordsSize", spec := "wordsSize", inPlace := ["internal/abi.NoEscape"], unfollowed := true, recurses := true, named := ["epitome/span.rules"], apart := false, laid := [("epitome/span.rules", laid_epitome_span_rules)], narrowed := true }
def WordsSizeUptoSaid : Prop := wordsSizeUptoRow.holds Tryd.pinned (OpenSpec.upto wordsSizeSpec)

end Rows
end Go.Proofs.YtggoimakbadbkaaDoor
