/-
  NARROWER THAN 'FOR EVERY INPUT', by the rows' own cells (each row's printed sentence says how): HistoryRuns: laid · HistoryKeeps: laid · HistoryOver: laid · HistoryFirst: laid.
  DERIVED. THE GIVEN ROWS OF THIS SEAT. 4 by the template 'for every input the law returns true; each argument reads behind the call as it read before'; 0 by the template 'total and deterministic' (their statements: YtgcaphjjigpjlaaDoorTotals.lean).
  GIVEN WITH THE SEED: the statements are not yours to turn. If you find one false, say at which input.
  Laid BY PROGRAM, IN A SANDBOX (cutbox-rows.mjs): the forced cells as the released guide's own fill.sh prints them over the translation 9f9427c011c5cbe7… (all of the seat's roots in one cut). By AI agents, Wed Nov 11 2026. No macro, syntax, notation, axiom, sorry.
-/
import Derived.Test.YtgcaphjjigpjlaaDoorChecked
import GoSem.Claim
import GoSem.ClaimJoined
import GoSem.ClaimMapViews
import Derived.JoinedTies
import Derived.KernelRfl
namespace Go.Proofs.YtgcaphjjigpjlaaDoor
/- THE CELL 'sum', in the pinned program and in every row, IS THE sha256 OF THE DUMP (.gsa) THAT YtgcaphjjigpjlaaDoorProg.lean LOADS. Nothing in Lean hashes anything: it is a label: what it is worth is what the hold of that sum in a sandbox is worth. -/
noncomputable def Tryd.pinned : Pinned := { name := "ytgcaphjjigpjlaadoor", sum := "9f9427c011c5cbe7d5fbdb86c63844181e7d1b2a4312cd53090b256bdc6a8a68", checked := Tryd.checked }
namespace Rows
def none {H : Type} : Left H := { results := [], args := [] }

/- WHAT THE LISTED PACKAGE-LEVEL VARIABLES READ AS WHEN THE CALL BEGINS. Each datum BY PROGRAM (the guide's laid-datum.mjs) off the statement by which the dump's own 'gosem.cut.vars' lays the variable. In a bare row this is a premise. The card (YtgcaphjjigpjlaaDoorCards.lean) ties it to the program's text. -/
def laid_epitome_span_rules {H : Type} : DataW H := .agg [.agg [.lit (.bool false), .lit (.int .i64 0), .lit (.bool false), .lit (.bool false), .lit (.bool false)], .agg [.lit (.bool true), .lit (.int .i64 1048576), .lit (.bool true), .lit (.bool true), .lit (.bool false)], .agg [.lit (.bool true), .lit (.int .i64 0), .lit (.bool false), .lit (.bool false), .lit (.bool true)], .agg [.lit (.bool true), .lit (.int .i64 1048576), .lit (.bool true), .lit (.bool false), .lit (.bool false)]]

/-- 'epitomelaw17.HistoryRuns': WHATEVER THE INPUT: true; the input reads as it did. -/
def historyRunsSpec : ChangeSpec := { name := "historyRuns", fn := fun _ => fun
  | [d1, d2] => { results := [.lit (.bool true)], args := [d1, d2] }
  | _ => none }
def historyRunsRow : OpenClaim := { program := "ytgcaphjjigpjlaadoor", sum := "9f9427c011c5cbe7d5fbdb86c63844181e7d1b2a4312cd53090b256bdc6a8a68", func := "epitome/epitomelaw17.HistoryRuns", spec := "historyRuns", inPlace := ["internal/abi.NoEscape"], unfollowed := true, recurses := true, named := ["epitome/span.rules"], apart := false, laid := [("epitome/span.rules", laid_epitome_span_rules)] }
def HistoryRunsSaid : Prop := historyRunsRow.holds Tryd.pinned (OpenSpec.ofChange historyRunsSpec)

/-- ITS FALSE NEIGHBOUR: 'it returns false'. Refute it at one input. -/
def historyRunsWrong : ChangeSpec := { name := "historyRuns", fn := fun _ => fun
  | [d1, d2] => { results := [.lit (.bool false)], args := [d1, d2] }
  | _ => none }
def HistoryRunsWrongFalsely : Prop := historyRunsRow.holds Tryd.pinned (OpenSpec.ofChange historyRunsWrong)

/-- 'epitomelaw17.HistoryKeeps': WHATEVER THE INPUT: true; the input reads as it did. -/
def historyKeepsSpec : ChangeSpec := { name := "historyKeeps", fn := fun _ => fun
  | [d1, d2, d3] => { results := [.lit (.bool true)], args := [d1, d2, d3] }
  | _ => none }
def historyKeepsRow : OpenClaim := { program := "ytgcaphjjigpjlaadoor", sum := "9f9427c011c5cbe7d5fbdb86c63844181e7d1b2a4312cd53090b256bdc6a8a68", func := "epitome/epitomelaw17.HistoryKeeps", spec := "historyKeeps", inPlace := ["internal/abi.NoEscape"], unfollowed := true, recurses := true, named := ["epitome/span.rules"], apart := false, laid := [("epitome/span.rules", laid_epitome_span_rules)] }
def HistoryKeepsSaid : Prop := historyKeepsRow.holds Tryd.pinned (OpenSpec.ofChange historyKeepsSpec)

/-- ITS FALSE NEIGHBOUR: 'it returns false'. Refute it at one input. -/
def historyKeepsWrong : ChangeSpec := { name := "historyKeeps", fn := fun _ => fun
  | [d1, d2, d3] => { results := [.lit (.bool false)], args := [d1, d2, d3] }
  | _ => none }
def HistoryKeepsWrongFalsely : Prop := historyKeepsRow.holds Tryd.pinned (OpenSpec.ofChange historyKeepsWrong)

/-- 'epitomelaw17.HistoryOver': WHATEVER THE INPUT: true; the input reads as it did. -/
def historyOverSpec : ChangeSpec := { name := "historyOver", fn := fun _ => fun
  | [d1, d2, d3] => { results := [.lit (.bool true)], args := [d1, d2, d3] }
  | _ => none }
def historyOverRow : OpenClaim := { program := "ytgcaphjjigpjlaadoor", sum := "9f9427c011c5cbe7d5fbdb86c63844181e7d1b2a4312cd53090b256bdc6a8a68", func := "epitome/epitomelaw17.HistoryOver", spec := "historyOver", inPlace := ["internal/abi.NoEscape"], unfollowed := true, recurses := true, named := ["epitome/span.rules"], apart := false, laid := [("epitome/span.rules", laid_epitome_span_rules)] }
def HistoryOverSaid : Prop := historyOverRow.holds Tryd.pinned (OpenSpec.ofChange historyOverSpec)

/-- ITS FALSE NEIGHBOUR: 'it returns false'. Refute it at one input. -/
def historyOverWrong : ChangeSpec := { name := "historyOver", fn := fun _ => fun
  | [d1, d2, d3] => { results := [.lit (.bool false)], args := [d1, d2, d3] }
  | _ => none }
def HistoryOverWrongFalsely : Prop := historyOverRow.holds Tryd.pinned (OpenSpec.ofChange historyOverWrong)

/-- 'epitomelaw17.HistoryFirst': WHATEVER THE INPUT: true; the input reads as it did. -/
def historyFirstSpec : ChangeSpec := { name := "historyFirst", fn := fun _ => fun
  | [d1, d2, d3] => { results := [.lit (.bool true)], args := [d1, d2, d3] }
  | _ => none }
def historyFirstRow : OpenClaim := { program := "ytgcaphjjigpjlaadoor", sum := "9f9427c011c5cbe7d5fbdb86c63844181e7d1b2a4312cd53090b256bdc6a8a68", func := "epitome/epitomelaw17.HistoryFirst", spec := "historyFirst", inPlace := ["internal/abi.NoEscape"], unfollowed := true, recurses := true, named := ["epitome/span.rules"], apart := false, laid := [("epitome/span.rules", laid_epitome_span_rules)] }
def HistoryFirstSaid : Prop := historyFirstRow.holds Tryd.pinned (OpenSpec.ofChange historyFirstSpec)

/-- ITS FALSE NEIGHBOUR: 'it returns false'. Refute it at one input. -/
def historyFirstWrong : ChangeSpec := { name := "historyFirst", fn := fun _ => fun
  | [d1, d2, d3] => { results := [.lit (.bool false)], args := [d1, d2, d3] }
  | _ => none }
def HistoryFirstWrongFalsely : Prop := historyFirstRow.holds Tryd.pinned (OpenSpec.ofChange historyFirstWrong)

/- THE SECOND FORM. 'bulk': how many values and letters a reading holds, each counted each time it is reached (what is shared counts as often as it is met; a slice's spare places count too). A statement '..UptoSaid' is the law's where the arguments, and the package variables that the reading takes, are together of bulk at most 1048576: NARROWER than '..Said'. Prove '..Said' where nothing that the law and all that it calls make is longer than what came in: it says more and counts as full. Else prove '..UptoSaid'. A law counts once. -/
mutual
def uptoBulk {H : Type} : DataW H → Nat
  | .lit (.string bytes) => bytes.length + 1
  | .lit _ => 1
  | .nil => 1
  | .ptr d => uptoBulk d + 1
  | .slice elems spare => uptoBulkAll elems + uptoBulkAll spare + 1
  | .agg parts => uptoBulkAll parts + 1
  | .iface _ d => uptoBulk d + 1
  | .map entries => uptoBulkEntries entries + 1
  | .held _ => 1
def uptoBulkAll {H : Type} : List (DataW H) → Nat
  | [] => 0
  | d :: r => uptoBulk d + uptoBulkAll r
def uptoBulkEntries {H : Type} : List (Lit × DataW H) → Nat
  | [] => 0
  | x :: r => uptoBulkEntry x + uptoBulkEntries r
def uptoBulkEntry {H : Type} : Lit × DataW H → Nat
  | (.string bytes, d) => bytes.length + uptoBulk d + 1
  | (_, d) => uptoBulk d + 1
 end
def uptoSmall : (H : Type) → List (DataW H) → Bool := fun _ ds => decide (uptoBulkAll ds ≤ 1048576)
def OpenSpec.upto (s : _root_.Go.ChangeSpec) : _root_.Go.OpenSpec := { _root_.Go.OpenSpec.ofChange s with cond := some uptoSmall }

/-- 'epitomelaw17.HistoryRuns', WHERE WHAT IT READS IS OF BULK AT MOST 1048576: true; the input reads as it did. -/
def historyRunsUptoRow : OpenClaim := { program := "ytgcaphjjigpjlaadoor", sum := "9f9427c011c5cbe7d5fbdb86c63844181e7d1b2a4312cd53090b256bdc6a8a68", func := "epitome/epitomelaw17.HistoryRuns", spec := "historyRuns", inPlace := ["internal/abi.NoEscape"], unfollowed := true, recurses := true, named := ["epitome/span.rules"], apart := false, laid := [("epitome/span.rules", laid_epitome_span_rules)], narrowed := true }
def HistoryRunsUptoSaid : Prop := historyRunsUptoRow.holds Tryd.pinned (OpenSpec.upto historyRunsSpec)

/-- 'epitomelaw17.HistoryKeeps', WHERE WHAT IT READS IS OF BULK AT MOST 1048576: true; the input reads as it did. -/
def historyKeepsUptoRow : OpenClaim := { program := "ytgcaphjjigpjlaadoor", sum := "9f9427c011c5cbe7d5fbdb86c63844181e7d1b2a4312cd53090b256bdc6a8a68", func := "epitome/epitomelaw17.HistoryKeeps", spec := "historyKeeps", inPlace := ["internal/abi.NoEscape"], unfollowed := true, recurses := true, named := ["epitome/span.rules"], apart := false, laid := [("epitome/span.rules", laid_epitome_span_rules)], narrowed := true }
def HistoryKeepsUptoSaid : Prop := historyKeepsUptoRow.holds Tryd.pinned (OpenSpec.upto historyKeepsSpec)

/-- 'epitomelaw17.HistoryOver', WHERE WHAT IT READS IS OF BULK AT MOST 1048576: true; the input reads as it did. -/
def historyOverUptoRow : OpenClaim := { program := "ytgcaphjjigpjlaadoor", sum := "9f9427c011c5cbe7d5fbdb86c63844181e7d1b2a4312cd53090b256bdc6a8a68", func := "epitome/epitomelaw17.HistoryOver", spec := "historyOver", inPlace := ["internal/abi.NoEscape"], unfollowed := true, recurses := true, named := ["epitome/span.rules"], apart := false, laid := [("epitome/span.rules", laid_epitome_span_rules)], narrowed := true }
def HistoryOverUptoSaid : Prop := historyOverUptoRow.holds Tryd.pinned (OpenSpec.upto historyOverSpec)

/-- 'epitomelaw17.HistoryFirst', WHERE WHAT IT READS IS OF BULK AT MOST 1048576: true; the input reads as it did. -/
def historyFirstUptoRow : OpenClaim := { program := "ytgcaphjjigpjlaadoor", sum := "9f9427c011c5cbe7d5fbdb86c63844181e7d1b2a4312cd53090b256bdc6a8a68", func := "epitome/epitomelaw17.HistoryFirst", spec := "historyFirst", inPlace := ["internal/abi.NoEscape"], unfollowed := true, recurses := true, named := ["epitome/span.rules"], apart := false, laid := [("epitome/span.rules", laid_epitome_span_rules)], narrowed := true }
def HistoryFirstUptoSaid : Prop := historyFirstUptoRow.holds Tryd.pinned (OpenSpec.upto historyFirstSpec)

end Rows
end Go.Proofs.YtgcaphjjigpjlaaDoor
