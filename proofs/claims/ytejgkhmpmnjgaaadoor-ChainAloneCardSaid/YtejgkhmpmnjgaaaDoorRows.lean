/-
  NARROWER THAN 'FOR EVERY INPUT', by the rows' own cells (each row's printed sentence says how): ChainAll: laid · ChainTexts: laid · ChainSpoilt: laid · ChainCut: laid · ChainAlone: laid · ChainNumbers: laid.
  DERIVED. THE GIVEN ROWS OF THIS SEAT. 6 by the template 'for every input the law returns true; each argument reads behind the call as it read before'; 0 by the template 'total and deterministic' (their statements: YtejgkhmpmnjgaaaDoorTotals.lean).
  GIVEN WITH THE SEED: the statements are not yours to turn. If you find one false, say at which input.
  Laid BY PROGRAM, IN A SANDBOX (cutbox-rows.mjs): the forced cells as the released guide's own fill.sh prints them over the translation b7c5611f268ecd2c… (all of the seat's roots in one cut). By AI agents, Wed Nov 11 2026. No macro, syntax, notation, axiom, sorry.
-/
import Derived.Test.YtejgkhmpmnjgaaaDoorChecked
import GoSem.Claim
import GoSem.ClaimJoined
import GoSem.ClaimMapViews
import Derived.JoinedTies
import Derived.KernelRfl
namespace Go.Proofs.YtejgkhmpmnjgaaaDoor
/- THE CELL 'sum', in the pinned program and in every row, IS THE sha256 OF THE DUMP (.gsa) THAT YtejgkhmpmnjgaaaDoorProg.lean LOADS. Nothing in Lean hashes anything: it is a label: what it is worth is what the hold of that sum in a sandbox is worth. -/
noncomputable def Tryd.pinned : Pinned := { name := "ytejgkhmpmnjgaaadoor", sum := "b7c5611f268ecd2c2ee650f301fc51977975fda9fc78204adb4de5c8885ad3f6", checked := Tryd.checked }
namespace Rows
def none {H : Type} : Left H := { results := [], args := [] }

/- WHAT THE LISTED PACKAGE-LEVEL VARIABLES READ AS WHEN THE CALL BEGINS. Each datum BY PROGRAM (the guide's laid-datum.mjs) off the statement by which the dump's own 'gosem.cut.vars' lays the variable. In a bare row this is a premise. The card (YtejgkhmpmnjgaaaDoorCards.lean) ties it to the program's text. -/
def laid_epitome_span_rules {H : Type} : DataW H := .agg [.agg [.lit (.bool false), .lit (.int .i64 0), .lit (.bool false), .lit (.bool false), .lit (.bool false)], .agg [.lit (.bool true), .lit (.int .i64 1048576), .lit (.bool true), .lit (.bool true), .lit (.bool false)], .agg [.lit (.bool true), .lit (.int .i64 0), .lit (.bool false), .lit (.bool false), .lit (.bool true)], .agg [.lit (.bool true), .lit (.int .i64 1048576), .lit (.bool true), .lit (.bool false), .lit (.bool false)]]

/-- 'epitomelaw16.ChainAll': WHATEVER THE INPUT: true; the input reads as it did. -/
def chainAllSpec : ChangeSpec := { name := "chainAll", fn := fun _ => fun
  | [d1, d2] => { results := [.lit (.bool true)], args := [d1, d2] }
  | _ => none }
def chainAllRow : OpenClaim := { program := "ytejgkhmpmnjgaaadoor", sum := "b7c5611f268ecd2c2ee650f301fc51977975fda9fc78204adb4de5c8885ad3f6", func := "epitome/epitomelaw16.ChainAll", spec := "chainAll", inPlace := ["internal/abi.NoEscape"], unfollowed := true, recurses := true, named := ["epitome/span.rules"], apart := false, laid := [("epitome/span.rules", laid_epitome_span_rules)] }
def ChainAllSaid : Prop := chainAllRow.holds Tryd.pinned (OpenSpec.ofChange chainAllSpec)

/-- ITS FALSE NEIGHBOUR: 'it returns false'. Refute it at one input. -/
def chainAllWrong : ChangeSpec := { name := "chainAll", fn := fun _ => fun
  | [d1, d2] => { results := [.lit (.bool false)], args := [d1, d2] }
  | _ => none }
def ChainAllWrongFalsely : Prop := chainAllRow.holds Tryd.pinned (OpenSpec.ofChange chainAllWrong)

/-- 'epitomelaw16.ChainTexts': WHATEVER THE INPUT: true; the input reads as it did. -/
def chainTextsSpec : ChangeSpec := { name := "chainTexts", fn := fun _ => fun
  | [d1, d2] => { results := [.lit (.bool true)], args := [d1, d2] }
  | _ => none }
def chainTextsRow : OpenClaim := { program := "ytejgkhmpmnjgaaadoor", sum := "b7c5611f268ecd2c2ee650f301fc51977975fda9fc78204adb4de5c8885ad3f6", func := "epitome/epitomelaw16.ChainTexts", spec := "chainTexts", inPlace := ["internal/abi.NoEscape"], unfollowed := true, recurses := true, named := ["epitome/span.rules"], apart := false, laid := [("epitome/span.rules", laid_epitome_span_rules)] }
def ChainTextsSaid : Prop := chainTextsRow.holds Tryd.pinned (OpenSpec.ofChange chainTextsSpec)

/-- ITS FALSE NEIGHBOUR: 'it returns false'. Refute it at one input. -/
def chainTextsWrong : ChangeSpec := { name := "chainTexts", fn := fun _ => fun
  | [d1, d2] => { results := [.lit (.bool false)], args := [d1, d2] }
  | _ => none }
def ChainTextsWrongFalsely : Prop := chainTextsRow.holds Tryd.pinned (OpenSpec.ofChange chainTextsWrong)

/-- 'epitomelaw16.ChainSpoilt': WHATEVER THE INPUT: true; the input reads as it did. -/
def chainSpoiltSpec : ChangeSpec := { name := "chainSpoilt", fn := fun _ => fun
  | [d1, d2, d3] => { results := [.lit (.bool true)], args := [d1, d2, d3] }
  | _ => none }
def chainSpoiltRow : OpenClaim := { program := "ytejgkhmpmnjgaaadoor", sum := "b7c5611f268ecd2c2ee650f301fc51977975fda9fc78204adb4de5c8885ad3f6", func := "epitome/epitomelaw16.ChainSpoilt", spec := "chainSpoilt", inPlace := ["internal/abi.NoEscape"], unfollowed := true, recurses := true, named := ["epitome/span.rules"], apart := false, laid := [("epitome/span.rules", laid_epitome_span_rules)] }
def ChainSpoiltSaid : Prop := chainSpoiltRow.holds Tryd.pinned (OpenSpec.ofChange chainSpoiltSpec)

/-- ITS FALSE NEIGHBOUR: 'it returns false'. Refute it at one input. -/
def chainSpoiltWrong : ChangeSpec := { name := "chainSpoilt", fn := fun _ => fun
  | [d1, d2, d3] => { results := [.lit (.bool false)], args := [d1, d2, d3] }
  | _ => none }
def ChainSpoiltWrongFalsely : Prop := chainSpoiltRow.holds Tryd.pinned (OpenSpec.ofChange chainSpoiltWrong)

/-- 'epitomelaw16.ChainCut': WHATEVER THE INPUT: true; the input reads as it did. -/
def chainCutSpec : ChangeSpec := { name := "chainCut", fn := fun _ => fun
  | [d1, d2, d3] => { results := [.lit (.bool true)], args := [d1, d2, d3] }
  | _ => none }
def chainCutRow : OpenClaim := { program := "ytejgkhmpmnjgaaadoor", sum := "b7c5611f268ecd2c2ee650f301fc51977975fda9fc78204adb4de5c8885ad3f6", func := "epitome/epitomelaw16.ChainCut", spec := "chainCut", inPlace := ["internal/abi.NoEscape"], unfollowed := true, recurses := true, named := ["epitome/span.rules"], apart := false, laid := [("epitome/span.rules", laid_epitome_span_rules)] }
def ChainCutSaid : Prop := chainCutRow.holds Tryd.pinned (OpenSpec.ofChange chainCutSpec)

/-- ITS FALSE NEIGHBOUR: 'it returns false'. Refute it at one input. -/
def chainCutWrong : ChangeSpec := { name := "chainCut", fn := fun _ => fun
  | [d1, d2, d3] => { results := [.lit (.bool false)], args := [d1, d2, d3] }
  | _ => none }
def ChainCutWrongFalsely : Prop := chainCutRow.holds Tryd.pinned (OpenSpec.ofChange chainCutWrong)

/-- 'epitomelaw16.ChainAlone': WHATEVER THE INPUT: true; the input reads as it did. -/
def chainAloneSpec : ChangeSpec := { name := "chainAlone", fn := fun _ => fun
  | [d1, d2] => { results := [.lit (.bool true)], args := [d1, d2] }
  | _ => none }
def chainAloneRow : OpenClaim := { program := "ytejgkhmpmnjgaaadoor", sum := "b7c5611f268ecd2c2ee650f301fc51977975fda9fc78204adb4de5c8885ad3f6", func := "epitome/epitomelaw16.ChainAlone", spec := "chainAlone", inPlace := ["internal/abi.NoEscape"], unfollowed := true, recurses := true, named := ["epitome/span.rules"], apart := false, laid := [("epitome/span.rules", laid_epitome_span_rules)] }
def ChainAloneSaid : Prop := chainAloneRow.holds Tryd.pinned (OpenSpec.ofChange chainAloneSpec)

/-- ITS FALSE NEIGHBOUR: 'it returns false'. Refute it at one input. -/
def chainAloneWrong : ChangeSpec := { name := "chainAlone", fn := fun _ => fun
  | [d1, d2] => { results := [.lit (.bool false)], args := [d1, d2] }
  | _ => none }
def ChainAloneWrongFalsely : Prop := chainAloneRow.holds Tryd.pinned (OpenSpec.ofChange chainAloneWrong)

/-- 'epitomelaw16.ChainNumbers': WHATEVER THE INPUT: true; the input reads as it did. -/
def chainNumbersSpec : ChangeSpec := { name := "chainNumbers", fn := fun _ => fun
  | [d1, d2, d3] => { results := [.lit (.bool true)], args := [d1, d2, d3] }
  | _ => none }
def chainNumbersRow : OpenClaim := { program := "ytejgkhmpmnjgaaadoor", sum := "b7c5611f268ecd2c2ee650f301fc51977975fda9fc78204adb4de5c8885ad3f6", func := "epitome/epitomelaw16.ChainNumbers", spec := "chainNumbers", inPlace := ["internal/abi.NoEscape"], unfollowed := true, recurses := true, named := ["epitome/span.rules"], apart := false, laid := [("epitome/span.rules", laid_epitome_span_rules)] }
def ChainNumbersSaid : Prop := chainNumbersRow.holds Tryd.pinned (OpenSpec.ofChange chainNumbersSpec)

/-- ITS FALSE NEIGHBOUR: 'it returns false'. Refute it at one input. -/
def chainNumbersWrong : ChangeSpec := { name := "chainNumbers", fn := fun _ => fun
  | [d1, d2, d3] => { results := [.lit (.bool false)], args := [d1, d2, d3] }
  | _ => none }
def ChainNumbersWrongFalsely : Prop := chainNumbersRow.holds Tryd.pinned (OpenSpec.ofChange chainNumbersWrong)

/- THE SECOND FORM. 'bulk': how many values and letters a reading holds, each counted each time it is reached (what is shared counts as often as it is met; a slice's spare places count too). A statement '..UptoSaid' is the law's where the arguments, and the package variables that the reading takes, are together of bulk at most 1048576: NARROWER than '..Said'. Prove '..Said' where nothing that the law and all that it calls make is longer than what came in: it says more and counts as full. Else prove '..UptoSaid'. A law counts once. -/
mutual
def uptoBulk {H : Type} : DataW H → Nat
  | .lit (.string bytes) => bytes.length + 1
  | .lit _ => 1
  | .nil => 1
  | .ptr d => uptoBulk d + 1
  | .slice elems spare => uptoBulkAll elems + uptoBulkAll spare + 1
  | .agg parts => uptoBulkAll parts + 1
  | .iface _ d => uptoBulk d + 1
  | .map entries => uptoBulkEntries entries + 1
  | .held _ => 1
def uptoBulkAll {H : Type} : List (DataW H) → Nat
  | [] => 0
  | d :: r => uptoBulk d + uptoBulkAll r
def uptoBulkEntries {H : Type} : List (Lit × DataW H) → Nat
  | [] => 0
  | x :: r => uptoBulkEntry x + uptoBulkEntries r
def uptoBulkEntry {H : Type} : Lit × DataW H → Nat
  | (.string bytes, d) => bytes.length + uptoBulk d + 1
  | (_, d) => uptoBulk d + 1
 end
def uptoSmall : (H : Type) → List (DataW H) → Bool := fun _ ds => decide (uptoBulkAll ds ≤ 1048576)
def OpenSpec.upto (s : _root_.Go.ChangeSpec) : _root_.Go.OpenSpec := { _root_.Go.OpenSpec.ofChange s with cond := some uptoSmall }

/-- 'epitomelaw16.ChainAll', WHERE WHAT IT READS IS OF BULK AT MOST 1048576: true; the input reads as it did. -/
def chainAllUptoRow : OpenClaim := { program := "ytejgkhmpmnjgaaadoor", sum := "b7c5611f268ecd2c2ee650f301fc51977975fda9fc78204adb4de5c8885ad3f6", func := "epitome/epitomelaw16.ChainAll", spec := "chainAll", inPlace := ["internal/abi.NoEscape"], unfollowed := true, recurses := true, named := ["epitome/span.rules"], apart := false, laid := [("epitome/span.rules", laid_epitome_span_rules)], narrowed := true }
def ChainAllUptoSaid : Prop := chainAllUptoRow.holds Tryd.pinned (OpenSpec.upto chainAllSpec)

/-- 'epitomelaw16.ChainTexts', WHERE WHAT IT READS IS OF BULK AT MOST 1048576: true; the input reads as it did. -/
def chainTextsUptoRow : OpenClaim := { program := "ytejgkhmpmnjgaaadoor", sum := "b7c5611f268ecd2c2ee650f301fc51977975fda9fc78204adb4de5c8885ad3f6", func := "epitome/epitomelaw16.ChainTexts", spec := "chainTexts", inPlace := ["internal/abi.NoEscape"], unfollowed := true, recurses := true, named := ["epitome/span.rules"], apart := false, laid := [("epitome/span.rules", laid_epitome_span_rules)], narrowed := true }
def ChainTextsUptoSaid : Prop := chainTextsUptoRow.holds Tryd.pinned (OpenSpec.upto chainTextsSpec)

/-- 'epitomelaw16.ChainSpoilt', WHERE WHAT IT READS IS OF BULK AT MOST 1048576: true; the input reads as it did. -/
def chainSpoiltUptoRow : OpenClaim := { program := "ytejgkhmpmnjgaaadoor", sum := "b7c5611f268ecd2c2ee650f301fc51977975fda9fc78204adb4de5c8885ad3f6", func := "epitome/epitomelaw16.ChainSpoilt", spec := "chainSpoilt", inPlace := ["internal/abi.NoEscape"], unfollowed := true, recurses := true, named := ["epitome/span.rules"], apart := false, laid := [("epitome/span.rules", laid_epitome_span_rules)], narrowed := true }
def ChainSpoiltUptoSaid : Prop := chainSpoiltUptoRow.holds Tryd.pinned (OpenSpec.upto chainSpoiltSpec)

/-- 'epitomelaw16.ChainCut', WHERE WHAT IT READS IS OF BULK AT MOST 1048576: true; the input reads as it did. -/
def chainCutUptoRow : OpenClaim := { program := "ytejgkhmpmnjgaaadoor", sum := "b7c5611f268ecd2c2ee650f301fc51977975fda9fc78204adb4de5c8885ad3f6", func := "epitome/epitomelaw16.ChainCut", spec := "chainCut", inPlace := ["internal/abi.NoEscape"], unfollowed := true, recurses := true, named := ["epitome/span.rules"], apart := false, laid := [("epitome/span.rules", laid_epitome_span_rules)], narrowed := true }
def ChainCutUptoSaid : Prop := chainCutUptoRow.holds Tryd.pinned (OpenSpec.upto chainCutSpec)

/-- 'epitomelaw16.ChainAlone', WHERE WHAT IT READS IS OF BULK AT MOST 1048576: true; the input reads as it did. -/
def chainAloneUptoRow : OpenClaim := { program := "ytejgkhmpmnjgaaadoor", sum := "b7c5611f268ecd2c2ee650f301fc51977975fda9fc78204adb4de5c8885ad3f6", func := "epitome/epitomelaw16.ChainAlone", spec := "chainAlone", inPlace := ["internal/abi.NoEscape"], unfollowed := true, recurses := true, named := ["epitome/span.rules"], apart := false, laid := [("epitome/span.rules", laid_epitome_span_rules)], narrowed := true }
def ChainAloneUptoSaid : Prop := chainAloneUptoRow.holds Tryd.pinned (OpenSpec.upto chainAloneSpec)

/-- 'epitomelaw16.ChainNumbers', WHERE WHAT IT READS IS OF BULK AT MOST 1048576: true; the input reads as it did. -/
def chainNumbersUptoRow : OpenClaim := { program := "ytejgkhmpmnjgaaadoor", sum := "b7c5611f268ecd2c2ee650f301fc51977975fda9fc78204adb4de5c8885ad3f6", func := "epitome/epitomelaw16.ChainNumbers", spec := "chainNumbers", inPlace := ["internal/abi.NoEscape"], unfollowed := true, recurses := true, named := ["epitome/span.rules"], apart := false, laid := [("epitome/span.rules", laid_epitome_span_rules)], narrowed := true }
def ChainNumbersUptoSaid : Prop := chainNumbersUptoRow.holds Tryd.pinned (OpenSpec.upto chainNumbersSpec)

end Rows
end Go.Proofs.YtejgkhmpmnjgaaaDoor
