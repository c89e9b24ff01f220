/-
  No cell of these rows narrows 'for every input' (looked for: loops, veiled, ifaces, maps, wideKeys, modest, calm, conditions, laid).
  DERIVED. THE GIVEN ROWS OF THIS SEAT. 5 by the template 'for every input the law returns true; each argument reads behind the call as it read before'; 0 by the template 'total and deterministic' (their statements: YtilldbbfdmdggaaTotals.lean).
  GIVEN WITH THE SEED: the statements are not yours to turn. If you find one false, say at which input.
  Laid BY PROGRAM, IN A SANDBOX (cutbox-rows.mjs): the forced cells as the released guide's own fill.sh prints them over the translation 05c74220e804aa20… (all of the seat's roots in one cut). By AI agents, Wed Nov 11 2026. No macro, syntax, notation, axiom, sorry.
-/
import Derived.Test.YtilldbbfdmdggaaChecked
import GoSem.Claim
import GoSem.ClaimJoined
import GoSem.ClaimMapViews
import Derived.JoinedTies
import Derived.KernelRfl
namespace Go.Proofs.Ytilldbbfdmdggaa
/- THE CELL 'sum', in the pinned program and in every row, IS THE sha256 OF THE DUMP (.gsa) THAT YtilldbbfdmdggaaProg.lean LOADS. Nothing in Lean hashes anything: it is a label: what it is worth is what the hold of that sum in a sandbox is worth. -/
noncomputable def Try.pinned : Pinned := { name := "ytilldbbfdmdggaa", sum := "05c74220e804aa20080789a526d6c1b403b75e3deed02fd02b2bcd4150bd029f", checked := Try.checked }
namespace Rows
def none {H : Type} : Left H := { results := [], args := [] }

/-- 'epitomelaw15.SnapAll': WHATEVER THE INPUT: true; the input reads as it did. -/
def snapAllSpec : ChangeSpec := { name := "snapAll", fn := fun _ => fun
  | [d1, d2] => { results := [.lit (.bool true)], args := [d1, d2] }
  | _ => none }
def snapAllRow : OpenClaim := { program := "ytilldbbfdmdggaa", sum := "05c74220e804aa20080789a526d6c1b403b75e3deed02fd02b2bcd4150bd029f", func := "epitome/epitomelaw15.SnapAll", spec := "snapAll", unfollowed := true, recurses := true, apart := false }
def SnapAllSaid : Prop := snapAllRow.holds Try.pinned (OpenSpec.ofChange snapAllSpec)

/-- ITS FALSE NEIGHBOUR: 'it returns false'. Refute it at one input. -/
def snapAllWrong : ChangeSpec := { name := "snapAll", fn := fun _ => fun
  | [d1, d2] => { results := [.lit (.bool false)], args := [d1, d2] }
  | _ => none }
def SnapAllWrongFalsely : Prop := snapAllRow.holds Try.pinned (OpenSpec.ofChange snapAllWrong)

/-- 'epitomelaw15.SnapRows': WHATEVER THE INPUT: true; the input reads as it did. -/
def snapRowsSpec : ChangeSpec := { name := "snapRows", fn := fun _ => fun
  | [d1, d2] => { results := [.lit (.bool true)], args := [d1, d2] }
  | _ => none }
def snapRowsRow : OpenClaim := { program := "ytilldbbfdmdggaa", sum := "05c74220e804aa20080789a526d6c1b403b75e3deed02fd02b2bcd4150bd029f", func := "epitome/epitomelaw15.SnapRows", spec := "snapRows", unfollowed := true, recurses := true, apart := false }
def SnapRowsSaid : Prop := snapRowsRow.holds Try.pinned (OpenSpec.ofChange snapRowsSpec)

/-- ITS FALSE NEIGHBOUR: 'it returns false'. Refute it at one input. -/
def snapRowsWrong : ChangeSpec := { name := "snapRows", fn := fun _ => fun
  | [d1, d2] => { results := [.lit (.bool false)], args := [d1, d2] }
  | _ => none }
def SnapRowsWrongFalsely : Prop := snapRowsRow.holds Try.pinned (OpenSpec.ofChange snapRowsWrong)

/-- 'epitomelaw15.SnapBack': WHATEVER THE INPUT: true; the input reads as it did. -/
def snapBackSpec : ChangeSpec := { name := "snapBack", fn := fun _ => fun
  | [d1, d2, d3] => { results := [.lit (.bool true)], args := [d1, d2, d3] }
  | _ => none }
def snapBackRow : OpenClaim := { program := "ytilldbbfdmdggaa", sum := "05c74220e804aa20080789a526d6c1b403b75e3deed02fd02b2bcd4150bd029f", func := "epitome/epitomelaw15.SnapBack", spec := "snapBack", unfollowed := true, recurses := true, apart := false }
def SnapBackSaid : Prop := snapBackRow.holds Try.pinned (OpenSpec.ofChange snapBackSpec)

/-- ITS FALSE NEIGHBOUR: 'it returns false'. Refute it at one input. -/
def snapBackWrong : ChangeSpec := { name := "snapBack", fn := fun _ => fun
  | [d1, d2, d3] => { results := [.lit (.bool false)], args := [d1, d2, d3] }
  | _ => none }
def SnapBackWrongFalsely : Prop := snapBackRow.holds Try.pinned (OpenSpec.ofChange snapBackWrong)

/-- 'epitomelaw15.SnapTaken': WHATEVER THE INPUT: true; the input reads as it did. -/
def snapTakenSpec : ChangeSpec := { name := "snapTaken", fn := fun _ => fun
  | [d] => { results := [.lit (.bool true)], args := [d] }
  | _ => none }
def snapTakenRow : OpenClaim := { program := "ytilldbbfdmdggaa", sum := "05c74220e804aa20080789a526d6c1b403b75e3deed02fd02b2bcd4150bd029f", func := "epitome/epitomelaw15.SnapTaken", spec := "snapTaken", unfollowed := true, recurses := true, apart := false }
def SnapTakenSaid : Prop := snapTakenRow.holds Try.pinned (OpenSpec.ofChange snapTakenSpec)

/-- ITS FALSE NEIGHBOUR: 'it returns false'. Refute it at one input. -/
def snapTakenWrong : ChangeSpec := { name := "snapTaken", fn := fun _ => fun
  | [d] => { results := [.lit (.bool false)], args := [d] }
  | _ => none }
def SnapTakenWrongFalsely : Prop := snapTakenRow.holds Try.pinned (OpenSpec.ofChange snapTakenWrong)

/-- 'epitomelaw15.SnapSizes': WHATEVER THE INPUT: true; the input reads as it did. -/
def snapSizesSpec : ChangeSpec := { name := "snapSizes", fn := fun _ => fun
  | [d1, d2, d3] => { results := [.lit (.bool true)], args := [d1, d2, d3] }
  | _ => none }
def snapSizesRow : OpenClaim := { program := "ytilldbbfdmdggaa", sum := "05c74220e804aa20080789a526d6c1b403b75e3deed02fd02b2bcd4150bd029f", func := "epitome/epitomelaw15.SnapSizes", spec := "snapSizes", unfollowed := true, recurses := true, apart := false }
def SnapSizesSaid : Prop := snapSizesRow.holds Try.pinned (OpenSpec.ofChange snapSizesSpec)

/-- ITS FALSE NEIGHBOUR: 'it returns false'. Refute it at one input. -/
def snapSizesWrong : ChangeSpec := { name := "snapSizes", fn := fun _ => fun
  | [d1, d2, d3] => { results := [.lit (.bool false)], args := [d1, d2, d3] }
  | _ => none }
def SnapSizesWrongFalsely : Prop := snapSizesRow.holds Try.pinned (OpenSpec.ofChange snapSizesWrong)

/- THE SECOND FORM. 'bulk': how many values and letters a reading holds, each counted each time it is reached (what is shared counts as often as it is met; a slice's spare places count too). A statement '..UptoSaid' is the law's where the arguments, and the package variables that the reading takes, are together of bulk at most 1048576: NARROWER than '..Said'. Prove '..Said' where nothing that the law and all that it calls make is longer than what came in: it says more and counts as full. Else prove '..UptoSaid'. A law counts once. -/
mutual
def uptoBulk {H : Type} : DataW H → Nat
  | .lit (.string bytes) => bytes.length + 1
  | .lit _ => 1
  | .nil => 1
  | .ptr d => uptoBulk d + 1
  | .slice elems spare => uptoBulkAll elems + uptoBulkAll spare + 1
  | .agg parts => uptoBulkAll parts + 1
  | .iface _ d => uptoBulk d + 1
  | .map entries => uptoBulkEntries entries + 1
  | .held _ => 1
def uptoBulkAll {H : Type} : List (DataW H) → Nat
  | [] => 0
  | d :: r => uptoBulk d + uptoBulkAll r
def uptoBulkEntries {H : Type} : List (Lit × DataW H) → Nat
  | [] => 0
  | x :: r => uptoBulkEntry x + uptoBulkEntries r
def uptoBulkEntry {H : Type} : Lit × DataW H → Nat
  | (.string bytes, d) => bytes.length + uptoBulk d + 1
  | (_, d) => uptoBulk d + 1
 end
def uptoSmall : (H : Type) → List (DataW H) → Bool := fun _ ds => decide (uptoBulkAll ds ≤ 1048576)
def OpenSpec.upto (s : _root_.Go.ChangeSpec) : _root_.Go.OpenSpec := { _root_.Go.OpenSpec.ofChange s with cond := some uptoSmall }

/-- 'epitomelaw15.SnapAll', WHERE WHAT IT READS IS OF BULK AT MOST 1048576: true; the input reads as it did. -/
def snapAllUptoRow : OpenClaim := { program := "ytilldbbfdmdggaa", sum := "05c74220e804aa20080789a526d6c1b403b75e3deed02fd02b2bcd4150bd029f", func := "epitome/epitomelaw15.SnapAll", spec := "snapAll", unfollowed := true, recurses := true, apart := false, narrowed := true }
def SnapAllUptoSaid : Prop := snapAllUptoRow.holds Try.pinned (OpenSpec.upto snapAllSpec)

/-- 'epitomelaw15.SnapRows', WHERE WHAT IT READS IS OF BULK AT MOST 1048576: true; the input reads as it did. -/
def snapRowsUptoRow : OpenClaim := { program := "ytilldbbfdmdggaa", sum := "05c74220e804aa20080789a526d6c1b403b75e3deed02fd02b2bcd4150bd029f", func := "epitome/epitomelaw15.SnapRows", spec := "snapRows", unfollowed := true, recurses := true, apart := false, narrowed := true }
def SnapRowsUptoSaid : Prop := snapRowsUptoRow.holds Try.pinned (OpenSpec.upto snapRowsSpec)

/-- 'epitomelaw15.SnapBack', WHERE WHAT IT READS IS OF BULK AT MOST 1048576: true; the input reads as it did. -/
def snapBackUptoRow : OpenClaim := { program := "ytilldbbfdmdggaa", sum := "05c74220e804aa20080789a526d6c1b403b75e3deed02fd02b2bcd4150bd029f", func := "epitome/epitomelaw15.SnapBack", spec := "snapBack", unfollowed := true, recurses := true, apart := false, narrowed := true }
def SnapBackUptoSaid : Prop := snapBackUptoRow.holds Try.pinned (OpenSpec.upto snapBackSpec)

/-- 'epitomelaw15.SnapTaken', WHERE WHAT IT READS IS OF BULK AT MOST 1048576: true; the input reads as it did. -/
def snapTakenUptoRow : OpenClaim := { program := "ytilldbbfdmdggaa", sum := "05c74220e804aa20080789a526d6c1b403b75e3deed02fd02b2bcd4150bd029f", func := "epitome/epitomelaw15.SnapTaken", spec := "snapTaken", unfollowed := true, recurses := true, apart := false, narrowed := true }
def SnapTakenUptoSaid : Prop := snapTakenUptoRow.holds Try.pinned (OpenSpec.upto snapTakenSpec)

/-- 'epitomelaw15.SnapSizes', WHERE WHAT IT READS IS OF BULK AT MOST 1048576: true; the input reads as it did. -/
def snapSizesUptoRow : OpenClaim := { program := "ytilldbbfdmdggaa", sum := "05c74220e804aa20080789a526d6c1b403b75e3deed02fd02b2bcd4150bd029f", func := "epitome/epitomelaw15.SnapSizes", spec := "snapSizes", unfollowed := true, recurses := true, apart := false, narrowed := true }
def SnapSizesUptoSaid : Prop := snapSizesUptoRow.holds Try.pinned (OpenSpec.upto snapSizesSpec)

end Rows
end Go.Proofs.Ytilldbbfdmdggaa
