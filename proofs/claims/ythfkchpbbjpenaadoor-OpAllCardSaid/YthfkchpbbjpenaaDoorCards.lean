/-
  DERIVED. GIVEN WITH THE SEED: THE CARDS: each row of YthfkchpbbjpenaaDoorRows.lean that lists a variable, with what it lists TIED to the program's text (the seventh form; the later family's looks); each row that meets fmt, with fmt's text TOLD by the authors' own Lean function (tested against real Go, not proved from fmt's source: count such statements apart). THE CARD IS WHAT COUNTS. Prove the row's statement (the work); the ties are given (YthfkchpbbjpenaaDoorTie.lean); close each card by the builder's one call (the guide's Derived/Test/ToyasCard.lean, 'card_holds'). Laid BY PROGRAM, IN A SANDBOX (cutbox-door.mjs). By AI agents, Wed Nov 11 2026. No macro, syntax, notation, axiom, sorry.
-/
import Derived.Test.YthfkchpbbjpenaaDoorRows
import GoSem.ClaimSeven
namespace Go.Proofs.YthfkchpbbjpenaaDoor
namespace Rows

/-- THE TIED CARD OF 'epitomelaw04.OpAll'. -/
def opAllCard : Claim7 := { stood := { row := opAllRow, standIns := [], harness := (true, "db0d85d3a9f303b5663a38867751a0bd209bb74dd023f07b7f51fbf0a06be7a9"), looks := false }, kinds := [], alts := [], laidByText := true, laidKinds := [.data], laidTests := true, laidLooks := .later }
def OpAllCardSaid : Prop := Claim7.holds Tryd.pinned (.plain (OpenSpec.ofChange opAllSpec)) opAllCard

/-- THE TIED CARD OF 'epitomelaw04.OpJoins'. -/
def opJoinsCard : Claim7 := { stood := { row := opJoinsRow, standIns := [], harness := (true, "db0d85d3a9f303b5663a38867751a0bd209bb74dd023f07b7f51fbf0a06be7a9"), looks := false }, kinds := [], alts := [], laidByText := true, laidKinds := [.data], laidTests := true, laidLooks := .later }
def OpJoinsCardSaid : Prop := Claim7.holds Tryd.pinned (.plain (OpenSpec.ofChange opJoinsSpec)) opJoinsCard

/-- THE TIED CARD OF 'epitomelaw04.OpKeeps'. -/
def opKeepsCard : Claim7 := { stood := { row := opKeepsRow, standIns := [], harness := (true, "db0d85d3a9f303b5663a38867751a0bd209bb74dd023f07b7f51fbf0a06be7a9"), looks := false }, kinds := [], alts := [], laidByText := true, laidKinds := [.data], laidTests := true, laidLooks := .later }
def OpKeepsCardSaid : Prop := Claim7.holds Tryd.pinned (.plain (OpenSpec.ofChange opKeepsSpec)) opKeepsCard

/-- THE TIED CARD OF 'epitomelaw04.OpBounds'. -/
def opBoundsCard : Claim7 := { stood := { row := opBoundsRow, standIns := [], harness := (true, "db0d85d3a9f303b5663a38867751a0bd209bb74dd023f07b7f51fbf0a06be7a9"), looks := false }, kinds := [], alts := [], laidByText := true, laidKinds := [.data], laidTests := true, laidLooks := .later }
def OpBoundsCardSaid : Prop := Claim7.holds Tryd.pinned (.plain (OpenSpec.ofChange opBoundsSpec)) opBoundsCard

/-- THE SECOND FORM's CARD OF 'epitomelaw04.OpAll'. -/
def opAllUptoCard : Claim7 := { stood := { row := opAllUptoRow, standIns := [], harness := (true, "db0d85d3a9f303b5663a38867751a0bd209bb74dd023f07b7f51fbf0a06be7a9"), looks := false }, kinds := [], alts := [], laidByText := true, laidKinds := [.data], laidTests := true, laidLooks := .later }
def OpAllUptoCardSaid : Prop := Claim7.holds Tryd.pinned (.plain (OpenSpec.upto opAllSpec)) opAllUptoCard

/-- THE SECOND FORM's CARD OF 'epitomelaw04.OpJoins'. -/
def opJoinsUptoCard : Claim7 := { stood := { row := opJoinsUptoRow, standIns := [], harness := (true, "db0d85d3a9f303b5663a38867751a0bd209bb74dd023f07b7f51fbf0a06be7a9"), looks := false }, kinds := [], alts := [], laidByText := true, laidKinds := [.data], laidTests := true, laidLooks := .later }
def OpJoinsUptoCardSaid : Prop := Claim7.holds Tryd.pinned (.plain (OpenSpec.upto opJoinsSpec)) opJoinsUptoCard

/-- THE SECOND FORM's CARD OF 'epitomelaw04.OpKeeps'. -/
def opKeepsUptoCard : Claim7 := { stood := { row := opKeepsUptoRow, standIns := [], harness := (true, "db0d85d3a9f303b5663a38867751a0bd209bb74dd023f07b7f51fbf0a06be7a9"), looks := false }, kinds := [], alts := [], laidByText := true, laidKinds := [.data], laidTests := true, laidLooks := .later }
def OpKeepsUptoCardSaid : Prop := Claim7.holds Tryd.pinned (.plain (OpenSpec.upto opKeepsSpec)) opKeepsUptoCard

/-- THE SECOND FORM's CARD OF 'epitomelaw04.OpBounds'. -/
def opBoundsUptoCard : Claim7 := { stood := { row := opBoundsUptoRow, standIns := [], harness := (true, "db0d85d3a9f303b5663a38867751a0bd209bb74dd023f07b7f51fbf0a06be7a9"), looks := false }, kinds := [], alts := [], laidByText := true, laidKinds := [.data], laidTests := true, laidLooks := .later }
def OpBoundsUptoCardSaid : Prop := Claim7.holds Tryd.pinned (.plain (OpenSpec.upto opBoundsSpec)) opBoundsUptoCard
end Rows
end Go.Proofs.YthfkchpbbjpenaaDoor
