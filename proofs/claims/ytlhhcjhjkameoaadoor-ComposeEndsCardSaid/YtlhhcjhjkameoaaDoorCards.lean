/-
  DERIVED. GIVEN WITH THE SEED: THE CARDS: each row of YtlhhcjhjkameoaaDoorRows.lean that lists a variable, with what it lists TIED to the program's text (the seventh form; the later family's looks); each row that meets fmt, with fmt's text TOLD by the authors' own Lean function (tested against real Go, not proved from fmt's source: count such statements apart). THE CARD IS WHAT COUNTS. Prove the row's statement (the work); the ties are given (YtlhhcjhjkameoaaDoorTie.lean); close each card by the builder's one call (the guide's Derived/Test/ToyasCard.lean, 'card_holds'). Laid BY PROGRAM, IN A SANDBOX (cutbox-door.mjs). By AI agents, Wed Nov 11 2026. No macro, syntax, notation, axiom, sorry.
-/
import Derived.Test.YtlhhcjhjkameoaaDoorRows
import GoSem.ClaimSeven
namespace Go.Proofs.YtlhhcjhjkameoaaDoor
namespace Rows

/-- THE TIED CARD OF 'epitomelaw09.ComposeAll'. -/
def composeAllCard : Claim7 := { stood := { row := composeAllRow, standIns := [], harness := (true, "c2c501b0b9b61242f6936d9d8f3ec91f08902bd8e893a0f2241177f9615fa3b7"), looks := false }, kinds := [], alts := [], laidByText := true, laidKinds := [.data], laidTests := true, laidLooks := .later }
def ComposeAllCardSaid : Prop := Claim7.holds Tryd.pinned (.plain (OpenSpec.ofChange composeAllSpec)) composeAllCard

/-- THE TIED CARD OF 'epitomelaw09.ComposeDoes'. -/
def composeDoesCard : Claim7 := { stood := { row := composeDoesRow, standIns := [], harness := (true, "c2c501b0b9b61242f6936d9d8f3ec91f08902bd8e893a0f2241177f9615fa3b7"), looks := false }, kinds := [], alts := [], laidByText := true, laidKinds := [.data], laidTests := true, laidLooks := .later }
def ComposeDoesCardSaid : Prop := Claim7.holds Tryd.pinned (.plain (OpenSpec.ofChange composeDoesSpec)) composeDoesCard

/-- THE TIED CARD OF 'epitomelaw09.ComposeThree'. -/
def composeThreeCard : Claim7 := { stood := { row := composeThreeRow, standIns := [], harness := (true, "c2c501b0b9b61242f6936d9d8f3ec91f08902bd8e893a0f2241177f9615fa3b7"), looks := false }, kinds := [], alts := [], laidByText := true, laidKinds := [.data], laidTests := true, laidLooks := .later }
def ComposeThreeCardSaid : Prop := Claim7.holds Tryd.pinned (.plain (OpenSpec.ofChange composeThreeSpec)) composeThreeCard

/-- THE TIED CARD OF 'epitomelaw09.ComposeGaps'. -/
def composeGapsCard : Claim7 := { stood := { row := composeGapsRow, standIns := [], harness := (true, "c2c501b0b9b61242f6936d9d8f3ec91f08902bd8e893a0f2241177f9615fa3b7"), looks := false }, kinds := [], alts := [], laidByText := true, laidKinds := [.data], laidTests := true, laidLooks := .later }
def ComposeGapsCardSaid : Prop := Claim7.holds Tryd.pinned (.plain (OpenSpec.ofChange composeGapsSpec)) composeGapsCard

/-- THE TIED CARD OF 'epitomelaw09.ComposeKeeps'. -/
def composeKeepsCard : Claim7 := { stood := { row := composeKeepsRow, standIns := [], harness := (true, "c2c501b0b9b61242f6936d9d8f3ec91f08902bd8e893a0f2241177f9615fa3b7"), looks := false }, kinds := [], alts := [], laidByText := true, laidKinds := [.data], laidTests := true, laidLooks := .later }
def ComposeKeepsCardSaid : Prop := Claim7.holds Tryd.pinned (.plain (OpenSpec.ofChange composeKeepsSpec)) composeKeepsCard

/-- THE TIED CARD OF 'epitomelaw09.ComposeEnds'. -/
def composeEndsCard : Claim7 := { stood := { row := composeEndsRow, standIns := [], harness := (true, "c2c501b0b9b61242f6936d9d8f3ec91f08902bd8e893a0f2241177f9615fa3b7"), looks := false }, kinds := [], alts := [], laidByText := true, laidKinds := [.data], laidTests := true, laidLooks := .later }
def ComposeEndsCardSaid : Prop := Claim7.holds Tryd.pinned (.plain (OpenSpec.ofChange composeEndsSpec)) composeEndsCard

/-- THE TIED CARD OF 'epitomelaw09.ComposeThrough'. -/
def composeThroughCard : Claim7 := { stood := { row := composeThroughRow, standIns := [], harness := (true, "c2c501b0b9b61242f6936d9d8f3ec91f08902bd8e893a0f2241177f9615fa3b7"), looks := false }, kinds := [], alts := [], laidByText := true, laidKinds := [.data], laidTests := true, laidLooks := .later }
def ComposeThroughCardSaid : Prop := Claim7.holds Tryd.pinned (.plain (OpenSpec.ofChange composeThroughSpec)) composeThroughCard

/-- THE SECOND FORM's CARD OF 'epitomelaw09.ComposeAll'. -/
def composeAllUptoCard : Claim7 := { stood := { row := composeAllUptoRow, standIns := [], harness := (true, "c2c501b0b9b61242f6936d9d8f3ec91f08902bd8e893a0f2241177f9615fa3b7"), looks := false }, kinds := [], alts := [], laidByText := true, laidKinds := [.data], laidTests := true, laidLooks := .later }
def ComposeAllUptoCardSaid : Prop := Claim7.holds Tryd.pinned (.plain (OpenSpec.upto composeAllSpec)) composeAllUptoCard

/-- THE SECOND FORM's CARD OF 'epitomelaw09.ComposeDoes'. -/
def composeDoesUptoCard : Claim7 := { stood := { row := composeDoesUptoRow, standIns := [], harness := (true, "c2c501b0b9b61242f6936d9d8f3ec91f08902bd8e893a0f2241177f9615fa3b7"), looks := false }, kinds := [], alts := [], laidByText := true, laidKinds := [.data], laidTests := true, laidLooks := .later }
def ComposeDoesUptoCardSaid : Prop := Claim7.holds Tryd.pinned (.plain (OpenSpec.upto composeDoesSpec)) composeDoesUptoCard

/-- THE SECOND FORM's CARD OF 'epitomelaw09.ComposeThree'. -/
def composeThreeUptoCard : Claim7 := { stood := { row := composeThreeUptoRow, standIns := [], harness := (true, "c2c501b0b9b61242f6936d9d8f3ec91f08902bd8e893a0f2241177f9615fa3b7"), looks := false }, kinds := [], alts := [], laidByText := true, laidKinds := [.data], laidTests := true, laidLooks := .later }
def ComposeThreeUptoCardSaid : Prop := Claim7.holds Tryd.pinned (.plain (OpenSpec.upto composeThreeSpec)) composeThreeUptoCard

/-- THE SECOND FORM's CARD OF 'epitomelaw09.ComposeGaps'. -/
def composeGapsUptoCard : Claim7 := { stood := { row := composeGapsUptoRow, standIns := [], harness := (true, "c2c501b0b9b61242f6936d9d8f3ec91f08902bd8e893a0f2241177f9615fa3b7"), looks := false }, kinds := [], alts := [], laidByText := true, laidKinds := [.data], laidTests := true, laidLooks := .later }
def ComposeGapsUptoCardSaid : Prop := Claim7.holds Tryd.pinned (.plain (OpenSpec.upto composeGapsSpec)) composeGapsUptoCard

/-- THE SECOND FORM's CARD OF 'epitomelaw09.ComposeKeeps'. -/
def composeKeepsUptoCard : Claim7 := { stood := { row := composeKeepsUptoRow, standIns := [], harness := (true, "c2c501b0b9b61242f6936d9d8f3ec91f08902bd8e893a0f2241177f9615fa3b7"), looks := false }, kinds := [], alts := [], laidByText := true, laidKinds := [.data], laidTests := true, laidLooks := .later }
def ComposeKeepsUptoCardSaid : Prop := Claim7.holds Tryd.pinned (.plain (OpenSpec.upto composeKeepsSpec)) composeKeepsUptoCard

/-- THE SECOND FORM's CARD OF 'epitomelaw09.ComposeEnds'. -/
def composeEndsUptoCard : Claim7 := { stood := { row := composeEndsUptoRow, standIns := [], harness := (true, "c2c501b0b9b61242f6936d9d8f3ec91f08902bd8e893a0f2241177f9615fa3b7"), looks := false }, kinds := [], alts := [], laidByText := true, laidKinds := [.data], laidTests := true, laidLooks := .later }
def ComposeEndsUptoCardSaid : Prop := Claim7.holds Tryd.pinned (.plain (OpenSpec.upto composeEndsSpec)) composeEndsUptoCard

/-- THE SECOND FORM's CARD OF 'epitomelaw09.ComposeThrough'. -/
def composeThroughUptoCard : Claim7 := { stood := { row := composeThroughUptoRow, standIns := [], harness := (true, "c2c501b0b9b61242f6936d9d8f3ec91f08902bd8e893a0f2241177f9615fa3b7"), looks := false }, kinds := [], alts := [], laidByText := true, laidKinds := [.data], laidTests := true, laidLooks := .later }
def ComposeThroughUptoCardSaid : Prop := Claim7.holds Tryd.pinned (.plain (OpenSpec.upto composeThroughSpec)) composeThroughUptoCard
end Rows
end Go.Proofs.YtlhhcjhjkameoaaDoor
