/-
  DERIVED. GIVEN WITH THE SEED: THE CARDS: each row of YtmfeggeinoaheaaDoorRows.lean that lists a variable, with what it lists TIED to the program's text (the seventh form; the later family's looks); each row that meets fmt, with fmt's text TOLD by the authors' own Lean function (tested against real Go, not proved from fmt's source: count such statements apart). THE CARD IS WHAT COUNTS. Prove the row's statement (the work); the ties are given (YtmfeggeinoaheaaDoorTie.lean); close each card by the builder's one call (the guide's Derived/Test/ToyasCard.lean, 'card_holds'). Laid BY PROGRAM, IN A SANDBOX (cutbox-door.mjs). By AI agents, Wed Nov 11 2026. No macro, syntax, notation, axiom, sorry.
-/
import Derived.Test.YtmfeggeinoaheaaDoorRows
import GoSem.ClaimSeven
namespace Go.Proofs.YtmfeggeinoaheaaDoor
namespace Rows

/-- THE TIED CARD OF 'epitomelaw09.ComposeGaps'. -/
def composeGapsCard : Claim7 := { stood := { row := composeGapsRow, standIns := [], harness := (true, "4ecd7fa16d5e704ca4e7cfefeb954be222723290675428775f804600d51e64e4"), looks := false }, kinds := [], alts := [], laidByText := true, laidKinds := [.data], laidTests := true, laidLooks := .later }
def ComposeGapsCardSaid : Prop := Claim7.holds Tryd.pinned (.plain (OpenSpec.ofChange composeGapsSpec)) composeGapsCard

/-- THE SECOND FORM's CARD OF 'epitomelaw09.ComposeGaps'. -/
def composeGapsUptoCard : Claim7 := { stood := { row := composeGapsUptoRow, standIns := [], harness := (true, "4ecd7fa16d5e704ca4e7cfefeb954be222723290675428775f804600d51e64e4"), looks := false }, kinds := [], alts := [], laidByText := true, laidKinds := [.data], laidTests := true, laidLooks := .later }
def ComposeGapsUptoCardSaid : Prop := Claim7.holds Tryd.pinned (.plain (OpenSpec.upto composeGapsSpec)) composeGapsUptoCard
end Rows
end Go.Proofs.YtmfeggeinoaheaaDoor
