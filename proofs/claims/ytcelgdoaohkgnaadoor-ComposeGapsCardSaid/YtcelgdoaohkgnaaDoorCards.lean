/-
  DERIVED. GIVEN WITH THE SEED: THE CARDS: each row of YtcelgdoaohkgnaaDoorRows.lean that lists a variable, with what it lists TIED to the program's text (the seventh form; the later family's looks); each row that meets fmt, with fmt's text TOLD by the authors' own Lean function (tested against real Go, not proved from fmt's source: count such statements apart). THE CARD IS WHAT COUNTS. Prove the row's statement (the work); the ties are given (YtcelgdoaohkgnaaDoorTie.lean); close each card by the builder's one call (the guide's Derived/Test/ToyasCard.lean, 'card_holds'). Laid BY PROGRAM, IN A SANDBOX (cutbox-door.mjs). By AI agents, Wed Nov 11 2026. No macro, syntax, notation, axiom, sorry.
-/
import Derived.Test.YtcelgdoaohkgnaaDoorRows
import GoSem.ClaimSeven
namespace Go.Proofs.YtcelgdoaohkgnaaDoor
namespace Rows

/-- THE TIED CARD OF 'epitomelaw09.ComposeGaps'. -/
def composeGapsCard : Claim7 := { stood := { row := composeGapsRow, standIns := [], harness := (true, "ed7a4c9afd321185a0a574b5829a727a27e6bffbda0043b88b3a5825334c1b00"), looks := false }, kinds := [], alts := [], laidByText := true, laidKinds := [.data], laidTests := true, laidLooks := .later }
def ComposeGapsCardSaid : Prop := Claim7.holds Tryd.pinned (.plain (OpenSpec.ofChange composeGapsSpec)) composeGapsCard

/-- THE TIED CARD OF 'epitomelaw10.FuseAll'. -/
def fuseAllCard : Claim7 := { stood := { row := fuseAllRow, standIns := [], harness := (true, "ed7a4c9afd321185a0a574b5829a727a27e6bffbda0043b88b3a5825334c1b00"), looks := false }, kinds := [], alts := [], laidByText := true, laidKinds := [.data], laidTests := true, laidLooks := .later }
def FuseAllCardSaid : Prop := Claim7.holds Tryd.pinned (.plain (OpenSpec.ofChange fuseAllSpec)) fuseAllCard

/-- THE TIED CARD OF 'epitomelaw10.FuseDoes'. -/
def fuseDoesCard : Claim7 := { stood := { row := fuseDoesRow, standIns := [], harness := (true, "ed7a4c9afd321185a0a574b5829a727a27e6bffbda0043b88b3a5825334c1b00"), looks := false }, kinds := [], alts := [], laidByText := true, laidKinds := [.data], laidTests := true, laidLooks := .later }
def FuseDoesCardSaid : Prop := Claim7.holds Tryd.pinned (.plain (OpenSpec.ofChange fuseDoesSpec)) fuseDoesCard

/-- THE TIED CARD OF 'epitomelaw10.FuseParts'. -/
def fusePartsCard : Claim7 := { stood := { row := fusePartsRow, standIns := [], harness := (true, "ed7a4c9afd321185a0a574b5829a727a27e6bffbda0043b88b3a5825334c1b00"), looks := false }, kinds := [], alts := [], laidByText := true, laidKinds := [.data], laidTests := true, laidLooks := .later }
def FusePartsCardSaid : Prop := Claim7.holds Tryd.pinned (.plain (OpenSpec.ofChange fusePartsSpec)) fusePartsCard

/-- THE TIED CARD OF 'epitomelaw10.FuseCancels'. -/
def fuseCancelsCard : Claim7 := { stood := { row := fuseCancelsRow, standIns := [], harness := (true, "ed7a4c9afd321185a0a574b5829a727a27e6bffbda0043b88b3a5825334c1b00"), looks := false }, kinds := [], alts := [], laidByText := true, laidKinds := [.data], laidTests := true, laidLooks := .later }
def FuseCancelsCardSaid : Prop := Claim7.holds Tryd.pinned (.plain (OpenSpec.ofChange fuseCancelsSpec)) fuseCancelsCard

/-- THE TIED CARD OF 'epitomelaw10.FuseOne'. -/
def fuseOneCard : Claim7 := { stood := { row := fuseOneRow, standIns := [], harness := (true, "ed7a4c9afd321185a0a574b5829a727a27e6bffbda0043b88b3a5825334c1b00"), looks := false }, kinds := [], alts := [], laidByText := true, laidKinds := [.data], laidTests := true, laidLooks := .later }
def FuseOneCardSaid : Prop := Claim7.holds Tryd.pinned (.plain (OpenSpec.ofChange fuseOneSpec)) fuseOneCard

/-- THE TIED CARD OF 'epitomelaw10.FuseFirst'. -/
def fuseFirstCard : Claim7 := { stood := { row := fuseFirstRow, standIns := [], harness := (true, "ed7a4c9afd321185a0a574b5829a727a27e6bffbda0043b88b3a5825334c1b00"), looks := false }, kinds := [], alts := [], laidByText := true, laidKinds := [.data], laidTests := true, laidLooks := .later }
def FuseFirstCardSaid : Prop := Claim7.holds Tryd.pinned (.plain (OpenSpec.ofChange fuseFirstSpec)) fuseFirstCard

/-- THE SECOND FORM's CARD OF 'epitomelaw09.ComposeGaps'. -/
def composeGapsUptoCard : Claim7 := { stood := { row := composeGapsUptoRow, standIns := [], harness := (true, "ed7a4c9afd321185a0a574b5829a727a27e6bffbda0043b88b3a5825334c1b00"), looks := false }, kinds := [], alts := [], laidByText := true, laidKinds := [.data], laidTests := true, laidLooks := .later }
def ComposeGapsUptoCardSaid : Prop := Claim7.holds Tryd.pinned (.plain (OpenSpec.upto composeGapsSpec)) composeGapsUptoCard

/-- THE SECOND FORM's CARD OF 'epitomelaw10.FuseAll'. -/
def fuseAllUptoCard : Claim7 := { stood := { row := fuseAllUptoRow, standIns := [], harness := (true, "ed7a4c9afd321185a0a574b5829a727a27e6bffbda0043b88b3a5825334c1b00"), looks := false }, kinds := [], alts := [], laidByText := true, laidKinds := [.data], laidTests := true, laidLooks := .later }
def FuseAllUptoCardSaid : Prop := Claim7.holds Tryd.pinned (.plain (OpenSpec.upto fuseAllSpec)) fuseAllUptoCard

/-- THE SECOND FORM's CARD OF 'epitomelaw10.FuseDoes'. -/
def fuseDoesUptoCard : Claim7 := { stood := { row := fuseDoesUptoRow, standIns := [], harness := (true, "ed7a4c9afd321185a0a574b5829a727a27e6bffbda0043b88b3a5825334c1b00"), looks := false }, kinds := [], alts := [], laidByText := true, laidKinds := [.data], laidTests := true, laidLooks := .later }
def FuseDoesUptoCardSaid : Prop := Claim7.holds Tryd.pinned (.plain (OpenSpec.upto fuseDoesSpec)) fuseDoesUptoCard

/-- THE SECOND FORM's CARD OF 'epitomelaw10.FuseParts'. -/
def fusePartsUptoCard : Claim7 := { stood := { row := fusePartsUptoRow, standIns := [], harness := (true, "ed7a4c9afd321185a0a574b5829a727a27e6bffbda0043b88b3a5825334c1b00"), looks := false }, kinds := [], alts := [], laidByText := true, laidKinds := [.data], laidTests := true, laidLooks := .later }
def FusePartsUptoCardSaid : Prop := Claim7.holds Tryd.pinned (.plain (OpenSpec.upto fusePartsSpec)) fusePartsUptoCard

/-- THE SECOND FORM's CARD OF 'epitomelaw10.FuseCancels'. -/
def fuseCancelsUptoCard : Claim7 := { stood := { row := fuseCancelsUptoRow, standIns := [], harness := (true, "ed7a4c9afd321185a0a574b5829a727a27e6bffbda0043b88b3a5825334c1b00"), looks := false }, kinds := [], alts := [], laidByText := true, laidKinds := [.data], laidTests := true, laidLooks := .later }
def FuseCancelsUptoCardSaid : Prop := Claim7.holds Tryd.pinned (.plain (OpenSpec.upto fuseCancelsSpec)) fuseCancelsUptoCard

/-- THE SECOND FORM's CARD OF 'epitomelaw10.FuseOne'. -/
def fuseOneUptoCard : Claim7 := { stood := { row := fuseOneUptoRow, standIns := [], harness := (true, "ed7a4c9afd321185a0a574b5829a727a27e6bffbda0043b88b3a5825334c1b00"), looks := false }, kinds := [], alts := [], laidByText := true, laidKinds := [.data], laidTests := true, laidLooks := .later }
def FuseOneUptoCardSaid : Prop := Claim7.holds Tryd.pinned (.plain (OpenSpec.upto fuseOneSpec)) fuseOneUptoCard

/-- THE SECOND FORM's CARD OF 'epitomelaw10.FuseFirst'. -/
def fuseFirstUptoCard : Claim7 := { stood := { row := fuseFirstUptoRow, standIns := [], harness := (true, "ed7a4c9afd321185a0a574b5829a727a27e6bffbda0043b88b3a5825334c1b00"), looks := false }, kinds := [], alts := [], laidByText := true, laidKinds := [.data], laidTests := true, laidLooks := .later }
def FuseFirstUptoCardSaid : Prop := Claim7.holds Tryd.pinned (.plain (OpenSpec.upto fuseFirstSpec)) fuseFirstUptoCard
end Rows
end Go.Proofs.YtcelgdoaohkgnaaDoor
