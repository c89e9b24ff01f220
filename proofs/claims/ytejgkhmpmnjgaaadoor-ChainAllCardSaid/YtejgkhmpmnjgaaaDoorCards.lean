/-
  DERIVED. GIVEN WITH THE SEED: THE CARDS: each row of YtejgkhmpmnjgaaaDoorRows.lean that lists a variable, with what it lists TIED to the program's text (the seventh form; the later family's looks); each row that meets fmt, with fmt's text TOLD by the authors' own Lean function (tested against real Go, not proved from fmt's source: count such statements apart). THE CARD IS WHAT COUNTS. Prove the row's statement (the work); the ties are given (YtejgkhmpmnjgaaaDoorTie.lean); close each card by the builder's one call (the guide's Derived/Test/ToyasCard.lean, 'card_holds'). Laid BY PROGRAM, IN A SANDBOX (cutbox-door.mjs). By AI agents, Wed Nov 11 2026. No macro, syntax, notation, axiom, sorry.
-/
import Derived.Test.YtejgkhmpmnjgaaaDoorRows
import GoSem.ClaimSeven
namespace Go.Proofs.YtejgkhmpmnjgaaaDoor
namespace Rows

/-- THE TIED CARD OF 'epitomelaw16.ChainAll'. -/
def chainAllCard : Claim7 := { stood := { row := chainAllRow, standIns := [], harness := (true, "ebe99acc90b44ecae731b91d2a845a341330f4fafbb55101a8ea28e50ec03e4a"), looks := false }, kinds := [], alts := [], laidByText := true, laidKinds := [.data], laidTests := true, laidLooks := .later }
def ChainAllCardSaid : Prop := Claim7.holds Tryd.pinned (.plain (OpenSpec.ofChange chainAllSpec)) chainAllCard

/-- THE TIED CARD OF 'epitomelaw16.ChainTexts'. -/
def chainTextsCard : Claim7 := { stood := { row := chainTextsRow, standIns := [], harness := (true, "ebe99acc90b44ecae731b91d2a845a341330f4fafbb55101a8ea28e50ec03e4a"), looks := false }, kinds := [], alts := [], laidByText := true, laidKinds := [.data], laidTests := true, laidLooks := .later }
def ChainTextsCardSaid : Prop := Claim7.holds Tryd.pinned (.plain (OpenSpec.ofChange chainTextsSpec)) chainTextsCard

/-- THE TIED CARD OF 'epitomelaw16.ChainSpoilt'. -/
def chainSpoiltCard : Claim7 := { stood := { row := chainSpoiltRow, standIns := [], harness := (true, "ebe99acc90b44ecae731b91d2a845a341330f4fafbb55101a8ea28e50ec03e4a"), looks := false }, kinds := [], alts := [], laidByText := true, laidKinds := [.data], laidTests := true, laidLooks := .later }
def ChainSpoiltCardSaid : Prop := Claim7.holds Tryd.pinned (.plain (OpenSpec.ofChange chainSpoiltSpec)) chainSpoiltCard

/-- THE TIED CARD OF 'epitomelaw16.ChainCut'. -/
def chainCutCard : Claim7 := { stood := { row := chainCutRow, standIns := [], harness := (true, "ebe99acc90b44ecae731b91d2a845a341330f4fafbb55101a8ea28e50ec03e4a"), looks := false }, kinds := [], alts := [], laidByText := true, laidKinds := [.data], laidTests := true, laidLooks := .later }
def ChainCutCardSaid : Prop := Claim7.holds Tryd.pinned (.plain (OpenSpec.ofChange chainCutSpec)) chainCutCard

/-- THE TIED CARD OF 'epitomelaw16.ChainAlone'. -/
def chainAloneCard : Claim7 := { stood := { row := chainAloneRow, standIns := [], harness := (true, "ebe99acc90b44ecae731b91d2a845a341330f4fafbb55101a8ea28e50ec03e4a"), looks := false }, kinds := [], alts := [], laidByText := true, laidKinds := [.data], laidTests := true, laidLooks := .later }
def ChainAloneCardSaid : Prop := Claim7.holds Tryd.pinned (.plain (OpenSpec.ofChange chainAloneSpec)) chainAloneCard

/-- THE TIED CARD OF 'epitomelaw16.ChainNumbers'. -/
def chainNumbersCard : Claim7 := { stood := { row := chainNumbersRow, standIns := [], harness := (true, "ebe99acc90b44ecae731b91d2a845a341330f4fafbb55101a8ea28e50ec03e4a"), looks := false }, kinds := [], alts := [], laidByText := true, laidKinds := [.data], laidTests := true, laidLooks := .later }
def ChainNumbersCardSaid : Prop := Claim7.holds Tryd.pinned (.plain (OpenSpec.ofChange chainNumbersSpec)) chainNumbersCard

/-- THE SECOND FORM's CARD OF 'epitomelaw16.ChainAll'. -/
def chainAllUptoCard : Claim7 := { stood := { row := chainAllUptoRow, standIns := [], harness := (true, "ebe99acc90b44ecae731b91d2a845a341330f4fafbb55101a8ea28e50ec03e4a"), looks := false }, kinds := [], alts := [], laidByText := true, laidKinds := [.data], laidTests := true, laidLooks := .later }
def ChainAllUptoCardSaid : Prop := Claim7.holds Tryd.pinned (.plain (OpenSpec.upto chainAllSpec)) chainAllUptoCard

/-- THE SECOND FORM's CARD OF 'epitomelaw16.ChainTexts'. -/
def chainTextsUptoCard : Claim7 := { stood := { row := chainTextsUptoRow, standIns := [], harness := (true, "ebe99acc90b44ecae731b91d2a845a341330f4fafbb55101a8ea28e50ec03e4a"), looks := false }, kinds := [], alts := [], laidByText := true, laidKinds := [.data], laidTests := true, laidLooks := .later }
def ChainTextsUptoCardSaid : Prop := Claim7.holds Tryd.pinned (.plain (OpenSpec.upto chainTextsSpec)) chainTextsUptoCard

/-- THE SECOND FORM's CARD OF 'epitomelaw16.ChainSpoilt'. -/
def chainSpoiltUptoCard : Claim7 := { stood := { row := chainSpoiltUptoRow, standIns := [], harness := (true, "ebe99acc90b44ecae731b91d2a845a341330f4fafbb55101a8ea28e50ec03e4a"), looks := false }, kinds := [], alts := [], laidByText := true, laidKinds := [.data], laidTests := true, laidLooks := .later }
def ChainSpoiltUptoCardSaid : Prop := Claim7.holds Tryd.pinned (.plain (OpenSpec.upto chainSpoiltSpec)) chainSpoiltUptoCard

/-- THE SECOND FORM's CARD OF 'epitomelaw16.ChainCut'. -/
def chainCutUptoCard : Claim7 := { stood := { row := chainCutUptoRow, standIns := [], harness := (true, "ebe99acc90b44ecae731b91d2a845a341330f4fafbb55101a8ea28e50ec03e4a"), looks := false }, kinds := [], alts := [], laidByText := true, laidKinds := [.data], laidTests := true, laidLooks := .later }
def ChainCutUptoCardSaid : Prop := Claim7.holds Tryd.pinned (.plain (OpenSpec.upto chainCutSpec)) chainCutUptoCard

/-- THE SECOND FORM's CARD OF 'epitomelaw16.ChainAlone'. -/
def chainAloneUptoCard : Claim7 := { stood := { row := chainAloneUptoRow, standIns := [], harness := (true, "ebe99acc90b44ecae731b91d2a845a341330f4fafbb55101a8ea28e50ec03e4a"), looks := false }, kinds := [], alts := [], laidByText := true, laidKinds := [.data], laidTests := true, laidLooks := .later }
def ChainAloneUptoCardSaid : Prop := Claim7.holds Tryd.pinned (.plain (OpenSpec.upto chainAloneSpec)) chainAloneUptoCard

/-- THE SECOND FORM's CARD OF 'epitomelaw16.ChainNumbers'. -/
def chainNumbersUptoCard : Claim7 := { stood := { row := chainNumbersUptoRow, standIns := [], harness := (true, "ebe99acc90b44ecae731b91d2a845a341330f4fafbb55101a8ea28e50ec03e4a"), looks := false }, kinds := [], alts := [], laidByText := true, laidKinds := [.data], laidTests := true, laidLooks := .later }
def ChainNumbersUptoCardSaid : Prop := Claim7.holds Tryd.pinned (.plain (OpenSpec.upto chainNumbersSpec)) chainNumbersUptoCard
end Rows
end Go.Proofs.YtejgkhmpmnjgaaaDoor
