/-
  DERIVED. GIVEN WITH THE SEED: THE CARDS: each row of YtapkfmcbphljcaaDoorRows.lean that lists a variable, with what it lists TIED to the program's text (the seventh form; the later family's looks); each row that meets fmt, with fmt's text TOLD by the authors' own Lean function (tested against real Go, not proved from fmt's source: count such statements apart). THE CARD IS WHAT COUNTS. Prove the row's statement (the work); the ties are given (YtapkfmcbphljcaaDoorTie.lean); close each card by the builder's one call (the guide's Derived/Test/ToyasCard.lean, 'card_holds'). Laid BY PROGRAM, IN A SANDBOX (cutbox-door.mjs). By AI agents, Wed Nov 11 2026. No macro, syntax, notation, axiom, sorry.
-/
import Derived.Test.YtapkfmcbphljcaaDoorRows
import GoSem.ClaimSeven
namespace Go.Proofs.YtapkfmcbphljcaaDoor
namespace Rows

/-- THE TIED CARD OF 'epitomelaw08.PlaceAll'. -/
def placeAllCard : Claim7 := { stood := { row := placeAllRow, standIns := [], harness := (true, "ba792a07d5cfa5f0b629ff5f8560eac8fa882333bf01e50e6377d1a959ab4687"), looks := false }, kinds := [], alts := [], laidByText := true, laidKinds := [.data], laidTests := true, laidLooks := .later }
def PlaceAllCardSaid : Prop := Claim7.holds Tryd.pinned (.plain (OpenSpec.ofChange placeAllSpec)) placeAllCard

/-- THE TIED CARD OF 'epitomelaw08.PlaceGaps'. -/
def placeGapsCard : Claim7 := { stood := { row := placeGapsRow, standIns := [], harness := (true, "ba792a07d5cfa5f0b629ff5f8560eac8fa882333bf01e50e6377d1a959ab4687"), looks := false }, kinds := [], alts := [], laidByText := true, laidKinds := [.data], laidTests := true, laidLooks := .later }
def PlaceGapsCardSaid : Prop := Claim7.holds Tryd.pinned (.plain (OpenSpec.ofChange placeGapsSpec)) placeGapsCard

/-- THE TIED CARD OF 'epitomelaw08.PlaceLeast'. -/
def placeLeastCard : Claim7 := { stood := { row := placeLeastRow, standIns := [], harness := (true, "ba792a07d5cfa5f0b629ff5f8560eac8fa882333bf01e50e6377d1a959ab4687"), looks := false }, kinds := [], alts := [], laidByText := true, laidKinds := [.data], laidTests := true, laidLooks := .later }
def PlaceLeastCardSaid : Prop := Claim7.holds Tryd.pinned (.plain (OpenSpec.ofChange placeLeastSpec)) placeLeastCard

/-- THE TIED CARD OF 'epitomelaw08.PlaceNormal'. -/
def placeNormalCard : Claim7 := { stood := { row := placeNormalRow, standIns := [], harness := (true, "ba792a07d5cfa5f0b629ff5f8560eac8fa882333bf01e50e6377d1a959ab4687"), looks := false }, kinds := [], alts := [], laidByText := true, laidKinds := [.data], laidTests := true, laidLooks := .later }
def PlaceNormalCardSaid : Prop := Claim7.holds Tryd.pinned (.plain (OpenSpec.ofChange placeNormalSpec)) placeNormalCard

/-- THE SECOND FORM's CARD OF 'epitomelaw08.PlaceAll'. -/
def placeAllUptoCard : Claim7 := { stood := { row := placeAllUptoRow, standIns := [], harness := (true, "ba792a07d5cfa5f0b629ff5f8560eac8fa882333bf01e50e6377d1a959ab4687"), looks := false }, kinds := [], alts := [], laidByText := true, laidKinds := [.data], laidTests := true, laidLooks := .later }
def PlaceAllUptoCardSaid : Prop := Claim7.holds Tryd.pinned (.plain (OpenSpec.upto placeAllSpec)) placeAllUptoCard

/-- THE SECOND FORM's CARD OF 'epitomelaw08.PlaceGaps'. -/
def placeGapsUptoCard : Claim7 := { stood := { row := placeGapsUptoRow, standIns := [], harness := (true, "ba792a07d5cfa5f0b629ff5f8560eac8fa882333bf01e50e6377d1a959ab4687"), looks := false }, kinds := [], alts := [], laidByText := true, laidKinds := [.data], laidTests := true, laidLooks := .later }
def PlaceGapsUptoCardSaid : Prop := Claim7.holds Tryd.pinned (.plain (OpenSpec.upto placeGapsSpec)) placeGapsUptoCard

/-- THE SECOND FORM's CARD OF 'epitomelaw08.PlaceLeast'. -/
def placeLeastUptoCard : Claim7 := { stood := { row := placeLeastUptoRow, standIns := [], harness := (true, "ba792a07d5cfa5f0b629ff5f8560eac8fa882333bf01e50e6377d1a959ab4687"), looks := false }, kinds := [], alts := [], laidByText := true, laidKinds := [.data], laidTests := true, laidLooks := .later }
def PlaceLeastUptoCardSaid : Prop := Claim7.holds Tryd.pinned (.plain (OpenSpec.upto placeLeastSpec)) placeLeastUptoCard

/-- THE SECOND FORM's CARD OF 'epitomelaw08.PlaceNormal'. -/
def placeNormalUptoCard : Claim7 := { stood := { row := placeNormalUptoRow, standIns := [], harness := (true, "ba792a07d5cfa5f0b629ff5f8560eac8fa882333bf01e50e6377d1a959ab4687"), looks := false }, kinds := [], alts := [], laidByText := true, laidKinds := [.data], laidTests := true, laidLooks := .later }
def PlaceNormalUptoCardSaid : Prop := Claim7.holds Tryd.pinned (.plain (OpenSpec.upto placeNormalSpec)) placeNormalUptoCard
end Rows
end Go.Proofs.YtapkfmcbphljcaaDoor
