/-
  DERIVED. GIVEN WITH THE SEED: THE CARDS: each row of YtngdlplcdinjdaaDoorRows.lean that lists a variable, with what it lists TIED to the program's text (the seventh form; the later family's looks); each row that meets fmt, with fmt's text TOLD by the authors' own Lean function (tested against real Go, not proved from fmt's source: count such statements apart). THE CARD IS WHAT COUNTS. Prove the row's statement (the work); the ties are given (YtngdlplcdinjdaaDoorTie.lean); close each card by the builder's one call (the guide's Derived/Test/ToyasCard.lean, 'card_holds'). Laid BY PROGRAM, IN A SANDBOX (cutbox-door.mjs). By AI agents, Wed Nov 11 2026. No macro, syntax, notation, axiom, sorry.
-/
import Derived.Test.YtngdlplcdinjdaaDoorRows
import GoSem.ClaimSeven
namespace Go.Proofs.YtngdlplcdinjdaaDoor
namespace Rows

/-- THE TIED CARD OF 'epitomelaw07.ApplyAll'. -/
def applyAllCard : Claim7 := { stood := { row := applyAllRow, standIns := [], harness := (true, "d7cc5d7cc2549b57d8a7d0cd62f73ea17b31a1706a660278dffefee39cefda95"), looks := false }, kinds := [], alts := [], laidByText := true, laidKinds := [.data], laidTests := true, laidLooks := .later }
def ApplyAllCardSaid : Prop := Claim7.holds Tryd.pinned (.plain (OpenSpec.ofChange applyAllSpec)) applyAllCard

/-- THE TIED CARD OF 'epitomelaw07.ApplyRow'. -/
def applyRowCard : Claim7 := { stood := { row := applyRowRow, standIns := [], harness := (true, "d7cc5d7cc2549b57d8a7d0cd62f73ea17b31a1706a660278dffefee39cefda95"), looks := false }, kinds := [], alts := [], laidByText := true, laidKinds := [.data], laidTests := true, laidLooks := .later }
def ApplyRowCardSaid : Prop := Claim7.holds Tryd.pinned (.plain (OpenSpec.ofChange applyRowSpec)) applyRowCard

/-- THE TIED CARD OF 'epitomelaw07.ApplyNormal'. -/
def applyNormalCard : Claim7 := { stood := { row := applyNormalRow, standIns := [], harness := (true, "d7cc5d7cc2549b57d8a7d0cd62f73ea17b31a1706a660278dffefee39cefda95"), looks := false }, kinds := [], alts := [], laidByText := true, laidKinds := [.data], laidTests := true, laidLooks := .later }
def ApplyNormalCardSaid : Prop := Claim7.holds Tryd.pinned (.plain (OpenSpec.ofChange applyNormalSpec)) applyNormalCard

/-- THE TIED CARD OF 'epitomelaw07.ApplyPlaces'. -/
def applyPlacesCard : Claim7 := { stood := { row := applyPlacesRow, standIns := [], harness := (true, "d7cc5d7cc2549b57d8a7d0cd62f73ea17b31a1706a660278dffefee39cefda95"), looks := false }, kinds := [], alts := [], laidByText := true, laidKinds := [.data], laidTests := true, laidLooks := .later }
def ApplyPlacesCardSaid : Prop := Claim7.holds Tryd.pinned (.plain (OpenSpec.ofChange applyPlacesSpec)) applyPlacesCard

/-- THE TIED CARD OF 'epitomelaw07.ApplyKeeps'. -/
def applyKeepsCard : Claim7 := { stood := { row := applyKeepsRow, standIns := [], harness := (true, "d7cc5d7cc2549b57d8a7d0cd62f73ea17b31a1706a660278dffefee39cefda95"), looks := false }, kinds := [], alts := [], laidByText := true, laidKinds := [.data], laidTests := true, laidLooks := .later }
def ApplyKeepsCardSaid : Prop := Claim7.holds Tryd.pinned (.plain (OpenSpec.ofChange applyKeepsSpec)) applyKeepsCard

/-- THE TIED CARD OF 'epitomelaw07.ApplyParts'. -/
def applyPartsCard : Claim7 := { stood := { row := applyPartsRow, standIns := [], harness := (true, "d7cc5d7cc2549b57d8a7d0cd62f73ea17b31a1706a660278dffefee39cefda95"), looks := false }, kinds := [], alts := [], laidByText := true, laidKinds := [.data], laidTests := true, laidLooks := .later }
def ApplyPartsCardSaid : Prop := Claim7.holds Tryd.pinned (.plain (OpenSpec.ofChange applyPartsSpec)) applyPartsCard

/-- THE SECOND FORM's CARD OF 'epitomelaw07.ApplyAll'. -/
def applyAllUptoCard : Claim7 := { stood := { row := applyAllUptoRow, standIns := [], harness := (true, "d7cc5d7cc2549b57d8a7d0cd62f73ea17b31a1706a660278dffefee39cefda95"), looks := false }, kinds := [], alts := [], laidByText := true, laidKinds := [.data], laidTests := true, laidLooks := .later }
def ApplyAllUptoCardSaid : Prop := Claim7.holds Tryd.pinned (.plain (OpenSpec.upto applyAllSpec)) applyAllUptoCard

/-- THE SECOND FORM's CARD OF 'epitomelaw07.ApplyRow'. -/
def applyRowUptoCard : Claim7 := { stood := { row := applyRowUptoRow, standIns := [], harness := (true, "d7cc5d7cc2549b57d8a7d0cd62f73ea17b31a1706a660278dffefee39cefda95"), looks := false }, kinds := [], alts := [], laidByText := true, laidKinds := [.data], laidTests := true, laidLooks := .later }
def ApplyRowUptoCardSaid : Prop := Claim7.holds Tryd.pinned (.plain (OpenSpec.upto applyRowSpec)) applyRowUptoCard

/-- THE SECOND FORM's CARD OF 'epitomelaw07.ApplyNormal'. -/
def applyNormalUptoCard : Claim7 := { stood := { row := applyNormalUptoRow, standIns := [], harness := (true, "d7cc5d7cc2549b57d8a7d0cd62f73ea17b31a1706a660278dffefee39cefda95"), looks := false }, kinds := [], alts := [], laidByText := true, laidKinds := [.data], laidTests := true, laidLooks := .later }
def ApplyNormalUptoCardSaid : Prop := Claim7.holds Tryd.pinned (.plain (OpenSpec.upto applyNormalSpec)) applyNormalUptoCard

/-- THE SECOND FORM's CARD OF 'epitomelaw07.ApplyPlaces'. -/
def applyPlacesUptoCard : Claim7 := { stood := { row := applyPlacesUptoRow, standIns := [], harness := (true, "d7cc5d7cc2549b57d8a7d0cd62f73ea17b31a1706a660278dffefee39cefda95"), looks := false }, kinds := [], alts := [], laidByText := true, laidKinds := [.data], laidTests := true, laidLooks := .later }
def ApplyPlacesUptoCardSaid : Prop := Claim7.holds Tryd.pinned (.plain (OpenSpec.upto applyPlacesSpec)) applyPlacesUptoCard

/-- THE SECOND FORM's CARD OF 'epitomelaw07.ApplyKeeps'. -/
def applyKeepsUptoCard : Claim7 := { stood := { row := applyKeepsUptoRow, standIns := [], harness := (true, "d7cc5d7cc2549b57d8a7d0cd62f73ea17b31a1706a660278dffefee39cefda95"), looks := false }, kinds := [], alts := [], laidByText := true, laidKinds := [.data], laidTests := true, laidLooks := .later }
def ApplyKeepsUptoCardSaid : Prop := Claim7.holds Tryd.pinned (.plain (OpenSpec.upto applyKeepsSpec)) applyKeepsUptoCard

/-- THE SECOND FORM's CARD OF 'epitomelaw07.ApplyParts'. -/
def applyPartsUptoCard : Claim7 := { stood := { row := applyPartsUptoRow, standIns := [], harness := (true, "d7cc5d7cc2549b57d8a7d0cd62f73ea17b31a1706a660278dffefee39cefda95"), looks := false }, kinds := [], alts := [], laidByText := true, laidKinds := [.data], laidTests := true, laidLooks := .later }
def ApplyPartsUptoCardSaid : Prop := Claim7.holds Tryd.pinned (.plain (OpenSpec.upto applyPartsSpec)) applyPartsUptoCard
end Rows
end Go.Proofs.YtngdlplcdinjdaaDoor
