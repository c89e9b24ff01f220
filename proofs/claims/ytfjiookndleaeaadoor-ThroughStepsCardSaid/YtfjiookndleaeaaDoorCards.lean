/-
  DERIVED. GIVEN WITH THE SEED: THE CARDS: each row of YtfjiookndleaeaaDoorRows.lean that lists a variable, with what it lists TIED to the program's text (the seventh form; the later family's looks); each row that meets fmt, with fmt's text TOLD by the authors' own Lean function (tested against real Go, not proved from fmt's source: count such statements apart). THE CARD IS WHAT COUNTS. Prove the row's statement (the work); the ties are given (YtfjiookndleaeaaDoorTie.lean); close each card by the builder's one call (the guide's Derived/Test/ToyasCard.lean, 'card_holds'). Laid BY PROGRAM, IN A SANDBOX (cutbox-door.mjs). By AI agents, Wed Nov 11 2026. No macro, syntax, notation, axiom, sorry.
-/
import Derived.Test.YtfjiookndleaeaaDoorRows
import GoSem.ClaimSeven
namespace Go.Proofs.YtfjiookndleaeaaDoor
namespace Rows

/-- THE TIED CARD OF 'epitomelaw13.ThroughAll'. -/
def throughAllCard : Claim7 := { stood := { row := throughAllRow, standIns := [], harness := (true, "8500ee0469cd098f5beebce8b111331f31102124b9363d89954a2e08b9491cab"), looks := false }, kinds := [], alts := [], laidByText := true, laidKinds := [.data], laidTests := true, laidLooks := .later }
def ThroughAllCardSaid : Prop := Claim7.holds Tryd.pinned (.plain (OpenSpec.ofChange throughAllSpec)) throughAllCard

/-- THE TIED CARD OF 'epitomelaw13.ThroughMeets'. -/
def throughMeetsCard : Claim7 := { stood := { row := throughMeetsRow, standIns := [], harness := (true, "8500ee0469cd098f5beebce8b111331f31102124b9363d89954a2e08b9491cab"), looks := false }, kinds := [], alts := [], laidByText := true, laidKinds := [.data], laidTests := true, laidLooks := .later }
def ThroughMeetsCardSaid : Prop := Claim7.holds Tryd.pinned (.plain (OpenSpec.ofChange throughMeetsSpec)) throughMeetsCard

/-- THE TIED CARD OF 'epitomelaw13.ThroughParts'. -/
def throughPartsCard : Claim7 := { stood := { row := throughPartsRow, standIns := [], harness := (true, "8500ee0469cd098f5beebce8b111331f31102124b9363d89954a2e08b9491cab"), looks := false }, kinds := [], alts := [], laidByText := true, laidKinds := [.data], laidTests := true, laidLooks := .later }
def ThroughPartsCardSaid : Prop := Claim7.holds Tryd.pinned (.plain (OpenSpec.ofChange throughPartsSpec)) throughPartsCard

/-- THE TIED CARD OF 'epitomelaw13.ThroughNone'. -/
def throughNoneCard : Claim7 := { stood := { row := throughNoneRow, standIns := [], harness := (true, "8500ee0469cd098f5beebce8b111331f31102124b9363d89954a2e08b9491cab"), looks := false }, kinds := [], alts := [], laidByText := true, laidKinds := [.data], laidTests := true, laidLooks := .later }
def ThroughNoneCardSaid : Prop := Claim7.holds Tryd.pinned (.plain (OpenSpec.ofChange throughNoneSpec)) throughNoneCard

/-- THE TIED CARD OF 'epitomelaw13.ThroughSteps'. -/
def throughStepsCard : Claim7 := { stood := { row := throughStepsRow, standIns := [], harness := (true, "8500ee0469cd098f5beebce8b111331f31102124b9363d89954a2e08b9491cab"), looks := false }, kinds := [], alts := [], laidByText := true, laidKinds := [.data], laidTests := true, laidLooks := .later }
def ThroughStepsCardSaid : Prop := Claim7.holds Tryd.pinned (.plain (OpenSpec.ofChange throughStepsSpec)) throughStepsCard

/-- THE SECOND FORM's CARD OF 'epitomelaw13.ThroughAll'. -/
def throughAllUptoCard : Claim7 := { stood := { row := throughAllUptoRow, standIns := [], harness := (true, "8500ee0469cd098f5beebce8b111331f31102124b9363d89954a2e08b9491cab"), looks := false }, kinds := [], alts := [], laidByText := true, laidKinds := [.data], laidTests := true, laidLooks := .later }
def ThroughAllUptoCardSaid : Prop := Claim7.holds Tryd.pinned (.plain (OpenSpec.upto throughAllSpec)) throughAllUptoCard

/-- THE SECOND FORM's CARD OF 'epitomelaw13.ThroughMeets'. -/
def throughMeetsUptoCard : Claim7 := { stood := { row := throughMeetsUptoRow, standIns := [], harness := (true, "8500ee0469cd098f5beebce8b111331f31102124b9363d89954a2e08b9491cab"), looks := false }, kinds := [], alts := [], laidByText := true, laidKinds := [.data], laidTests := true, laidLooks := .later }
def ThroughMeetsUptoCardSaid : Prop := Claim7.holds Tryd.pinned (.plain (OpenSpec.upto throughMeetsSpec)) throughMeetsUptoCard

/-- THE SECOND FORM's CARD OF 'epitomelaw13.ThroughParts'. -/
def throughPartsUptoCard : Claim7 := { stood := { row := throughPartsUptoRow, standIns := [], harness := (true, "8500ee0469cd098f5beebce8b111331f31102124b9363d89954a2e08b9491cab"), looks := false }, kinds := [], alts := [], laidByText := true, laidKinds := [.data], laidTests := true, laidLooks := .later }
def ThroughPartsUptoCardSaid : Prop := Claim7.holds Tryd.pinned (.plain (OpenSpec.upto throughPartsSpec)) throughPartsUptoCard

/-- THE SECOND FORM's CARD OF 'epitomelaw13.ThroughNone'. -/
def throughNoneUptoCard : Claim7 := { stood := { row := throughNoneUptoRow, standIns := [], harness := (true, "8500ee0469cd098f5beebce8b111331f31102124b9363d89954a2e08b9491cab"), looks := false }, kinds := [], alts := [], laidByText := true, laidKinds := [.data], laidTests := true, laidLooks := .later }
def ThroughNoneUptoCardSaid : Prop := Claim7.holds Tryd.pinned (.plain (OpenSpec.upto throughNoneSpec)) throughNoneUptoCard

/-- THE SECOND FORM's CARD OF 'epitomelaw13.ThroughSteps'. -/
def throughStepsUptoCard : Claim7 := { stood := { row := throughStepsUptoRow, standIns := [], harness := (true, "8500ee0469cd098f5beebce8b111331f31102124b9363d89954a2e08b9491cab"), looks := false }, kinds := [], alts := [], laidByText := true, laidKinds := [.data], laidTests := true, laidLooks := .later }
def ThroughStepsUptoCardSaid : Prop := Claim7.holds Tryd.pinned (.plain (OpenSpec.upto throughStepsSpec)) throughStepsUptoCard
end Rows
end Go.Proofs.YtfjiookndleaeaaDoor
