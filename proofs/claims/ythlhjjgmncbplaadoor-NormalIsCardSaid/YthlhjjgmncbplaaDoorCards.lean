/-
  DERIVED. GIVEN WITH THE SEED: THE CARDS: each row of YthlhjjgmncbplaaDoorRows.lean that lists a variable, with what it lists TIED to the program's text (the seventh form; the later family's looks); each row that meets fmt, with fmt's text TOLD by the authors' own Lean function (tested against real Go, not proved from fmt's source: count such statements apart). THE CARD IS WHAT COUNTS. Prove the row's statement (the work); the ties are given (YthlhjjgmncbplaaDoorTie.lean); close each card by the builder's one call (the guide's Derived/Test/ToyasCard.lean, 'card_holds'). Laid BY PROGRAM, IN A SANDBOX (cutbox-door.mjs). By AI agents, Wed Nov 11 2026. No macro, syntax, notation, axiom, sorry.
-/
import Derived.Test.YthlhjjgmncbplaaDoorRows
import GoSem.ClaimSeven
namespace Go.Proofs.YthlhjjgmncbplaaDoor
namespace Rows

/-- THE TIED CARD OF 'epitomelaw05.NormalIs'. -/
def normalIsCard : Claim7 := { stood := { row := normalIsRow, standIns := [], harness := (true, "02e73513a4de0297ab65fa408e748f8fad9184a1b7a52ca790edae2044c5aad7"), looks := false }, kinds := [], alts := [], laidByText := true, laidKinds := [.data], laidTests := true, laidLooks := .later }
def NormalIsCardSaid : Prop := Claim7.holds Tryd.pinned (.plain (OpenSpec.ofChange normalIsSpec)) normalIsCard

/-- THE SECOND FORM's CARD OF 'epitomelaw05.NormalIs'. -/
def normalIsUptoCard : Claim7 := { stood := { row := normalIsUptoRow, standIns := [], harness := (true, "02e73513a4de0297ab65fa408e748f8fad9184a1b7a52ca790edae2044c5aad7"), looks := false }, kinds := [], alts := [], laidByText := true, laidKinds := [.data], laidTests := true, laidLooks := .later }
def NormalIsUptoCardSaid : Prop := Claim7.holds Tryd.pinned (.plain (OpenSpec.upto normalIsSpec)) normalIsUptoCard
end Rows
end Go.Proofs.YthlhjjgmncbplaaDoor
