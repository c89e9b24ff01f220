/-
  DERIVED. GIVEN WITH THE SEED: THE CARDS: each row of YtgcaphjjigpjlaaDoorRows.lean that lists a variable, with what it lists TIED to the program's text (the seventh form; the later family's looks); each row that meets fmt, with fmt's text TOLD by the authors' own Lean function (tested against real Go, not proved from fmt's source: count such statements apart). THE CARD IS WHAT COUNTS. Prove the row's statement (the work); the ties are given (YtgcaphjjigpjlaaDoorTie.lean); close each card by the builder's one call (the guide's Derived/Test/ToyasCard.lean, 'card_holds'). Laid BY PROGRAM, IN A SANDBOX (cutbox-door.mjs). By AI agents, Wed Nov 11 2026. No macro, syntax, notation, axiom, sorry.
-/
import Derived.Test.YtgcaphjjigpjlaaDoorRows
import GoSem.ClaimSeven
namespace Go.Proofs.YtgcaphjjigpjlaaDoor
namespace Rows

/-- THE TIED CARD OF 'epitomelaw17.HistoryRuns'. -/
def historyRunsCard : Claim7 := { stood := { row := historyRunsRow, standIns := [], harness := (true, "09b16c610cf85afbade87f30ab7edcaa1d07d645a098a1b951b4ab8843843075"), looks := false }, kinds := [], alts := [], laidByText := true, laidKinds := [.data], laidTests := true, laidLooks := .later }
def HistoryRunsCardSaid : Prop := Claim7.holds Tryd.pinned (.plain (OpenSpec.ofChange historyRunsSpec)) historyRunsCard

/-- THE TIED CARD OF 'epitomelaw17.HistoryKeeps'. -/
def historyKeepsCard : Claim7 := { stood := { row := historyKeepsRow, standIns := [], harness := (true, "09b16c610cf85afbade87f30ab7edcaa1d07d645a098a1b951b4ab8843843075"), looks := false }, kinds := [], alts := [], laidByText := true, laidKinds := [.data], laidTests := true, laidLooks := .later }
def HistoryKeepsCardSaid : Prop := Claim7.holds Tryd.pinned (.plain (OpenSpec.ofChange historyKeepsSpec)) historyKeepsCard

/-- THE TIED CARD OF 'epitomelaw17.HistoryOver'. -/
def historyOverCard : Claim7 := { stood := { row := historyOverRow, standIns := [], harness := (true, "09b16c610cf85afbade87f30ab7edcaa1d07d645a098a1b951b4ab8843843075"), looks := false }, kinds := [], alts := [], laidByText := true, laidKinds := [.data], laidTests := true, laidLooks := .later }
def HistoryOverCardSaid : Prop := Claim7.holds Tryd.pinned (.plain (OpenSpec.ofChange historyOverSpec)) historyOverCard

/-- THE TIED CARD OF 'epitomelaw17.HistoryFirst'. -/
def historyFirstCard : Claim7 := { stood := { row := historyFirstRow, standIns := [], harness := (true, "09b16c610cf85afbade87f30ab7edcaa1d07d645a098a1b951b4ab8843843075"), looks := false }, kinds := [], alts := [], laidByText := true, laidKinds := [.data], laidTests := true, laidLooks := .later }
def HistoryFirstCardSaid : Prop := Claim7.holds Tryd.pinned (.plain (OpenSpec.ofChange historyFirstSpec)) historyFirstCard

/-- THE SECOND FORM's CARD OF 'epitomelaw17.HistoryRuns'. -/
def historyRunsUptoCard : Claim7 := { stood := { row := historyRunsUptoRow, standIns := [], harness := (true, "09b16c610cf85afbade87f30ab7edcaa1d07d645a098a1b951b4ab8843843075"), looks := false }, kinds := [], alts := [], laidByText := true, laidKinds := [.data], laidTests := true, laidLooks := .later }
def HistoryRunsUptoCardSaid : Prop := Claim7.holds Tryd.pinned (.plain (OpenSpec.upto historyRunsSpec)) historyRunsUptoCard

/-- THE SECOND FORM's CARD OF 'epitomelaw17.HistoryKeeps'. -/
def historyKeepsUptoCard : Claim7 := { stood := { row := historyKeepsUptoRow, standIns := [], harness := (true, "09b16c610cf85afbade87f30ab7edcaa1d07d645a098a1b951b4ab8843843075"), looks := false }, kinds := [], alts := [], laidByText := true, laidKinds := [.data], laidTests := true, laidLooks := .later }
def HistoryKeepsUptoCardSaid : Prop := Claim7.holds Tryd.pinned (.plain (OpenSpec.upto historyKeepsSpec)) historyKeepsUptoCard

/-- THE SECOND FORM's CARD OF 'epitomelaw17.HistoryOver'. -/
def historyOverUptoCard : Claim7 := { stood := { row := historyOverUptoRow, standIns := [], harness := (true, "09b16c610cf85afbade87f30ab7edcaa1d07d645a098a1b951b4ab8843843075"), looks := false }, kinds := [], alts := [], laidByText := true, laidKinds := [.data], laidTests := true, laidLooks := .later }
def HistoryOverUptoCardSaid : Prop := Claim7.holds Tryd.pinned (.plain (OpenSpec.upto historyOverSpec)) historyOverUptoCard

/-- THE SECOND FORM's CARD OF 'epitomelaw17.HistoryFirst'. -/
def historyFirstUptoCard : Claim7 := { stood := { row := historyFirstUptoRow, standIns := [], harness := (true, "09b16c610cf85afbade87f30ab7edcaa1d07d645a098a1b951b4ab8843843075"), looks := false }, kinds := [], alts := [], laidByText := true, laidKinds := [.data], laidTests := true, laidLooks := .later }
def HistoryFirstUptoCardSaid : Prop := Claim7.holds Tryd.pinned (.plain (OpenSpec.upto historyFirstSpec)) historyFirstUptoCard
end Rows
end Go.Proofs.YtgcaphjjigpjlaaDoor
