/-
  DERIVED. GIVEN WITH THE SEED: THE CARDS: each row of YtggoimakbadbkaaDoorRows.lean that lists a variable, with what it lists TIED to the program's text (the seventh form; the later family's looks); each row that meets fmt, with fmt's text TOLD by the authors' own Lean function (tested against real Go, not proved from fmt's source: count such statements apart). THE CARD IS WHAT COUNTS. Prove the row's statement (the work); the ties are given (YtggoimakbadbkaaDoorTie.lean); close each card by the builder's one call (the guide's Derived/Test/ToyasCard.lean, 'card_holds'). Laid BY PROGRAM, IN A SANDBOX (cutbox-door.mjs). By AI agents, Wed Nov 11 2026. No macro, syntax, notation, axiom, sorry.
-/
import Derived.Test.YtggoimakbadbkaaDoorRows
import GoSem.ClaimSeven
namespace Go.Proofs.YtggoimakbadbkaaDoor
namespace Rows

/-- THE TIED CARD OF 'epitomelaw14.WordsAll'. -/
def wordsAllCard : Claim7 := { stood := { row := wordsAllRow, standIns := [], harness := (true, "b9942a812f43b100c6b2003534bc5cbd69bb92cf8a0444ef1783da83a4ccb208"), looks := false }, kinds := [], alts := [], laidByText := true, laidKinds := [.data], laidTests := true, laidLooks := .later }
def WordsAllCardSaid : Prop := Claim7.holds Tryd.pinned (.plain (OpenSpec.ofChange wordsAllSpec)) wordsAllCard

/-- THE TIED CARD OF 'epitomelaw14.WordsBack'. -/
def wordsBackCard : Claim7 := { stood := { row := wordsBackRow, standIns := [], harness := (true, "b9942a812f43b100c6b2003534bc5cbd69bb92cf8a0444ef1783da83a4ccb208"), looks := false }, kinds := [], alts := [], laidByText := true, laidKinds := [.data], laidTests := true, laidLooks := .later }
def WordsBackCardSaid : Prop := Claim7.holds Tryd.pinned (.plain (OpenSpec.ofChange wordsBackSpec)) wordsBackCard

/-- THE TIED CARD OF 'epitomelaw14.WordsTaken'. -/
def wordsTakenCard : Claim7 := { stood := { row := wordsTakenRow, standIns := [], harness := (true, "b9942a812f43b100c6b2003534bc5cbd69bb92cf8a0444ef1783da83a4ccb208"), looks := false }, kinds := [], alts := [], laidByText := true, laidKinds := [.data], laidTests := true, laidLooks := .later }
def WordsTakenCardSaid : Prop := Claim7.holds Tryd.pinned (.plain (OpenSpec.ofChange wordsTakenSpec)) wordsTakenCard

/-- THE TIED CARD OF 'epitomelaw14.WordsOdd'. -/
def wordsOddCard : Claim7 := { stood := { row := wordsOddRow, standIns := [], harness := (true, "b9942a812f43b100c6b2003534bc5cbd69bb92cf8a0444ef1783da83a4ccb208"), looks := false }, kinds := [], alts := [], laidByText := true, laidKinds := [.data], laidTests := true, laidLooks := .later }
def WordsOddCardSaid : Prop := Claim7.holds Tryd.pinned (.plain (OpenSpec.ofChange wordsOddSpec)) wordsOddCard

/-- THE TIED CARD OF 'epitomelaw14.WordsRow'. -/
def wordsRowCard : Claim7 := { stood := { row := wordsRowRow, standIns := [], harness := (true, "b9942a812f43b100c6b2003534bc5cbd69bb92cf8a0444ef1783da83a4ccb208"), looks := false }, kinds := [], alts := [], laidByText := true, laidKinds := [.data], laidTests := true, laidLooks := .later }
def WordsRowCardSaid : Prop := Claim7.holds Tryd.pinned (.plain (OpenSpec.ofChange wordsRowSpec)) wordsRowCard

/-- THE TIED CARD OF 'epitomelaw14.WordsSize'. -/
def wordsSizeCard : Claim7 := { stood := { row := wordsSizeRow, standIns := [], harness := (true, "b9942a812f43b100c6b2003534bc5cbd69bb92cf8a0444ef1783da83a4ccb208"), looks := false }, kinds := [], alts := [], laidByText := true, laidKinds := [.data], laidTests := true, laidLooks := .later }
def WordsSizeCardSaid : Prop := Claim7.holds Tryd.pinned (.plain (OpenSpec.ofChange wordsSizeSpec)) wordsSizeCard

/-- THE SECOND FORM's CARD OF 'epitomelaw14.WordsAll'. -/
def wordsAllUptoCard : Claim7 := { stood := { row := wordsAllUptoRow, standIns := [], harness := (true, "b9942a812f43b100c6b2003534bc5cbd69bb92cf8a0444ef1783da83a4ccb208"), looks := false }, kinds := [], alts := [], laidByText := true, laidKinds := [.data], laidTests := true, laidLooks := .later }
def WordsAllUptoCardSaid : Prop := Claim7.holds Tryd.pinned (.plain (OpenSpec.upto wordsAllSpec)) wordsAllUptoCard

/-- THE SECOND FORM's CARD OF 'epitomelaw14.WordsBack'. -/
def wordsBackUptoCard : Claim7 := { stood := { row := wordsBackUptoRow, standIns := [], harness := (true, "b9942a812f43b100c6b2003534bc5cbd69bb92cf8a0444ef1783da83a4ccb208"), looks := false }, kinds := [], alts := [], laidByText := true, laidKinds := [.data], laidTests := true, laidLooks := .later }
def WordsBackUptoCardSaid : Prop := Claim7.holds Tryd.pinned (.plain (OpenSpec.upto wordsBackSpec)) wordsBackUptoCard

/-- THE SECOND FORM's CARD OF 'epitomelaw14.WordsTaken'. -/
def wordsTakenUptoCard : Claim7 := { stood := { row := wordsTakenUptoRow, standIns := [], harness := (true, "b9942a812f43b100c6b2003534bc5cbd69bb92cf8a0444ef1783da83a4ccb208"), looks := false }, kinds := [], alts := [], laidByText := true, laidKinds := [.data], laidTests := true, laidLooks := .later }
def WordsTakenUptoCardSaid : Prop := Claim7.holds Tryd.pinned (.plain (OpenSpec.upto wordsTakenSpec)) wordsTakenUptoCard

/-- THE SECOND FORM's CARD OF 'epitomelaw14.WordsOdd'. -/
def wordsOddUptoCard : Claim7 := { stood := { row := wordsOddUptoRow, standIns := [], harness := (true, "b9942a812f43b100c6b2003534bc5cbd69bb92cf8a0444ef1783da83a4ccb208"), looks := false }, kinds := [], alts := [], laidByText := true, laidKinds := [.data], laidTests := true, laidLooks := .later }
def WordsOddUptoCardSaid : Prop := Claim7.holds Tryd.pinned (.plain (OpenSpec.upto wordsOddSpec)) wordsOddUptoCard

/-- THE SECOND FORM's CARD OF 'epitomelaw14.WordsRow'. -/
def wordsRowUptoCard : Claim7 := { stood := { row := wordsRowUptoRow, standIns := [], harness := (true, "b9942a812f43b100c6b2003534bc5cbd69bb92cf8a0444ef1783da83a4ccb208"), looks := false }, kinds := [], alts := [], laidByText := true, laidKinds := [.data], laidTests := true, laidLooks := .later }
def WordsRowUptoCardSaid : Prop := Claim7.holds Tryd.pinned (.plain (OpenSpec.upto wordsRowSpec)) wordsRowUptoCard

/-- THE SECOND FORM's CARD OF 'epitomelaw14.WordsSize'. -/
def wordsSizeUptoCard : Claim7 := { stood := { row := wordsSizeUptoRow, standIns := [], harness := (true, "b9942a812f43b100c6b2003534bc5cbd69bb92cf8a0444ef1783da83a4ccb208"), looks := false }, kinds := [], alts := [], laidByText := true, laidKinds := [.data], laidTests := true, laidLooks := .later }
def WordsSizeUptoCardSaid : Prop := Claim7.holds Tryd.pinned (.plain (OpenSpec.upto wordsSizeSpec)) wordsSizeUptoCard
end Rows
end Go.Proofs.YtggoimakbadbkaaDoor
