/-
  DERIVED. GIVEN WITH THE SEED: THE CARDS: each row of YtelepadnbgcbnaaDoorRows.lean that lists a variable, with what it lists TIED to the program's text (the seventh form; the later family's looks); each row that meets fmt, with fmt's text TOLD by the authors' own Lean function (tested against real Go, not proved from fmt's source: count such statements apart). THE CARD IS WHAT COUNTS. Prove the row's statement (the work); the ties are given (YtelepadnbgcbnaaDoorTie.lean); close each card by the builder's one call (the guide's Derived/Test/ToyasCard.lean, 'card_holds'). Laid BY PROGRAM, IN A SANDBOX (cutbox-door.mjs). By AI agents, Wed Nov 11 2026. No macro, syntax, notation, axiom, sorry.
-/
import Derived.Test.YtelepadnbgcbnaaDoorRows
import GoSem.ClaimSeven
namespace Go.Proofs.YtelepadnbgcbnaaDoor
namespace Rows

/-- THE TIED CARD OF 'epitomelaw06.GapsAll'. -/
def gapsAllCard : Claim7 := { stood := { row := gapsAllRow, standIns := [], harness := (true, "62e680dda28dd67d218534f89590af012c21a7b52e5a1507d5f2f15ab61c6735"), looks := false }, kinds := [], alts := [], laidByText := true, laidKinds := [.data], laidTests := true, laidLooks := .later }
def GapsAllCardSaid : Prop := Claim7.holds Tryd.pinned (.plain (OpenSpec.ofChange gapsAllSpec)) gapsAllCard

/-- THE TIED CARD OF 'epitomelaw06.GapsBack'. -/
def gapsBackCard : Claim7 := { stood := { row := gapsBackRow, standIns := [], harness := (true, "62e680dda28dd67d218534f89590af012c21a7b52e5a1507d5f2f15ab61c6735"), looks := false }, kinds := [], alts := [], laidByText := true, laidKinds := [.data], laidTests := true, laidLooks := .later }
def GapsBackCardSaid : Prop := Claim7.holds Tryd.pinned (.plain (OpenSpec.ofChange gapsBackSpec)) gapsBackCard

/-- THE TIED CARD OF 'epitomelaw06.GapsNormal'. -/
def gapsNormalCard : Claim7 := { stood := { row := gapsNormalRow, standIns := [], harness := (true, "62e680dda28dd67d218534f89590af012c21a7b52e5a1507d5f2f15ab61c6735"), looks := false }, kinds := [], alts := [], laidByText := true, laidKinds := [.data], laidTests := true, laidLooks := .later }
def GapsNormalCardSaid : Prop := Claim7.holds Tryd.pinned (.plain (OpenSpec.ofChange gapsNormalSpec)) gapsNormalCard

/-- THE TIED CARD OF 'epitomelaw06.GapsLeast'. -/
def gapsLeastCard : Claim7 := { stood := { row := gapsLeastRow, standIns := [], harness := (true, "62e680dda28dd67d218534f89590af012c21a7b52e5a1507d5f2f15ab61c6735"), looks := false }, kinds := [], alts := [], laidByText := true, laidKinds := [.data], laidTests := true, laidLooks := .later }
def GapsLeastCardSaid : Prop := Claim7.holds Tryd.pinned (.plain (OpenSpec.ofChange gapsLeastSpec)) gapsLeastCard

/-- THE TIED CARD OF 'epitomelaw06.GapsOne'. -/
def gapsOneCard : Claim7 := { stood := { row := gapsOneRow, standIns := [], harness := (true, "62e680dda28dd67d218534f89590af012c21a7b52e5a1507d5f2f15ab61c6735"), looks := false }, kinds := [], alts := [], laidByText := true, laidKinds := [.data], laidTests := true, laidLooks := .later }
def GapsOneCardSaid : Prop := Claim7.holds Tryd.pinned (.plain (OpenSpec.ofChange gapsOneSpec)) gapsOneCard

/-- THE TIED CARD OF 'epitomelaw06.GapsJoin'. -/
def gapsJoinCard : Claim7 := { stood := { row := gapsJoinRow, standIns := [], harness := (true, "62e680dda28dd67d218534f89590af012c21a7b52e5a1507d5f2f15ab61c6735"), looks := false }, kinds := [], alts := [], laidByText := true, laidKinds := [.data], laidTests := true, laidLooks := .later }
def GapsJoinCardSaid : Prop := Claim7.holds Tryd.pinned (.plain (OpenSpec.ofChange gapsJoinSpec)) gapsJoinCard

/-- THE SECOND FORM's CARD OF 'epitomelaw06.GapsAll'. -/
def gapsAllUptoCard : Claim7 := { stood := { row := gapsAllUptoRow, standIns := [], harness := (true, "62e680dda28dd67d218534f89590af012c21a7b52e5a1507d5f2f15ab61c6735"), looks := false }, kinds := [], alts := [], laidByText := true, laidKinds := [.data], laidTests := true, laidLooks := .later }
def GapsAllUptoCardSaid : Prop := Claim7.holds Tryd.pinned (.plain (OpenSpec.upto gapsAllSpec)) gapsAllUptoCard

/-- THE SECOND FORM's CARD OF 'epitomelaw06.GapsBack'. -/
def gapsBackUptoCard : Claim7 := { stood := { row := gapsBackUptoRow, standIns := [], harness := (true, "62e680dda28dd67d218534f89590af012c21a7b52e5a1507d5f2f15ab61c6735"), looks := false }, kinds := [], alts := [], laidByText := true, laidKinds := [.data], laidTests := true, laidLooks := .later }
def GapsBackUptoCardSaid : Prop := Claim7.holds Tryd.pinned (.plain (OpenSpec.upto gapsBackSpec)) gapsBackUptoCard

/-- THE SECOND FORM's CARD OF 'epitomelaw06.GapsNormal'. -/
def gapsNormalUptoCard : Claim7 := { stood := { row := gapsNormalUptoRow, standIns := [], harness := (true, "62e680dda28dd67d218534f89590af012c21a7b52e5a1507d5f2f15ab61c6735"), looks := false }, kinds := [], alts := [], laidByText := true, laidKinds := [.data], laidTests := true, laidLooks := .later }
def GapsNormalUptoCardSaid : Prop := Claim7.holds Tryd.pinned (.plain (OpenSpec.upto gapsNormalSpec)) gapsNormalUptoCard

/-- THE SECOND FORM's CARD OF 'epitomelaw06.GapsLeast'. -/
def gapsLeastUptoCard : Claim7 := { stood := { row := gapsLeastUptoRow, standIns := [], harness := (true, "62e680dda28dd67d218534f89590af012c21a7b52e5a1507d5f2f15ab61c6735"), looks := false }, kinds := [], alts := [], laidByText := true, laidKinds := [.data], laidTests := true, laidLooks := .later }
def GapsLeastUptoCardSaid : Prop := Claim7.holds Tryd.pinned (.plain (OpenSpec.upto gapsLeastSpec)) gapsLeastUptoCard

/-- THE SECOND FORM's CARD OF 'epitomelaw06.GapsOne'. -/
def gapsOneUptoCard : Claim7 := { stood := { row := gapsOneUptoRow, standIns := [], harness := (true, "62e680dda28dd67d218534f89590af012c21a7b52e5a1507d5f2f15ab61c6735"), looks := false }, kinds := [], alts := [], laidByText := true, laidKinds := [.data], laidTests := true, laidLooks := .later }
def GapsOneUptoCardSaid : Prop := Claim7.holds Tryd.pinned (.plain (OpenSpec.upto gapsOneSpec)) gapsOneUptoCard

/-- THE SECOND FORM's CARD OF 'epitomelaw06.GapsJoin'. -/
def gapsJoinUptoCard : Claim7 := { stood := { row := gapsJoinUptoRow, standIns := [], harness := (true, "62e680dda28dd67d218534f89590af012c21a7b52e5a1507d5f2f15ab61c6735"), looks := false }, kinds := [], alts := [], laidByText := true, laidKinds := [.data], laidTests := true, laidLooks := .later }
def GapsJoinUptoCardSaid : Prop := Claim7.holds Tryd.pinned (.plain (OpenSpec.upto gapsJoinSpec)) gapsJoinUptoCard
end Rows
end Go.Proofs.YtelepadnbgcbnaaDoor
