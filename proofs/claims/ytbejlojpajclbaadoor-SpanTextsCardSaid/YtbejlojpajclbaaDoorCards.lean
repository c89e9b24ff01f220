/-
  DERIVED. GIVEN WITH THE SEED: THE CARDS: each row of YtbejlojpajclbaaDoorRows.lean that lists a variable, with what it lists TIED to the program's text (the seventh form; the later family's looks); each row that meets fmt, with fmt's text TOLD by the authors' own Lean function (tested against real Go, not proved from fmt's source: count such statements apart). THE CARD IS WHAT COUNTS. Prove the row's statement (the work); the ties are given (YtbejlojpajclbaaDoorTie.lean); close each card by the builder's one call (the guide's Derived/Test/ToyasCard.lean, 'card_holds'). Laid BY PROGRAM, IN A SANDBOX (cutbox-door.mjs). By AI agents, Wed Nov 11 2026. No macro, syntax, notation, axiom, sorry.
-/
import Derived.Test.YtbejlojpajclbaaDoorRows
import GoSem.ClaimSeven
namespace Go.Proofs.YtbejlojpajclbaaDoor
namespace Rows

/-- THE TIED CARD OF 'epitomelaw03.SpanAll'. -/
def spanAllCard : Claim7 := { stood := { row := spanAllRow, standIns := [], harness := (true, "2e5c74ed70021e772943254cf2bbda6064aa84b5d67ef305364092f9a4677dd2"), looks := false }, kinds := [], alts := [], laidByText := true, laidKinds := [.data], laidTests := true, laidLooks := .later }
def SpanAllCardSaid : Prop := Claim7.holds Tryd.pinned (.plain (OpenSpec.ofChange spanAllSpec)) spanAllCard

/-- THE TIED CARD OF 'epitomelaw03.SpanKinds'. -/
def spanKindsCard : Claim7 := { stood := { row := spanKindsRow, standIns := [], harness := (true, "2e5c74ed70021e772943254cf2bbda6064aa84b5d67ef305364092f9a4677dd2"), looks := false }, kinds := [], alts := [], laidByText := true, laidKinds := [.data], laidTests := true, laidLooks := .later }
def SpanKindsCardSaid : Prop := Claim7.holds Tryd.pinned (.plain (OpenSpec.ofChange spanKindsSpec)) spanKindsCard

/-- THE TIED CARD OF 'epitomelaw03.SpanTexts'. -/
def spanTextsCard : Claim7 := { stood := { row := spanTextsRow, standIns := [], harness := (true, "2e5c74ed70021e772943254cf2bbda6064aa84b5d67ef305364092f9a4677dd2"), looks := false }, kinds := [], alts := [], laidByText := true, laidKinds := [.data], laidTests := true, laidLooks := .later }
def SpanTextsCardSaid : Prop := Claim7.holds Tryd.pinned (.plain (OpenSpec.ofChange spanTextsSpec)) spanTextsCard

/-- THE SECOND FORM's CARD OF 'epitomelaw03.SpanAll'. -/
def spanAllUptoCard : Claim7 := { stood := { row := spanAllUptoRow, standIns := [], harness := (true, "2e5c74ed70021e772943254cf2bbda6064aa84b5d67ef305364092f9a4677dd2"), looks := false }, kinds := [], alts := [], laidByText := true, laidKinds := [.data], laidTests := true, laidLooks := .later }
def SpanAllUptoCardSaid : Prop := Claim7.holds Tryd.pinned (.plain (OpenSpec.upto spanAllSpec)) spanAllUptoCard

/-- THE SECOND FORM's CARD OF 'epitomelaw03.SpanKinds'. -/
def spanKindsUptoCard : Claim7 := { stood := { row := spanKindsUptoRow, standIns := [], harness := (true, "2e5c74ed70021e772943254cf2bbda6064aa84b5d67ef305364092f9a4677dd2"), looks := false }, kinds := [], alts := [], laidByText := true, laidKinds := [.data], laidTests := true, laidLooks := .later }
def SpanKindsUptoCardSaid : Prop := Claim7.holds Tryd.pinned (.plain (OpenSpec.upto spanKindsSpec)) spanKindsUptoCard

/-- THE SECOND FORM's CARD OF 'epitomelaw03.SpanTexts'. -/
def spanTextsUptoCard : Claim7 := { stood := { row := spanTextsUptoRow, standIns := [], harness := (true, "2e5c74ed70021e772943254cf2bbda6064aa84b5d67ef305364092f9a4677dd2"), looks := false }, kinds := [], alts := [], laidByText := true, laidKinds := [.data], laidTests := true, laidLooks := .later }
def SpanTextsUptoCardSaid : Prop := Claim7.holds Tryd.pinned (.plain (OpenSpec.upto spanTextsSpec)) spanTextsUptoCard
end Rows
end Go.Proofs.YtbejlojpajclbaaDoor
