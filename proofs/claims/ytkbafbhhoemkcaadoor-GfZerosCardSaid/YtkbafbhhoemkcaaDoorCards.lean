/-
  DERIVED. GIVEN WITH THE SEED: THE CARDS: each row of YtkbafbhhoemkcaaDoorRows.lean that lists a variable, with what it lists TIED to the program's text (the seventh form; the later family's looks); each row that meets fmt, with fmt's text TOLD by the authors' own Lean function (tested against real Go, not proved from fmt's source: count such statements apart). THE CARD IS WHAT COUNTS. Prove the row's statement (the work); the ties are given (YtkbafbhhoemkcaaDoorTie.lean); close each card by the builder's one call (the guide's Derived/Test/ToyasCard.lean, 'card_holds'). Laid BY PROGRAM, IN A SANDBOX (cutbox-door.mjs). By AI agents, Wed Nov 11 2026. No macro, syntax, notation, axiom, sorry.
-/
import Derived.Test.YtkbafbhhoemkcaaDoorRows
import GoSem.ClaimSeven
namespace Go.Proofs.YtkbafbhhoemkcaaDoor
namespace Rows

/-- THE TIED CARD OF 'firkinlaw01.GfReckons'. -/
def gfReckonsCard : Claim7 := { stood := { row := gfReckonsRow, standIns := [], harness := (true, "c916ef15f4f308e18f801a5522ff99ba2ba8bf6a0d4d07faae3f055be678d983"), looks := false }, kinds := [], alts := [], laidByText := true, laidKinds := [.data], laidTests := true, laidLooks := .later }
def GfReckonsCardSaid : Prop := Claim7.holds Tryd.pinned (.plain (OpenSpec.ofChange gfReckonsSpec)) gfReckonsCard

/-- THE TIED CARD OF 'firkinlaw01.GfDivides'. -/
def gfDividesCard : Claim7 := { stood := { row := gfDividesRow, standIns := [], harness := (true, "c916ef15f4f308e18f801a5522ff99ba2ba8bf6a0d4d07faae3f055be678d983"), looks := false }, kinds := [], alts := [], laidByText := true, laidKinds := [.data], laidTests := true, laidLooks := .later }
def GfDividesCardSaid : Prop := Claim7.holds Tryd.pinned (.plain (OpenSpec.ofChange gfDividesSpec)) gfDividesCard

/-- THE TIED CARD OF 'firkinlaw01.GfZeros'. -/
def gfZerosCard : Claim7 := { stood := { row := gfZerosRow, standIns := [], harness := (true, "c916ef15f4f308e18f801a5522ff99ba2ba8bf6a0d4d07faae3f055be678d983"), looks := false }, kinds := [], alts := [], laidByText := true, laidKinds := [.data], laidTests := true, laidLooks := .later }
def GfZerosCardSaid : Prop := Claim7.holds Tryd.pinned (.plain (OpenSpec.ofChange gfZerosSpec)) gfZerosCard

/-- THE TIED CARD OF 'firkinlaw01.GfRound'. -/
def gfRoundCard : Claim7 := { stood := { row := gfRoundRow, standIns := [], harness := (true, "c916ef15f4f308e18f801a5522ff99ba2ba8bf6a0d4d07faae3f055be678d983"), looks := false }, kinds := [], alts := [], laidByText := true, laidKinds := [.data], laidTests := true, laidLooks := .later }
def GfRoundCardSaid : Prop := Claim7.holds Tryd.pinned (.plain (OpenSpec.ofChange gfRoundSpec)) gfRoundCard

/-- THE TIED CARD OF 'firkinlaw01.GfSquares'. -/
def gfSquaresCard : Claim7 := { stood := { row := gfSquaresRow, standIns := [], harness := (true, "c916ef15f4f308e18f801a5522ff99ba2ba8bf6a0d4d07faae3f055be678d983"), looks := false }, kinds := [], alts := [], laidByText := true, laidKinds := [.data], laidTests := true, laidLooks := .later }
def GfSquaresCardSaid : Prop := Claim7.holds Tryd.pinned (.plain (OpenSpec.ofChange gfSquaresSpec)) gfSquaresCard

/-- THE TIED CARD OF 'firkinlaw01.GfNothing'. -/
def gfNothingCard : Claim7 := { stood := { row := gfNothingRow, standIns := [], harness := (true, "c916ef15f4f308e18f801a5522ff99ba2ba8bf6a0d4d07faae3f055be678d983"), looks := false }, kinds := [], alts := [], laidByText := true, laidKinds := [.data], laidTests := true, laidLooks := .later }
def GfNothingCardSaid : Prop := Claim7.holds Tryd.pinned (.plain (OpenSpec.ofChange gfNothingSpec)) gfNothingCard

/-- THE SECOND FORM's CARD OF 'firkinlaw01.GfReckons'. -/
def gfReckonsUptoCard : Claim7 := { stood := { row := gfReckonsUptoRow, standIns := [], harness := (true, "c916ef15f4f308e18f801a5522ff99ba2ba8bf6a0d4d07faae3f055be678d983"), looks := false }, kinds := [], alts := [], laidByText := true, laidKinds := [.data], laidTests := true, laidLooks := .later }
def GfReckonsUptoCardSaid : Prop := Claim7.holds Tryd.pinned (.plain (OpenSpec.upto gfReckonsSpec)) gfReckonsUptoCard

/-- THE SECOND FORM's CARD OF 'firkinlaw01.GfDivides'. -/
def gfDividesUptoCard : Claim7 := { stood := { row := gfDividesUptoRow, standIns := [], harness := (true, "c916ef15f4f308e18f801a5522ff99ba2ba8bf6a0d4d07faae3f055be678d983"), looks := false }, kinds := [], alts := [], laidByText := true, laidKinds := [.data], laidTests := true, laidLooks := .later }
def GfDividesUptoCardSaid : Prop := Claim7.holds Tryd.pinned (.plain (OpenSpec.upto gfDividesSpec)) gfDividesUptoCard

/-- THE SECOND FORM's CARD OF 'firkinlaw01.GfZeros'. -/
def gfZerosUptoCard : Claim7 := { stood := { row := gfZerosUptoRow, standIns := [], harness := (true, "c916ef15f4f308e18f801a5522ff99ba2ba8bf6a0d4d07faae3f055be678d983"), looks := false }, kinds := [], alts := [], laidByText := true, laidKinds := [.data], laidTests := true, laidLooks := .later }
def GfZerosUptoCardSaid : Prop := Claim7.holds Tryd.pinned (.plain (OpenSpec.upto gfZerosSpec)) gfZerosUptoCard

/-- THE SECOND FORM's CARD OF 'firkinlaw01.GfRound'. -/
def gfRoundUptoCard : Claim7 := { stood := { row := gfRoundUptoRow, standIns := [], harness := (true, "c916ef15f4f308e18f801a5522ff99ba2ba8bf6a0d4d07faae3f055be678d983"), looks := false }, kinds := [], alts := [], laidByText := true, laidKinds := [.data], laidTests := true, laidLooks := .later }
def GfRoundUptoCardSaid : Prop := Claim7.holds Tryd.pinned (.plain (OpenSpec.upto gfRoundSpec)) gfRoundUptoCard

/-- THE SECOND FORM's CARD OF 'firkinlaw01.GfSquares'. -/
def gfSquaresUptoCard : Claim7 := { stood := { row := gfSquaresUptoRow, standIns := [], harness := (true, "c916ef15f4f308e18f801a5522ff99ba2ba8bf6a0d4d07faae3f055be678d983"), looks := false }, kinds := [], alts := [], laidByText := true, laidKinds := [.data], laidTests := true, laidLooks := .later }
def GfSquaresUptoCardSaid : Prop := Claim7.holds Tryd.pinned (.plain (OpenSpec.upto gfSquaresSpec)) gfSquaresUptoCard

/-- THE SECOND FORM's CARD OF 'firkinlaw01.GfNothing'. -/
def gfNothingUptoCard : Claim7 := { stood := { row := gfNothingUptoRow, standIns := [], harness := (true, "c916ef15f4f308e18f801a5522ff99ba2ba8bf6a0d4d07faae3f055be678d983"), looks := false }, kinds := [], alts := [], laidByText := true, laidKinds := [.data], laidTests := true, laidLooks := .later }
def GfNothingUptoCardSaid : Prop := Claim7.holds Tryd.pinned (.plain (OpenSpec.upto gfNothingSpec)) gfNothingUptoCard
end Rows
end Go.Proofs.YtkbafbhhoemkcaaDoor
