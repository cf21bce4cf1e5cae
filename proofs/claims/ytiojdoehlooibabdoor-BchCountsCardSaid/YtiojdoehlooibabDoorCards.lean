/-
  DERIVED. GIVEN WITH THE SEED: THE CARDS: each row of YtiojdoehlooibabDoorRows.lean that lists a variable, with what it lists TIED to the program's text (the seventh form; the later family's looks); each row that meets fmt, with fmt's text TOLD by the authors' own Lean function (tested against real Go, not proved from fmt's source: count such statements apart). THE CARD IS WHAT COUNTS. Prove the row's statement (the work); the ties are given (YtiojdoehlooibabDoorTie.lean); close each card by the builder's one call (the guide's Derived/Test/ToyasCard.lean, 'card_holds'). Laid BY PROGRAM, IN A SANDBOX (cutbox-door.mjs). By AI agents, Wed Nov 11 2026. No macro, syntax, notation, axiom, sorry.
-/
import Derived.Test.YtiojdoehlooibabDoorRows
import GoSem.ClaimSeven
namespace Go.Proofs.YtiojdoehlooibabDoor
namespace Rows

/-- THE TIED CARD OF 'firkinlaw02.BchNothing'. -/
def bchNothingCard : Claim7 := { stood := { row := bchNothingRow, standIns := [], harness := (true, "52124990cb58ba759865b0ddde1db2c5f9c170b5193250fdd3d0a55aebe4c680"), looks := false }, kinds := [], alts := [], laidByText := true, laidKinds := [.data], laidTests := true, laidLooks := .later }
def BchNothingCardSaid : Prop := Claim7.holds Tryd.pinned (.plain (OpenSpec.ofChange bchNothingSpec)) bchNothingCard

/-- THE TIED CARD OF 'firkinlaw02.BchCounts'. -/
def bchCountsCard : Claim7 := { stood := { row := bchCountsRow, standIns := [], harness := (true, "52124990cb58ba759865b0ddde1db2c5f9c170b5193250fdd3d0a55aebe4c680"), looks := false }, kinds := [], alts := [], laidByText := true, laidKinds := [.data], laidTests := true, laidLooks := .later }
def BchCountsCardSaid : Prop := Claim7.holds Tryd.pinned (.plain (OpenSpec.ofChange bchCountsSpec)) bchCountsCard

/-- THE TIED CARD OF 'firkinlaw02.BchNoughts'. -/
def bchNoughtsCard : Claim7 := { stood := { row := bchNoughtsRow, standIns := [], harness := (true, "52124990cb58ba759865b0ddde1db2c5f9c170b5193250fdd3d0a55aebe4c680"), looks := false }, kinds := [], alts := [], laidByText := true, laidKinds := [.data], laidTests := true, laidLooks := .later }
def BchNoughtsCardSaid : Prop := Claim7.holds Tryd.pinned (.plain (OpenSpec.ofChange bchNoughtsSpec)) bchNoughtsCard

/-- THE SECOND FORM's CARD OF 'firkinlaw02.BchNothing'. -/
def bchNothingUptoCard : Claim7 := { stood := { row := bchNothingUptoRow, standIns := [], harness := (true, "52124990cb58ba759865b0ddde1db2c5f9c170b5193250fdd3d0a55aebe4c680"), looks := false }, kinds := [], alts := [], laidByText := true, laidKinds := [.data], laidTests := true, laidLooks := .later }
def BchNothingUptoCardSaid : Prop := Claim7.holds Tryd.pinned (.plain (OpenSpec.upto bchNothingSpec)) bchNothingUptoCard

/-- THE SECOND FORM's CARD OF 'firkinlaw02.BchCounts'. -/
def bchCountsUptoCard : Claim7 := { stood := { row := bchCountsUptoRow, standIns := [], harness := (true, "52124990cb58ba759865b0ddde1db2c5f9c170b5193250fdd3d0a55aebe4c680"), looks := false }, kinds := [], alts := [], laidByText := true, laidKinds := [.data], laidTests := true, laidLooks := .later }
def BchCountsUptoCardSaid : Prop := Claim7.holds Tryd.pinned (.plain (OpenSpec.upto bchCountsSpec)) bchCountsUptoCard

/-- THE SECOND FORM's CARD OF 'firkinlaw02.BchNoughts'. -/
def bchNoughtsUptoCard : Claim7 := { stood := { row := bchNoughtsUptoRow, standIns := [], harness := (true, "52124990cb58ba759865b0ddde1db2c5f9c170b5193250fdd3d0a55aebe4c680"), looks := false }, kinds := [], alts := [], laidByText := true, laidKinds := [.data], laidTests := true, laidLooks := .later }
def BchNoughtsUptoCardSaid : Prop := Claim7.holds Tryd.pinned (.plain (OpenSpec.upto bchNoughtsSpec)) bchNoughtsUptoCard
end Rows
end Go.Proofs.YtiojdoehlooibabDoor
