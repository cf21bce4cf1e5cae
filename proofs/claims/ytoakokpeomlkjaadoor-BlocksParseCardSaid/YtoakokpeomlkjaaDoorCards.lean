/-
  DERIVED. GIVEN WITH THE SEED: THE CARDS: each row of YtoakokpeomlkjaaDoorRows.lean that lists a variable, with what it lists TIED to the program's text (the seventh form; the later family's looks); each row that meets fmt, with fmt's text TOLD by the authors' own Lean function (tested against real Go, not proved from fmt's source: count such statements apart). THE CARD IS WHAT COUNTS. Prove the row's statement (the work); the ties are given (YtoakokpeomlkjaaDoorTie.lean); close each card by the builder's one call (the guide's Derived/Test/ToyasCard.lean, 'card_holds'). Laid BY PROGRAM, IN A SANDBOX (cutbox-door.mjs). By AI agents, Wed Nov 11 2026. No macro, syntax, notation, axiom, sorry.
-/
import Derived.Test.YtoakokpeomlkjaaDoorRows
import GoSem.ClaimSeven
namespace Go.Proofs.YtoakokpeomlkjaaDoor
namespace Rows

/-- THE TIED CARD OF 'firkinlaw07.BlocksPlay'. -/
def blocksPlayCard : Claim7 := { stood := { row := blocksPlayRow, standIns := [], harness := (true, "e8fa6a029a5c7fa63a00e04ee4f68a941ed519e3bf9c2f66399abfe74bb35581"), looks := false }, kinds := [], alts := [], laidByText := true, laidKinds := [.data], laidTests := true, laidLooks := .later }
def BlocksPlayCardSaid : Prop := Claim7.holds Tryd.pinned (.plain (OpenSpec.ofChange blocksPlaySpec)) blocksPlayCard

/-- THE TIED CARD OF 'firkinlaw07.BlocksParse'. -/
def blocksParseCard : Claim7 := { stood := { row := blocksParseRow, standIns := [], harness := (true, "e8fa6a029a5c7fa63a00e04ee4f68a941ed519e3bf9c2f66399abfe74bb35581"), looks := false }, kinds := [], alts := [], laidByText := true, laidKinds := [.data], laidTests := true, laidLooks := .later }
def BlocksParseCardSaid : Prop := Claim7.holds Tryd.pinned (.plain (OpenSpec.ofChange blocksParseSpec)) blocksParseCard

/-- THE TIED CARD OF 'firkinlaw07.BlocksBack'. -/
def blocksBackCard : Claim7 := { stood := { row := blocksBackRow, standIns := [], harness := (true, "e8fa6a029a5c7fa63a00e04ee4f68a941ed519e3bf9c2f66399abfe74bb35581"), looks := false }, kinds := [], alts := [], laidByText := true, laidKinds := [.data], laidTests := true, laidLooks := .later }
def BlocksBackCardSaid : Prop := Claim7.holds Tryd.pinned (.plain (OpenSpec.ofChange blocksBackSpec)) blocksBackCard

/-- THE SECOND FORM's CARD OF 'firkinlaw07.BlocksPlay'. -/
def blocksPlayUptoCard : Claim7 := { stood := { row := blocksPlayUptoRow, standIns := [], harness := (true, "e8fa6a029a5c7fa63a00e04ee4f68a941ed519e3bf9c2f66399abfe74bb35581"), looks := false }, kinds := [], alts := [], laidByText := true, laidKinds := [.data], laidTests := true, laidLooks := .later }
def BlocksPlayUptoCardSaid : Prop := Claim7.holds Tryd.pinned (.plain (OpenSpec.upto blocksPlaySpec)) blocksPlayUptoCard

/-- THE SECOND FORM's CARD OF 'firkinlaw07.BlocksParse'. -/
def blocksParseUptoCard : Claim7 := { stood := { row := blocksParseUptoRow, standIns := [], harness := (true, "e8fa6a029a5c7fa63a00e04ee4f68a941ed519e3bf9c2f66399abfe74bb35581"), looks := false }, kinds := [], alts := [], laidByText := true, laidKinds := [.data], laidTests := true, laidLooks := .later }
def BlocksParseUptoCardSaid : Prop := Claim7.holds Tryd.pinned (.plain (OpenSpec.upto blocksParseSpec)) blocksParseUptoCard

/-- THE SECOND FORM's CARD OF 'firkinlaw07.BlocksBack'. -/
def blocksBackUptoCard : Claim7 := { stood := { row := blocksBackUptoRow, standIns := [], harness := (true, "e8fa6a029a5c7fa63a00e04ee4f68a941ed519e3bf9c2f66399abfe74bb35581"), looks := false }, kinds := [], alts := [], laidByText := true, laidKinds := [.data], laidTests := true, laidLooks := .later }
def BlocksBackUptoCardSaid : Prop := Claim7.holds Tryd.pinned (.plain (OpenSpec.upto blocksBackSpec)) blocksBackUptoCard
end Rows
end Go.Proofs.YtoakokpeomlkjaaDoor
