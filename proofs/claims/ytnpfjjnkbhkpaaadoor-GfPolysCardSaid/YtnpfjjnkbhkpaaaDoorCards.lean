/-
  DERIVED. GIVEN WITH THE SEED: THE CARDS: each row of YtnpfjjnkbhkpaaaDoorRows.lean that lists a variable, with what it lists TIED to the program's text (the seventh form; the later family's looks); each row that meets fmt, with fmt's text TOLD by the authors' own Lean function (tested against real Go, not proved from fmt's source: count such statements apart). THE CARD IS WHAT COUNTS. Prove the row's statement (the work); the ties are given (YtnpfjjnkbhkpaaaDoorTie.lean); close each card by the builder's one call (the guide's Derived/Test/ToyasCard.lean, 'card_holds'). Laid BY PROGRAM, IN A SANDBOX (cutbox-door.mjs). By AI agents, Wed Nov 11 2026. No macro, syntax, notation, axiom, sorry.
-/
import Derived.Test.YtnpfjjnkbhkpaaaDoorRows
import GoSem.ClaimSeven
namespace Go.Proofs.YtnpfjjnkbhkpaaaDoor
namespace Rows

/-- THE TIED CARD OF 'firkinlaw01.GfMakes'. -/
def gfMakesCard : Claim7 := { stood := { row := gfMakesRow, standIns := [], harness := (true, "4d89bd194568df3579e96d15bf70a1a65855b8e56d771dce5563b22bd1aa2792"), looks := false }, kinds := [], alts := [], laidByText := true, laidKinds := [.data], laidTests := true, laidLooks := .later }
def GfMakesCardSaid : Prop := Claim7.holds Tryd.pinned (.plain (OpenSpec.ofChange gfMakesSpec)) gfMakesCard

/-- THE TIED CARD OF 'firkinlaw01.GfReckons'. -/
def gfReckonsCard : Claim7 := { stood := { row := gfReckonsRow, standIns := [], harness := (true, "4d89bd194568df3579e96d15bf70a1a65855b8e56d771dce5563b22bd1aa2792"), looks := false }, kinds := [], alts := [], laidByText := true, laidKinds := [.data], laidTests := true, laidLooks := .later }
def GfReckonsCardSaid : Prop := Claim7.holds Tryd.pinned (.plain (OpenSpec.ofChange gfReckonsSpec)) gfReckonsCard

/-- THE TIED CARD OF 'firkinlaw01.GfPolys'. -/
def gfPolysCard : Claim7 := { stood := { row := gfPolysRow, standIns := [], harness := (true, "4d89bd194568df3579e96d15bf70a1a65855b8e56d771dce5563b22bd1aa2792"), looks := false }, kinds := [], alts := [], laidByText := true, laidKinds := [.data], laidTests := true, laidLooks := .later }
def GfPolysCardSaid : Prop := Claim7.holds Tryd.pinned (.plain (OpenSpec.ofChange gfPolysSpec)) gfPolysCard

/-- THE TIED CARD OF 'firkinlaw01.GfLeast'. -/
def gfLeastCard : Claim7 := { stood := { row := gfLeastRow, standIns := [], harness := (true, "4d89bd194568df3579e96d15bf70a1a65855b8e56d771dce5563b22bd1aa2792"), looks := false }, kinds := [], alts := [], laidByText := true, laidKinds := [.data], laidTests := true, laidLooks := .later }
def GfLeastCardSaid : Prop := Claim7.holds Tryd.pinned (.plain (OpenSpec.ofChange gfLeastSpec)) gfLeastCard

/-- THE TIED CARD OF 'firkinlaw01.GfLaws'. -/
def gfLawsCard : Claim7 := { stood := { row := gfLawsRow, standIns := [], harness := (true, "4d89bd194568df3579e96d15bf70a1a65855b8e56d771dce5563b22bd1aa2792"), looks := false }, kinds := [], alts := [], laidByText := true, laidKinds := [.data], laidTests := true, laidLooks := .later }
def GfLawsCardSaid : Prop := Claim7.holds Tryd.pinned (.plain (OpenSpec.ofChange gfLawsSpec)) gfLawsCard

/-- THE TIED CARD OF 'firkinlaw01.GfLogs'. -/
def gfLogsCard : Claim7 := { stood := { row := gfLogsRow, standIns := [], harness := (true, "4d89bd194568df3579e96d15bf70a1a65855b8e56d771dce5563b22bd1aa2792"), looks := false }, kinds := [], alts := [], laidByText := true, laidKinds := [.data], laidTests := true, laidLooks := .later }
def GfLogsCardSaid : Prop := Claim7.holds Tryd.pinned (.plain (OpenSpec.ofChange gfLogsSpec)) gfLogsCard

/-- THE SECOND FORM's CARD OF 'firkinlaw01.GfMakes'. -/
def gfMakesUptoCard : Claim7 := { stood := { row := gfMakesUptoRow, standIns := [], harness := (true, "4d89bd194568df3579e96d15bf70a1a65855b8e56d771dce5563b22bd1aa2792"), looks := false }, kinds := [], alts := [], laidByText := true, laidKinds := [.data], laidTests := true, laidLooks := .later }
def GfMakesUptoCardSaid : Prop := Claim7.holds Tryd.pinned (.plain (OpenSpec.upto gfMakesSpec)) gfMakesUptoCard

/-- THE SECOND FORM's CARD OF 'firkinlaw01.GfReckons'. -/
def gfReckonsUptoCard : Claim7 := { stood := { row := gfReckonsUptoRow, standIns := [], harness := (true, "4d89bd194568df3579e96d15bf70a1a65855b8e56d771dce5563b22bd1aa2792"), looks := false }, kinds := [], alts := [], laidByText := true, laidKinds := [.data], laidTests := true, laidLooks := .later }
def GfReckonsUptoCardSaid : Prop := Claim7.holds Tryd.pinned (.plain (OpenSpec.upto gfReckonsSpec)) gfReckonsUptoCard

/-- THE SECOND FORM's CARD OF 'firkinlaw01.GfPolys'. -/
def gfPolysUptoCard : Claim7 := { stood := { row := gfPolysUptoRow, standIns := [], harness := (true, "4d89bd194568df3579e96d15bf70a1a65855b8e56d771dce5563b22bd1aa2792"), looks := false }, kinds := [], alts := [], laidByText := true, laidKinds := [.data], laidTests := true, laidLooks := .later }
def GfPolysUptoCardSaid : Prop := Claim7.holds Tryd.pinned (.plain (OpenSpec.upto gfPolysSpec)) gfPolysUptoCard

/-- THE SECOND FORM's CARD OF 'firkinlaw01.GfLeast'. -/
def gfLeastUptoCard : Claim7 := { stood := { row := gfLeastUptoRow, standIns := [], harness := (true, "4d89bd194568df3579e96d15bf70a1a65855b8e56d771dce5563b22bd1aa2792"), looks := false }, kinds := [], alts := [], laidByText := true, laidKinds := [.data], laidTests := true, laidLooks := .later }
def GfLeastUptoCardSaid : Prop := Claim7.holds Tryd.pinned (.plain (OpenSpec.upto gfLeastSpec)) gfLeastUptoCard

/-- THE SECOND FORM's CARD OF 'firkinlaw01.GfLaws'. -/
def gfLawsUptoCard : Claim7 := { stood := { row := gfLawsUptoRow, standIns := [], harness := (true, "4d89bd194568df3579e96d15bf70a1a65855b8e56d771dce5563b22bd1aa2792"), looks := false }, kinds := [], alts := [], laidByText := true, laidKinds := [.data], laidTests := true, laidLooks := .later }
def GfLawsUptoCardSaid : Prop := Claim7.holds Tryd.pinned (.plain (OpenSpec.upto gfLawsSpec)) gfLawsUptoCard

/-- THE SECOND FORM's CARD OF 'firkinlaw01.GfLogs'. -/
def gfLogsUptoCard : Claim7 := { stood := { row := gfLogsUptoRow, standIns := [], harness := (true, "4d89bd194568df3579e96d15bf70a1a65855b8e56d771dce5563b22bd1aa2792"), looks := false }, kinds := [], alts := [], laidByText := true, laidKinds := [.data], laidTests := true, laidLooks := .later }
def GfLogsUptoCardSaid : Prop := Claim7.holds Tryd.pinned (.plain (OpenSpec.upto gfLogsSpec)) gfLogsUptoCard
end Rows
end Go.Proofs.YtnpfjjnkbhkpaaaDoor
