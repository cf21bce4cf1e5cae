/-
  DERIVED. GIVEN WITH THE SEED: THE CARDS: each row of YtfmkmfjmhpgglaaDoorRows.lean that lists a variable, with what it lists TIED to the program's text (the seventh form; the later family's looks); each row that meets fmt, with fmt's text TOLD by the authors' own Lean function (tested against real Go, not proved from fmt's source: count such statements apart). THE CARD IS WHAT COUNTS. Prove the row's statement (the work); the ties are given (YtfmkmfjmhpgglaaDoorTie.lean); close each card by the builder's one call (the guide's Derived/Test/ToyasCard.lean, 'card_holds'). Laid BY PROGRAM, IN A SANDBOX (cutbox-door.mjs). By AI agents, Wed Nov 11 2026. No macro, syntax, notation, axiom, sorry.
-/
import Derived.Test.YtfmkmfjmhpgglaaDoorRows
import GoSem.ClaimSeven
namespace Go.Proofs.YtfmkmfjmhpgglaaDoor
namespace Rows

/-- THE TIED CARD OF 'firkinlaw08.RecordBytes'. -/
def recordBytesCard : Claim7 := { stood := { row := recordBytesRow, standIns := [], harness := (true, "b7c3afeb2131ba19977045ff34cef397b1f652d8761dc3d25f195a5d435fbe94"), looks := false }, kinds := [], alts := [], laidByText := true, laidKinds := [.data], laidTests := true, laidLooks := .later }
def RecordBytesCardSaid : Prop := Claim7.holds Tryd.pinned (.plain (OpenSpec.ofChange recordBytesSpec)) recordBytesCard

/-- THE TIED CARD OF 'firkinlaw08.RecordAll'. -/
def recordAllCard : Claim7 := { stood := { row := recordAllRow, standIns := [], harness := (true, "b7c3afeb2131ba19977045ff34cef397b1f652d8761dc3d25f195a5d435fbe94"), looks := false }, kinds := [], alts := [], laidByText := true, laidKinds := [.data], laidTests := true, laidLooks := .later }
def RecordAllCardSaid : Prop := Claim7.holds Tryd.pinned (.plain (OpenSpec.ofChange recordAllSpec)) recordAllCard

/-- THE TIED CARD OF 'firkinlaw08.RecordRow'. -/
def recordRowCard : Claim7 := { stood := { row := recordRowRow, standIns := [], harness := (true, "b7c3afeb2131ba19977045ff34cef397b1f652d8761dc3d25f195a5d435fbe94"), looks := false }, kinds := [], alts := [], laidByText := true, laidKinds := [.data], laidTests := true, laidLooks := .later }
def RecordRowCardSaid : Prop := Claim7.holds Tryd.pinned (.plain (OpenSpec.ofChange recordRowSpec)) recordRowCard

/-- THE TIED CARD OF 'firkinlaw08.RecordTurned'. -/
def recordTurnedCard : Claim7 := { stood := { row := recordTurnedRow, standIns := [], harness := (true, "b7c3afeb2131ba19977045ff34cef397b1f652d8761dc3d25f195a5d435fbe94"), looks := false }, kinds := [], alts := [], laidByText := true, laidKinds := [.data], laidTests := true, laidLooks := .later }
def RecordTurnedCardSaid : Prop := Claim7.holds Tryd.pinned (.plain (OpenSpec.ofChange recordTurnedSpec)) recordTurnedCard

/-- THE SECOND FORM's CARD OF 'firkinlaw08.RecordBytes'. -/
def recordBytesUptoCard : Claim7 := { stood := { row := recordBytesUptoRow, standIns := [], harness := (true, "b7c3afeb2131ba19977045ff34cef397b1f652d8761dc3d25f195a5d435fbe94"), looks := false }, kinds := [], alts := [], laidByText := true, laidKinds := [.data], laidTests := true, laidLooks := .later }
def RecordBytesUptoCardSaid : Prop := Claim7.holds Tryd.pinned (.plain (OpenSpec.upto recordBytesSpec)) recordBytesUptoCard

/-- THE SECOND FORM's CARD OF 'firkinlaw08.RecordAll'. -/
def recordAllUptoCard : Claim7 := { stood := { row := recordAllUptoRow, standIns := [], harness := (true, "b7c3afeb2131ba19977045ff34cef397b1f652d8761dc3d25f195a5d435fbe94"), looks := false }, kinds := [], alts := [], laidByText := true, laidKinds := [.data], laidTests := true, laidLooks := .later }
def RecordAllUptoCardSaid : Prop := Claim7.holds Tryd.pinned (.plain (OpenSpec.upto recordAllSpec)) recordAllUptoCard

/-- THE SECOND FORM's CARD OF 'firkinlaw08.RecordRow'. -/
def recordRowUptoCard : Claim7 := { stood := { row := recordRowUptoRow, standIns := [], harness := (true, "b7c3afeb2131ba19977045ff34cef397b1f652d8761dc3d25f195a5d435fbe94"), looks := false }, kinds := [], alts := [], laidByText := true, laidKinds := [.data], laidTests := true, laidLooks := .later }
def RecordRowUptoCardSaid : Prop := Claim7.holds Tryd.pinned (.plain (OpenSpec.upto recordRowSpec)) recordRowUptoCard

/-- THE SECOND FORM's CARD OF 'firkinlaw08.RecordTurned'. -/
def recordTurnedUptoCard : Claim7 := { stood := { row := recordTurnedUptoRow, standIns := [], harness := (true, "b7c3afeb2131ba19977045ff34cef397b1f652d8761dc3d25f195a5d435fbe94"), looks := false }, kinds := [], alts := [], laidByText := true, laidKinds := [.data], laidTests := true, laidLooks := .later }
def RecordTurnedUptoCardSaid : Prop := Claim7.holds Tryd.pinned (.plain (OpenSpec.upto recordTurnedSpec)) recordTurnedUptoCard
end Rows
end Go.Proofs.YtfmkmfjmhpgglaaDoor
