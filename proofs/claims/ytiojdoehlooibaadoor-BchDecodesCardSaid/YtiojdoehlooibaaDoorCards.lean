/-
  DERIVED. GIVEN WITH THE SEED: THE CARDS: each row of YtiojdoehlooibaaDoorRows.lean that lists a variable, with what it lists TIED to the program's text (the seventh form; the later family's looks); each row that meets fmt, with fmt's text TOLD by the authors' own Lean function (tested against real Go, not proved from fmt's source: count such statements apart). THE CARD IS WHAT COUNTS. Prove the row's statement (the work); the ties are given (YtiojdoehlooibaaDoorTie.lean); close each card by the builder's one call (the guide's Derived/Test/ToyasCard.lean, 'card_holds'). Laid BY PROGRAM, IN A SANDBOX (cutbox-door.mjs). By AI agents, Wed Nov 11 2026. No macro, syntax, notation, axiom, sorry.
-/
import Derived.Test.YtiojdoehlooibaaDoorRows
import GoSem.ClaimSeven
namespace Go.Proofs.YtiojdoehlooibaaDoor
namespace Rows

/-- THE TIED CARD OF 'firkinlaw02.BchMakes'. -/
def bchMakesCard : Claim7 := { stood := { row := bchMakesRow, standIns := [], harness := (true, "24945de5d68a256500bb4cccadf5118acdfb0f7b57e57d012de494953ffe81d8"), looks := false }, kinds := [], alts := [], laidByText := true, laidKinds := [.data], laidTests := true, laidLooks := .later }
def BchMakesCardSaid : Prop := Claim7.holds Tryd.pinned (.plain (OpenSpec.ofChange bchMakesSpec)) bchMakesCard

/-- THE TIED CARD OF 'firkinlaw02.BchEncodes'. -/
def bchEncodesCard : Claim7 := { stood := { row := bchEncodesRow, standIns := [], harness := (true, "24945de5d68a256500bb4cccadf5118acdfb0f7b57e57d012de494953ffe81d8"), looks := false }, kinds := [], alts := [], laidByText := true, laidKinds := [.data], laidTests := true, laidLooks := .later }
def BchEncodesCardSaid : Prop := Claim7.holds Tryd.pinned (.plain (OpenSpec.ofChange bchEncodesSpec)) bchEncodesCard

/-- THE TIED CARD OF 'firkinlaw02.BchDecodes'. -/
def bchDecodesCard : Claim7 := { stood := { row := bchDecodesRow, standIns := [], harness := (true, "24945de5d68a256500bb4cccadf5118acdfb0f7b57e57d012de494953ffe81d8"), looks := false }, kinds := [], alts := [], laidByText := true, laidKinds := [.data], laidTests := true, laidLooks := .later }
def BchDecodesCardSaid : Prop := Claim7.holds Tryd.pinned (.plain (OpenSpec.ofChange bchDecodesSpec)) bchDecodesCard

/-- THE TIED CARD OF 'firkinlaw02.BchMends'. -/
def bchMendsCard : Claim7 := { stood := { row := bchMendsRow, standIns := [], harness := (true, "24945de5d68a256500bb4cccadf5118acdfb0f7b57e57d012de494953ffe81d8"), looks := false }, kinds := [], alts := [], laidByText := true, laidKinds := [.data], laidTests := true, laidLooks := .later }
def BchMendsCardSaid : Prop := Claim7.holds Tryd.pinned (.plain (OpenSpec.ofChange bchMendsSpec)) bchMendsCard

/-- THE TIED CARD OF 'firkinlaw02.BchAdds'. -/
def bchAddsCard : Claim7 := { stood := { row := bchAddsRow, standIns := [], harness := (true, "24945de5d68a256500bb4cccadf5118acdfb0f7b57e57d012de494953ffe81d8"), looks := false }, kinds := [], alts := [], laidByText := true, laidKinds := [.data], laidTests := true, laidLooks := .later }
def BchAddsCardSaid : Prop := Claim7.holds Tryd.pinned (.plain (OpenSpec.ofChange bchAddsSpec)) bchAddsCard

/-- THE TIED CARD OF 'firkinlaw02.BchApart'. -/
def bchApartCard : Claim7 := { stood := { row := bchApartRow, standIns := [], harness := (true, "24945de5d68a256500bb4cccadf5118acdfb0f7b57e57d012de494953ffe81d8"), looks := false }, kinds := [], alts := [], laidByText := true, laidKinds := [.data], laidTests := true, laidLooks := .later }
def BchApartCardSaid : Prop := Claim7.holds Tryd.pinned (.plain (OpenSpec.ofChange bchApartSpec)) bchApartCard

/-- THE SECOND FORM's CARD OF 'firkinlaw02.BchMakes'. -/
def bchMakesUptoCard : Claim7 := { stood := { row := bchMakesUptoRow, standIns := [], harness := (true, "24945de5d68a256500bb4cccadf5118acdfb0f7b57e57d012de494953ffe81d8"), looks := false }, kinds := [], alts := [], laidByText := true, laidKinds := [.data], laidTests := true, laidLooks := .later }
def BchMakesUptoCardSaid : Prop := Claim7.holds Tryd.pinned (.plain (OpenSpec.upto bchMakesSpec)) bchMakesUptoCard

/-- THE SECOND FORM's CARD OF 'firkinlaw02.BchEncodes'. -/
def bchEncodesUptoCard : Claim7 := { stood := { row := bchEncodesUptoRow, standIns := [], harness := (true, "24945de5d68a256500bb4cccadf5118acdfb0f7b57e57d012de494953ffe81d8"), looks := false }, kinds := [], alts := [], laidByText := true, laidKinds := [.data], laidTests := true, laidLooks := .later }
def BchEncodesUptoCardSaid : Prop := Claim7.holds Tryd.pinned (.plain (OpenSpec.upto bchEncodesSpec)) bchEncodesUptoCard

/-- THE SECOND FORM's CARD OF 'firkinlaw02.BchDecodes'. -/
def bchDecodesUptoCard : Claim7 := { stood := { row := bchDecodesUptoRow, standIns := [], harness := (true, "24945de5d68a256500bb4cccadf5118acdfb0f7b57e57d012de494953ffe81d8"), looks := false }, kinds := [], alts := [], laidByText := true, laidKinds := [.data], laidTests := true, laidLooks := .later }
def BchDecodesUptoCardSaid : Prop := Claim7.holds Tryd.pinned (.plain (OpenSpec.upto bchDecodesSpec)) bchDecodesUptoCard

/-- THE SECOND FORM's CARD OF 'firkinlaw02.BchMends'. -/
def bchMendsUptoCard : Claim7 := { stood := { row := bchMendsUptoRow, standIns := [], harness := (true, "24945de5d68a256500bb4cccadf5118acdfb0f7b57e57d012de494953ffe81d8"), looks := false }, kinds := [], alts := [], laidByText := true, laidKinds := [.data], laidTests := true, laidLooks := .later }
def BchMendsUptoCardSaid : Prop := Claim7.holds Tryd.pinned (.plain (OpenSpec.upto bchMendsSpec)) bchMendsUptoCard

/-- THE SECOND FORM's CARD OF 'firkinlaw02.BchAdds'. -/
def bchAddsUptoCard : Claim7 := { stood := { row := bchAddsUptoRow, standIns := [], harness := (true, "24945de5d68a256500bb4cccadf5118acdfb0f7b57e57d012de494953ffe81d8"), looks := false }, kinds := [], alts := [], laidByText := true, laidKinds := [.data], laidTests := true, laidLooks := .later }
def BchAddsUptoCardSaid : Prop := Claim7.holds Tryd.pinned (.plain (OpenSpec.upto bchAddsSpec)) bchAddsUptoCard

/-- THE SECOND FORM's CARD OF 'firkinlaw02.BchApart'. -/
def bchApartUptoCard : Claim7 := { stood := { row := bchApartUptoRow, standIns := [], harness := (true, "24945de5d68a256500bb4cccadf5118acdfb0f7b57e57d012de494953ffe81d8"), looks := false }, kinds := [], alts := [], laidByText := true, laidKinds := [.data], laidTests := true, laidLooks := .later }
def BchApartUptoCardSaid : Prop := Claim7.holds Tryd.pinned (.plain (OpenSpec.upto bchApartSpec)) bchApartUptoCard
end Rows
end Go.Proofs.YtiojdoehlooibaaDoor
