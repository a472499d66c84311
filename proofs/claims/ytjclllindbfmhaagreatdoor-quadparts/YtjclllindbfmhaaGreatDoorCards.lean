/-
  DERIVED. GIVEN WITH THE SEED: THE CARDS: each row of YtjclllindbfmhaaGreatDoorRows.lean that lists a variable, with what it lists TIED to the program's text (the seventh form; the later family's looks); each row that meets fmt, with fmt's text TOLD by the authors' own Lean function (tested against real Go, not proved from fmt's source: count such statements apart). THE CARD IS WHAT COUNTS. Prove the row's statement (the work); the ties are given (YtjclllindbfmhaaGreatDoorTie.lean); close each card by the builder's one call (the guide's Derived/Test/ToyasCard.lean, 'card_holds'). Laid BY PROGRAM, IN A SANDBOX (cutbox-door.mjs). By AI agents, Wed Nov 11 2026. No macro, syntax, notation, axiom, sorry.
-/
import Derived.Test.YtjclllindbfmhaaGreatDoorRows
import GoSem.ClaimSeven
namespace Go.Proofs.YtjclllindbfmhaaGreatDoor
namespace Rows

/-- THE TIED CARD OF 'gimballaw08.QuadMakes'. -/
def quadMakesCard : Claim7 := { stood := { row := quadMakesRow, standIns := [], harness := (true, "b0be0e09ef59cde9ce21b1b7ae9ab4af0e83951f4681a359a0f5ec5576aad608"), looks := false }, kinds := [], alts := [], laidByText := true, laidKinds := [.data, .pinned], laidTests := true, laidLooks := .later }
def QuadMakesCardSaid : Prop := Claim7.holds Tryz.pinned (.plain (OpenSpec.ofChange quadMakesSpec)) quadMakesCard

/-- THE TIED CARD OF 'gimballaw08.QuadTells'. -/
def quadTellsCard : Claim7 := { stood := { row := quadTellsRow, standIns := [], harness := (true, "b0be0e09ef59cde9ce21b1b7ae9ab4af0e83951f4681a359a0f5ec5576aad608"), looks := false }, kinds := [], alts := [], laidByText := true, laidKinds := [.data, .pinned], laidTests := true, laidLooks := .later }
def QuadTellsCardSaid : Prop := Claim7.holds Tryz.pinned (.plain (OpenSpec.ofChange quadTellsSpec)) quadTellsCard

/-- THE TIED CARD OF 'gimballaw08.QuadParts'. -/
def quadPartsCard : Claim7 := { stood := { row := quadPartsRow, standIns := [], harness := (true, "b0be0e09ef59cde9ce21b1b7ae9ab4af0e83951f4681a359a0f5ec5576aad608"), looks := false }, kinds := [], alts := [], laidByText := true, laidKinds := [.data, .pinned], laidTests := true, laidLooks := .later }
def QuadPartsCardSaid : Prop := Claim7.holds Tryz.pinned (.plain (OpenSpec.ofChange quadPartsSpec)) quadPartsCard

/-- THE TIED CARD OF 'gimballaw08.QuadLeast'. -/
def quadLeastCard : Claim7 := { stood := { row := quadLeastRow, standIns := [], harness := (true, "b0be0e09ef59cde9ce21b1b7ae9ab4af0e83951f4681a359a0f5ec5576aad608"), looks := false }, kinds := [], alts := [], laidByText := true, laidKinds := [.data, .pinned], laidTests := true, laidLooks := .later }
def QuadLeastCardSaid : Prop := Claim7.holds Tryz.pinned (.plain (OpenSpec.ofChange quadLeastSpec)) quadLeastCard

/-- THE TIED CARD OF 'gimballaw08.QuadLeft'. -/
def quadLeftCard : Claim7 := { stood := { row := quadLeftRow, standIns := [], harness := (true, "b0be0e09ef59cde9ce21b1b7ae9ab4af0e83951f4681a359a0f5ec5576aad608"), looks := false }, kinds := [], alts := [], laidByText := true, laidKinds := [.data, .pinned], laidTests := true, laidLooks := .later }
def QuadLeftCardSaid : Prop := Claim7.holds Tryz.pinned (.plain (OpenSpec.ofChange quadLeftSpec)) quadLeftCard

/-- THE TIED CARD OF 'gimballaw08.QuadTwice'. -/
def quadTwiceCard : Claim7 := { stood := { row := quadTwiceRow, standIns := [], harness := (true, "b0be0e09ef59cde9ce21b1b7ae9ab4af0e83951f4681a359a0f5ec5576aad608"), looks := false }, kinds := [], alts := [], laidByText := true, laidKinds := [.data, .pinned], laidTests := true, laidLooks := .later }
def QuadTwiceCardSaid : Prop := Claim7.holds Tryz.pinned (.plain (OpenSpec.ofChange quadTwiceSpec)) quadTwiceCard

/-- THE SECOND FORM's CARD OF 'gimballaw08.QuadMakes'. -/
def quadMakesUptoCard : Claim7 := { stood := { row := quadMakesUptoRow, standIns := [], harness := (true, "b0be0e09ef59cde9ce21b1b7ae9ab4af0e83951f4681a359a0f5ec5576aad608"), looks := false }, kinds := [], alts := [], laidByText := true, laidKinds := [.data, .pinned], laidTests := true, laidLooks := .later }
def QuadMakesUptoCardSaid : Prop := Claim7.holds Tryz.pinned (.plain (OpenSpec.upto quadMakesSpec)) quadMakesUptoCard

/-- THE SECOND FORM's CARD OF 'gimballaw08.QuadTells'. -/
def quadTellsUptoCard : Claim7 := { stood := { row := quadTellsUptoRow, standIns := [], harness := (true, "b0be0e09ef59cde9ce21b1b7ae9ab4af0e83951f4681a359a0f5ec5576aad608"), looks := false }, kinds := [], alts := [], laidByText := true, laidKinds := [.data, .pinned], laidTests := true, laidLooks := .later }
def QuadTellsUptoCardSaid : Prop := Claim7.holds Tryz.pinned (.plain (OpenSpec.upto quadTellsSpec)) quadTellsUptoCard

/-- THE SECOND FORM's CARD OF 'gimballaw08.QuadParts'. -/
def quadPartsUptoCard : Claim7 := { stood := { row := quadPartsUptoRow, standIns := [], harness := (true, "b0be0e09ef59cde9ce21b1b7ae9ab4af0e83951f4681a359a0f5ec5576aad608"), looks := false }, kinds := [], alts := [], laidByText := true, laidKinds := [.data, .pinned], laidTests := true, laidLooks := .later }
def QuadPartsUptoCardSaid : Prop := Claim7.holds Tryz.pinned (.plain (OpenSpec.upto quadPartsSpec)) quadPartsUptoCard

/-- THE SECOND FORM's CARD OF 'gimballaw08.QuadLeast'. -/
def quadLeastUptoCard : Claim7 := { stood := { row := quadLeastUptoRow, standIns := [], harness := (true, "b0be0e09ef59cde9ce21b1b7ae9ab4af0e83951f4681a359a0f5ec5576aad608"), looks := false }, kinds := [], alts := [], laidByText := true, laidKinds := [.data, .pinned], laidTests := true, laidLooks := .later }
def QuadLeastUptoCardSaid : Prop := Claim7.holds Tryz.pinned (.plain (OpenSpec.upto quadLeastSpec)) quadLeastUptoCard

/-- THE SECOND FORM's CARD OF 'gimballaw08.QuadLeft'. -/
def quadLeftUptoCard : Claim7 := { stood := { row := quadLeftUptoRow, standIns := [], harness := (true, "b0be0e09ef59cde9ce21b1b7ae9ab4af0e83951f4681a359a0f5ec5576aad608"), looks := false }, kinds := [], alts := [], laidByText := true, laidKinds := [.data, .pinned], laidTests := true, laidLooks := .later }
def QuadLeftUptoCardSaid : Prop := Claim7.holds Tryz.pinned (.plain (OpenSpec.upto quadLeftSpec)) quadLeftUptoCard

/-- THE SECOND FORM's CARD OF 'gimballaw08.QuadTwice'. -/
def quadTwiceUptoCard : Claim7 := { stood := { row := quadTwiceUptoRow, standIns := [], harness := (true, "b0be0e09ef59cde9ce21b1b7ae9ab4af0e83951f4681a359a0f5ec5576aad608"), looks := false }, kinds := [], alts := [], laidByText := true, laidKinds := [.data, .pinned], laidTests := true, laidLooks := .later }
def QuadTwiceUptoCardSaid : Prop := Claim7.holds Tryz.pinned (.plain (OpenSpec.upto quadTwiceSpec)) quadTwiceUptoCard
end Rows
end Go.Proofs.YtjclllindbfmhaaGreatDoor
