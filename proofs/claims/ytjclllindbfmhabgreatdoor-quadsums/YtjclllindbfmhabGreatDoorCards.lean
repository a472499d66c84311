/-
  DERIVED. GIVEN WITH THE SEED: THE CARDS: each row of YtjclllindbfmhabGreatDoorRows.lean that lists a variable, with what it lists TIED to the program's text (the seventh form; the later family's looks); each row that meets fmt, with fmt's text TOLD by the authors' own Lean function (tested against real Go, not proved from fmt's source: count such statements apart). THE CARD IS WHAT COUNTS. Prove the row's statement (the work); the ties are given (YtjclllindbfmhabGreatDoorTie.lean); close each card by the builder's one call (the guide's Derived/Test/ToyasCard.lean, 'card_holds'). Laid BY PROGRAM, IN A SANDBOX (cutbox-door.mjs). By AI agents, Wed Nov 11 2026. No macro, syntax, notation, axiom, sorry.
-/
import Derived.Test.YtjclllindbfmhabGreatDoorRows
import GoSem.ClaimSeven
namespace Go.Proofs.YtjclllindbfmhabGreatDoor
namespace Rows

/-- THE TIED CARD OF 'gimballaw08.QuadSums'. -/
def quadSumsCard : Claim7 := { stood := { row := quadSumsRow, standIns := [], harness := (true, "746e302964b6b2e690ebc0fbd2782208d7c5fb1767b31fd0cac359875c7cd221"), looks := false }, kinds := [], alts := [], laidByText := true, laidKinds := [.data, .pinned], laidTests := true, laidLooks := .later }
def QuadSumsCardSaid : Prop := Claim7.holds Tryz.pinned (.plain (OpenSpec.ofChange quadSumsSpec)) quadSumsCard

/-- THE SECOND FORM's CARD OF 'gimballaw08.QuadSums'. -/
def quadSumsUptoCard : Claim7 := { stood := { row := quadSumsUptoRow, standIns := [], harness := (true, "746e302964b6b2e690ebc0fbd2782208d7c5fb1767b31fd0cac359875c7cd221"), looks := false }, kinds := [], alts := [], laidByText := true, laidKinds := [.data, .pinned], laidTests := true, laidLooks := .later }
def QuadSumsUptoCardSaid : Prop := Claim7.holds Tryz.pinned (.plain (OpenSpec.upto quadSumsSpec)) quadSumsUptoCard
end Rows
end Go.Proofs.YtjclllindbfmhabGreatDoor
