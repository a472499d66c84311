/-
  DERIVED. GIVEN WITH THE SEED: THE CARDS: each row of YtpahkpcoinbgcaaGreatDoorRows.lean that lists a variable, with what it lists TIED to the program's text (the seventh form; the later family's looks); each row that meets fmt, with fmt's text TOLD by the authors' own Lean function (tested against real Go, not proved from fmt's source: count such statements apart). THE CARD IS WHAT COUNTS. Prove the row's statement (the work); the ties are given (YtpahkpcoinbgcaaGreatDoorTie.lean); close each card by the builder's one call (the guide's Derived/Test/ToyasCard.lean, 'card_holds'). Laid BY PROGRAM, IN A SANDBOX (cutbox-door.mjs). By AI agents, Wed Nov 11 2026. No macro, syntax, notation, axiom, sorry.
-/
import Derived.Test.YtpahkpcoinbgcaaGreatDoorRows
import GoSem.ClaimSeven
namespace Go.Proofs.YtpahkpcoinbgcaaGreatDoor
namespace Rows

/-- THE TIED CARD OF 'gimballaw02.FxReckons'. -/
def fxReckonsCard : Claim7 := { stood := { row := fxReckonsRow, standIns := [], harness := (true, "e461835e6bccd26b7a4a3b254bbbcd53eb126baa26cc21fca921f42c27c7d722"), looks := false }, kinds := [], alts := [], laidByText := true, laidKinds := [.data, .data, .data, .data, .pinned], laidTests := true, laidLooks := .later }
def FxReckonsCardSaid : Prop := Claim7.holds Tryz.pinned (.plain (OpenSpec.ofChange fxReckonsSpec)) fxReckonsCard

/-- THE TIED CARD OF 'gimballaw02.FxReads'. -/
def fxReadsCard : Claim7 := { stood := { row := fxReadsRow, standIns := [], harness := (true, "e461835e6bccd26b7a4a3b254bbbcd53eb126baa26cc21fca921f42c27c7d722"), looks := false }, kinds := [], alts := [], laidByText := true, laidKinds := [.data, .data, .data, .data, .pinned], laidTests := true, laidLooks := .later }
def FxReadsCardSaid : Prop := Claim7.holds Tryz.pinned (.plain (OpenSpec.ofChange fxReadsSpec)) fxReadsCard

/-- THE TIED CARD OF 'gimballaw02.FxPrints'. -/
def fxPrintsCard : Claim7 := { stood := { row := fxPrintsRow, standIns := [], harness := (true, "e461835e6bccd26b7a4a3b254bbbcd53eb126baa26cc21fca921f42c27c7d722"), looks := false }, kinds := [], alts := [], laidByText := true, laidKinds := [.data, .data, .data, .data, .pinned], laidTests := true, laidLooks := .later }
def FxPrintsCardSaid : Prop := Claim7.holds Tryz.pinned (.plain (OpenSpec.ofChange fxPrintsSpec)) fxPrintsCard

/-- THE SECOND FORM's CARD OF 'gimballaw02.FxReckons'. -/
def fxReckonsUptoCard : Claim7 := { stood := { row := fxReckonsUptoRow, standIns := [], harness := (true, "e461835e6bccd26b7a4a3b254bbbcd53eb126baa26cc21fca921f42c27c7d722"), looks := false }, kinds := [], alts := [], laidByText := true, laidKinds := [.data, .data, .data, .data, .pinned], laidTests := true, laidLooks := .later }
def FxReckonsUptoCardSaid : Prop := Claim7.holds Tryz.pinned (.plain (OpenSpec.upto fxReckonsSpec)) fxReckonsUptoCard

/-- THE SECOND FORM's CARD OF 'gimballaw02.FxReads'. -/
def fxReadsUptoCard : Claim7 := { stood := { row := fxReadsUptoRow, standIns := [], harness := (true, "e461835e6bccd26b7a4a3b254bbbcd53eb126baa26cc21fca921f42c27c7d722"), looks := false }, kinds := [], alts := [], laidByText := true, laidKinds := [.data, .data, .data, .data, .pinned], laidTests := true, laidLooks := .later }
def FxReadsUptoCardSaid : Prop := Claim7.holds Tryz.pinned (.plain (OpenSpec.upto fxReadsSpec)) fxReadsUptoCard

/-- THE SECOND FORM's CARD OF 'gimballaw02.FxPrints'. -/
def fxPrintsUptoCard : Claim7 := { stood := { row := fxPrintsUptoRow, standIns := [], harness := (true, "e461835e6bccd26b7a4a3b254bbbcd53eb126baa26cc21fca921f42c27c7d722"), looks := false }, kinds := [], alts := [], laidByText := true, laidKinds := [.data, .data, .data, .data, .pinned], laidTests := true, laidLooks := .later }
def FxPrintsUptoCardSaid : Prop := Claim7.holds Tryz.pinned (.plain (OpenSpec.upto fxPrintsSpec)) fxPrintsUptoCard
end Rows
end Go.Proofs.YtpahkpcoinbgcaaGreatDoor
