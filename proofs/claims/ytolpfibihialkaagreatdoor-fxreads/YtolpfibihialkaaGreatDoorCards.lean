/-
  DERIVED. GIVEN WITH THE SEED: THE CARDS: each row of YtolpfibihialkaaGreatDoorRows.lean that lists a variable, with what it lists TIED to the program's text (the seventh form; the later family's looks); each row that meets fmt, with fmt's text TOLD by the authors' own Lean function (tested against real Go, not proved from fmt's source: count such statements apart). THE CARD IS WHAT COUNTS. Prove the row's statement (the work); the ties are given (YtolpfibihialkaaGreatDoorTie.lean); close each card by the builder's one call (the guide's Derived/Test/ToyasCard.lean, 'card_holds'). Laid BY PROGRAM, IN A SANDBOX (cutbox-door.mjs). By AI agents, Wed Nov 11 2026. No macro, syntax, notation, axiom, sorry.
-/
import Derived.Test.YtolpfibihialkaaGreatDoorRows
import GoSem.ClaimSeven
namespace Go.Proofs.YtolpfibihialkaaGreatDoor
namespace Rows

/-- THE TIED CARD OF 'gimballaw02.FxReads'. -/
def fxReadsCard : Claim7 := { stood := { row := fxReadsRow, standIns := [], harness := (true, "0d9f29172bbea406a711015541dbff7f2634726e9c9b942be111d89399d7f894"), looks := false }, kinds := [], alts := [], laidByText := true, laidKinds := [.data, .data, .data, .data, .pinned], laidTests := true, laidLooks := .later }
def FxReadsCardSaid : Prop := Claim7.holds Tryz.pinned (.plain (OpenSpec.ofChange fxReadsSpec)) fxReadsCard

/-- THE TIED CARD OF 'gimballaw07.LinReckons'. -/
def linReckonsCard : Claim7 := { stood := { row := linReckonsRow, standIns := [], harness := (true, "0d9f29172bbea406a711015541dbff7f2634726e9c9b942be111d89399d7f894"), looks := false }, kinds := [], alts := [], laidByText := true, laidKinds := [.data, .pinned], laidTests := true, laidLooks := .later }
def LinReckonsCardSaid : Prop := Claim7.holds Tryz.pinned (.plain (OpenSpec.ofChange linReckonsSpec)) linReckonsCard

/-- THE SECOND FORM's CARD OF 'gimballaw02.FxReads'. -/
def fxReadsUptoCard : Claim7 := { stood := { row := fxReadsUptoRow, standIns := [], harness := (true, "0d9f29172bbea406a711015541dbff7f2634726e9c9b942be111d89399d7f894"), looks := false }, kinds := [], alts := [], laidByText := true, laidKinds := [.data, .data, .data, .data, .pinned], laidTests := true, laidLooks := .later }
def FxReadsUptoCardSaid : Prop := Claim7.holds Tryz.pinned (.plain (OpenSpec.upto fxReadsSpec)) fxReadsUptoCard

/-- THE SECOND FORM's CARD OF 'gimballaw07.LinReckons'. -/
def linReckonsUptoCard : Claim7 := { stood := { row := linReckonsUptoRow, standIns := [], harness := (true, "0d9f29172bbea406a711015541dbff7f2634726e9c9b942be111d89399d7f894"), looks := false }, kinds := [], alts := [], laidByText := true, laidKinds := [.data, .pinned], laidTests := true, laidLooks := .later }
def LinReckonsUptoCardSaid : Prop := Claim7.holds Tryz.pinned (.plain (OpenSpec.upto linReckonsSpec)) linReckonsUptoCard
end Rows
end Go.Proofs.YtolpfibihialkaaGreatDoor
