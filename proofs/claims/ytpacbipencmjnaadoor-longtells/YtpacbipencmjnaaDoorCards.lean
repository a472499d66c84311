/-
  DERIVED. GIVEN WITH THE SEED: THE CARDS: each row of YtpacbipencmjnaaDoorRows.lean that lists a variable, with what it lists TIED to the program's text (the seventh form; the later family's looks); each row that meets fmt, with fmt's text TOLD by the authors' own Lean function (tested against real Go, not proved from fmt's source: count such statements apart). THE CARD IS WHAT COUNTS. Prove the row's statement (the work); the ties are given (YtpacbipencmjnaaDoorTie.lean); close each card by the builder's one call (the guide's Derived/Test/ToyasCard.lean, 'card_holds'). Laid BY PROGRAM, IN A SANDBOX (cutbox-door.mjs). By AI agents, Wed Nov 11 2026. No macro, syntax, notation, axiom, sorry.
-/
import Derived.Test.YtpacbipencmjnaaDoorRows
import GoSem.ClaimSeven
namespace Go.Proofs.YtpacbipencmjnaaDoor
namespace Rows

/-- THE TIED CARD OF 'gimballaw01.LongTells'. -/
def longTellsCard : Claim7 := { stood := { row := longTellsRow, standIns := [], harness := (true, "53531ad1ec64b2e911f82208f70799ca71e5c9bdf343aed725c520bf633240ef"), looks := false }, kinds := [], alts := [], laidByText := true, laidKinds := [.data, .pinned], laidTests := true, laidLooks := .later }
def LongTellsCardSaid : Prop := Claim7.holds Tryd.pinned (.plain (OpenSpec.ofChange longTellsSpec)) longTellsCard

/-- THE SECOND FORM's CARD OF 'gimballaw01.LongTells'. -/
def longTellsUptoCard : Claim7 := { stood := { row := longTellsUptoRow, standIns := [], harness := (true, "53531ad1ec64b2e911f82208f70799ca71e5c9bdf343aed725c520bf633240ef"), looks := false }, kinds := [], alts := [], laidByText := true, laidKinds := [.data, .pinned], laidTests := true, laidLooks := .later }
def LongTellsUptoCardSaid : Prop := Claim7.holds Tryd.pinned (.plain (OpenSpec.upto longTellsSpec)) longTellsUptoCard
end Rows
end Go.Proofs.YtpacbipencmjnaaDoor
