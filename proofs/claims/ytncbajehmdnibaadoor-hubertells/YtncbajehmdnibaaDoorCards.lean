/-
  DERIVED. GIVEN WITH THE SEED: THE CARDS: each row of YtncbajehmdnibaaDoorRows.lean that lists a variable, with what it lists TIED to the program's text (the seventh form; the later family's looks); each row that meets fmt, with fmt's text TOLD by the authors' own Lean function (tested against real Go, not proved from fmt's source: count such statements apart). THE CARD IS WHAT COUNTS. Prove the row's statement (the work); the ties are given (YtncbajehmdnibaaDoorTie.lean); close each card by the builder's one call (the guide's Derived/Test/ToyasCard.lean, 'card_holds'). Laid BY PROGRAM, IN A SANDBOX (cutbox-door.mjs). By AI agents, Wed Nov 11 2026. No macro, syntax, notation, axiom, sorry.
-/
import Derived.Test.YtncbajehmdnibaaDoorRows
import GoSem.ClaimSeven
namespace Go.Proofs.YtncbajehmdnibaaDoor
namespace Rows

/-- THE TIED CARD OF 'gimballaw09.HuberTells'. -/
def huberTellsCard : Claim7 := { stood := { row := huberTellsRow, standIns := [], harness := (true, "bd19d61eae3a256a03ef758cb9560d97dde035aeaaceea54e063f603b2fcdfc1"), looks := false }, kinds := [], alts := [], laidByText := true, laidKinds := [.data, .pinned], laidTests := true, laidLooks := .later }
def HuberTellsCardSaid : Prop := Claim7.holds Tryd.pinned (.plain (OpenSpec.ofChange huberTellsSpec)) huberTellsCard

/-- THE SECOND FORM's CARD OF 'gimballaw09.HuberTells'. -/
def huberTellsUptoCard : Claim7 := { stood := { row := huberTellsUptoRow, standIns := [], harness := (true, "bd19d61eae3a256a03ef758cb9560d97dde035aeaaceea54e063f603b2fcdfc1"), looks := false }, kinds := [], alts := [], laidByText := true, laidKinds := [.data, .pinned], laidTests := true, laidLooks := .later }
def HuberTellsUptoCardSaid : Prop := Claim7.holds Tryd.pinned (.plain (OpenSpec.upto huberTellsSpec)) huberTellsUptoCard
end Rows
end Go.Proofs.YtncbajehmdnibaaDoor
