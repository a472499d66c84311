/-
  DERIVED. GIVEN WITH THE SEED: THE CARDS: each row of YtcnmilflfegliaaDoorRows.lean that lists a variable, with what it lists TIED to the program's text (the seventh form; the later family's looks); each row that meets fmt, with fmt's text TOLD by the authors' own Lean function (tested against real Go, not proved from fmt's source: count such statements apart). THE CARD IS WHAT COUNTS. Prove the row's statement (the work); the ties are given (YtcnmilflfegliaaDoorTie.lean); close each card by the builder's one call (the guide's Derived/Test/ToyasCard.lean, 'card_holds'). Laid BY PROGRAM, IN A SANDBOX (cutbox-door.mjs). By AI agents, Wed Nov 11 2026. No macro, syntax, notation, axiom, sorry.
-/
import Derived.Test.YtcnmilflfegliaaDoorRows
import GoSem.ClaimSeven
namespace Go.Proofs.YtcnmilflfegliaaDoor
namespace Rows

/-- THE TIED CARD OF 'gimballaw01.LongReckons'. -/
def longReckonsCard : Claim7 := { stood := { row := longReckonsRow, standIns := [], harness := (true, "6ae161ba2f8c4e325ac0313e6082aff58b6d120d16a0e3f9419e6a88acadac44"), looks := false }, kinds := [], alts := [], laidByText := true, laidKinds := [.data, .pinned], laidTests := true, laidLooks := .later }
def LongReckonsCardSaid : Prop := Claim7.holds Tryd.pinned (.plain (OpenSpec.ofChange longReckonsSpec)) longReckonsCard

/-- THE TIED CARD OF 'gimballaw01.LongParts'. -/
def longPartsCard : Claim7 := { stood := { row := longPartsRow, standIns := [], harness := (true, "6ae161ba2f8c4e325ac0313e6082aff58b6d120d16a0e3f9419e6a88acadac44"), looks := false }, kinds := [], alts := [], laidByText := true, laidKinds := [.data, .pinned], laidTests := true, laidLooks := .later }
def LongPartsCardSaid : Prop := Claim7.holds Tryd.pinned (.plain (OpenSpec.ofChange longPartsSpec)) longPartsCard

/-- THE TIED CARD OF 'gimballaw01.LongTells'. -/
def longTellsCard : Claim7 := { stood := { row := longTellsRow, standIns := [], harness := (true, "6ae161ba2f8c4e325ac0313e6082aff58b6d120d16a0e3f9419e6a88acadac44"), looks := false }, kinds := [], alts := [], laidByText := true, laidKinds := [.data, .pinned], laidTests := true, laidLooks := .later }
def LongTellsCardSaid : Prop := Claim7.holds Tryd.pinned (.plain (OpenSpec.ofChange longTellsSpec)) longTellsCard

/-- THE TIED CARD OF 'gimballaw01.LongDivides'. -/
def longDividesCard : Claim7 := { stood := { row := longDividesRow, standIns := [], harness := (true, "6ae161ba2f8c4e325ac0313e6082aff58b6d120d16a0e3f9419e6a88acadac44"), looks := false }, kinds := [], alts := [], laidByText := true, laidKinds := [.data, .pinned], laidTests := true, laidLooks := .later }
def LongDividesCardSaid : Prop := Claim7.holds Tryd.pinned (.plain (OpenSpec.ofChange longDividesSpec)) longDividesCard

/-- THE TIED CARD OF 'gimballaw01.LongRoots'. -/
def longRootsCard : Claim7 := { stood := { row := longRootsRow, standIns := [], harness := (true, "6ae161ba2f8c4e325ac0313e6082aff58b6d120d16a0e3f9419e6a88acadac44"), looks := false }, kinds := [], alts := [], laidByText := true, laidKinds := [.data, .pinned], laidTests := true, laidLooks := .later }
def LongRootsCardSaid : Prop := Claim7.holds Tryd.pinned (.plain (OpenSpec.ofChange longRootsSpec)) longRootsCard

/-- THE SECOND FORM's CARD OF 'gimballaw01.LongReckons'. -/
def longReckonsUptoCard : Claim7 := { stood := { row := longReckonsUptoRow, standIns := [], harness := (true, "6ae161ba2f8c4e325ac0313e6082aff58b6d120d16a0e3f9419e6a88acadac44"), looks := false }, kinds := [], alts := [], laidByText := true, laidKinds := [.data, .pinned], laidTests := true, laidLooks := .later }
def LongReckonsUptoCardSaid : Prop := Claim7.holds Tryd.pinned (.plain (OpenSpec.upto longReckonsSpec)) longReckonsUptoCard

/-- THE SECOND FORM's CARD OF 'gimballaw01.LongParts'. -/
def longPartsUptoCard : Claim7 := { stood := { row := longPartsUptoRow, standIns := [], harness := (true, "6ae161ba2f8c4e325ac0313e6082aff58b6d120d16a0e3f9419e6a88acadac44"), looks := false }, kinds := [], alts := [], laidByText := true, laidKinds := [.data, .pinned], laidTests := true, laidLooks := .later }
def LongPartsUptoCardSaid : Prop := Claim7.holds Tryd.pinned (.plain (OpenSpec.upto longPartsSpec)) longPartsUptoCard

/-- THE SECOND FORM's CARD OF 'gimballaw01.LongTells'. -/
def longTellsUptoCard : Claim7 := { stood := { row := longTellsUptoRow, standIns := [], harness := (true, "6ae161ba2f8c4e325ac0313e6082aff58b6d120d16a0e3f9419e6a88acadac44"), looks := false }, kinds := [], alts := [], laidByText := true, laidKinds := [.data, .pinned], laidTests := true, laidLooks := .later }
def LongTellsUptoCardSaid : Prop := Claim7.holds Tryd.pinned (.plain (OpenSpec.upto longTellsSpec)) longTellsUptoCard

/-- THE SECOND FORM's CARD OF 'gimballaw01.LongDivides'. -/
def longDividesUptoCard : Claim7 := { stood := { row := longDividesUptoRow, standIns := [], harness := (true, "6ae161ba2f8c4e325ac0313e6082aff58b6d120d16a0e3f9419e6a88acadac44"), looks := false }, kinds := [], alts := [], laidByText := true, laidKinds := [.data, .pinned], laidTests := true, laidLooks := .later }
def LongDividesUptoCardSaid : Prop := Claim7.holds Tryd.pinned (.plain (OpenSpec.upto longDividesSpec)) longDividesUptoCard

/-- THE SECOND FORM's CARD OF 'gimballaw01.LongRoots'. -/
def longRootsUptoCard : Claim7 := { stood := { row := longRootsUptoRow, standIns := [], harness := (true, "6ae161ba2f8c4e325ac0313e6082aff58b6d120d16a0e3f9419e6a88acadac44"), looks := false }, kinds := [], alts := [], laidByText := true, laidKinds := [.data, .pinned], laidTests := true, laidLooks := .later }
def LongRootsUptoCardSaid : Prop := Claim7.holds Tryd.pinned (.plain (OpenSpec.upto longRootsSpec)) longRootsUptoCard
end Rows
end Go.Proofs.YtcnmilflfegliaaDoor
