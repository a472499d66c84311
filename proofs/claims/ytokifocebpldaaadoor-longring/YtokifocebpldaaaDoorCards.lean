/-
  DERIVED. GIVEN WITH THE SEED: THE CARDS: each row of YtokifocebpldaaaDoorRows.lean that lists a variable, with what it lists TIED to the program's text (the seventh form; the later family's looks); each row that meets fmt, with fmt's text TOLD by the authors' own Lean function (tested against real Go, not proved from fmt's source: count such statements apart). THE CARD IS WHAT COUNTS. Prove the row's statement (the work); the ties are given (YtokifocebpldaaaDoorTie.lean); close each card by the builder's one call (the guide's Derived/Test/ToyasCard.lean, 'card_holds'). Laid BY PROGRAM, IN A SANDBOX (cutbox-door.mjs). By AI agents, Wed Nov 11 2026. No macro, syntax, notation, axiom, sorry.
-/
import Derived.Test.YtokifocebpldaaaDoorRows
import GoSem.ClaimSeven
namespace Go.Proofs.YtokifocebpldaaaDoor
namespace Rows

/-- THE TIED CARD OF 'gimballaw01.LongReads'. -/
def longReadsCard : Claim7 := { stood := { row := longReadsRow, standIns := [], harness := (true, "99d928766295be763e68a3319a31491ae3de832881a00fed5e02f169b2554b51"), looks := false }, kinds := [], alts := [], laidByText := true, laidKinds := [.data, .pinned], laidTests := true, laidLooks := .later }
def LongReadsCardSaid : Prop := Claim7.holds Tryd.pinned (.plain (OpenSpec.ofChange longReadsSpec)) longReadsCard

/-- THE TIED CARD OF 'gimballaw01.LongReckons'. -/
def longReckonsCard : Claim7 := { stood := { row := longReckonsRow, standIns := [], harness := (true, "99d928766295be763e68a3319a31491ae3de832881a00fed5e02f169b2554b51"), looks := false }, kinds := [], alts := [], laidByText := true, laidKinds := [.data, .pinned], laidTests := true, laidLooks := .later }
def LongReckonsCardSaid : Prop := Claim7.holds Tryd.pinned (.plain (OpenSpec.ofChange longReckonsSpec)) longReckonsCard

/-- THE TIED CARD OF 'gimballaw01.LongParts'. -/
def longPartsCard : Claim7 := { stood := { row := longPartsRow, standIns := [], harness := (true, "99d928766295be763e68a3319a31491ae3de832881a00fed5e02f169b2554b51"), looks := false }, kinds := [], alts := [], laidByText := true, laidKinds := [.data, .pinned], laidTests := true, laidLooks := .later }
def LongPartsCardSaid : Prop := Claim7.holds Tryd.pinned (.plain (OpenSpec.ofChange longPartsSpec)) longPartsCard

/-- THE TIED CARD OF 'gimballaw01.LongTells'. -/
def longTellsCard : Claim7 := { stood := { row := longTellsRow, standIns := [], harness := (true, "99d928766295be763e68a3319a31491ae3de832881a00fed5e02f169b2554b51"), looks := false }, kinds := [], alts := [], laidByText := true, laidKinds := [.data, .pinned], laidTests := true, laidLooks := .later }
def LongTellsCardSaid : Prop := Claim7.holds Tryd.pinned (.plain (OpenSpec.ofChange longTellsSpec)) longTellsCard

/-- THE TIED CARD OF 'gimballaw01.LongSmall'. -/
def longSmallCard : Claim7 := { stood := { row := longSmallRow, standIns := [], harness := (true, "99d928766295be763e68a3319a31491ae3de832881a00fed5e02f169b2554b51"), looks := false }, kinds := [], alts := [], laidByText := true, laidKinds := [.data, .pinned], laidTests := true, laidLooks := .later }
def LongSmallCardSaid : Prop := Claim7.holds Tryd.pinned (.plain (OpenSpec.ofChange longSmallSpec)) longSmallCard

/-- THE TIED CARD OF 'gimballaw01.LongRing'. -/
def longRingCard : Claim7 := { stood := { row := longRingRow, standIns := [], harness := (true, "99d928766295be763e68a3319a31491ae3de832881a00fed5e02f169b2554b51"), looks := false }, kinds := [], alts := [], laidByText := true, laidKinds := [.data, .pinned], laidTests := true, laidLooks := .later }
def LongRingCardSaid : Prop := Claim7.holds Tryd.pinned (.plain (OpenSpec.ofChange longRingSpec)) longRingCard

/-- THE TIED CARD OF 'gimballaw01.LongDivides'. -/
def longDividesCard : Claim7 := { stood := { row := longDividesRow, standIns := [], harness := (true, "99d928766295be763e68a3319a31491ae3de832881a00fed5e02f169b2554b51"), looks := false }, kinds := [], alts := [], laidByText := true, laidKinds := [.data, .pinned], laidTests := true, laidLooks := .later }
def LongDividesCardSaid : Prop := Claim7.holds Tryd.pinned (.plain (OpenSpec.ofChange longDividesSpec)) longDividesCard

/-- THE TIED CARD OF 'gimballaw01.LongRoots'. -/
def longRootsCard : Claim7 := { stood := { row := longRootsRow, standIns := [], harness := (true, "99d928766295be763e68a3319a31491ae3de832881a00fed5e02f169b2554b51"), looks := false }, kinds := [], alts := [], laidByText := true, laidKinds := [.data, .pinned], laidTests := true, laidLooks := .later }
def LongRootsCardSaid : Prop := Claim7.holds Tryd.pinned (.plain (OpenSpec.ofChange longRootsSpec)) longRootsCard

/-- THE TIED CARD OF 'gimballaw01.LongOrder'. -/
def longOrderCard : Claim7 := { stood := { row := longOrderRow, standIns := [], harness := (true, "99d928766295be763e68a3319a31491ae3de832881a00fed5e02f169b2554b51"), looks := false }, kinds := [], alts := [], laidByText := true, laidKinds := [.data, .pinned], laidTests := true, laidLooks := .later }
def LongOrderCardSaid : Prop := Claim7.holds Tryd.pinned (.plain (OpenSpec.ofChange longOrderSpec)) longOrderCard

/-- THE SECOND FORM's CARD OF 'gimballaw01.LongReads'. -/
def longReadsUptoCard : Claim7 := { stood := { row := longReadsUptoRow, standIns := [], harness := (true, "99d928766295be763e68a3319a31491ae3de832881a00fed5e02f169b2554b51"), looks := false }, kinds := [], alts := [], laidByText := true, laidKinds := [.data, .pinned], laidTests := true, laidLooks := .later }
def LongReadsUptoCardSaid : Prop := Claim7.holds Tryd.pinned (.plain (OpenSpec.upto longReadsSpec)) longReadsUptoCard

/-- THE SECOND FORM's CARD OF 'gimballaw01.LongReckons'. -/
def longReckonsUptoCard : Claim7 := { stood := { row := longReckonsUptoRow, standIns := [], harness := (true, "99d928766295be763e68a3319a31491ae3de832881a00fed5e02f169b2554b51"), looks := false }, kinds := [], alts := [], laidByText := true, laidKinds := [.data, .pinned], laidTests := true, laidLooks := .later }
def LongReckonsUptoCardSaid : Prop := Claim7.holds Tryd.pinned (.plain (OpenSpec.upto longReckonsSpec)) longReckonsUptoCard

/-- THE SECOND FORM's CARD OF 'gimballaw01.LongParts'. -/
def longPartsUptoCard : Claim7 := { stood := { row := longPartsUptoRow, standIns := [], harness := (true, "99d928766295be763e68a3319a31491ae3de832881a00fed5e02f169b2554b51"), looks := false }, kinds := [], alts := [], laidByText := true, laidKinds := [.data, .pinned], laidTests := true, laidLooks := .later }
def LongPartsUptoCardSaid : Prop := Claim7.holds Tryd.pinned (.plain (OpenSpec.upto longPartsSpec)) longPartsUptoCard

/-- THE SECOND FORM's CARD OF 'gimballaw01.LongTells'. -/
def longTellsUptoCard : Claim7 := { stood := { row := longTellsUptoRow, standIns := [], harness := (true, "99d928766295be763e68a3319a31491ae3de832881a00fed5e02f169b2554b51"), looks := false }, kinds := [], alts := [], laidByText := true, laidKinds := [.data, .pinned], laidTests := true, laidLooks := .later }
def LongTellsUptoCardSaid : Prop := Claim7.holds Tryd.pinned (.plain (OpenSpec.upto longTellsSpec)) longTellsUptoCard

/-- THE SECOND FORM's CARD OF 'gimballaw01.LongSmall'. -/
def longSmallUptoCard : Claim7 := { stood := { row := longSmallUptoRow, standIns := [], harness := (true, "99d928766295be763e68a3319a31491ae3de832881a00fed5e02f169b2554b51"), looks := false }, kinds := [], alts := [], laidByText := true, laidKinds := [.data, .pinned], laidTests := true, laidLooks := .later }
def LongSmallUptoCardSaid : Prop := Claim7.holds Tryd.pinned (.plain (OpenSpec.upto longSmallSpec)) longSmallUptoCard

/-- THE SECOND FORM's CARD OF 'gimballaw01.LongRing'. -/
def longRingUptoCard : Claim7 := { stood := { row := longRingUptoRow, standIns := [], harness := (true, "99d928766295be763e68a3319a31491ae3de832881a00fed5e02f169b2554b51"), looks := false }, kinds := [], alts := [], laidByText := true, laidKinds := [.data, .pinned], laidTests := true, laidLooks := .later }
def LongRingUptoCardSaid : Prop := Claim7.holds Tryd.pinned (.plain (OpenSpec.upto longRingSpec)) longRingUptoCard

/-- THE SECOND FORM's CARD OF 'gimballaw01.LongDivides'. -/
def longDividesUptoCard : Claim7 := { stood := { row := longDividesUptoRow, standIns := [], harness := (true, "99d928766295be763e68a3319a31491ae3de832881a00fed5e02f169b2554b51"), looks := false }, kinds := [], alts := [], laidByText := true, laidKinds := [.data, .pinned], laidTests := true, laidLooks := .later }
def LongDividesUptoCardSaid : Prop := Claim7.holds Tryd.pinned (.plain (OpenSpec.upto longDividesSpec)) longDividesUptoCard

/-- THE SECOND FORM's CARD OF 'gimballaw01.LongRoots'. -/
def longRootsUptoCard : Claim7 := { stood := { row := longRootsUptoRow, standIns := [], harness := (true, "99d928766295be763e68a3319a31491ae3de832881a00fed5e02f169b2554b51"), looks := false }, kinds := [], alts := [], laidByText := true, laidKinds := [.data, .pinned], laidTests := true, laidLooks := .later }
def LongRootsUptoCardSaid : Prop := Claim7.holds Tryd.pinned (.plain (OpenSpec.upto longRootsSpec)) longRootsUptoCard

/-- THE SECOND FORM's CARD OF 'gimballaw01.LongOrder'. -/
def longOrderUptoCard : Claim7 := { stood := { row := longOrderUptoRow, standIns := [], harness := (true, "99d928766295be763e68a3319a31491ae3de832881a00fed5e02f169b2554b51"), looks := false }, kinds := [], alts := [], laidByText := true, laidKinds := [.data, .pinned], laidTests := true, laidLooks := .later }
def LongOrderUptoCardSaid : Prop := Claim7.holds Tryd.pinned (.plain (OpenSpec.upto longOrderSpec)) longOrderUptoCard
end Rows
end Go.Proofs.YtokifocebpldaaaDoor
