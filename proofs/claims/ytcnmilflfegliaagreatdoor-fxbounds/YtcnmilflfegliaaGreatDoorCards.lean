/-
  DERIVED. GIVEN WITH THE SEED: THE CARDS: each row of YtcnmilflfegliaaGreatDoorRows.lean that lists a variable, with what it lists TIED to the program's text (the seventh form; the later family's looks); each row that meets fmt, with fmt's text TOLD by the authors' own Lean function (tested against real Go, not proved from fmt's source: count such statements apart). THE CARD IS WHAT COUNTS. Prove the row's statement (the work); the ties are given (YtcnmilflfegliaaGreatDoorTie.lean); close each card by the builder's one call (the guide's Derived/Test/ToyasCard.lean, 'card_holds'). Laid BY PROGRAM, IN A SANDBOX (cutbox-door.mjs). By AI agents, Wed Nov 11 2026. No macro, syntax, notation, axiom, sorry.
-/
import Derived.Test.YtcnmilflfegliaaGreatDoorRows
import GoSem.ClaimSeven
namespace Go.Proofs.YtcnmilflfegliaaGreatDoor
namespace Rows

/-- THE TIED CARD OF 'gimballaw02.FxReckons'. -/
def fxReckonsCard : Claim7 := { stood := { row := fxReckonsRow, standIns := [], harness := (true, "975e25b2d3e3ba29412c446cc61e01ae79225dcc33c9e8e716e6ace6102ed3a7"), looks := false }, kinds := [], alts := [], laidByText := true, laidKinds := [.data, .data, .data, .data, .pinned], laidTests := true, laidLooks := .later }
def FxReckonsCardSaid : Prop := Claim7.holds Tryz.pinned (.plain (OpenSpec.ofChange fxReckonsSpec)) fxReckonsCard

/-- THE TIED CARD OF 'gimballaw02.FxReads'. -/
def fxReadsCard : Claim7 := { stood := { row := fxReadsRow, standIns := [], harness := (true, "975e25b2d3e3ba29412c446cc61e01ae79225dcc33c9e8e716e6ace6102ed3a7"), looks := false }, kinds := [], alts := [], laidByText := true, laidKinds := [.data, .data, .data, .data, .pinned], laidTests := true, laidLooks := .later }
def FxReadsCardSaid : Prop := Claim7.holds Tryz.pinned (.plain (OpenSpec.ofChange fxReadsSpec)) fxReadsCard

/-- THE TIED CARD OF 'gimballaw02.FxPrints'. -/
def fxPrintsCard : Claim7 := { stood := { row := fxPrintsRow, standIns := [], harness := (true, "975e25b2d3e3ba29412c446cc61e01ae79225dcc33c9e8e716e6ace6102ed3a7"), looks := false }, kinds := [], alts := [], laidByText := true, laidKinds := [.data, .data, .data, .data, .pinned], laidTests := true, laidLooks := .later }
def FxPrintsCardSaid : Prop := Claim7.holds Tryz.pinned (.plain (OpenSpec.ofChange fxPrintsSpec)) fxPrintsCard

/-- THE TIED CARD OF 'gimballaw02.FxBounds'. -/
def fxBoundsCard : Claim7 := { stood := { row := fxBoundsRow, standIns := [], harness := (true, "975e25b2d3e3ba29412c446cc61e01ae79225dcc33c9e8e716e6ace6102ed3a7"), looks := false }, kinds := [], alts := [], laidByText := true, laidKinds := [.data, .data, .data, .data, .pinned], laidTests := true, laidLooks := .later }
def FxBoundsCardSaid : Prop := Claim7.holds Tryz.pinned (.plain (OpenSpec.ofChange fxBoundsSpec)) fxBoundsCard

/-- THE TIED CARD OF 'gimballaw02.FxOrder'. -/
def fxOrderCard : Claim7 := { stood := { row := fxOrderRow, standIns := [], harness := (true, "975e25b2d3e3ba29412c446cc61e01ae79225dcc33c9e8e716e6ace6102ed3a7"), looks := false }, kinds := [], alts := [], laidByText := true, laidKinds := [.data, .data, .data, .data, .pinned], laidTests := true, laidLooks := .later }
def FxOrderCardSaid : Prop := Claim7.holds Tryz.pinned (.plain (OpenSpec.ofChange fxOrderSpec)) fxOrderCard

/-- THE TIED CARD OF 'gimballaw02.FxBack'. -/
def fxBackCard : Claim7 := { stood := { row := fxBackRow, standIns := [], harness := (true, "975e25b2d3e3ba29412c446cc61e01ae79225dcc33c9e8e716e6ace6102ed3a7"), looks := false }, kinds := [], alts := [], laidByText := true, laidKinds := [.data, .data, .data, .data, .pinned], laidTests := true, laidLooks := .later }
def FxBackCardSaid : Prop := Claim7.holds Tryz.pinned (.plain (OpenSpec.ofChange fxBackSpec)) fxBackCard

/-- THE TIED CARD OF 'gimballaw02.FxSigns'. -/
def fxSignsCard : Claim7 := { stood := { row := fxSignsRow, standIns := [], harness := (true, "975e25b2d3e3ba29412c446cc61e01ae79225dcc33c9e8e716e6ace6102ed3a7"), looks := false }, kinds := [], alts := [], laidByText := true, laidKinds := [.data, .data, .data, .data, .pinned], laidTests := true, laidLooks := .later }
def FxSignsCardSaid : Prop := Claim7.holds Tryz.pinned (.plain (OpenSpec.ofChange fxSignsSpec)) fxSignsCard

/-- THE SECOND FORM's CARD OF 'gimballaw02.FxReckons'. -/
def fxReckonsUptoCard : Claim7 := { stood := { row := fxReckonsUptoRow, standIns := [], harness := (true, "975e25b2d3e3ba29412c446cc61e01ae79225dcc33c9e8e716e6ace6102ed3a7"), looks := false }, kinds := [], alts := [], laidByText := true, laidKinds := [.data, .data, .data, .data, .pinned], laidTests := true, laidLooks := .later }
def FxReckonsUptoCardSaid : Prop := Claim7.holds Tryz.pinned (.plain (OpenSpec.upto fxReckonsSpec)) fxReckonsUptoCard

/-- THE SECOND FORM's CARD OF 'gimballaw02.FxReads'. -/
def fxReadsUptoCard : Claim7 := { stood := { row := fxReadsUptoRow, standIns := [], harness := (true, "975e25b2d3e3ba29412c446cc61e01ae79225dcc33c9e8e716e6ace6102ed3a7"), looks := false }, kinds := [], alts := [], laidByText := true, laidKinds := [.data, .data, .data, .data, .pinned], laidTests := true, laidLooks := .later }
def FxReadsUptoCardSaid : Prop := Claim7.holds Tryz.pinned (.plain (OpenSpec.upto fxReadsSpec)) fxReadsUptoCard

/-- THE SECOND FORM's CARD OF 'gimballaw02.FxPrints'. -/
def fxPrintsUptoCard : Claim7 := { stood := { row := fxPrintsUptoRow, standIns := [], harness := (true, "975e25b2d3e3ba29412c446cc61e01ae79225dcc33c9e8e716e6ace6102ed3a7"), looks := false }, kinds := [], alts := [], laidByText := true, laidKinds := [.data, .data, .data, .data, .pinned], laidTests := true, laidLooks := .later }
def FxPrintsUptoCardSaid : Prop := Claim7.holds Tryz.pinned (.plain (OpenSpec.upto fxPrintsSpec)) fxPrintsUptoCard

/-- THE SECOND FORM's CARD OF 'gimballaw02.FxBounds'. -/
def fxBoundsUptoCard : Claim7 := { stood := { row := fxBoundsUptoRow, standIns := [], harness := (true, "975e25b2d3e3ba29412c446cc61e01ae79225dcc33c9e8e716e6ace6102ed3a7"), looks := false }, kinds := [], alts := [], laidByText := true, laidKinds := [.data, .data, .data, .data, .pinned], laidTests := true, laidLooks := .later }
def FxBoundsUptoCardSaid : Prop := Claim7.holds Tryz.pinned (.plain (OpenSpec.upto fxBoundsSpec)) fxBoundsUptoCard

/-- THE SECOND FORM's CARD OF 'gimballaw02.FxOrder'. -/
def fxOrderUptoCard : Claim7 := { stood := { row := fxOrderUptoRow, standIns := [], harness := (true, "975e25b2d3e3ba29412c446cc61e01ae79225dcc33c9e8e716e6ace6102ed3a7"), looks := false }, kinds := [], alts := [], laidByText := true, laidKinds := [.data, .data, .data, .data, .pinned], laidTests := true, laidLooks := .later }
def FxOrderUptoCardSaid : Prop := Claim7.holds Tryz.pinned (.plain (OpenSpec.upto fxOrderSpec)) fxOrderUptoCard

/-- THE SECOND FORM's CARD OF 'gimballaw02.FxBack'. -/
def fxBackUptoCard : Claim7 := { stood := { row := fxBackUptoRow, standIns := [], harness := (true, "975e25b2d3e3ba29412c446cc61e01ae79225dcc33c9e8e716e6ace6102ed3a7"), looks := false }, kinds := [], alts := [], laidByText := true, laidKinds := [.data, .data, .data, .data, .pinned], laidTests := true, laidLooks := .later }
def FxBackUptoCardSaid : Prop := Claim7.holds Tryz.pinned (.plain (OpenSpec.upto fxBackSpec)) fxBackUptoCard

/-- THE SECOND FORM's CARD OF 'gimballaw02.FxSigns'. -/
def fxSignsUptoCard : Claim7 := { stood := { row := fxSignsUptoRow, standIns := [], harness := (true, "975e25b2d3e3ba29412c446cc61e01ae79225dcc33c9e8e716e6ace6102ed3a7"), looks := false }, kinds := [], alts := [], laidByText := true, laidKinds := [.data, .data, .data, .data, .pinned], laidTests := true, laidLooks := .later }
def FxSignsUptoCardSaid : Prop := Claim7.holds Tryz.pinned (.plain (OpenSpec.upto fxSignsSpec)) fxSignsUptoCard
end Rows
end Go.Proofs.YtcnmilflfegliaaGreatDoor
