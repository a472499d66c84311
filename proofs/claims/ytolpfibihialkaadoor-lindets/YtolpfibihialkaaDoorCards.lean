/-
  DERIVED. GIVEN WITH THE SEED: THE CARDS: each row of YtolpfibihialkaaDoorRows.lean that lists a variable, with what it lists TIED to the program's text (the seventh form; the later family's looks); each row that meets fmt, with fmt's text TOLD by the authors' own Lean function (tested against real Go, not proved from fmt's source: count such statements apart). THE CARD IS WHAT COUNTS. Prove the row's statement (the work); the ties are given (YtolpfibihialkaaDoorTie.lean); close each card by the builder's one call (the guide's Derived/Test/ToyasCard.lean, 'card_holds'). Laid BY PROGRAM, IN A SANDBOX (cutbox-door.mjs). By AI agents, Wed Nov 11 2026. No macro, syntax, notation, axiom, sorry.
-/
import Derived.Test.YtolpfibihialkaaDoorRows
import GoSem.ClaimSeven
namespace Go.Proofs.YtolpfibihialkaaDoor
namespace Rows

/-- THE TIED CARD OF 'gimballaw07.LinMakes'. -/
def linMakesCard : Claim7 := { stood := { row := linMakesRow, standIns := [], harness := (true, "31f35208c42c0348727f99a1ddba389d51a934a7f84daa5b9b837c2b40e64d24"), looks := false }, kinds := [], alts := [], laidByText := true, laidKinds := [.data, .pinned], laidTests := true, laidLooks := .later }
def LinMakesCardSaid : Prop := Claim7.holds Tryd.pinned (.plain (OpenSpec.ofChange linMakesSpec)) linMakesCard

/-- THE TIED CARD OF 'gimballaw07.LinDets'. -/
def linDetsCard : Claim7 := { stood := { row := linDetsRow, standIns := [], harness := (true, "31f35208c42c0348727f99a1ddba389d51a934a7f84daa5b9b837c2b40e64d24"), looks := false }, kinds := [], alts := [], laidByText := true, laidKinds := [.data, .pinned], laidTests := true, laidLooks := .later }
def LinDetsCardSaid : Prop := Claim7.holds Tryd.pinned (.plain (OpenSpec.ofChange linDetsSpec)) linDetsCard

/-- THE TIED CARD OF 'gimballaw07.LinBack'. -/
def linBackCard : Claim7 := { stood := { row := linBackRow, standIns := [], harness := (true, "31f35208c42c0348727f99a1ddba389d51a934a7f84daa5b9b837c2b40e64d24"), looks := false }, kinds := [], alts := [], laidByText := true, laidKinds := [.data, .pinned], laidTests := true, laidLooks := .later }
def LinBackCardSaid : Prop := Claim7.holds Tryd.pinned (.plain (OpenSpec.ofChange linBackSpec)) linBackCard

/-- THE TIED CARD OF 'gimballaw07.LinRules'. -/
def linRulesCard : Claim7 := { stood := { row := linRulesRow, standIns := [], harness := (true, "31f35208c42c0348727f99a1ddba389d51a934a7f84daa5b9b837c2b40e64d24"), looks := false }, kinds := [], alts := [], laidByText := true, laidKinds := [.data, .pinned], laidTests := true, laidLooks := .later }
def LinRulesCardSaid : Prop := Claim7.holds Tryd.pinned (.plain (OpenSpec.ofChange linRulesSpec)) linRulesCard

/-- THE TIED CARD OF 'gimballaw07.LinDefinite'. -/
def linDefiniteCard : Claim7 := { stood := { row := linDefiniteRow, standIns := [], harness := (true, "31f35208c42c0348727f99a1ddba389d51a934a7f84daa5b9b837c2b40e64d24"), looks := false }, kinds := [], alts := [], laidByText := true, laidKinds := [.data, .pinned], laidTests := true, laidLooks := .later }
def LinDefiniteCardSaid : Prop := Claim7.holds Tryd.pinned (.plain (OpenSpec.ofChange linDefiniteSpec)) linDefiniteCard

/-- THE TIED CARD OF 'gimballaw07.LinChain'. -/
def linChainCard : Claim7 := { stood := { row := linChainRow, standIns := [], harness := (true, "31f35208c42c0348727f99a1ddba389d51a934a7f84daa5b9b837c2b40e64d24"), looks := false }, kinds := [], alts := [], laidByText := true, laidKinds := [.data, .pinned], laidTests := true, laidLooks := .later }
def LinChainCardSaid : Prop := Claim7.holds Tryd.pinned (.plain (OpenSpec.ofChange linChainSpec)) linChainCard

/-- THE SECOND FORM's CARD OF 'gimballaw07.LinMakes'. -/
def linMakesUptoCard : Claim7 := { stood := { row := linMakesUptoRow, standIns := [], harness := (true, "31f35208c42c0348727f99a1ddba389d51a934a7f84daa5b9b837c2b40e64d24"), looks := false }, kinds := [], alts := [], laidByText := true, laidKinds := [.data, .pinned], laidTests := true, laidLooks := .later }
def LinMakesUptoCardSaid : Prop := Claim7.holds Tryd.pinned (.plain (OpenSpec.upto linMakesSpec)) linMakesUptoCard

/-- THE SECOND FORM's CARD OF 'gimballaw07.LinDets'. -/
def linDetsUptoCard : Claim7 := { stood := { row := linDetsUptoRow, standIns := [], harness := (true, "31f35208c42c0348727f99a1ddba389d51a934a7f84daa5b9b837c2b40e64d24"), looks := false }, kinds := [], alts := [], laidByText := true, laidKinds := [.data, .pinned], laidTests := true, laidLooks := .later }
def LinDetsUptoCardSaid : Prop := Claim7.holds Tryd.pinned (.plain (OpenSpec.upto linDetsSpec)) linDetsUptoCard

/-- THE SECOND FORM's CARD OF 'gimballaw07.LinBack'. -/
def linBackUptoCard : Claim7 := { stood := { row := linBackUptoRow, standIns := [], harness := (true, "31f35208c42c0348727f99a1ddba389d51a934a7f84daa5b9b837c2b40e64d24"), looks := false }, kinds := [], alts := [], laidByText := true, laidKinds := [.data, .pinned], laidTests := true, laidLooks := .later }
def LinBackUptoCardSaid : Prop := Claim7.holds Tryd.pinned (.plain (OpenSpec.upto linBackSpec)) linBackUptoCard

/-- THE SECOND FORM's CARD OF 'gimballaw07.LinRules'. -/
def linRulesUptoCard : Claim7 := { stood := { row := linRulesUptoRow, standIns := [], harness := (true, "31f35208c42c0348727f99a1ddba389d51a934a7f84daa5b9b837c2b40e64d24"), looks := false }, kinds := [], alts := [], laidByText := true, laidKinds := [.data, .pinned], laidTests := true, laidLooks := .later }
def LinRulesUptoCardSaid : Prop := Claim7.holds Tryd.pinned (.plain (OpenSpec.upto linRulesSpec)) linRulesUptoCard

/-- THE SECOND FORM's CARD OF 'gimballaw07.LinDefinite'. -/
def linDefiniteUptoCard : Claim7 := { stood := { row := linDefiniteUptoRow, standIns := [], harness := (true, "31f35208c42c0348727f99a1ddba389d51a934a7f84daa5b9b837c2b40e64d24"), looks := false }, kinds := [], alts := [], laidByText := true, laidKinds := [.data, .pinned], laidTests := true, laidLooks := .later }
def LinDefiniteUptoCardSaid : Prop := Claim7.holds Tryd.pinned (.plain (OpenSpec.upto linDefiniteSpec)) linDefiniteUptoCard

/-- THE SECOND FORM's CARD OF 'gimballaw07.LinChain'. -/
def linChainUptoCard : Claim7 := { stood := { row := linChainUptoRow, standIns := [], harness := (true, "31f35208c42c0348727f99a1ddba389d51a934a7f84daa5b9b837c2b40e64d24"), looks := false }, kinds := [], alts := [], laidByText := true, laidKinds := [.data, .pinned], laidTests := true, laidLooks := .later }
def LinChainUptoCardSaid : Prop := Claim7.holds Tryd.pinned (.plain (OpenSpec.upto linChainSpec)) linChainUptoCard
end Rows
end Go.Proofs.YtolpfibihialkaaDoor
