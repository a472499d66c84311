/- Parts of the proof. -/
import Derived.Test.YtjclllindbfmhabGreatDoorHs12
import Derived.Laws.AppendOwnNone
set_option linter.unusedSimpArgs false
set_option linter.unusedVariables false
namespace Go.Proofs.YtjclllindbfmhabGreatDoor
/- The document's numbers: the walk of parted. -/
open Go.RowKit
theorem run_fieldD (bl:Bool) (a:Option Addr) (n c:Nat) (w:World):Sem.run Tryz.prog (Instr.field 38 (.agg #[.bool bl,.slice a n c]) 1) w=.ok (.slice a n c) w:=by kernel_rfl
attribute [local go_sem] run_fieldD
end Go.Proofs.YtjclllindbfmhabGreatDoor
