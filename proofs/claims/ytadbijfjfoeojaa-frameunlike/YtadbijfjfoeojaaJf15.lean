/- Parts of the proof. -/
import Derived.Test.YtadbijfjfoeojaaJf14
import Derived.Test.YtadbijfjfoeojaaJf9
set_option linter.unusedSimpArgs false
set_option linter.unusedVariables false
/- Fixed numbers: the walks of Div, Sqrt. -/
namespace Go.Proofs.Ytadbijfjfoeojaa
open Go.RowKit
theorem new_below (w:World) (o:Obj):Below w.heap.size w (w.alloc o):=(Below.refl _ _).alloc (Nat.le_refl _) _
end Go.Proofs.Ytadbijfjfoeojaa
