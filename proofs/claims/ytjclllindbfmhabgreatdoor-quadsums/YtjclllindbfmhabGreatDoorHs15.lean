/- Parts of the proof. -/
import Derived.Test.YtjclllindbfmhabGreatDoorHs13
import Derived.Test.YtjclllindbfmhabGreatDoorHs14
set_option linter.unusedSimpArgs false
set_option linter.unusedVariables false
namespace Go.Proofs.YtjclllindbfmhabGreatDoor
/- The document's numbers: the walk of Quo. -/
open Go.RowKit
section
variable {w W W':World} {bl:Bool} {a:Option Addr} {n c:Nat} {bl':Bool} {a':Option Addr} {n' c':Nat}
end
end Go.Proofs.YtjclllindbfmhabGreatDoor
