/- Parts of the proof. -/
import Derived.Test.YtjclllindbfmhabGreatDoorHs10
import Derived.Test.YtjclllindbfmhabGreatDoorHs1
set_option linter.unusedSimpArgs false
set_option linter.unusedVariables false
namespace Go.Proofs.YtjclllindbfmhabGreatDoor
/- Numbers in variables; what a region that divides has done. No statement of the seat is proved here. -/
open Go.RowKit
section
variable {V:World→Prop} {w:World} {i j:Nat} {b1:Bool} {a1:Option Addr} {n1 c1:Nat} {b2:Bool} {a2:Option Addr} {n2 c2:Nat} {f p q r:Int} {L:Nat→Bool} {W W':World} {v8 v9 v36 v37 v38 v39 v40 v41 v42 v43 v44:Value}
end
end Go.Proofs.YtjclllindbfmhabGreatDoor
