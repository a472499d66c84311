/- Parts of the proof. -/
import Derived.Test.YtjclllindbfmhabGreatDoorHs1
import Derived.Test.YtjclllindbfmhabGreatDoorHs2
set_option linter.unusedSimpArgs false
set_option linter.unusedVariables false
namespace Go.Proofs.YtjclllindbfmhabGreatDoor
/- As part Regv, with one operation that makes a variable wherever it comes in the order. No statement of the seat is proved here. -/
open Go Go.RowKit
section
variable {P:Program}
end
section
variable {P:Program}
end
/- Where operations may also store: the invariant names which operations are done and what they gave. -/
section
variable {P:Program}
end
end Go.Proofs.YtjclllindbfmhabGreatDoor
