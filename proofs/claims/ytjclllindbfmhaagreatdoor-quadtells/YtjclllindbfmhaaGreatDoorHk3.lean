/- Parts of the proof. -/
import Derived.Test.YtjclllindbfmhaaGreatDoorHk1
import Derived.Test.YtjclllindbfmhaaGreatDoorHk2
namespace Go.Proofs.YtjclllindbfmhaaGreatDoor
/- As part Regv, with one operation that makes a variable wherever it comes in the order. No statement of the seat is proved here. -/
open Go Go.RowKit
section
variable {P : Program}
end
end Go.Proofs.YtjclllindbfmhaaGreatDoor

namespace Go.Proofs.YtjclllindbfmhaaGreatDoor
/- As part Regv, where what an operation gives is known by a property that stays when memory grows; operations that make variables make unlike ones. No statement of the seat is proved here. -/
open Go Go.RowKit
section
variable {P : Program}
end
/- Where operations may also store: the invariant names which operations are done and what they gave. -/
section
variable {P : Program}
end
end Go.Proofs.YtjclllindbfmhaaGreatDoor
