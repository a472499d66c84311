/- Parts of the proof. -/
import Derived.Test.YtjclllindbfmhaaGreatDoorHk10
import Derived.Test.YtjclllindbfmhaaGreatDoorHk1
namespace Go.Proofs.YtjclllindbfmhaaGreatDoor
/- Numbers in variables; what a region that divides has done. No statement of the seat is proved here. -/
open Go.RowKit
/-- A value is a number of package long. -/
def HN (w : World) (v : Value) (z : Int) : Prop := ∃ (b : Bool) (a : Option Addr) (n c : Nat), v = .agg #[.bool b, .slice a n c] ∧ Num w b a n c z
section
variable {V : World → Prop} {w : World} {i j : Nat} {b1 : Bool} {a1 : Option Addr} {n1 c1 : Nat} {b2 : Bool} {a2 : Option Addr} {n2 c2 : Nat} {f p q r : Int} {L : Nat → Bool} {W W' : World} {v8 v9 v36 v37 v38 v39 v40 v41 v42 v43 v44 : Value}
end
end Go.Proofs.YtjclllindbfmhaaGreatDoor
