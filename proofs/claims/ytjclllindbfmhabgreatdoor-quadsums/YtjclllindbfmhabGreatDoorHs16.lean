/- Parts of the proof. -/
import Derived.Test.YtjclllindbfmhabGreatDoorHs4
import Derived.Defers
import Derived.Lib.MinMax
import Derived.IntWalk
set_option linter.unusedSimpArgs false
set_option linter.unusedVariables false
namespace Go.Proofs.YtjclllindbfmhabGreatDoor
/- Fixed numbers: the walk of over, the greatest whole number not above a quotient. -/
open Go.RowKit
end Go.Proofs.YtjclllindbfmhabGreatDoor

namespace Go.Proofs.YtjclllindbfmhabGreatDoor
/- Fixed numbers: the walks of Add, Sub, Mul, Div. -/
open Go.RowKit
/-- Two places for a call's results, behind what was there. -/
structure Two (w w1:World) (v:Value) (c:Bool):Prop where
 below:Below w.heap.size w w1
 p:w1.cell? ⟨w.heap.size,0,none⟩=some v
 q:w1.cell? ⟨w.heap.size+1,0,none⟩=some (.bool c)
 fp:w1.frozen? ⟨w.heap.size,0,none⟩=false
 fq:w1.frozen? ⟨w.heap.size+1,0,none⟩=false
 sz:w.heap.size+1 < w1.heap.size
end Go.Proofs.YtjclllindbfmhabGreatDoor
