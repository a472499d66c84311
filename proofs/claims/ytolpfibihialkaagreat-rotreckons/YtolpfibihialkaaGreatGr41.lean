/- Parts of the proof. -/
import Derived.Test.YtolpfibihialkaaGreatGr18
import Derived.Lib.SmallJoins
import Derived.WalkKit
import Derived.ProofKit
import Derived.OpenShut
/- How a span that comes in reads, for the rows of package span's laws. -/
namespace Go.Proofs.YtolpfibihialkaaGreat
open Go.Joins Go.ChangeShapes Go.WideShapes Go.RowKit Go.Deep
/-- A span, as it reads. -/
def spD {H : Type} (x : Sp) : DataW H := .agg [.lit (.int .i64 x.lo), .lit (.int .i64 x.hi), .lit (.bool x.all)]
section
variable {H : Type} {enc : TypeId × Value → H} {w : World} {base : Nat} {spare : Nat → Bool} {held : Bool}
end
end Go.Proofs.YtolpfibihialkaaGreat
