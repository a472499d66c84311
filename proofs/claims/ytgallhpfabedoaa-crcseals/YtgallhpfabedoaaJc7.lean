/- Parts of the proof. -/
import Derived.Test.YtgallhpfabedoaaJc6
import Derived.Test.YtgallhpfabedoaaJc2
set_option linter.unusedSimpArgs false
set_option linter.unusedVariables false
/- The walk of written. -/
namespace Go.Proofs.Ytgallhpfabedoaa
open Go.RowKit
theorem Try.u32:Try.prog.underlying 32=some (.slice 5):=by kernel_rfl
/-- The k-th digit, from the lowest one on. -/
def dig (N k:Nat):Nat:=N / 10 ^ k % 10
end Go.Proofs.Ytgallhpfabedoaa
