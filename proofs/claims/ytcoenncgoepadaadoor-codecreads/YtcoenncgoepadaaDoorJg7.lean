/- Parts of the proof. -/
import Derived.Test.YtcoenncgoepadaaDoorJg5
import Derived.Test.YtcoenncgoepadaaDoorJg6
set_option linter.unusedSimpArgs false
set_option linter.unusedVariables false
/- The walk of written. -/
namespace Go.Proofs.YtcoenncgoepadaaDoor
open Go.RowKit
theorem Tryd.info5:(Tryd.prog.info? 5).map (fun i=>(i.zero,i.size,i.bytes))=some (some (.int .u8 0),1,1):=by kernel_rfl
/-- The k-th digit, from the lowest one on. -/
def dig (N k:Nat):Nat:=N / 10 ^ k % 10
end Go.Proofs.YtcoenncgoepadaaDoor
