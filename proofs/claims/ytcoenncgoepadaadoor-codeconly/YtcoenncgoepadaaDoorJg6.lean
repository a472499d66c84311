/- Parts of the proof. -/
import Derived.Test.YtcoenncgoepadaaDoorProg
import Derived.Test.YtcoenncgoepadaaDoorJg2
import Derived.KernelRfl
import Derived.Test.YtcoenncgoepadaaDoorShelf
import Derived.Lib.Strings
set_option linter.unusedSimpArgs false
set_option linter.unusedVariables false
/- The walks of groupOf, wellWritten, groupBehind, readDigits. -/
namespace Go.Proofs.YtcoenncgoepadaaDoor
open Go.RowKit
theorem take_snoc (s:ByteArray) (k:Nat) (h:k < s.size):s.data.toList.take (k+1)=s.data.toList.take k++[s[k]]:=by
 rw [List.take_succ_eq_append_getElem (by simpa using h)]; rfl
end Go.Proofs.YtcoenncgoepadaaDoor

/- The walks of groupBehind, readDigits. -/
namespace Go.Proofs.YtcoenncgoepadaaDoor
open Go.RowKit
/-- What is carried when a group is put behind a number. -/
def cb (N G k:Nat):Nat:=(N % BB ^ k*1000000000+G) / BB ^ k
end Go.Proofs.YtcoenncgoepadaaDoor
