/- Parts of the proof. -/
import Derived.Test.YtcoenncgoepadaaDoorProg
import Derived.Test.YtcoenncgoepadaaDoorJg2
import Derived.KernelRfl
import Derived.Laws.BitsAllLaws
import Derived.Test.YtcoenncgoepadaaDoorJg4
import Derived.Deep.LoopGhost
set_option linter.unusedSimpArgs false
set_option linter.unusedVariables false
/- The walk of groupsOf. -/
namespace Go.Proofs.YtcoenncgoepadaaDoor
open Go.RowKit
theorem Lie.congr {k:IntKind} {w:World} {a:Option Addr} {n c:Nat} {f f':Nat→Nat} (h:Lie k w a n c f) (hf:∀ i,i < n→f i=f' i):Lie k w a n c f' :=
 ⟨h.cap,h.capm,h.nil,h.spot,fun p hp i hi=>by rw [← hf i hi]; exact h.cell p hp i hi⟩
end Go.Proofs.YtcoenncgoepadaaDoor
