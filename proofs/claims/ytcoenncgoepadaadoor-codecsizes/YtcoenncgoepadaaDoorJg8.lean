/- Parts of the proof. -/
import Derived.Test.YtcoenncgoepadaaDoorJg4
import Derived.Test.YtcoenncgoepadaaDoorProg
import Derived.Test.YtcoenncgoepadaaDoorJg2
import Derived.KernelRfl
import Derived.Test.YtcoenncgoepadaaDoorShelf
import Derived.Lib.ItoaNum
set_option linter.unusedSimpArgs false
set_option linter.unusedVariables false
/- The walk of quotient, the case of a divisor of several parts. -/
namespace Go.Proofs.YtcoenncgoepadaaDoor
open Go.RowKit
theorem Own.grown {k:IntKind} {e:TypeId} {w w':World} {g n:Nat} {f:Nat→Nat} {r:Option Nat} (h:Own k e w g n f) (hg:w.grownBy w' r) (hr:some g ≠ r):Own k e w' g n f:=by
 unfold Own at h ⊢
 rw [hg.block g (Array.getElem?_eq_some_iff.1 h).1 hr]; exact h
end Go.Proofs.YtcoenncgoepadaaDoor
