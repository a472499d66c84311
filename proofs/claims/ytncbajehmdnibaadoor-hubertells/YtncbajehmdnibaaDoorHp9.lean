/- Parts of the proof. -/
import Derived.Test.YtncbajehmdnibaaDoorHp5
import Derived.Test.YtncbajehmdnibaaDoorHp4
import Derived.Test.YtncbajehmdnibaaDoorShelf
import Derived.Lib.ItoaNum
set_option linter.unusedSimpArgs false
set_option linter.unusedVariables false
/- The walk of quotient. -/
namespace Go.Proofs.YtncbajehmdnibaaDoor
open Go.RowKit
theorem own_lit2 (k:IntKind) (e:TypeId) (w:World) (x y:Nat) (f:Nat→Nat) (h:f 0=x) (h':f 1=y):Own k e (w.alloc (.cells #[.int k (x:Nat),.int k (y:Nat)] e)) w.heap.size 2 f:=by
 unfold Own
 rw [heap_alloc_new]
 simp [List.range_succ,h,h']
end Go.Proofs.YtncbajehmdnibaaDoor

/- The walk of quotient, the case of a divisor of several parts. -/
namespace Go.Proofs.YtncbajehmdnibaaDoor
open Go.RowKit
theorem Own.grown {k:IntKind} {e:TypeId} {w w':World} {g n:Nat} {f:Nat→Nat} {r:Option Nat} (h:Own k e w g n f) (hg:w.grownBy w' r) (hr:some g ≠ r):Own k e w' g n f:=by
 unfold Own at h ⊢
 rw [hg.block g (Array.getElem?_eq_some_iff.1 h).1 hr]; exact h
end Go.Proofs.YtncbajehmdnibaaDoor
