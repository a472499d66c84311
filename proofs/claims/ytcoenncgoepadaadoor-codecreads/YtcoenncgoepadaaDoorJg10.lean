/- Parts of the proof. -/
import Derived.Test.YtcoenncgoepadaaDoorJg7
import Derived.Test.YtcoenncgoepadaaDoorJg6
import Derived.Test.YtcoenncgoepadaaDoorJg9
set_option linter.unusedSimpArgs false
set_option linter.unusedVariables false
/- The document's own numbers: decimal digits, the lowest first. The walks of its made and Parse. -/
namespace Go.Proofs.YtcoenncgoepadaaDoor
open Go.RowKit
/-- n is how many digits N has. -/
def Fit10 (n N:Nat):Prop:=N < 10 ^ n∧(n=0∨10 ^ (n - 1)≤N)
/-- A number of the document's: its sign, its digits in memory. -/
structure RNum (w:World) (bl:Bool) (a:Option Addr) (n c:Nat) (z:Int):Prop where
 lie:Lie .i64 w a n c (dig z.natAbs)
 fit:Fit10 n z.natAbs
 sgn:bl=decide (z < 0)
theorem RNum.below {w w':World} {bl:Bool} {a:Option Addr} {n c:Nat} {z:Int} (h:RNum w bl a n c z) (hb:Below w.heap.size w w'):RNum w' bl a n c z:=⟨h.lie.below hb,h.fit,h.sgn⟩
theorem RNum.only {w w':World} {bl:Bool} {a:Option Addr} {n c g:Nat} {z:Int} (h:RNum w bl a n c z) (ho:Only g w w') (hg:∀ p,a=some p→p.block ≠ g):RNum w' bl a n c z:=⟨h.lie.only ho hg,h.fit,h.sgn⟩
end Go.Proofs.YtcoenncgoepadaaDoor
