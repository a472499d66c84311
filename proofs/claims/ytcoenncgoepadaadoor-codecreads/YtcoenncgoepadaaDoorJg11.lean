/- Parts of the proof. -/
import Derived.Test.YtcoenncgoepadaaDoorJg10
import Derived.Test.YtcoenncgoepadaaDoorJg9
import Derived.IntWalk
import Derived.Laws.AppendOwnNone
set_option linter.unusedSimpArgs false
set_option linter.unusedVariables false
/- The document's numbers: the walk of parted. -/
namespace Go.Proofs.YtcoenncgoepadaaDoor
open Go.RowKit
/-- Digits with their number, in memory that is not block g. -/
structure Rst (w0:World) (g:Nat) (w:World) (a:Option Addr) (n c R:Nat):Prop where
 lie:Lie .i64 w a n c (dig R)
 fit:Fit10 n R
 far:∀ p,a=some p→w0.heap.size≤p.block∧p.block ≠ g
theorem Rst.below {w0:World} {g:Nat} {w w':World} {a:Option Addr} {n c R:Nat} (h:Rst w0 g w a n c R) (hb:Below w.heap.size w w'):Rst w0 g w' a n c R:=⟨h.lie.below hb,h.fit,h.far⟩
end Go.Proofs.YtcoenncgoepadaaDoor
