/- Parts of the proof. -/
import Derived.Test.YtcoenncgoepadaaDoorProg
import Derived.Test.YtcoenncgoepadaaDoorJg2
import Derived.KernelRfl
import Derived.Defers
import Derived.Lib.MinMax
import Derived.IntWalk
set_option linter.unusedSimpArgs false
set_option linter.unusedVariables false
/- Fixed numbers: the walks of Add, Sub, Mul, Div. -/
namespace Go.Proofs.YtcoenncgoepadaaDoor
open Go.RowKit
/-- Two places for a call's results, behind what was there. -/
structure Two (w w1:World) (v:Value) (c:Bool):Prop where
 below:Below w.heap.size w w1
 p:w1.cell? ⟨w.heap.size,0,none⟩=some v
 q:w1.cell? ⟨w.heap.size+1,0,none⟩=some (.bool c)
 fp:w1.frozen? ⟨w.heap.size,0,none⟩=false
 fq:w1.frozen? ⟨w.heap.size+1,0,none⟩=false
 sz:w.heap.size+1 < w1.heap.size
theorem Two.later {w w1 w2:World} {v:Value} {c:Bool} (h:Two w w1 v c) (hb:Below w1.heap.size w1 w2):Two w w2 v c :=
 ⟨h.below.trans (hb.mono h.below.size),(hb.cell (p:=⟨w.heap.size,0,none⟩) (by have:=h.sz; show w.heap.size < _; omega)).trans h.p,(hb.cell (p:=⟨w.heap.size+1,0,none⟩) h.sz).trans h.q,
  (hb.frozen (p:=⟨w.heap.size,0,none⟩) (by have:=h.sz; show w.heap.size < _; omega)).trans h.fp,(hb.frozen (p:=⟨w.heap.size+1,0,none⟩) h.sz).trans h.fq,Nat.lt_of_lt_of_le h.sz hb.size⟩
theorem Two.drew {w w1:World} {v:Value} {c:Bool} (h:Two w w1 v c):Two w w1.drew v c:=⟨h.below.drew,h.p,h.q,h.fp,h.fq,h.sz⟩
end Go.Proofs.YtcoenncgoepadaaDoor
