/- Parts of the proof. -/
import Derived.Test.YtcoenncgoepadaaDoorJg14
import Derived.Test.YtcoenncgoepadaaDoorJg9
import Derived.Test.YtcoenncgoepadaaDoorJg1
import Derived.Laws.StructEq
set_option linter.unusedSimpArgs false
set_option linter.unusedVariables false
/- Spans in memory: boxes of three cells, one behind the other. -/
namespace Go.Proofs.YtcoenncgoepadaaDoor
open Go.RowKit
theorem heap_new (w:World) (o:Obj):(w.alloc o).heap[w.heap.size]?=some o:=by rw [heap_alloc_new]
theorem heap_set_ne (w:World) {k k' o:Nat} (v:Value) (h:k ≠ k'):(w.setCell ⟨k',o,none⟩ v).heap[k]?=w.heap[k]?:=by
 simp only [World.setCell,Array.getElem?_modify]
 rw [if_neg (fun e=>h e.symm)]
end Go.Proofs.YtcoenncgoepadaaDoor
