/- Parts of the proof. -/
import Derived.Test.YtjclllindbfmhabGreatDoorHs16
import Derived.Test.YtjclllindbfmhabGreatDoorHs10
import Derived.Test.YtjclllindbfmhabGreatDoorHs1
import Derived.Laws.StructEq
import Derived.Test.YtjclllindbfmhabGreatDoorHs3
set_option linter.unusedSimpArgs false
set_option linter.unusedVariables false
namespace Go.Proofs.YtjclllindbfmhabGreatDoor
/- Spans in memory: boxes of three cells, one behind the other. -/
open Go.RowKit
theorem heap_new (w:World) (o:Obj):(w.alloc o).heap[w.heap.size]?=some o:=by rw [heap_alloc_new]
theorem heap_set_ne (w:World) {k k' o:Nat} (v:Value) (h:k ≠ k'):(w.setCell ⟨k',o,none⟩ v).heap[k]?=w.heap[k]?:=by
 simp only [World.setCell,Array.getElem?_modify]
 rw [if_neg (fun e=>h e.symm)]
section
variable {P:Program}
def OpZ (P:Program) (Q:Exit→Act→World→Prop) (o:Oper) (ops:Array Oper) (A:Act) (VP:Nat→Value→World→Prop) (J:World→Prop) (n i:Nat) (u:Nat→Value) (W:World):Prop :=
 (Region.wanted o (yielded ops A.tmps)=false∧VP i undef W) ∨
 (Region.wanted o (yielded ops A.tmps)=true∧∀ K':Act→World→Prop,(∀ v W',J W'→VP i v W'→(∀ j,j < n→VP j (u j) W→VP j (u j) W')→K' (A.put o.dst v) W')→Oper.wp P o A W K' Q)
end
end Go.Proofs.YtjclllindbfmhabGreatDoor
