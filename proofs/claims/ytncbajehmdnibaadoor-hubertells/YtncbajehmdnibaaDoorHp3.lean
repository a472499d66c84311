/- Parts of the proof. -/
import Derived.Test.YtncbajehmdnibaaDoorHp1
import Derived.Test.YtncbajehmdnibaaDoorHp2
set_option linter.unusedSimpArgs false
set_option linter.unusedVariables false
/- As part Regv, with one operation that makes a variable wherever it comes in the order. No statement of the seat is proved here. -/
namespace Go.Proofs.YtncbajehmdnibaaDoor
open Go Go.RowKit
section
variable {P:Program}
end
/-- A variable made since, as it was made. -/
def Abox (m:Nat) (C:Array Value) (T:TypeId) (v:Value) (W:World):Prop:=∃ b,v=.pointer (some ⟨b,0,none⟩)∧m≤b∧W.heap[b]?=some (.cells C T (0,0))
theorem Abox.later {m:Nat} {C:Array Value} {T:TypeId} {v:Value} {W W':World} (h:Abox m C T v W) (hb:Below W.heap.size W W'):Abox m C T v W':=by
 obtain ⟨b,e,h1,h2⟩:=h
 exact ⟨b,e,h1,by rw [hb.block b (Array.getElem?_eq_some_iff.1 h2).1,h2]⟩
/-- A value is a given one. -/
def Veq (c:Value) (v:Value) (_:World):Prop:=v=c
theorem Veq.later {c v:Value} {W W':World} (h:Veq c v W) (_:Below W.heap.size W W'):Veq c v W':=h
section
variable {P:Program}
end
theorem Abox.lt {m:Nat} {C:Array Value} {T:TypeId} {v:Value} {W:World} (h:Abox m C T v W):∃ b,v=.pointer (some ⟨b,0,none⟩)∧b < W.heap.size:=by
 obtain ⟨b,e,_,h2⟩:=h
 exact ⟨b,e,(Array.getElem?_eq_some_iff.1 h2).1⟩
/- Where operations may also store: the invariant names which operations are done and what they gave. -/
section
variable {P:Program}
end
end Go.Proofs.YtncbajehmdnibaaDoor
