/- Parts of the proof. -/
import Derived.Test.YtgallhpfabedoaaProg
import Derived.Test.YtgallhpfabedoaaJc1
import Derived.KernelRfl
import Derived.Laws.BitsAllLaws
import Derived.Test.YtgallhpfabedoaaJc5
import Derived.Deep.LoopGhost
set_option linter.unusedSimpArgs false
set_option linter.unusedVariables false
/- The walk of groupsOf. -/
namespace Go.Proofs.Ytgallhpfabedoaa
open Go.RowKit
/-- The values of a list's numbers. -/
def vals (k:IntKind) (f:Nat→Nat) (n:Nat):List Value:=(List.range n).map fun i=>Value.int k (f i:Nat)
theorem vals_succ (k:IntKind) (f:Nat→Nat) (n:Nat):vals k f n++[Value.int k (f n:Nat)]=vals k f (n+1):=by simp [vals,List.range_succ]
theorem vals_get (k:IntKind) (f:Nat→Nat) (n i:Nat) (h:i < n):(vals k f n)[i]?=some (Value.int k (f i:Nat)):=by simp [vals,h]
/-- What is owned by append's laws lies there. -/
theorem lie_owned {k:IntKind} {w:World} {base:Nat} {e:TypeId} {v:Value} {n:Nat} {f:Nat→Nat} (h:w.ownsRow base e 1 v n (vals k f n)) :
  ∃ (a:Option Addr) (c:Nat),v=.slice a n c∧Lie k w a n c f:=by
 have hcs:=h.2
 rcases hcs with ⟨rfl,rfl⟩ | ⟨g,cap,cur,rfl,hb,hg,hc,hm,hs,ht⟩
 ·
  exact ⟨none,0,rfl,lie_nil _ _ _⟩
 ·
  refine ⟨_,cap,rfl,hc,hm,(fun e=>by cases e),(fun p hp=>by cases hp; exact ⟨rfl,(Array.getElem?_eq_some_iff.1 hg).1⟩),(fun p hp i hi=>?_)⟩
  cases hp
  have:=h.cells (g:=g) rfl i _ (vals_get k f n i hi)
  rw [show (⟨g,0,none⟩:Addr).add i=⟨g,0+i,none⟩ from by unfold Addr.add; split <;> simp_all] at this
  exact this
theorem Lie.congr {k:IntKind} {w:World} {a:Option Addr} {n c:Nat} {f f':Nat→Nat} (h:Lie k w a n c f) (hf:∀ i,i < n→f i=f' i):Lie k w a n c f' :=
 ⟨h.cap,h.capm,h.nil,h.spot,fun p hp i hi=>by rw [← hf i hi]; exact h.cell p hp i hi⟩
end Go.Proofs.Ytgallhpfabedoaa
