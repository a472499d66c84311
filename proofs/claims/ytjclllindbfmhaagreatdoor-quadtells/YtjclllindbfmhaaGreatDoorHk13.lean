/- Parts of the proof. -/
import Derived.Test.YtjclllindbfmhaaGreatDoorHk12
import Derived.Laws.AppendOwnNone
/- The document's numbers: the walk of parted. -/
namespace Go.Proofs.YtjclllindbfmhaaGreatDoor
open Go.RowKit
theorem run_fieldD (bl : Bool) (a : Option Addr) (n c : Nat) (w : World) : Sem.run Tryz.prog (Instr.field 43 (.agg #[.bool bl, .slice a n c]) 1) w = .ok (.slice a n c) w := by kernel_rfl
attribute [local go_sem] run_fieldD
/-- Digits with their number, in memory that is not block g. -/
structure Rst (w0 : World) (g : Nat) (w : World) (a : Option Addr) (n c R : Nat) : Prop where
 lie : Lie .i64 w a n c (dig R)
 fit : Fit10 n R
 far : ∀ p, a = some p → w0.heap.size ≤ p.block ∧ p.block ≠ g
theorem Rst.below {w0 : World} {g : Nat} {w w' : World} {a : Option Addr} {n c R : Nat} (h : Rst w0 g w a n c R) (hb : Below w.heap.size w w') : Rst w0 g w' a n c R := ⟨h.lie.below hb, h.fit, h.far⟩
end Go.Proofs.YtjclllindbfmhaaGreatDoor
