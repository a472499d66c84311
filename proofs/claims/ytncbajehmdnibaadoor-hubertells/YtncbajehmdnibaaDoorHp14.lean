/- Parts of the proof. -/
import Derived.Test.YtncbajehmdnibaaDoorHp13
import Derived.Laws.AppendOwnNone
set_option linter.unusedSimpArgs false
set_option linter.unusedVariables false
/- The document's numbers: the walk of parted. -/
namespace Go.Proofs.YtncbajehmdnibaaDoor
open Go.RowKit
theorem fit10_le {n M R:Nat} (h:Fit10 n R) (hM:R < 10 ^ M):n≤M:=by
 refine Nat.le_of_not_lt fun hc=>?_
 rcases h.2 with h0 | h0
 ·
  omega
 ·
  have h1:10 ^ M≤10 ^ (n - 1):=Nat.pow_le_pow_right (by decide) (by omega)
  omega
theorem run_fieldD (bl:Bool) (a:Option Addr) (n c:Nat) (w:World):Sem.run Tryd.prog (Instr.field 51 (.agg #[.bool bl,.slice a n c]) 1) w=.ok (.slice a n c) w:=by kernel_rfl
attribute [local go_sem] run_fieldD
/-- Digits with their number, in memory that is not block g. -/
structure Rst (w0:World) (g:Nat) (w:World) (a:Option Addr) (n c R:Nat):Prop where
 lie:Lie .i64 w a n c (dig R)
 fit:Fit10 n R
 far:∀ p,a=some p→w0.heap.size≤p.block∧p.block ≠ g
theorem Rst.below {w0:World} {g:Nat} {w w':World} {a:Option Addr} {n c R:Nat} (h:Rst w0 g w a n c R) (hb:Below w.heap.size w w'):Rst w0 g w' a n c R:=⟨h.lie.below hb,h.fit,h.far⟩
end Go.Proofs.YtncbajehmdnibaaDoor
