/- Parts of the proof. -/
import Derived.Test.YtdochhhepmlapaaGe7
import Derived.Test.YtdochhhepmlapaaGe4
import Derived.Test.YtdochhhepmlapaaShelf
import Derived.Lib.Strings
import Derived.Test.YtdochhhepmlapaaGe9
/- The document's own numbers: decimal digits, the lowest first. The walks of its made and Parse. -/
namespace Go.Proofs.Ytdochhhepmlapaa
open Go.RowKit
/-- n is how many digits N has. -/
def Fit10 (n N : Nat) : Prop := N < 10 ^ n ∧ (n = 0 ∨ 10 ^ (n - 1) ≤ N)
theorem p10 (k : Nat) : 0 < 10 ^ k := Nat.pow_pos (by decide)
theorem fit10_pos {n N : Nat} (h : Fit10 n N) : n = 0 ↔ N = 0 := by
 constructor
 ·
  intro e; subst e; have := h.1; simp at this; exact this
 ·
  intro e; subst e
  rcases h.2 with h0 | h0
  ·
   exact h0
  ·
   have := p10 (n - 1); omega
/-- A number of the document's: its sign, its digits in memory. -/
structure RNum (w : World) (bl : Bool) (a : Option Addr) (n c : Nat) (z : Int) : Prop where
 lie : Lie .i64 w a n c (dig z.natAbs)
 fit : Fit10 n z.natAbs
 sgn : bl = decide (z < 0)
theorem RNum.below {w w' : World} {bl : Bool} {a : Option Addr} {n c : Nat} {z : Int} (h : RNum w bl a n c z) (hb : Below w.heap.size w w') : RNum w' bl a n c z := ⟨h.lie.below hb, h.fit, h.sgn⟩
theorem RNum.only {w w' : World} {bl : Bool} {a : Option Addr} {n c g : Nat} {z : Int} (h : RNum w bl a n c z) (ho : Only g w w') (hg : ∀ p, a = some p → p.block ≠ g) : RNum w' bl a n c z := ⟨h.lie.only ho hg, h.fit, h.sgn⟩
end Go.Proofs.Ytdochhhepmlapaa

/- The document's numbers: the walks of Sign, Cmp, Minus, Add, Sub. -/
namespace Go.Proofs.Ytdochhhepmlapaa
open Go.RowKit
theorem RNum.zero_iff {w : World} {bl : Bool} {a : Option Addr} {n c : Nat} {z : Int} (h : RNum w bl a n c z) : n = 0 ↔ z = 0 := by
 rw [fit10_pos h.fit]; omega
end Go.Proofs.Ytdochhhepmlapaa
