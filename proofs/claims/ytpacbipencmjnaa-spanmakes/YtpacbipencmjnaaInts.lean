/- The walks of package long's methods Sign, Cmp, Bits, Neg, Add, Mul. -/
import Derived.Test.YtpacbipencmjnaaRoot
import Derived.Test.YtpacbipencmjnaaDiff
namespace Go.Proofs.Ytpacbipencmjnaa
open Go.RowKit

/-- -1, 0, 1. -/
def sgnI (z : Int) : Int := if z < 0 then -1 else if z = 0 then 0 else 1

theorem Num.zero_iff {w : World} {bl : Bool} {a : Option Addr} {n c : Nat} {z : Int} (h : Num w bl a n c z) : n = 0 ↔ z = 0 := by
  rw [fit_pos h.fit]; omega

/-- How two numbers stand to one another: -1, 0, 1. -/
def cmpI (x y : Int) : Int := if x < y then -1 else if y < x then 1 else 0

theorem only2 (w : World) (b : Nat) (u v : Value) : Only b w ((w.setCell ⟨b, 0, none⟩ u).setCell ⟨b, 1, none⟩ v) := (Only.setCell w b 0 u).trans (Only.setCell _ b 1 v)
theorem far2 {w : World} {b b' o : Nat} {u v x : Value} (h : w.cell? ⟨b, o, none⟩ = some x) (hne : b ≠ b') : ((w.setCell ⟨b', 0, none⟩ u).setCell ⟨b', 1, none⟩ v).cell? ⟨b, o, none⟩ = some x :=
  (World.cell?_of_block (w := w) (a := ⟨b, o, none⟩) ((only2 w b' u v).block b hne)).trans h
theorem Num.only {w w' : World} {bl : Bool} {a : Option Addr} {n c g : Nat} {z : Int} (h : Num w bl a n c z) (ho : Only g w w') (hg : ∀ p, a = some p → p.block ≠ g) : Num w' bl a n c z := ⟨h.lie.only ho hg, h.fit, h.sgn⟩
theorem sg_not {bl : Bool} {z : Int} (h : bl = decide (z < 0)) : sg (!bl) z.natAbs = -z := by
  subst h
  by_cases hz : z < 0
  · simp [sg, hz]; omega
  · simp [sg, hz]; omega
/-- Behind a store of a number into a result's block: it is handed back. -/
theorem pnum_store {w w3 : World} {bl : Bool} {a : Option Addr} {n c r : Nat} {z : Int} (hn : Num w3 bl a n c z) (hB : Below w.heap.size w w3) (hr : w.heap.size ≤ r) (hfr : ∀ p, a = some p → r < p.block) :
    PNum z w (.returned (.agg #[.bool bl, .slice a n c])) ((w3.setCell ⟨r, 0, none⟩ (.bool bl)).setCell ⟨r, 1, none⟩ (.slice a n c)) :=
  ⟨bl, a, n, c, rfl, hn.only (only2 _ _ _ _) (fun p hp => by have := hfr p hp; omega), (fun p hp => by have := hfr p hp; omega), hB.trans ((only2 _ _ _ _).below hr)⟩

end Go.Proofs.Ytpacbipencmjnaa
