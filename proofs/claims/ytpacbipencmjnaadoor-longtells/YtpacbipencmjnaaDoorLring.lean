/- The walk of the law LongRing. -/
import Derived.Test.YtpacbipencmjnaaDoorThree
namespace Go.Proofs.YtpacbipencmjnaaDoor
open Go.RowKit

theorem bnd_mul {x y : Int} {p q : Nat} (h : x.natAbs < BB ^ p) (k : y.natAbs < BB ^ q) : (x * y).natAbs < BB ^ (p + q) := by
  rw [Int.natAbs_mul, Nat.pow_add]; exact Nat.mul_lt_mul'' h k
theorem bnd_add {x y : Int} {p q : Nat} (h : x.natAbs < BB ^ p) (k : y.natAbs < BB ^ q) : (x + y).natAbs < BB ^ (p + q + 1) := by
  have h1 := Int.natAbs_add_le x y
  have h2 : BB ^ p ≤ BB ^ (p + q) := Nat.pow_le_pow_right (by decide) (by omega)
  have h3 : BB ^ q ≤ BB ^ (p + q) := Nat.pow_le_pow_right (by decide) (by omega)
  rw [Nat.pow_succ]
  have h4 : BB ^ (p + q) * 2 ≤ BB ^ (p + q) * BB := Nat.mul_le_mul_left _ (by decide)
  omega
theorem bnd_neg {x : Int} {p : Nat} (h : x.natAbs < BB ^ p) : (-x).natAbs < BB ^ p := by rwa [Int.natAbs_neg]
theorem len_of {w : World} {bl : Bool} {a : Option Addr} {n c k : Nat} {z : Int} (h : Num w bl a n c z) (hz : z.natAbs < BB ^ k) (hk : k ≤ 10000000) : n ≤ 10000000 := Nat.le_trans (fit_le h.fit hz) hk

end Go.Proofs.YtpacbipencmjnaaDoor
