/- The root of a whole number (no walk). -/
import Derived.Test.YtpacbipencmjnaaDoorBase
namespace Go.Proofs.YtpacbipencmjnaaDoor

/-- The root: the greatest number whose square is not above. -/
def isq : Nat → Nat
  | 0 => 0
  | n + 1 => if (isq n + 1) * (isq n + 1) ≤ n + 1 then isq n + 1 else isq n
theorem isq_spec (N : Nat) : isq N * isq N ≤ N ∧ N < (isq N + 1) * (isq N + 1) := by
  induction N with
  | zero => exact ⟨Nat.le_refl _, by decide⟩
  | succ n ih =>
    unfold isq
    generalize isq n = r at *
    have e1 : (r + 1 + 1) * (r + 1 + 1) = (r + 1) * (r + 1) + 2 * r + 3 := by rw [Nat.add_mul (r + 1) 1, Nat.mul_add (r + 1) (r + 1)]; omega
    split
    · next h => exact ⟨h, by omega⟩
    · next h => exact ⟨by omega, by omega⟩
theorem isq_uniq {N R : Nat} (h1 : R * R ≤ N) (h2 : N < (R + 1) * (R + 1)) : R = isq N := by
  obtain ⟨k1, k2⟩ := isq_spec N
  have key : ∀ a b : Nat, a * a ≤ N → N < (b + 1) * (b + 1) → a ≤ b := by
    intro a b ha hb
    refine Nat.le_of_not_lt fun hc => ?_
    have := Nat.mul_le_mul (show b + 1 ≤ a from hc) (show b + 1 ≤ a from hc)
    omega
  have := key R _ h1 k2
  have := key _ R k1 h2
  omega
end Go.Proofs.YtpacbipencmjnaaDoor
