/- The walk of difference. -/
import Derived.Test.YtpacbipencmjnaaParts
namespace Go.Proofs.Ytpacbipencmjnaa
open Go.RowKit
def difF (A B i : Nat) (j : Nat) : Nat := if j < i then lmb (A - B) j else lmb A j
theorem difF_next {A B n : Nat} (k : Nat) : ∀ j, j < n → j ≠ k → difF A B k j = difF A B (k + 1) j := by
  intro j _ hne
  unfold difF
  by_cases h1 : j < k <;> by_cases h2 : j < k + 1 <;> simp [h1, h2] <;> omega
end Go.Proofs.Ytpacbipencmjnaa
