/- The document's square root, digit by digit: what a digit does (no walk). S is the root: S * S ≤ N < (S + 1) * (S + 1). -/
import Derived.Test.YtpacbipencmjnaaDoorRpm
namespace Go.Proofs.YtpacbipencmjnaaDoor
open Go.RowKit

/-- What stands in the row: the root's digits above i, and j at i. -/
def rootV (S i j : Nat) : Nat := (S / 10 ^ (i + 1) * 10 + j) * 10 ^ i

theorem root_le {S N V : Nat} (h : N < (S + 1) * (S + 1)) (hV : V * V ≤ N) : V ≤ S := by
  refine Nat.le_of_not_lt fun hc => ?_
  have := Nat.mul_le_mul (show S + 1 ≤ V from hc) (show S + 1 ≤ V from hc)
  omega
theorem root_ge {S N V : Nat} (h : S * S ≤ N) (hV : V ≤ S) : V * V ≤ N := Nat.le_trans (Nat.mul_le_mul hV hV) h
theorem rootV_le_iff (S i j : Nat) : rootV S i j ≤ S ↔ j ≤ dig S i := by
  have hu := part_up S i
  unfold rootV
  rw [← Nat.le_div_iff_mul_le (p10 i), hu]
  omega
/-- The square of what stands in the row fits if the digit is not above the root's. -/
theorem root_fits {S N i j : Nat} (h1 : S * S ≤ N) (h2 : N < (S + 1) * (S + 1)) : rootV S i j * rootV S i j ≤ N ↔ j ≤ dig S i :=
  ⟨fun h => (rootV_le_iff S i j).1 (root_le h2 h), fun h => root_ge h1 ((rootV_le_iff S i j).2 h)⟩
theorem rootV_dig {S i j : Nat} (hj : j < 10) : ∀ p, partJ S i j p = dig (rootV S i j) p := by
  intro p
  unfold partJ partQ rootV dig
  by_cases hp : p < i
  · rw [if_neg (by omega), if_pos (by omega)]
    obtain ⟨d, rfl⟩ : ∃ d, i = p + 1 + d := ⟨i - (p + 1), by omega⟩
    generalize S / 10 ^ (p + 1 + d + 1) * 10 + j = M
    have e : M * 10 ^ (p + 1 + d) = 10 ^ p * (10 * (10 ^ d * M)) := by
      rw [Nat.pow_add, Nat.pow_succ]
      simp only [Nat.mul_comm, Nat.mul_left_comm, Nat.mul_assoc]
    rw [e, Nat.mul_div_cancel_left _ (p10 p), Nat.mul_mod_right]
  · obtain ⟨d, rfl⟩ : ∃ d, p = i + d := ⟨p - i, by omega⟩
    rw [Nat.pow_add, ← Nat.div_div_eq_div_mul (m := _ * 10 ^ i), Nat.mul_div_cancel _ (p10 i)]
    cases d with
    | zero => rw [if_pos (by omega), Nat.pow_zero, Nat.div_one]; omega
    | succ d =>
      rw [if_neg (by omega), if_neg (by omega), Nat.pow_succ 10 d, Nat.mul_comm (10 ^ d) 10, ← Nat.div_div_eq_div_mul (m := S / 10 ^ (i + 1) * 10 + j), show (S / 10 ^ (i + 1) * 10 + j) / 10 = S / 10 ^ (i + 1) by omega]
      rw [Nat.div_div_eq_div_mul, ← Nat.pow_add, ← Nat.mul_assoc, ← Nat.pow_succ, ← Nat.pow_add]
/-- The row is long enough. -/
theorem root_len {S N n : Nat} (h1 : S * S ≤ N) (hN : N < 10 ^ n) : S < 10 ^ (n / 2 + 1) := by
  refine Nat.lt_of_not_le fun hc => ?_
  have h2 := Nat.mul_le_mul hc hc
  rw [← Nat.pow_add] at h2
  have h3 : 10 ^ n ≤ 10 ^ (n / 2 + 1 + (n / 2 + 1)) := Nat.pow_le_pow_right (by decide) (by omega)
  omega
theorem rootV_lt {S i j m : Nat} (hS : S < 10 ^ m) (hi : i < m) (hj : j < 10) : rootV S i j < 10 ^ m := by
  obtain ⟨d, rfl⟩ : ∃ d, m = i + 1 + d := ⟨m - (i + 1), by omega⟩
  have h1 : S / 10 ^ (i + 1) < 10 ^ d := Nat.div_lt_of_lt_mul (by rw [← Nat.pow_add]; exact hS)
  unfold rootV
  generalize S / 10 ^ (i + 1) = K at *
  rw [show i + 1 + d = (d + 1) + i by omega, Nat.pow_add 10 (d + 1) i, Nat.pow_succ 10 d]
  exact Nat.mul_lt_mul_of_pos_right (by omega) (p10 i)

end Go.Proofs.YtpacbipencmjnaaDoor
