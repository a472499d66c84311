/- The document's long division, digit by digit: what one digit does to the rest and to the quotient (no walk). -/
import Derived.Test.YtpacbipencmjnaaDoorRof
namespace Go.Proofs.YtpacbipencmjnaaDoor
open Go.RowKit

/-- What stands over the divisor when digit i has been brought down. -/
def partS (A B i : Nat) : Nat := 10 * (A / 10 ^ (i + 1) % B) + dig A i
/-- The quotient's row when the digits from i on are reckoned. -/
def partQ (Q i p : Nat) : Nat := if p < i then 0 else dig Q p
/-- The same within digit i, when the divisor has been taken off j times. -/
def partJ (Q i j p : Nat) : Nat := if p = i then j else partQ Q (i + 1) p

theorem part_up (A i : Nat) : A / 10 ^ i = 10 * (A / 10 ^ (i + 1)) + dig A i := by
  unfold dig
  rw [← div10]
  omega
theorem partS_lt {A B i : Nat} (hB : 0 < B) : partS A B i < 10 * B := by
  have h1 := Nat.mod_lt (A / 10 ^ (i + 1)) hB
  have h2 := dig_lt A i
  unfold partS
  omega
theorem part_whole (A B i : Nat) : A / 10 ^ i = partS A B i + B * (10 * (A / 10 ^ (i + 1) / B)) := by
  have h1 := part_up A i
  have h2 := Nat.div_add_mod (A / 10 ^ (i + 1)) B
  have h3 : B * (10 * (A / 10 ^ (i + 1) / B)) = 10 * (B * (A / 10 ^ (i + 1) / B)) := Nat.mul_left_comm _ _ _
  unfold partS
  omega
theorem partS_mod (A B i : Nat) : partS A B i % B = A / 10 ^ i % B := by
  rw [part_whole A B i, Nat.add_mul_mod_self_left]
theorem partS_div {A B i : Nat} (hB : 0 < B) : partS A B i / B = dig (A / B) i := by
  have h1 : partS A B i / B < 10 := Nat.div_lt_of_lt_mul (by rw [Nat.mul_comm]; exact partS_lt hB)
  have h2 : A / B / 10 ^ i = partS A B i / B + 10 * (A / 10 ^ (i + 1) / B) := by
    rw [Nat.div_div_eq_div_mul, Nat.mul_comm, ← Nat.div_div_eq_div_mul, part_whole A B i, Nat.add_mul_div_left _ _ hB]
  unfold dig
  rw [h2, Nat.add_mul_mod_self_left, Nat.mod_eq_of_lt h1]
/-- A round within a digit: the divisor is taken off once more. -/
theorem part_more {S B j : Nat} (h : B ≤ S - j * B) (hj : j * B ≤ S) : (j + 1) * B ≤ S ∧ S - j * B - B = S - (j + 1) * B := by
  rw [Nat.add_mul, Nat.one_mul]
  omega
theorem part_few {A B i j : Nat} (hB : 0 < B) (hj : j * B ≤ partS A B i) : j < 10 := by
  have h1 := partS_lt (A := A) (i := i) hB
  exact Nat.lt_of_mul_lt_mul_right (Nat.lt_of_le_of_lt hj h1)
/-- The end of a digit. -/
theorem part_last {A B i j : Nat} (hB : 0 < B) (hj : j * B ≤ partS A B i) (h : partS A B i - j * B < B) : j = dig (A / B) i ∧ partS A B i - j * B = A / 10 ^ i % B := by
  have e : partS A B i = (partS A B i - j * B) + B * j := by rw [Nat.mul_comm B]; omega
  constructor
  · rw [← partS_div hB, e, Nat.add_mul_div_left _ _ hB, Nat.div_eq_of_lt h, Nat.zero_add]
  · rw [← partS_mod A B i, e, Nat.add_mul_mod_self_left, Nat.mod_eq_of_lt h, ← e]
theorem part_first {A B n : Nat} (hA : A < 10 ^ n) : A / 10 ^ n % B = 0 := by rw [Nat.div_eq_of_lt hA, Nat.zero_mod]
theorem partQ_start (Q n : Nat) : ∀ p, p < n → partQ Q n p = 0 := fun p hp => by unfold partQ; rw [if_pos hp]
theorem partQ_end (Q n : Nat) : ∀ p, p < n → partQ Q 0 p = dig Q p := fun p _ => by unfold partQ; rw [if_neg (Nat.not_lt_zero p)]
theorem partJ_start (Q i n : Nat) : ∀ p, p < n → partQ Q (i + 1) p = partJ Q i 0 p := fun p _ => by
  unfold partJ
  split
  · next h => unfold partQ; rw [if_pos (by omega)]
  · rfl
theorem partJ_more (Q i j j' n : Nat) : ∀ p, p < n → p ≠ i → partJ Q i j p = partJ Q i j' p := fun p _ hne => by
  unfold partJ
  rw [if_neg hne, if_neg hne]
theorem partJ_at (Q i j : Nat) : partJ Q i j i = j := by unfold partJ; rw [if_pos rfl]
theorem partJ_end (Q i n : Nat) : ∀ p, p < n → partJ Q i (dig Q i) p = partQ Q i p := fun p _ => by
  unfold partJ partQ
  split
  · next h => rw [if_neg (by omega), h]
  · next h =>
    by_cases h1 : p < i
    · rw [if_pos (by omega), if_pos h1]
    · rw [if_neg (by omega), if_neg h1]
/-- The rest with a digit brought down: its digits. -/
theorem part_dig (R x : Nat) (hx : x < 10) : ∀ p, dig (10 * R + x) p = if p = 0 then x else dig R (p - 1) := by
  intro p
  unfold dig
  cases p with
  | zero => rw [if_pos rfl, Nat.pow_zero, Nat.div_one]; omega
  | succ p =>
    rw [if_neg (Nat.succ_ne_zero p), Nat.add_sub_cancel, Nat.pow_succ, Nat.mul_comm (10 ^ p), ← Nat.div_div_eq_div_mul]
    rw [show (10 * R + x) / 10 = R by omega]
theorem part_fit {R x n : Nat} (hx : x < 10) (h : R < 10 ^ n) : 10 * R + x < 10 ^ (n + 1) := by rw [Nat.pow_succ]; omega

end Go.Proofs.YtpacbipencmjnaaDoor
