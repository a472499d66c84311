/- Sines and cosines: the numbers of the sums. No statement of the seat is proved here. -/
import Derived.Test.YtohdfialnaegcaaBxs
namespace Go.Proofs.Ytohdfialnaegcaa
open Go.RowKit

theorem below_nw (w : World) (o : Obj) : Below w.heap.size w (w.alloc o) := (Below.refl _ _).alloc (Nat.le_refl _) _
/-- How many times a factorial is in that of one d greater. -/
def grN (a : Nat) : Nat → Nat
  | 0 => 1
  | d + 1 => grN a d * (a + d + 1)
def mN (c k : Nat) : Nat := 1048576 * grN (c + 2 * k) 2
/-- What the last term is over; the sum's upper part. -/
def uN (c : Nat) : Nat → Nat
  | 0 => grN 0 c
  | k + 1 => uN c k * mN c k
def tV (c : Nat) (n : Int) : Nat → Int
  | 0 => 1
  | k + 1 => tV c n k * (mN c k : Nat) + (-n) ^ (k + 1)
theorem gr2 (a : Nat) : grN a 2 = (a + 1) * (a + 2) := by simp [grN]
theorem gr2_le {a : Nat} (h : a ≤ 30) : grN a 2 ≤ 1000 := by
  rw [gr2]
  exact Nat.le_trans (Nat.mul_le_mul (show a + 1 ≤ 31 by omega) (show a + 2 ≤ 31 + 1 by omega)) (by decide)
theorem mN_lt {c k : Nat} (hc : c ≤ 2) (hk : k ≤ 12) : mN c k ≤ 1048576000 := by
  have := gr2_le (a := c + 2 * k) (by omega)
  unfold mN
  omega
theorem gr_pos (a : Nat) : ∀ d, 0 < grN a d
  | 0 => Nat.one_pos
  | d + 1 => Nat.mul_pos (gr_pos a d) (by omega)
theorem mN_pos (c k : Nat) : 0 < mN c k := Nat.mul_pos (by decide) (gr_pos _ _)
theorem uN_pos (c : Nat) : ∀ k, 0 < uN c k
  | 0 => gr_pos _ _
  | k + 1 => Nat.mul_pos (uN_pos c k) (mN_pos c k)
theorem gr_two {c : Nat} (hc : c ≤ 2) : grN 0 c ≤ 2 := by
  rcases (by omega : c = 0 ∨ c = 1 ∨ c = 2) with rfl | rfl | rfl <;> decide
theorem uN_lt {c k : Nat} (hc : c ≤ 2) (hk : k ≤ 12) : uN c k < BB ^ (k + 1) := by
  induction k with
  | zero => exact Nat.lt_of_le_of_lt (gr_two hc) (by decide)
  | succ k ih =>
    have h1 := ih (by omega)
    have h2 := mN_lt hc (show k ≤ 12 by omega)
    rw [Nat.pow_succ]
    exact Nat.mul_lt_mul_of_lt_of_le h1 (Nat.le_trans h2 (by decide)) (by decide)
theorem pw_lt {n : Int} (h0 : 0 ≤ n) (h1 : n ≤ 4194304) (k : Nat) : ((-n) ^ k).natAbs ≤ 4194304 ^ k := by
  induction k with
  | zero => simp
  | succ k ih =>
    rw [Int.pow_succ, Int.natAbs_mul, Nat.pow_succ]
    exact Nat.mul_le_mul ih (by omega)
theorem pw_bd {n : Int} (h0 : 0 ≤ n) (h1 : n ≤ 4194304) (k : Nat) : ((-n) ^ k).natAbs < BB ^ (k + 1) := by
  refine Nat.lt_of_le_of_lt (pw_lt h0 h1 k) ?_
  rw [Nat.pow_succ]
  have : 4194304 ^ k ≤ BB ^ k := Nat.pow_le_pow_left (by decide) k
  have h2 : 0 < BB ^ k := Nat.pow_pos (by decide)
  have h3 : BB ^ k * 2 ≤ BB ^ k * BB := Nat.mul_le_mul (Nat.le_refl _) (by decide)
  omega
theorem tV_bd {c k : Nat} {n : Int} (h0 : 0 ≤ n) (h1 : n ≤ 4194304) (hc : c ≤ 2) (hk : k ≤ 12) : (tV c n k).natAbs < BB ^ (k + 1) := by
  induction k with
  | zero => show 1 < _; decide
  | succ k ih =>
    have h2 := ih (by omega)
    have h3 := mN_lt hc (show k ≤ 12 by omega)
    have h4 := pw_lt h0 h1 (k + 1)
    have h5 : 4194304 ^ (k + 1) ≤ BB ^ (k + 1) := Nat.pow_le_pow_left (by decide) _
    show (tV c n k * (mN c k : Nat) + (-n) ^ (k + 1)).natAbs < _
    have h6 : (tV c n k * (mN c k : Nat)).natAbs ≤ BB ^ (k + 1) * 1048576000 := by
      rw [Int.natAbs_mul]
      exact Nat.mul_le_mul (by omega) h3
    have h7 : BB ^ (k + 1 + 1) = BB ^ (k + 1) * BB := Nat.pow_succ ..
    have h8 : 0 < BB ^ (k + 1) := Nat.pow_pos (by decide)
    have h9 : BB ^ (k + 1) * 1048576002 ≤ BB ^ (k + 1) * BB := Nat.mul_le_mul (Nat.le_refl _) (by decide)
    have := Int.natAbs_add_le (tV c n k * (mN c k : Nat)) ((-n) ^ (k + 1))
    generalize BB ^ (k + 1) = P at *
    omega
/-- Sums are not great: the number of terms times a power of 4. -/
theorem tV_u {c k : Nat} {n : Int} (h0 : 0 ≤ n) (h1 : n ≤ 4194304) (hc : c ≤ 2) (hk : k ≤ 12) : (tV c n k).natAbs ≤ (k + 1) * 4 ^ k * uN c k := by
  have hp : ∀ j, 1048576 ^ j ≤ uN c j := by
    intro j
    induction j with
    | zero => exact gr_pos _ _
    | succ j ih => exact Nat.mul_le_mul ih (Nat.le_mul_of_pos_right _ (gr_pos _ _))
  induction k with
  | zero => show 1 ≤ _; have := uN_pos c 0; omega
  | succ k ih =>
    have h2 := ih (by omega)
    have h4 := pw_lt h0 h1 (k + 1)
    have h5 : 4194304 ^ (k + 1) = 4 ^ (k + 1) * 1048576 ^ (k + 1) := by rw [← Nat.mul_pow]
    have h6 := Nat.mul_le_mul (Nat.le_refl (4 ^ (k + 1))) (hp (k + 1))
    have h7 : (tV c n k * (mN c k : Nat)).natAbs ≤ (k + 1) * 4 ^ k * uN c k * mN c k := by
      rw [Int.natAbs_mul]
      exact Nat.mul_le_mul h2 (Nat.le_refl _)
    have h8 : (k + 1) * 4 ^ k * uN c k * mN c k ≤ (k + 1) * 4 ^ (k + 1) * uN c (k + 1) := by
      show _ ≤ (k + 1) * 4 ^ (k + 1) * (uN c k * mN c k)
      rw [Nat.mul_assoc]
      exact Nat.mul_le_mul (Nat.mul_le_mul (Nat.le_refl _) (Nat.pow_le_pow_right (by decide) (by omega))) (Nat.le_refl _)
    show (tV c n k * (mN c k : Nat) + (-n) ^ (k + 1)).natAbs ≤ (k + 1 + 1) * 4 ^ (k + 1) * uN c (k + 1)
    have := Int.natAbs_add_le (tV c n k * (mN c k : Nat)) ((-n) ^ (k + 1))
    have h9 : (k + 1 + 1) * 4 ^ (k + 1) * uN c (k + 1) = (k + 1) * 4 ^ (k + 1) * uN c (k + 1) + 4 ^ (k + 1) * uN c (k + 1) := by rw [Nat.add_mul (k + 1), Nat.add_mul, Nat.one_mul]
    omega
end Go.Proofs.Ytohdfialnaegcaa
