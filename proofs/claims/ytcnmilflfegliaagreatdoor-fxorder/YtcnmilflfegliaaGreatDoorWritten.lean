/- The walk of written. -/
import Derived.Test.YtcnmilflfegliaaGreatDoorGroups
import Derived.Test.YtcnmilflfegliaaGreatDoorText
namespace Go.Proofs.YtcnmilflfegliaaGreatDoor
open Go.RowKit

theorem Tryz.u92 : Tryz.prog.underlying 92 = some (.slice 5) := by kernel_rfl
theorem Tryz.info5 : (Tryz.prog.info? 5).map (fun i => (i.zero, i.size, i.bytes)) = some (some (.int .u8 0), 1, 1) := by kernel_rfl

/-- The k-th digit, from the lowest one on. -/
def dig (N k : Nat) : Nat := N / 10 ^ k % 10
theorem dig_lt (N k : Nat) : dig N k < 10 := Nat.mod_lt _ (by decide)
/-- What is left of a group. -/
def gcur (N k : Nat) : Nat := if k % 9 = 0 then 0 else grp N (k / 9) / 10 ^ (k % 9)
theorem grp_dig (N k : Nat) : grp N (k / 9) / 10 ^ (k % 9) % 10 = dig N k ∧ grp N (k / 9) / 10 ^ (k % 9) / 10 = gcur N (k + 1) ∧ grp N (k / 9) / 10 ^ (k % 9) < 1000000000 := by
  have hk := Nat.div_add_mod k 9
  have hr := Nat.mod_lt k (show 0 < 9 by decide)
  generalize k / 9 = q at *
  generalize k % 9 = r at *
  have hg : grp N q < 1000000000 := Nat.mod_lt _ (by decide)
  refine ⟨?_, ?_, Nat.lt_of_le_of_lt (Nat.div_le_self _ _) hg⟩
  · have e1 : grp N q = N / 10 ^ (9 * q) % (10 ^ r * 10 ^ (9 - r)) := by
      unfold grp; rw [← Nat.pow_add, show r + (9 - r) = 9 from by omega, Nat.pow_mul]
    have e2 : dig N k = N / 10 ^ (9 * q) / 10 ^ r % 10 := by
      unfold dig; rw [Nat.div_div_eq_div_mul, ← Nat.pow_add, hk]
    rw [e1, e2, Nat.mod_mul_right_div_self]
    exact Nat.mod_mod_of_dvd _ ⟨10 ^ (8 - r), by rw [show 9 - r = (8 - r) + 1 from by omega, Nat.pow_succ, Nat.mul_comm]⟩
  · unfold gcur
    rw [Nat.div_div_eq_div_mul, ← Nat.pow_succ]
    by_cases h8 : r = 8
    · rw [if_pos (by omega), h8]
      exact Nat.div_eq_of_lt hg
    · rw [if_neg (by omega), show (k + 1) / 9 = q from by omega, show (k + 1) % 9 = r + 1 from by omega]

/-- The text's bytes: the upper k ones are not set yet. -/
def txtF (N K k : Nat) (p : Nat) : Nat := if K ≤ p + k then 48 + dig N (K - 1 - p) else 0
theorem txtF_next (N K k : Nat) : ∀ p, p < K → p ≠ K - 1 - k → txtF N K k p = txtF N K (k + 1) p := by
  intro p hp hne
  unfold txtF
  by_cases h : K ≤ p + k
  · rw [if_pos h, if_pos (by omega)]
  · rw [if_neg h, if_neg (by omega)]

end Go.Proofs.YtcnmilflfegliaaGreatDoor
