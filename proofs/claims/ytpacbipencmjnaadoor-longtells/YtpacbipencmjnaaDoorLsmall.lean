/- The walk of the law LongSmall. -/
import Derived.Test.YtpacbipencmjnaaDoorAwake
namespace Go.Proofs.YtpacbipencmjnaaDoor
open Go.RowKit

theorem tmod_in (a : Int) : -1999999999 ≤ a.tmod 2000000000 ∧ a.tmod 2000000000 ≤ 1999999999 := by
  rcases Int.le_total 0 a with h | h
  · rw [Int.tmod_eq_emod_of_nonneg h]; omega
  · have e : a.tmod 2000000000 = -((-a).tmod 2000000000) := by rw [Int.neg_tmod, Int.neg_neg]
    rw [e, Int.tmod_eq_emod_of_nonneg (by omega)]; omega
theorem tdiv_in (a : Int) (h1 : -9223372036854775808 ≤ a) (h2 : a ≤ 9223372036854775807) : -4611686018427387904 ≤ a.tdiv 2 ∧ a.tdiv 2 ≤ 4611686018427387903 := by
  rcases Int.le_total 0 a with h | h
  · rw [Int.tdiv_eq_ediv_of_nonneg h]; omega
  · have e : a.tdiv 2 = -((-a).tdiv 2) := by rw [Int.neg_tdiv, Int.neg_neg]
    rw [e, Int.tdiv_eq_ediv_of_nonneg (by omega)]; omega
theorem mul_in {x y : Int} (hx : -1999999999 ≤ x ∧ x ≤ 1999999999) (hy : -1999999999 ≤ y ∧ y ≤ 1999999999) : -4000000000000000000 ≤ x * y ∧ x * y ≤ 4000000000000000000 := by
  have h : (x * y).natAbs ≤ 1999999999 * 1999999999 := by rw [Int.natAbs_mul]; exact Nat.mul_le_mul (by omega) (by omega)
  omega
theorem small_in {z : Int} (h1 : -9223372036854775808 ≤ z) (h2 : z ≤ 9223372036854775807) : smallV z = z ∧ smallB z = true := by
  unfold smallV smallB
  exact ⟨if_pos ⟨h1, h2⟩, decide_eq_true ⟨h1, h2⟩⟩
theorem cmp_self (z : Int) : cmpI z z = 0 := by simp [cmpI]
theorem abs_lt {z : Int} (h1 : -9223372036854775808 ≤ z) (h2 : z ≤ 9223372036854775807) : z.natAbs < BB ^ 2 := two_lt (by omega)
theorem txt_short {z : Int} {l : List UInt8} (h : Txt z l) (hz : z.natAbs < BB ^ 2) : l.length ≤ 21 := by
  have hz' : z.natAbs < 18446744073709551616 := hz
  rcases parts_of h.1 with ⟨rfl, h1⟩ | ⟨d, rfl, h0, hp, h1⟩ | ⟨d, rfl, h0, hp, h1⟩
  · simp
  · have a1 := dval_ge hp.dig hp.ne hp.head
    rw [h.2] at h1
    have : 10 ^ (l.length - 1) < 10 ^ 20 := Nat.lt_of_le_of_lt a1 (by omega)
    have := (Nat.pow_lt_pow_iff_right (by decide : 1 < 10)).1 this
    omega
  · have a1 := dval_ge hp.dig hp.ne hp.head
    rw [h.2] at h1
    have : 10 ^ (d.length - 1) < 10 ^ 20 := Nat.lt_of_le_of_lt a1 (by omega)
    have := (Nat.pow_lt_pow_iff_right (by decide : 1 < 10)).1 this
    rw [List.length_cons]; omega

end Go.Proofs.YtpacbipencmjnaaDoor
