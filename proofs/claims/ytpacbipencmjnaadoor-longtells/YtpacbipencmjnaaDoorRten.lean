/- The document's numbers: what digits make. -/
import Derived.Test.YtpacbipencmjnaaDoorRbase
namespace Go.Proofs.YtpacbipencmjnaaDoor
open Go.RowKit

theorem tmod_succ (N i : Nat) : N % 10 ^ (i + 1) = N % 10 ^ i + 10 ^ i * dig N i := Nat.mod_pow_succ
theorem tcmp_len_lt {n m A B : Nat} (ha : Fit10 n A) (hb : Fit10 m B) (h : n < m) : cmpN A B = -1 := by
  have : A < B := by
    rcases hb.2 with h0 | h0
    · omega
    · have h1 : 10 ^ n ≤ 10 ^ (m - 1) := Nat.pow_le_pow_right (by decide : 0 < 10) (by omega)
      have := ha.1
      omega
  simp [cmpN, this]
theorem tcmp_len_gt {n m A B : Nat} (ha : Fit10 n A) (hb : Fit10 m B) (h : m < n) : cmpN A B = 1 := by
  have : B < A := by
    rcases ha.2 with h0 | h0
    · omega
    · have h1 : 10 ^ m ≤ 10 ^ (n - 1) := Nat.pow_le_pow_right (by decide : 0 < 10) (by omega)
      have := hb.1
      omega
  have h2 : ¬ A < B := by omega
  simp [cmpN, this, h2]
theorem tup_split (N k : Nat) : N / 10 ^ k = dig N k + 10 * (N / 10 ^ (k + 1)) := by
  unfold dig
  rw [Nat.pow_succ, ← Nat.div_div_eq_div_mul]
  exact (Nat.mod_add_div _ _).symm
theorem tcmp_up {A B k : Nat} (h : A / 10 ^ (k + 1) = B / 10 ^ (k + 1)) :
    (dig A k < dig B k → cmpN A B = -1) ∧ (dig B k < dig A k → cmpN A B = 1) ∧ (dig A k = dig B k → A / 10 ^ k = B / 10 ^ k) := by
  have ha := tup_split A k
  have hb := tup_split B k
  rw [h] at ha
  refine ⟨fun hl => ?_, fun hl => ?_, fun he => by rw [ha, hb, he]⟩
  · have h1 : A / 10 ^ k < B / 10 ^ k := by omega
    have h2 : A < B := Nat.lt_of_not_le fun hc => by have := Nat.div_le_div_right (c := 10 ^ k) hc; omega
    simp [cmpN, h2]
  · have h1 : B / 10 ^ k < A / 10 ^ k := by omega
    have h2 : B < A := Nat.lt_of_not_le fun hc => by have := Nat.div_le_div_right (c := 10 ^ k) hc; omega
    have h3 : ¬ A < B := by omega
    simp [cmpN, h2, h3]
theorem tcmp_all {A B : Nat} (h : A / 10 ^ 0 = B / 10 ^ 0) : cmpN A B = 0 := by
  simp at h; subst h; simp [cmpN]

/-- What a sum carries into its i-th part. -/
def tcy (A B i : Nat) : Nat := (A % 10 ^ i + B % 10 ^ i) / 10 ^ i
theorem tcy_zero (A B : Nat) : tcy A B 0 = 0 := by simp [tcy, Nat.mod_one]
theorem tcy_le (A B i : Nat) : tcy A B i ≤ 1 := by
  unfold tcy
  have h1 := Nat.mod_lt A (p10 i)
  have h2 := Nat.mod_lt B (p10 i)
  exact Nat.le_of_lt_succ (Nat.div_lt_of_lt_mul (by omega))
theorem tcy_step (A B i : Nat) : (tcy A B i + dig A i + dig B i) % 10 = dig (A + B) i ∧ (tcy A B i + dig A i + dig B i) / 10 = tcy A B (i + 1) := by
  have hP := p10 i
  have e1 : (A + B) / 10 ^ i = A / 10 ^ i + B / 10 ^ i + tcy A B i := by
    unfold tcy
    have ha := Nat.div_add_mod A (10 ^ i)
    have hb := Nat.div_add_mod B (10 ^ i)
    have hs : A + B = (A % 10 ^ i + B % 10 ^ i) + 10 ^ i * (A / 10 ^ i + B / 10 ^ i) := by rw [Nat.mul_add]; omega
    rw [hs, Nat.add_mul_div_left _ _ hP]; omega
  have e2 : (A % 10 ^ (i + 1) + B % 10 ^ (i + 1)) / 10 ^ i = tcy A B i + dig A i + dig B i := by
    rw [tmod_succ, tmod_succ]
    have hs : A % 10 ^ i + 10 ^ i * dig A i + (B % 10 ^ i + 10 ^ i * dig B i) = (A % 10 ^ i + B % 10 ^ i) + 10 ^ i * (dig A i + dig B i) := by rw [Nat.mul_add]; omega
    rw [hs, Nat.add_mul_div_left _ _ hP]; unfold tcy; omega
  constructor
  · show _ % 10 = _
    conv => rhs; unfold dig
    rw [e1]
    have ha : A / 10 ^ i % 10 = dig A i := rfl
    have hb : B / 10 ^ i % 10 = dig B i := rfl
    rw [← ha, ← hb]
    omega
  · show _ / 10 = _
    rw [← e2, Nat.div_div_eq_div_mul]; rfl
theorem tlmb_zero {B m i : Nat} (h : B < 10 ^ m) (hi : m ≤ i) : dig B i = 0 := by
  unfold dig
  rw [Nat.div_eq_of_lt (Nat.lt_of_lt_of_le h (Nat.pow_le_pow_right (by decide : 0 < 10) hi))]
theorem tcy_end {A B n : Nat} (ha : A < 10 ^ n) (hb : B < 10 ^ n) : tcy A B n = dig (A + B) n ∧ A + B < 10 ^ (n + 1) := by
  constructor
  · unfold tcy dig
    rw [Nat.mod_eq_of_lt ha, Nat.mod_eq_of_lt hb]
    refine (Nat.mod_eq_of_lt ?_).symm
    exact Nat.lt_of_le_of_lt (Nat.le_of_lt_succ (Nat.div_lt_of_lt_mul (by omega : A + B < 10 ^ n * 2))) (by decide)
  · rw [Nat.pow_succ]
    have : 10 ^ n * 2 ≤ 10 ^ n * 10 := Nat.mul_le_mul_left _ (by decide)
    omega
theorem tfit_mono {m n B : Nat} (h : B < 10 ^ m) (hm : m ≤ n) : B < 10 ^ n := Nat.lt_of_lt_of_le h (Nat.pow_le_pow_right (by decide : 0 < 10) hm)

/-- What a difference borrows from its i-th part. -/
def tbw (A B i : Nat) : Nat := if A % 10 ^ i < B % 10 ^ i then 1 else 0
theorem tbw_zero (A B : Nat) : tbw A B 0 = 0 := by simp [tbw, Nat.mod_one]
theorem tbw_le (A B i : Nat) : tbw A B i ≤ 1 := by unfold tbw; split <;> omega
theorem tbw_next (A B i : Nat) : tbw A B (i + 1) = if dig A i < tbw A B i + dig B i then 1 else 0 := by
  have h1 := Nat.mod_lt A (p10 i)
  have h2 := Nat.mod_lt B (p10 i)
  have key : A % 10 ^ (i + 1) < B % 10 ^ (i + 1) ↔ dig A i < tbw A B i + dig B i := by
    rw [tmod_succ, tmod_succ]
    unfold tbw
    generalize dig A i = a
    generalize dig B i = b
    generalize hP : 10 ^ i = P at *
    generalize A % P = x at *
    generalize B % P = y at *
    rcases Nat.lt_trichotomy a b with h | h | h
    · have := Nat.mul_le_mul_left P (show a + 1 ≤ b from h)
      rw [Nat.mul_add] at this
      split <;> omega
    · subst h; split <;> omega
    · have := Nat.mul_le_mul_left P (show b + 1 ≤ a from h)
      rw [Nat.mul_add] at this
      split <;> omega
  unfold tbw at key ⊢
  simp only [key]
theorem tbw_part {A B : Nat} (h : B ≤ A) (i : Nat) : dig (A - B) i = (dig A i + 20 - (tbw A B i + dig B i)) % 10 := by
  have h1 := Nat.mod_lt A (p10 i)
  have h2 := Nat.mod_lt B (p10 i)
  have ha := Nat.div_add_mod A (10 ^ i)
  have hb := Nat.div_add_mod B (10 ^ i)
  have hd : (A - B) / 10 ^ i = A / 10 ^ i - B / 10 ^ i - tbw A B i ∧ B / 10 ^ i + tbw A B i ≤ A / 10 ^ i := by
    have hle : B / 10 ^ i ≤ A / 10 ^ i := Nat.div_le_div_right h
    unfold tbw
    generalize hP : 10 ^ i = P at *
    generalize A % P = x at *
    generalize B % P = y at *
    generalize A / P = qa at *
    generalize B / P = qb at *
    obtain ⟨d, rfl⟩ := Nat.exists_eq_add_of_le hle
    rw [Nat.mul_add] at ha
    by_cases hxy : x < y
    · simp only [hxy, if_true]
      have hd : 1 ≤ d := by
        refine Nat.one_le_iff_ne_zero.2 fun h0 => ?_
        subst h0; simp at ha; omega
      obtain ⟨d', rfl⟩ := Nat.exists_eq_add_of_le hd
      rw [Nat.mul_add] at ha
      refine ⟨?_, by omega⟩
      rw [show A - B = (P + x - y) + P * d' from by omega, Nat.add_mul_div_left _ _ (by omega), Nat.div_eq_of_lt (by omega)]
      omega
    · simp only [hxy, if_false]
      refine ⟨?_, by omega⟩
      rw [show A - B = (x - y) + P * d from by omega, Nat.add_mul_div_left _ _ (by omega), Nat.div_eq_of_lt (by omega)]
      omega
  have hbw := tbw_le A B i
  unfold dig
  rw [hd.1]
  have := hd.2
  omega

end Go.Proofs.YtpacbipencmjnaaDoor
