/- Fixed numbers: what the digits of a text are, as numbers. -/
import Derived.Test.YtcnmilflfegliaaGreatDoorFread
namespace Go.Proofs.YtcnmilflfegliaaGreatDoor
open Go.RowKit

theorem dval_48 (l : List UInt8) : dval (48 :: l) = dval l := by
  unfold dval; rw [dvalF_cons]; rfl
theorem dval_drop48 (l : List UInt8) : dval (l.dropWhile (· == 48)) = dval l := by
  induction l with
  | nil => rfl
  | cons c l ih =>
    rw [List.dropWhile_cons]
    by_cases h : c = 48
    · subst h; rw [dval_48]; simpa using ih
    · simp [h]
theorem drop48_dig {l : List UInt8} (h : digB l = true) : digB (l.dropWhile (· == 48)) = true := by
  unfold digB at h ⊢
  rw [List.all_eq_true] at h ⊢
  exact fun c hc => h c ((List.dropWhile_sublist _).mem hc)
theorem not45 {c : UInt8} (h : isDig c = true) : (45 : UInt8) ≠ c := by
  intro e; subst e; exact absurd h (by decide)
theorem pB_dig {l : List UInt8} (h : digB l = true) : pB l = false := by
  unfold pB Lib.hasPrefix
  cases l with
  | nil => rfl
  | cons c l =>
    have hc : isDig c = true := by unfold digB at h; rw [List.all_cons, Bool.and_eq_true] at h; exact h.1
    simp only [List.isPrefixOf, Bool.and_true, beq_eq_false_iff_ne]
    exact not45 hc
theorem pD_dig {l : List UInt8} (h : digB l = true) : pD l = l := by
  have := pB_dig h
  unfold pD Lib.trimPrefix
  unfold pB at this
  rw [this]; rfl
theorem head_drop48 {l : List UInt8} : (l.dropWhile (· == 48)).head? ≠ some 48 := by
  induction l with
  | nil => simp
  | cons c l ih =>
    rw [List.dropWhile_cons]
    by_cases h : c = 48
    · subst h; simpa using ih
    · simp [h]
theorem wn_parses {d : List UInt8} (h : digB d = true) : parsesB (wnL d) = true ∧ zval (wnL d) = dval d ∧ digB (wnL d) = true := by
  unfold wnL
  have hv := dval_drop48 d
  have hd := drop48_dig h
  have hh := @head_drop48 d
  by_cases h0 : (d.dropWhile (· == 48)).isEmpty = true
  · rw [if_pos h0]
    rw [List.isEmpty_iff.1 h0] at hv
    refine ⟨by decide, ?_, by decide⟩
    rw [← hv]; decide
  · rw [if_neg h0]
    generalize d.dropWhile (· == 48) = e at *
    refine ⟨?_, ?_, hd⟩
    · unfold parsesB wwB
      rw [pB_dig hd, pD_dig hd]
      have h1 : e.isEmpty = false := by simpa using h0
      have h2 : (e.head? != some 48) = true := by simpa using hh
      have h3 : e.all isDig = true := hd
      rw [h1, h2, h3]; rfl
    · unfold zval
      rw [pB_dig hd, pD_dig hd, hv]; rfl
theorem rep_dig (k : Nat) : digB (Lib.repeatL [48] k) = true ∧ dval (Lib.repeatL [48] k) = 0 ∧ (Lib.repeatL [48] k).length = k := by
  induction k with
  | zero => exact ⟨rfl, rfl, rfl⟩
  | succ k ih =>
    have e : Lib.repeatL [48] (k + 1) = 48 :: Lib.repeatL [48] k := rfl
    rw [e]
    refine ⟨?_, by rw [dval_48]; exact ih.2.1, by rw [List.length_cons, ih.2.2]⟩
    have := ih.1
    unfold digB at this ⊢
    rw [List.all_cons, this]; decide
theorem ten_parses (k : Nat) : parsesB (49 :: Lib.repeatL [48] k) = true ∧ zval (49 :: Lib.repeatL [48] k) = ((10 ^ k : Nat) : Int) := by
  obtain ⟨h1, h2, h3⟩ := rep_dig k
  have hd : digB (49 :: Lib.repeatL [48] k) = true := by
    unfold digB at h1 ⊢
    rw [List.all_cons, h1]; decide
  refine ⟨?_, ?_⟩
  · unfold parsesB wwB
    rw [pB_dig hd, pD_dig hd]
    have h3 : (49 :: Lib.repeatL [48] k).all isDig = true := hd
    rw [h3]; rfl
  · unfold zval
    rw [pB_dig hd, pD_dig hd]
    show ((dval (49 :: Lib.repeatL [48] k) : Nat) : Int) = _
    rw [show 49 :: Lib.repeatL [48] k = [49] ++ Lib.repeatL [48] k from rfl, dval_append, h2, h3]
    show ((1 * 10 ^ k + 0 : Nat) : Int) = _
    rw [Nat.one_mul, Nat.add_zero]
theorem digB_app {a b : List UInt8} : digB (a ++ b) = (digB a && digB b) := by unfold digB; exact List.all_append
theorem dig_bd {d : List UInt8} (h : digB d = true) : dval d < BB ^ d.length := Nat.lt_of_lt_of_le (dval_lt d h) (Nat.pow_le_pow_left (by decide) _)
end Go.Proofs.YtcnmilflfegliaaGreatDoor
