/- The walk of the law FxBack. -/
import Derived.Test.YtcnmilflfegliaaGreatDoorLsigns
namespace Go.Proofs.YtcnmilflfegliaaGreatDoor
open Go.RowKit

theorem flo_pos {a b : Int} (hb : 0 < b) : flo a b = a / b := if_pos hb

set_option maxRecDepth 100000 in
set_option maxHeartbeats 6400000 in
theorem FxBack_any (a b : Int) (w : World) (h1 : -9223372036854775808 ≤ a) (h2 : a ≤ 9223372036854775807) (h3 : -9223372036854775808 ≤ b) (h4 : b ≤ 9223372036854775807) (hG : Glob w) :
    Calls Tryz.prog 8 #[.int .i64 a, .int .i64 b] w (PVal (.bool true) w) := by
  go_enter Tryz.func8, Tryz.ntmps8
  go_wp2_with fail
  refine (fawake_any _ hG).mono ?_
  rintro e w0 ⟨rfl, hC⟩
  clear hG
  go_wp2_with fail
  refine (fixed_any a _).mono ?_
  rintro e w' ⟨rfl, rfl⟩
  go_wp2_with fail
  refine (fixed_any b _).mono ?_
  rintro e w' ⟨rfl, rfl⟩
  cases f1 : fixB a
  · go_wp2
    go_ret
    exact ⟨rfl, hC⟩
  cases f2 : fixB b
  · go_wp2
    go_ret
    exact ⟨rfl, hC⟩
  obtain ⟨ha1, ha2⟩ := fix_of f1
  obtain ⟨hb1, hb2⟩ := fix_of f2
  clear f1 f2 h1 h2 h3 h4
  rcases Int.lt_or_le 0 b with hb | hb
  · have HA := Lib.hid (cut_in ha1 ha2)
    have HB := Lib.hid (cut_in hb1 hb2)
    have hd0 : decide (b ≤ 0) = false := decide_eq_false (by omega)
    go_wp2_with fail
    refine (fxDiv_any a b _ (by omega)).mono ?_
    rintro e w1 ⟨rfl, hB⟩
    replace hC := hC.trans (hB.mono hC.size)
    clear hB
    rw [HA.out.1, HB.out.1, HA.out.2, HB.out.2, flo_pos hb]
    have hnb := cut_bd (a * 1048576 / b)
    have hq : cutB (a * 1048576 / b) = true ∨ (cutB (a * 1048576 / b) = false ∧ 0 ≤ a * 1048576 - cutI (a * 1048576 / b) * b ∧ a * 1048576 - cutI (a * 1048576 / b) * b < b) := by
      cases h : cutB (a * 1048576 / b)
      · refine .inr ⟨rfl, ?_⟩
        rw [cut_false h]
        have e1 := Int.mul_ediv_add_emod (a * 1048576) b
        have e2 := Int.emod_nonneg (a * 1048576) (Int.ne_of_gt hb)
        have e3 := Int.emod_lt_of_pos (a * 1048576) hb
        rw [Int.mul_comm b] at e1
        omega
      · exact .inl rfl
    generalize cutI (a * 1048576 / b) = n at *
    generalize cutB (a * 1048576 / b) = c at *
    have hm := mul_bd hnb.1 hnb.2 hb1 hb2
    obtain ⟨p, hp⟩ : ∃ p, n * b = p := ⟨_, rfl⟩
    obtain ⟨A, hA⟩ : ∃ A, a * 1048576 = A := ⟨_, rfl⟩
    rw [hp] at hq hm
    rw [hA] at hq
    obtain ⟨hm1, hm2⟩ := hm
    have hA1 : -2251799812636672 ≤ A := by omega
    have hA2 : A ≤ 2251799812636672 := by omega
    have HQ := Lib.hid hq
    clear hq hnb
    go_wp2_with fail
    refine (fxSqrt_pos b _ (by omega)).mono ?_
    rintro e w2 ⟨R, hr1, hr2, hr3, rfl, hB⟩
    replace hC := hC.trans (hB.mono hC.size)
    clear hB
    rw [HB.out.1] at hr1 hr2
    obtain ⟨D, hD⟩ : ∃ D, b * 1048576 = D := ⟨_, rfl⟩
    rw [hD] at hr1 hr2
    have hD1 : 0 ≤ D := by omega
    have hD2 : D ≤ 2251799812636672 := by omega
    obtain ⟨r, hr⟩ : ∃ r : Int, (R : Int) = r := ⟨_, rfl⟩
    obtain ⟨S, hS⟩ : ∃ S : Int, r * r = S := ⟨_, rfl⟩
    obtain ⟨T, hT⟩ : ∃ T : Int, (r + 1) * (r + 1) = T := ⟨_, rfl⟩
    have hS1 : S ≤ D := by
      have : ((R * R : Nat) : Int) ≤ (D.natAbs : Int) := by exact_mod_cast hr1
      rw [Int.natCast_mul, hr, hS] at this; omega
    have hT1 : D < T := by
      have : (D.natAbs : Int) < (((R + 1) * (R + 1) : Nat) : Int) := by exact_mod_cast hr2
      rw [Int.natCast_mul, Int.natCast_add, hr] at this
      have e1 : ((1 : Nat) : Int) = 1 := rfl
      rw [e1, hT] at this; omega
    have hr5 : 0 ≤ r := by omega
    have hr6 : r ≤ 47453132 := by omega
    have hS0 : 0 ≤ S := by rw [← hS]; exact Int.mul_nonneg hr5 hr5
    have hT2 : T ≤ 2300000000000000 := by
      have : (r + 1) * (r + 1) ≤ 47453133 * 47453133 := Int.mul_le_mul (by omega) (by omega) (by omega) (by omega)
      omega
    have hT0 : 0 ≤ T := by omega
    have d1 : decide (S ≤ D) = true := decide_eq_true hS1
    have d2 : decide (D < T) = true := decide_eq_true hT1
    clear hr1 hr2 hr3
    rw [hr]
    clear hr
    rcases HQ.out with hq | ⟨hq, hq1, hq2⟩
    · subst hq
      go_wp2
      go_ret
      exact ⟨rfl, hC⟩
    · subst hq
      have g1 : decide (0 ≤ A - p) = true := decide_eq_true hq1
      have g2 : decide (A - p < b) = true := decide_eq_true hq2
      go_wp2
      go_ret
      exact ⟨rfl, hC⟩
  · have hd : decide (b ≤ 0) = true := decide_eq_true hb
    go_wp2
    go_ret
    exact ⟨rfl, hC⟩
end Go.Proofs.YtcnmilflfegliaaGreatDoor
