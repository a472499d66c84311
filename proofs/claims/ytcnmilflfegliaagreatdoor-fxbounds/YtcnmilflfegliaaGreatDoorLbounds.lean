/- The walk of the law FxBounds. -/
import Derived.Test.YtcnmilflfegliaaGreatDoorLsigns
namespace Go.Proofs.YtcnmilflfegliaaGreatDoor
open Go.RowKit

theorem fix_root {R : Nat} (h : R ≤ 47453132) : fixB (R : Int) = true := by unfold fixB; simp; omega

theorem fxDiv_z (a b : Int) (w : World) (hb : b = 0) : Calls Tryz.prog 17 #[.int .i64 a, .int .i64 b] w (PVal3 (.int .i64 0) (.bool false) (.int .i64 11) w) := by
  subst hb; exact fxDiv_zero a w

set_option maxRecDepth 100000 in
set_option maxHeartbeats 12800000 in
theorem FxBounds_any (a b : Int) (w : World) (h1 : -9223372036854775808 ≤ a) (h2 : a ≤ 9223372036854775807) (h3 : -9223372036854775808 ≤ b) (h4 : b ≤ 9223372036854775807) (hG : Glob w) :
    Calls Tryz.prog 6 #[.int .i64 a, .int .i64 b] w (PVal (.bool true) w) := by
  go_enter Tryz.func6, Tryz.ntmps6
  go_wp2_with fail
  refine (fawake_any _ hG).mono ?_
  rintro e w0 ⟨rfl, hC⟩
  clear hG
  have HS : Hid (fixB a = true → fixB b = true → cutB (cutI a + cutI b) = false → cutI (cutI a + cutI b) = a + b) := fun f1 f2 h => by
    rw [cut_false h, (cut_in (fix_of f1).1 (fix_of f1).2).1, (cut_in (fix_of f2).1 (fix_of f2).2).1]
  have HD : Hid (fixB a = true → fixB b = true → cutB (cutI a - cutI b) = false → cutI (cutI a - cutI b) = a - b) := fun f1 f2 h => by
    rw [cut_false h, (cut_in (fix_of f1).1 (fix_of f1).2).1, (cut_in (fix_of f2).1 (fix_of f2).2).1]
  go_wp2_with fail
  refine (Clamp_any a _).mono ?_
  rintro e w1 ⟨rfl, hB⟩
  replace hC := hC.trans (hB.mono hC.size)
  clear hB
  rw [cutB_fix a]
  go_wp2_with fail
  refine (fxAdd_any a b _).mono ?_
  rintro e w2 ⟨rfl, hB⟩
  replace hC := hC.trans (hB.mono hC.size)
  clear hB
  rw [cutB_fix a, cutB_fix b]
  go_wp2_with fail
  refine (fxSub_any a b _).mono ?_
  rintro e w3 ⟨rfl, hB⟩
  replace hC := hC.trans (hB.mono hC.size)
  clear hB
  rw [cutB_fix a, cutB_fix b]
  go_wp2_with fail
  refine (fxMul_any a b _).mono ?_
  rintro e w4 ⟨rfl, hB⟩
  replace hC := hC.trans (hB.mono hC.size)
  clear hB
  rw [cutB_fix a, cutB_fix b]
  have fn := fix_cut a
  have fx := fix_cut (cutI a + cutI b)
  have fy := fix_cut (cutI a - cutI b)
  have fz := fix_cut (flo (cutI a * cutI b) 1048576)
  generalize cutB (flo (cutI a * cutI b) 1048576) = cz at *
  generalize cutI (flo (cutI a * cutI b) 1048576) = z at *
  generalize cutB (cutI a + cutI b) = cx at *
  generalize cutB (cutI a - cutI b) = cy at *
  generalize cutI (cutI a + cutI b) = x at *
  generalize cutI (cutI a - cutI b) = y at *
  by_cases hb : b = 0
  · have db : (b == 0) = true := by simpa using hb
    have db2 : (b != 0) = false := by simpa using hb
    have HB0 := Lib.hid hb
    clear hb
    go_wp2_with fail
    refine (fxDiv_z a b _ HB0.out).mono ?_
    rintro e w5 ⟨rfl, hB⟩
    replace hC := hC.trans (hB.mono hC.size)
    clear hB
    have fw : fixB 0 = true := rfl
    rcases Int.lt_or_le a 0 with ha | ha
    · have d1 : decide (a < 0) = true := decide_eq_true ha
      have d2 : decide (0 ≤ a) = false := decide_eq_false (by omega)
      go_wp2_with fail
      refine (fxSqrt_neg a _ ha).mono ?_
      rintro e w6 ⟨rfl, hB⟩
      replace hC := hC.trans (hB.mono hC.size)
      clear hB
      have fv : fixB 0 = true := rfl
      cases f1 : fixB a
      · cases f2 : fixB b
        all_goals
          go_wp2_with (first | (go_at_call 26; (with_reducible refine (fixed_any _ _).mono ?_); rintro e w' ⟨rfl, rfl⟩))
          go_ret
          exact ⟨rfl, hC⟩
      cases f2 : fixB b
      · go_wp2_with (first | (go_at_call 26; (with_reducible refine (fixed_any _ _).mono ?_); rintro e w' ⟨rfl, rfl⟩))
        go_ret
        exact ⟨rfl, hC⟩
      obtain ⟨a1, a2⟩ := fix_of f1
      obtain ⟨b1, b2⟩ := fix_of f2
      have HS' := Lib.hid (HS.out f1 f2)
      have HD' := Lib.hid (HD.out f1 f2)
      clear HS HD
      cases cx
      · have ex : (x == a + b) = true := by rw [HS'.out rfl]; simp
        cases cy
        · have ey : (y == a - b) = true := by rw [HD'.out rfl]; simp
          go_wp2_with (first | (go_at_call 26; (with_reducible refine (fixed_any _ _).mono ?_); rintro e w' ⟨rfl, rfl⟩))
          go_ret
          exact ⟨rfl, hC⟩
        · go_wp2_with (first | (go_at_call 26; (with_reducible refine (fixed_any _ _).mono ?_); rintro e w' ⟨rfl, rfl⟩))
          go_ret
          exact ⟨rfl, hC⟩
      · cases cy
        · have ey : (y == a - b) = true := by rw [HD'.out rfl]; simp
          go_wp2_with (first | (go_at_call 26; (with_reducible refine (fixed_any _ _).mono ?_); rintro e w' ⟨rfl, rfl⟩))
          go_ret
          exact ⟨rfl, hC⟩
        · go_wp2_with (first | (go_at_call 26; (with_reducible refine (fixed_any _ _).mono ?_); rintro e w' ⟨rfl, rfl⟩))
          go_ret
          exact ⟨rfl, hC⟩
    · have d1 : decide (a < 0) = false := decide_eq_false (by omega)
      have d2 : decide (0 ≤ a) = true := decide_eq_true ha
      go_wp2_with fail
      refine (fxSqrt_pos a _ ha).mono ?_
      rintro e w6 ⟨R, hr1, hr2, hr3, rfl, hB⟩
      replace hC := hC.trans (hB.mono hC.size)
      have fv := fix_root hr3
      clear hB hr1 hr2 hr3
      rw [cutB_fix a]
      generalize (R : Int) = r at *
      cases f1 : fixB a
      · cases f2 : fixB b
        all_goals
          go_wp2_with (first | (go_at_call 26; (with_reducible refine (fixed_any _ _).mono ?_); rintro e w' ⟨rfl, rfl⟩))
          go_ret
          exact ⟨rfl, hC⟩
      cases f2 : fixB b
      · go_wp2_with (first | (go_at_call 26; (with_reducible refine (fixed_any _ _).mono ?_); rintro e w' ⟨rfl, rfl⟩))
        go_ret
        exact ⟨rfl, hC⟩
      obtain ⟨a1, a2⟩ := fix_of f1
      obtain ⟨b1, b2⟩ := fix_of f2
      have HS' := Lib.hid (HS.out f1 f2)
      have HD' := Lib.hid (HD.out f1 f2)
      clear HS HD
      cases cx
      · have ex : (x == a + b) = true := by rw [HS'.out rfl]; simp
        cases cy
        · have ey : (y == a - b) = true := by rw [HD'.out rfl]; simp
          go_wp2_with (first | (go_at_call 26; (with_reducible refine (fixed_any _ _).mono ?_); rintro e w' ⟨rfl, rfl⟩))
          go_ret
          exact ⟨rfl, hC⟩
        · go_wp2_with (first | (go_at_call 26; (with_reducible refine (fixed_any _ _).mono ?_); rintro e w' ⟨rfl, rfl⟩))
          go_ret
          exact ⟨rfl, hC⟩
      · cases cy
        · have ey : (y == a - b) = true := by rw [HD'.out rfl]; simp
          go_wp2_with (first | (go_at_call 26; (with_reducible refine (fixed_any _ _).mono ?_); rintro e w' ⟨rfl, rfl⟩))
          go_ret
          exact ⟨rfl, hC⟩
        · go_wp2_with (first | (go_at_call 26; (with_reducible refine (fixed_any _ _).mono ?_); rintro e w' ⟨rfl, rfl⟩))
          go_ret
          exact ⟨rfl, hC⟩
  · have db : (b == 0) = false := by simpa using hb
    have db2 : (b != 0) = true := by simpa using hb
    go_wp2_with fail
    refine (fxDiv_any a b _ hb).mono ?_
    rintro e w5 ⟨rfl, hB⟩
    replace hC := hC.trans (hB.mono hC.size)
    clear hB
    rw [cutB_fix a, cutB_fix b]
    have fw := fix_cut (flo (cutI a * 1048576) (cutI b))
    generalize cutB (flo (cutI a * 1048576) (cutI b)) = cw at *
    generalize cutI (flo (cutI a * 1048576) (cutI b)) = v at *
    rcases Int.lt_or_le a 0 with ha | ha
    · have d1 : decide (a < 0) = true := decide_eq_true ha
      have d2 : decide (0 ≤ a) = false := decide_eq_false (by omega)
      go_wp2_with fail
      refine (fxSqrt_neg a _ ha).mono ?_
      rintro e w6 ⟨rfl, hB⟩
      replace hC := hC.trans (hB.mono hC.size)
      clear hB
      have fv : fixB 0 = true := rfl
      cases f1 : fixB a
      · cases f2 : fixB b
        all_goals
          go_wp2_with (first | (go_at_call 26; (with_reducible refine (fixed_any _ _).mono ?_); rintro e w' ⟨rfl, rfl⟩))
          go_ret
          exact ⟨rfl, hC⟩
      cases f2 : fixB b
      · go_wp2_with (first | (go_at_call 26; (with_reducible refine (fixed_any _ _).mono ?_); rintro e w' ⟨rfl, rfl⟩))
        go_ret
        exact ⟨rfl, hC⟩
      obtain ⟨a1, a2⟩ := fix_of f1
      obtain ⟨b1, b2⟩ := fix_of f2
      have HS' := Lib.hid (HS.out f1 f2)
      have HD' := Lib.hid (HD.out f1 f2)
      clear HS HD
      cases cx
      · have ex : (x == a + b) = true := by rw [HS'.out rfl]; simp
        cases cy
        · have ey : (y == a - b) = true := by rw [HD'.out rfl]; simp
          go_wp2_with (first | (go_at_call 26; (with_reducible refine (fixed_any _ _).mono ?_); rintro e w' ⟨rfl, rfl⟩))
          go_ret
          exact ⟨rfl, hC⟩
        · go_wp2_with (first | (go_at_call 26; (with_reducible refine (fixed_any _ _).mono ?_); rintro e w' ⟨rfl, rfl⟩))
          go_ret
          exact ⟨rfl, hC⟩
      · cases cy
        · have ey : (y == a - b) = true := by rw [HD'.out rfl]; simp
          go_wp2_with (first | (go_at_call 26; (with_reducible refine (fixed_any _ _).mono ?_); rintro e w' ⟨rfl, rfl⟩))
          go_ret
          exact ⟨rfl, hC⟩
        · go_wp2_with (first | (go_at_call 26; (with_reducible refine (fixed_any _ _).mono ?_); rintro e w' ⟨rfl, rfl⟩))
          go_ret
          exact ⟨rfl, hC⟩
    · have d1 : decide (a < 0) = false := decide_eq_false (by omega)
      have d2 : decide (0 ≤ a) = true := decide_eq_true ha
      go_wp2_with fail
      refine (fxSqrt_pos a _ ha).mono ?_
      rintro e w6 ⟨R, hr1, hr2, hr3, rfl, hB⟩
      replace hC := hC.trans (hB.mono hC.size)
      have fv := fix_root hr3
      clear hB hr1 hr2 hr3
      rw [cutB_fix a]
      generalize (R : Int) = r at *
      cases f1 : fixB a
      · cases f2 : fixB b
        all_goals
          go_wp2_with (first | (go_at_call 26; (with_reducible refine (fixed_any _ _).mono ?_); rintro e w' ⟨rfl, rfl⟩))
          go_ret
          exact ⟨rfl, hC⟩
      cases f2 : fixB b
      · go_wp2_with (first | (go_at_call 26; (with_reducible refine (fixed_any _ _).mono ?_); rintro e w' ⟨rfl, rfl⟩))
        go_ret
        exact ⟨rfl, hC⟩
      obtain ⟨a1, a2⟩ := fix_of f1
      obtain ⟨b1, b2⟩ := fix_of f2
      have HS' := Lib.hid (HS.out f1 f2)
      have HD' := Lib.hid (HD.out f1 f2)
      clear HS HD
      cases cx
      · have ex : (x == a + b) = true := by rw [HS'.out rfl]; simp
        cases cy
        · have ey : (y == a - b) = true := by rw [HD'.out rfl]; simp
          go_wp2_with (first | (go_at_call 26; (with_reducible refine (fixed_any _ _).mono ?_); rintro e w' ⟨rfl, rfl⟩))
          go_ret
          exact ⟨rfl, hC⟩
        · go_wp2_with (first | (go_at_call 26; (with_reducible refine (fixed_any _ _).mono ?_); rintro e w' ⟨rfl, rfl⟩))
          go_ret
          exact ⟨rfl, hC⟩
      · cases cy
        · have ey : (y == a - b) = true := by rw [HD'.out rfl]; simp
          go_wp2_with (first | (go_at_call 26; (with_reducible refine (fixed_any _ _).mono ?_); rintro e w' ⟨rfl, rfl⟩))
          go_ret
          exact ⟨rfl, hC⟩
        · go_wp2_with (first | (go_at_call 26; (with_reducible refine (fixed_any _ _).mono ?_); rintro e w' ⟨rfl, rfl⟩))
          go_ret
          exact ⟨rfl, hC⟩
end Go.Proofs.YtcnmilflfegliaaGreatDoor
