/- The walk of the law FxOrder. -/
import Derived.Test.YtcnmilflfegliaaGreatDoorLsigns
namespace Go.Proofs.YtcnmilflfegliaaGreatDoor
open Go.RowKit

theorem root_le {R S A B : Nat} (h : A ≤ B) (h1 : R * R ≤ A) (h2 : B < (S + 1) * (S + 1)) : R ≤ S := by
  refine Nat.le_of_not_lt fun hlt => ?_
  have := Nat.mul_le_mul (show S + 1 ≤ R from hlt) (show S + 1 ≤ R from hlt)
  omega
theorem mul_le {x y z : Int} (h : x ≤ y) (hz : 0 ≤ z) : x * z / 1048576 ≤ y * z / 1048576 := by
  have := Int.mul_le_mul_of_nonneg_right h hz
  omega

set_option maxRecDepth 100000 in
set_option maxHeartbeats 6400000 in
theorem FxOrder_any (a b c : Int) (w : World) (h1 : -9223372036854775808 ≤ a) (h2 : a ≤ 9223372036854775807) (h3 : -9223372036854775808 ≤ b) (h4 : b ≤ 9223372036854775807) (h5 : -9223372036854775808 ≤ c) (h6 : c ≤ 9223372036854775807) (hG : Glob w) :
    Calls Tryz.prog 7 #[.int .i64 a, .int .i64 b, .int .i64 c] w (PVal (.bool true) w) := by
  go_enter Tryz.func7, Tryz.ntmps7
  go_wp2_with fail
  refine (fawake_any _ hG).mono ?_
  rintro e w0 ⟨rfl, hC⟩
  clear hG
  rcases Int.lt_or_le b a with hab | hab
  · have hd : decide (b < a) = true := decide_eq_true hab
    go_wp2
    go_ret
    exact ⟨rfl, hC⟩
  have hd : decide (b < a) = false := decide_eq_false (by omega)
  rcases Int.lt_or_le c 0 with hc | hc
  · have hd2 : decide (c < 0) = true := decide_eq_true hc
    go_wp2
    go_ret
    exact ⟨rfl, hC⟩
  have hd2 : decide (c < 0) = false := decide_eq_false (by omega)
  have hm := cut_mono hab
  have hcc : 0 ≤ cutI c := by have := @cut_sign c; omega
  have k1 : cutI (cutI a + cutI c) ≤ cutI (cutI b + cutI c) := cut_mono (by omega)
  have k2 : cutI (flo (cutI a * cutI c) 1048576) ≤ cutI (flo (cutI b * cutI c) 1048576) := by rw [flo_lit, flo_lit]; exact cut_mono (mul_le hm hcc)
  have HM := Lib.hid hm
  go_wp2_with fail
  refine (fxAdd_any a c _).mono ?_
  rintro e w1 ⟨rfl, hB⟩
  replace hC := hC.trans (hB.mono hC.size)
  clear hB
  go_wp2_with fail
  refine (fxAdd_any b c _).mono ?_
  rintro e w2 ⟨rfl, hB⟩
  replace hC := hC.trans (hB.mono hC.size)
  clear hB
  go_wp2_with fail
  refine (fxMul_any a c _).mono ?_
  rintro e w3 ⟨rfl, hB⟩
  replace hC := hC.trans (hB.mono hC.size)
  clear hB
  go_wp2_with fail
  refine (fxMul_any b c _).mono ?_
  rintro e w4 ⟨rfl, hB⟩
  replace hC := hC.trans (hB.mono hC.size)
  clear hB
  generalize cutI (cutI a + cutI c) = x at *
  generalize cutI (cutI b + cutI c) = y at *
  generalize cutI (flo (cutI a * cutI c) 1048576) = z at *
  generalize cutI (flo (cutI b * cutI c) 1048576) = v at *
  have d1 : decide (x ≤ y) = true := decide_eq_true k1
  have d2 : decide (z ≤ v) = true := decide_eq_true k2
  clear k1 k2 hm hcc
  rcases Int.lt_or_le a 0 with ha | ha
  · go_wp2_with fail
    refine (fxSqrt_neg a _ ha).mono ?_
    rintro e w5 ⟨rfl, hB⟩
    replace hC := hC.trans (hB.mono hC.size)
    clear hB
    rcases Int.lt_or_le b 0 with hb | hb
    · go_wp2_with fail
      refine (fxSqrt_neg b _ hb).mono ?_
      rintro e w6 ⟨rfl, hB⟩
      replace hC := hC.trans (hB.mono hC.size)
      clear hB
      go_wp2
      go_ret
      exact ⟨rfl, hC⟩
    · go_wp2_with fail
      refine (fxSqrt_pos b _ hb).mono ?_
      rintro e w6 ⟨R, _, _, _, rfl, hB⟩
      replace hC := hC.trans (hB.mono hC.size)
      clear hB
      go_wp2
      go_ret
      exact ⟨rfl, hC⟩
  · have hb : 0 ≤ b := by omega
    have ha0 : 0 ≤ cutI a := by have := @cut_sign a; omega
    have HA0 := Lib.hid ha0
    clear ha0
    go_wp2_with fail
    refine (fxSqrt_pos a _ ha).mono ?_
    rintro e w5 ⟨R, hr1, _, hr3, rfl, hB⟩
    replace hC := hC.trans (hB.mono hC.size)
    clear hB
    have HR1 := Lib.hid hr1
    clear hr1
    go_wp2_with fail
    refine (fxSqrt_pos b _ hb).mono ?_
    rintro e w6 ⟨S, _, hs2, hs3, rfl, hB⟩
    replace hC := hC.trans (hB.mono hC.size)
    clear hB
    have hle : R ≤ S := root_le (by have := HM.out; have := HA0.out; omega) HR1.out hs2
    have d3 : decide ((R : Int) ≤ (S : Int)) = true := decide_eq_true (by omega)
    have d4 : decide (R ≤ S) = true := decide_eq_true hle
    clear hs2
    go_wp2
    go_ret
    exact ⟨rfl, hC⟩
end Go.Proofs.YtcnmilflfegliaaGreatDoor
