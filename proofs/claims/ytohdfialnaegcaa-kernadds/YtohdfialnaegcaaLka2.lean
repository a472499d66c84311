/- The walk of the law KernAdds, for any angles. -/
import Derived.Test.YtohdfialnaegcaaLka
import Derived.Test.YtohdfialnaegcaaKaf
import Derived.Test.YtohdfialnaegcaaKq
namespace Go.Proofs.Ytohdfialnaegcaa
open Go.RowKit

theorem adds_sin {x y : Int} (h1 : -2097152 ≤ x) (h2 : x ≤ 2097152) (h3 : -2097152 ≤ y) (h4 : y ≤ 2097152) :
    meetB (addS (mulS (sinS (ofS x x)) (cosS (ofS y y))) (mulS (cosS (ofS x x)) (sinS (ofS y y)))) (sinS (ofS (x + y) (x + y))) = true := by
  refine meet_of fun ha hb => ?_
  have kp := kk_pos
  have D1 : 0 < KK * 1048576 := Int.mul_pos kp (by decide)
  obtain ⟨m1, m2⟩ := add_of ha
  obtain ⟨sx, cy⟩ := mul_of m1
  obtain ⟨cx, sy⟩ := mul_of m2
  have r1 := rin_mulS m1 D1 kp (rin_sin sx) (rin_cos cy)
  have r2 := rin_mulS m2 kp D1 (rin_cos cx) (rin_sin sy)
  have r3 := rin_mul (rin_sin hb) (k := KK * 1048576) (by omega)
  have c := addsF h1 h2 h3 h4
  generalize C0 x = cx' at *
  generalize S1 x = sx' at *
  generalize C0 y = cy' at *
  generalize S1 y = sy' at *
  generalize S1 (x + y) = ss at *
  generalize KK = K at *
  have e1 : K * 1048576 * K * 1048576 = K * K * 1099511627776 := by grind
  have e2 : K * (K * 1048576) * 1048576 = K * K * 1099511627776 := by grind
  have e3 : K * 1048576 * (K * 1048576) = K * K * 1099511627776 := by grind
  rw [e1] at r1
  rw [e2] at r2
  rw [e3] at r3
  have r := rin_add ha r1 r2
  have eN : x * sx' * 1048576 * (25 * cy' * 1048576) + 25 * cx' * 1048576 * (y * sy' * 1048576) = 1099511627776 * (25 * (x * sx' * cy' + cx' * (y * sy'))) := by grind
  have eM : (x + y) * ss * 1048576 * (K * 1048576) = 1099511627776 * (K * ((x + y) * ss)) := by grind
  rw [eN] at r
  rw [eM] at r3
  have hD : 0 < K * K * 1099511627776 := Int.mul_pos (Int.mul_pos kp kp) (by decide)
  generalize K * K = k at *
  generalize 25 * (x * sx' * cy' + cx' * (y * sy')) = A at *
  generalize K * ((x + y) * ss) = B at *
  exact ⟨rin_le hD r r3 (by omega), rin_le hD r3 r (by omega)⟩
theorem adds_cos {x y : Int} (h1 : -2097152 ≤ x) (h2 : x ≤ 2097152) (h3 : -2097152 ≤ y) (h4 : y ≤ 2097152) :
    meetB (subS (mulS (cosS (ofS x x)) (cosS (ofS y y))) (mulS (sinS (ofS x x)) (sinS (ofS y y)))) (cosS (ofS (x + y) (x + y))) = true := by
  refine meet_of fun ha hb => ?_
  have kp := kk_pos
  have D1 : 0 < KK * 1048576 := Int.mul_pos kp (by decide)
  obtain ⟨m1, m2⟩ := sub_of ha
  obtain ⟨cx, cy⟩ := mul_of m1
  obtain ⟨sx, sy⟩ := mul_of m2
  have r1 := rin_mul (rin_mulS m1 kp kp (rin_cos cx) (rin_cos cy)) (k := 1099511627776) (by decide)
  have r2 := rin_mulS m2 D1 D1 (rin_sin sx) (rin_sin sy)
  have r3 := rin_mul (rin_cos hb) (k := KK * 1152921504606846976) (by omega)
  have c := addsG h1 h2 h3 h4
  generalize C0 x = cx' at *
  generalize S1 x = sx' at *
  generalize C0 y = cy' at *
  generalize S1 y = sy' at *
  generalize C0 (x + y) = cc at *
  generalize KK = K at *
  have e1 : K * K * 1048576 * 1099511627776 = K * K * 1152921504606846976 := by grind
  have e2 : K * 1048576 * (K * 1048576) * 1048576 = K * K * 1152921504606846976 := by grind
  have e3 : K * (K * 1152921504606846976) = K * K * 1152921504606846976 := by grind
  rw [e1] at r1
  rw [e2] at r2
  rw [e3] at r3
  have r := rin_sub ha r1 r2
  have eN : 25 * cx' * 1048576 * (25 * cy' * 1048576) * 1099511627776 - x * sx' * 1048576 * (y * sy' * 1048576) = 1099511627776 * (625 * 1099511627776 * (cx' * cy') - x * sx' * (y * sy')) := by grind
  have eM : 25 * cc * 1048576 * (K * 1152921504606846976) = 1099511627776 * (25 * 1099511627776 * K * cc) := by grind
  rw [eN] at r
  rw [eM] at r3
  have hD : 0 < K * K * 1152921504606846976 := Int.mul_pos (Int.mul_pos kp kp) (by decide)
  generalize K * K = k at *
  generalize 625 * 1099511627776 * (cx' * cy') - x * sx' * (y * sy') = A at *
  generalize 25 * 1099511627776 * K * cc = B at *
  exact ⟨rin_le hD r r3 (by omega), rin_le hD r3 r (by omega)⟩
theorem KernAdds_any (x y : Int) (w : World) : Calls Try.prog 10 #[.int .i64 x, .int .i64 y] w (PVal (.bool true) w) := by
  have hA := kawake_any
  by_cases d0 : x < -2097152
  · exact Adds_0 x y hA (decide_eq_true d0) w
  by_cases d1 : 2097152 < x
  · exact Adds_1 x y hA (decide_eq_false d0) (decide_eq_true d1) w
  by_cases d2 : y < -2097152
  · exact Adds_2 x y hA (decide_eq_false d0) (decide_eq_false d1) (decide_eq_true d2) w
  by_cases d3 : 2097152 < y
  · exact Adds_3 x y hA (decide_eq_false d0) (decide_eq_false d1) (decide_eq_false d2) (decide_eq_true d3) w
  exact Adds_4 x y _ _ _ _ _ _ _ _ _ _ _ _ _ _ _ _ _ hA (sOf_any x x) (sOf_any y y) (kSin_any _) (kCos_any _) (kCos_any _) (kSin_any _) (sMul_any _ _) (sMul_any _ _) (sAdd_any _ _) (sMul_any _ _) (sMul_any _ _) (sSub_any _ _) (sOf_any _ _) (kSin_any _) (kCos_any _) (kMeet_at (adds_sin (by omega) (by omega) (by omega) (by omega))) (kMeet_at (adds_cos (by omega) (by omega) (by omega) (by omega))) (decide_eq_false d0) (decide_eq_false d1) (decide_eq_false d2) (decide_eq_false d3) (IntWalk.i64_in _ (by omega)) w
end Go.Proofs.Ytohdfialnaegcaa
