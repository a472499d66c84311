/- The walk of the law KernCircle, for any numbers. -/
import Derived.Test.YtohdfialnaegcaaLkc
import Derived.Test.YtohdfialnaegcaaKaf
import Derived.Test.YtohdfialnaegcaaKq
namespace Go.Proofs.Ytohdfialnaegcaa
open Go.RowKit

theorem circ_one (s : Int) : hasB (addS (sqrS (encS 0 (ofS s s))) (mulS (ofS s s) (sqrS (encS 1 (ofS s s))))) 1048576 = true := by
  have kp : 0 < kK 1048576 := k_pos (by decide)
  refine has_of_rin (N := 1099511627776 * (625 * 1048576 * (hV 1048576 0 s 12 * hV 1048576 0 s 12) + s * (hV 1048576 1 s 12 * hV 1048576 1 s 12))) (D := kK 1048576 * kK 1048576 * 1099511627776) (Int.mul_pos (Int.mul_pos kp kp) (by decide)) fun h => ?_
  obtain ⟨h1, h2⟩ := add_of h
  obtain ⟨ho, h3⟩ := mul_of h2
  have hc := sqr_of h1
  have ha := sqr_of h3
  have hin := in_of_enc hc
  have e := one_of ho
  obtain ⟨_, p0, _, p4⟩ := four_of hin
  have l0 : (ofS s s).lo = s := by rw [e]
  have l1 : (ofS s s).hi = s := by rw [e]
  rw [l0] at p0
  rw [l1] at p4
  have rc := rin_mul (rin_top (c := 0) (n := s) (by omega) hin (by omega) (by omega)) (k := 25) (by decide)
  have ra := rin_top (c := 1) (n := s) (by omega) hin (by omega) (by omega)
  rw [tV_hV, uN_uQ] at rc ra
  rw [k_20] at rc
  have ra' : Rin (encS 1 (ofS s s)) (hV 1048576 1 s 12 * 1048576) (kK 1048576) := ra
  have rp : Rin (ofS s s) s 1 := by rw [e]; exact ⟨by show s * 1 ≤ s; omega, by show s ≤ s * 1; omega⟩
  have q1 := rin_mul (rin_sqr h1 kp rc) (k := 1048576) (by decide)
  have hD : 0 < kK 1048576 * kK 1048576 * 1048576 := Int.mul_pos (Int.mul_pos kp kp) (by decide)
  have q2 := rin_mulS h2 (by decide) hD rp (rin_sqr h3 kp ra')
  rw [Int.one_mul] at q2
  have q := rin_add h q1 q2
  have c := circ20 p0 p4
  generalize hV 1048576 0 s 12 = h0 at *
  generalize hV 1048576 1 s 12 = h1' at *
  generalize kK 1048576 = K at *
  have eN : h0 * 1048576 * 25 * (h0 * 1048576 * 25) * 1048576 + s * (h1' * 1048576 * (h1' * 1048576)) = 1099511627776 * (625 * 1048576 * (h0 * h0) + s * (h1' * h1')) := by grind
  have eD : K * K * 1048576 * 1048576 = K * K * 1099511627776 := by grind
  rw [eN, eD] at q
  refine ⟨q, ?_⟩
  generalize h0 * h0 = a at *
  generalize s * (h1' * h1') = b at *
  generalize K * K = k at *
  omega
theorem circ_two (x : Int) : hasB (addS (sqrS (sinS (ofS x x))) (sqrS (cosS (ofS x x)))) 1048576 = true := by
  have kp := kk_pos
  have D1 : 0 < KK * 1048576 := Int.mul_pos kp (by decide)
  refine has_of_rin (N := 1099511627776 * (625 * 1099511627776 * (C0 x * C0 x) + x * x * (S1 x * S1 x))) (D := KK * KK * 1152921504606846976) (Int.mul_pos (Int.mul_pos kp kp) (by decide)) fun h => ?_
  obtain ⟨h1, h2⟩ := add_of h
  have hs := sqr_of h1
  have hc := sqr_of h2
  have q1 := rin_sqr h1 D1 (rin_sin hs)
  have q2 := rin_mul (rin_sqr h2 kp (rin_cos hc)) (k := 1099511627776) (by decide)
  have c := circA (sin_in hs)
  generalize C0 x = h0 at *
  generalize S1 x = h1' at *
  generalize KK = K at *
  have eD1 : K * 1048576 * (K * 1048576) * 1048576 = K * K * 1152921504606846976 := by grind
  have eD2 : K * K * 1048576 * 1099511627776 = K * K * 1152921504606846976 := by grind
  rw [eD1] at q1
  rw [eD2] at q2
  have q := rin_add h q1 q2
  have eN : x * h1' * 1048576 * (x * h1' * 1048576) + 25 * h0 * 1048576 * (25 * h0 * 1048576) * 1099511627776 = 1099511627776 * (625 * 1099511627776 * (h0 * h0) + x * x * (h1' * h1')) := by grind
  rw [eN] at q
  refine ⟨q, ?_⟩
  generalize h0 * h0 = a at *
  generalize x * x * (h1' * h1') = b at *
  generalize K * K = k at *
  omega
theorem KernCircle_any (s x : Int) (w : World) : Calls Try.prog 7 #[.int .i64 s, .int .i64 x] w (PVal (.bool true) w) :=
  Circle_w s x _ _ _ _ _ _ _ _ _ _ _ _ _ kawake_any (sOf_any s s) (kA_any _) (kC_any _) (sSqr_any _) (sSqr_any _) (sMul_any _ _) (sAdd_any _ _) (kHas_at (circ_one s)) (sOf_any x x) (kSin_any _) (kCos_any _) (sSqr_any _) (sSqr_any _) (sAdd_any _ _) (kHas_at (circ_two x)) w
end Go.Proofs.Ytohdfialnaegcaa
