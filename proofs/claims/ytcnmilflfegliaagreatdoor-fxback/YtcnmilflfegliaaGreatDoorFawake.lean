/- Fixed numbers: the walk of the laws' awake. -/
import Derived.Test.YtcnmilflfegliaaGreatDoorFprint
namespace Go.Proofs.YtcnmilflfegliaaGreatDoor
open Go.RowKit

theorem root_one {R N r : Nat} (h1 : R * R ≤ N) (h2 : N < (R + 1) * (R + 1)) (k1 : r * r ≤ N) (k2 : N < (r + 1) * (r + 1)) : R = r := by
  rcases Nat.lt_trichotomy R r with h | h | h
  · have := Nat.mul_le_mul (show R + 1 ≤ r from h) (show R + 1 ≤ r from h); omega
  · exact h
  · have := Nat.mul_le_mul (show r + 1 ≤ R from h) (show r + 1 ≤ R from h); omega
theorem pr_one : prL 1572864 = [49, 46, 53] := by
  have e : cutI 1572864 = 1572864 := by decide
  unfold prL
  rw [e, if_neg (by decide)]
  show absL 1572864 = _
  rw [absL_part (by decide)]
  show Lib.itoa ((1 : Nat) : Int) ++ _ = _
  rw [Lib.itoa_nonneg, Lib.decDigits_one (by decide)]
  decide +kernel
theorem pr_two : prL (-1) = [45, 48, 46, 48, 48, 48, 48, 48, 48, 57, 53, 51, 54, 55, 52, 51, 49, 54, 52, 48, 54, 50, 53] := by
  have e : cutI (-1) = -1 := by decide
  unfold prL
  rw [e, if_pos (by decide)]
  show 45 :: absL 1 = _
  rw [absL_part (by decide)]
  show 45 :: (Lib.itoa ((0 : Nat) : Int) ++ _) = _
  rw [Lib.itoa_nonneg, Lib.decDigits_one (by decide)]
  decide +kernel
theorem pa_one : fxV [45, 48, 46, 49] = -104858 ∧ fxE [45, 48, 46, 49] = 0 := by decide +kernel
theorem pa_two : fxV [57, 57, 57, 57] = 2147483647 ∧ fxC [57, 57, 57, 57] = true := by decide +kernel
theorem pa_three : fxE [45, 48] = 10 := by decide +kernel

set_option maxRecDepth 100000 in
set_option maxHeartbeats 6400000 in
theorem fawake_any (w : World) (hG : Glob w) : Calls Tryz.prog 10 #[] w (PVal (.bool true) w) := by
  have hC0 := Below.refl w.heap.size w
  go_enter Tryz.func10, Tryz.ntmps10
  go_wp2_with fail
  refine (fxMul_any (1048576) (3) _).mono ?_
  rintro e w1 ⟨rfl, hB⟩
  have hC1 := hC0.trans (hB.mono hC0.size)
  replace hG := hG.below hB
  have hv : (cutI (flo (cutI (1048576) * cutI (3)) 1048576) = 3 ∧ (cutB (1048576) || cutB (3) || cutB (flo (cutI (1048576) * cutI (3)) 1048576)) = false) := by decide +kernel
  rw [hv.1, hv.2]
  clear hv
  clear hB hC0
  go_wp2_with fail
  refine (fxMul_any (-1) (1) _).mono ?_
  rintro e w2 ⟨rfl, hB⟩
  have hC2 := hC1.trans (hB.mono hC1.size)
  replace hG := hG.below hB
  have hv : (cutI (flo (cutI (-1) * cutI (1)) 1048576) = -1 ∧ (cutB (-1) || cutB (1) || cutB (flo (cutI (-1) * cutI (1)) 1048576)) = false) := by decide +kernel
  rw [hv.1, hv.2]
  clear hv
  clear hB hC1
  go_wp2_with fail
  refine (fxMul_any (2147483647) (2147483647) _).mono ?_
  rintro e w3 ⟨rfl, hB⟩
  have hC3 := hC2.trans (hB.mono hC2.size)
  replace hG := hG.below hB
  have hv : (cutI (flo (cutI (2147483647) * cutI (2147483647)) 1048576) = 2147483647 ∧ (cutB (2147483647) || cutB (2147483647) || cutB (flo (cutI (2147483647) * cutI (2147483647)) 1048576)) = true) := by decide +kernel
  rw [hv.1, hv.2]
  clear hv
  clear hB hC2
  go_wp2_with fail
  refine (fxDiv_any (1048576) (3145728) _ (by decide)).mono ?_
  rintro e w4 ⟨rfl, hB⟩
  have hC4 := hC3.trans (hB.mono hC3.size)
  replace hG := hG.below hB
  have hv : (cutI (flo (cutI (1048576) * 1048576) (cutI (3145728))) = 349525 ∧ (cutB (1048576) || cutB (3145728) || cutB (flo (cutI (1048576) * 1048576) (cutI (3145728)))) = false) := by decide +kernel
  rw [hv.1, hv.2]
  clear hv
  clear hB hC3
  go_wp2_with fail
  refine (fxDiv_any (-1) (2097152) _ (by decide)).mono ?_
  rintro e w5 ⟨rfl, hB⟩
  have hC5 := hC4.trans (hB.mono hC4.size)
  replace hG := hG.below hB
  have hv : (cutI (flo (cutI (-1) * 1048576) (cutI (2097152))) = -1 ∧ (cutB (-1) || cutB (2097152) || cutB (flo (cutI (-1) * 1048576) (cutI (2097152)))) = false) := by decide +kernel
  rw [hv.1, hv.2]
  clear hv
  clear hB hC4
  go_wp2_with fail
  refine (fxDiv_zero 5 _).mono ?_
  rintro e w6 ⟨rfl, hB⟩
  have hC6 := hC5.trans (hB.mono hC5.size)
  replace hG := hG.below hB
  clear hB hC5
  go_wp2_with fail
  refine (fxSqrt_pos 2097152 _ (by decide)).mono ?_
  rintro e w7 ⟨R, h1, h2, _, rfl, hB⟩
  have hC7 := hC6.trans (hB.mono hC6.size)
  replace hG := hG.below hB
  have hv : (cutI 2097152 * 1048576).natAbs = 2199023255552 := by decide +kernel
  rw [hv] at h1 h2
  obtain rfl := root_one (r := 1482910) h1 h2 (by decide) (by decide)
  clear hv h1 h2
  clear hB hC6
  go_wp2_with fail
  refine (fxSqrt_neg (-1) _ (by decide)).mono ?_
  rintro e w8 ⟨rfl, hB⟩
  have hC8 := hC7.trans (hB.mono hC7.size)
  replace hG := hG.below hB
  clear hB hC7
  go_wp2_with fail
  refine (Print_any 1572864 _ hG).mono ?_
  rintro e w9 ⟨rfl, hB⟩
  have hC9 := hC8.trans (hB.mono hC8.size)
  replace hG := hG.below hB
  rw [pr_one]
  clear hB hC8
  go_wp2_with fail
  refine (Print_any (-1) _ hG).mono ?_
  rintro e w10 ⟨rfl, hB⟩
  have hC10 := hC9.trans (hB.mono hC9.size)
  replace hG := hG.below hB
  rw [pr_two]
  clear hB hC9
  obtain ⟨mx, hmx⟩ := hG.mx
  go_wp2_with fail
  refine (fxParse_any ⟨#[45, 48, 46, 49]⟩ mx _ (by decide) hmx).mono ?_
  rintro e w11 ⟨rfl, hB⟩
  have hC11 := hC10.trans (hB.mono hC10.size)
  replace hG := hG.below hB
  rw [show (⟨#[45, 48, 46, 49]⟩ : ByteArray).data.toList = [45, 48, 46, 49] from rfl]
  rw [pa_one.1, pa_one.2]
  clear hmx
  clear hB hC10
  obtain ⟨mx, hmx⟩ := hG.mx
  go_wp2_with fail
  refine (fxParse_any ⟨#[57, 57, 57, 57]⟩ mx _ (by decide) hmx).mono ?_
  rintro e w12 ⟨rfl, hB⟩
  have hC12 := hC11.trans (hB.mono hC11.size)
  replace hG := hG.below hB
  rw [show (⟨#[57, 57, 57, 57]⟩ : ByteArray).data.toList = [57, 57, 57, 57] from rfl]
  rw [pa_two.1, pa_two.2]
  clear hmx
  clear hB hC11
  obtain ⟨mx, hmx⟩ := hG.mx
  go_wp2_with fail
  refine (fxParse_any ⟨#[45, 48]⟩ mx _ (by decide) hmx).mono ?_
  rintro e w13 ⟨rfl, hB⟩
  have hC13 := hC12.trans (hB.mono hC12.size)
  replace hG := hG.below hB
  rw [show (⟨#[45, 48]⟩ : ByteArray).data.toList = [45, 48] from rfl]
  rw [pa_three]
  clear hmx
  clear hB hC12
  go_wp2
  go_ret
  exact ⟨rfl, hC13⟩
end Go.Proofs.YtcnmilflfegliaaGreatDoor
