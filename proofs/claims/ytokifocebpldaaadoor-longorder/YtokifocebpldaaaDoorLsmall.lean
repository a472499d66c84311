/- The walk of the law LongSmall. -/
import Derived.Test.YtokifocebpldaaaDoorAwake
namespace Go.Proofs.YtokifocebpldaaaDoor
open Go.RowKit

theorem tmod_in (a : Int) : -1999999999 ≤ a.tmod 2000000000 ∧ a.tmod 2000000000 ≤ 1999999999 := by
  rcases Int.le_total 0 a with h | h
  · rw [Int.tmod_eq_emod_of_nonneg h]; omega
  · have e : a.tmod 2000000000 = -((-a).tmod 2000000000) := by rw [Int.neg_tmod, Int.neg_neg]
    rw [e, Int.tmod_eq_emod_of_nonneg (by omega)]; omega
theorem tdiv_in (a : Int) (h1 : -9223372036854775808 ≤ a) (h2 : a ≤ 9223372036854775807) : -4611686018427387904 ≤ a.tdiv 2 ∧ a.tdiv 2 ≤ 4611686018427387903 := by
  rcases Int.le_total 0 a with h | h
  · rw [Int.tdiv_eq_ediv_of_nonneg h]; omega
  · have e : a.tdiv 2 = -((-a).tdiv 2) := by rw [Int.neg_tdiv, Int.neg_neg]
    rw [e, Int.tdiv_eq_ediv_of_nonneg (by omega)]; omega
theorem mul_in {x y : Int} (hx : -1999999999 ≤ x ∧ x ≤ 1999999999) (hy : -1999999999 ≤ y ∧ y ≤ 1999999999) : -4000000000000000000 ≤ x * y ∧ x * y ≤ 4000000000000000000 := by
  have h : (x * y).natAbs ≤ 1999999999 * 1999999999 := by rw [Int.natAbs_mul]; exact Nat.mul_le_mul (by omega) (by omega)
  omega
theorem small_in {z : Int} (h1 : -9223372036854775808 ≤ z) (h2 : z ≤ 9223372036854775807) : smallV z = z ∧ smallB z = true := by
  unfold smallV smallB
  exact ⟨if_pos ⟨h1, h2⟩, decide_eq_true ⟨h1, h2⟩⟩
theorem cmp_self (z : Int) : cmpI z z = 0 := by simp [cmpI]
theorem abs_lt {z : Int} (h1 : -9223372036854775808 ≤ z) (h2 : z ≤ 9223372036854775807) : z.natAbs < BB ^ 2 := two_lt (by omega)
theorem txt_short {z : Int} {l : List UInt8} (h : Txt z l) (hz : z.natAbs < BB ^ 2) : l.length ≤ 21 := by
  have hz' : z.natAbs < 18446744073709551616 := hz
  rcases parts_of h.1 with ⟨rfl, h1⟩ | ⟨d, rfl, h0, hp, h1⟩ | ⟨d, rfl, h0, hp, h1⟩
  · simp
  · have a1 := dval_ge hp.dig hp.ne hp.head
    rw [h.2] at h1
    have : 10 ^ (l.length - 1) < 10 ^ 20 := Nat.lt_of_le_of_lt a1 (by omega)
    have := (Nat.pow_lt_pow_iff_right (by decide : 1 < 10)).1 this
    omega
  · have a1 := dval_ge hp.dig hp.ne hp.head
    rw [h.2] at h1
    have : 10 ^ (d.length - 1) < 10 ^ 20 := Nat.lt_of_le_of_lt a1 (by omega)
    have := (Nat.pow_lt_pow_iff_right (by decide : 1 < 10)).1 this
    rw [List.length_cons]; omega

set_option maxRecDepth 100000 in
set_option maxHeartbeats 3200000 in
theorem LongSmall_any (x y : Int) (w : World) (h1 : -9223372036854775808 ≤ x) (h2 : x ≤ 9223372036854775807) (h3 : -9223372036854775808 ≤ y) (h4 : y ≤ 9223372036854775807) :
    Calls Tryd.prog 7 #[.int .i64 x, .int .i64 y] w (PVal (.bool true) w) := by
  obtain ⟨m1, hm1⟩ : ∃ m, x.tmod 2000000000 = m := ⟨_, rfl⟩
  obtain ⟨m2, hm2⟩ : ∃ m, y.tmod 2000000000 = m := ⟨_, rfl⟩
  obtain ⟨d1, hd1⟩ : ∃ m, x.tdiv 2 = m := ⟨_, rfl⟩
  obtain ⟨d2, hd2⟩ : ∃ m, y.tdiv 2 = m := ⟨_, rfl⟩
  have bm1 := tmod_in x
  have bm2 := tmod_in y
  have bd1 := tdiv_in x h1 h2
  have bd2 := tdiv_in y h3 h4
  rw [hm1] at bm1
  rw [hm2] at bm2
  rw [hd1] at bd1
  rw [hd2] at bd2
  have bp := mul_in bm1 bm2
  obtain ⟨bm1l, bm1u⟩ := bm1
  obtain ⟨bm2l, bm2u⟩ := bm2
  obtain ⟨bd1l, bd1u⟩ := bd1
  obtain ⟨bd2l, bd2u⟩ := bd2
  obtain ⟨bpl, bpu⟩ := bp
  go_enter Tryd.func7, Tryd.ntmps7
  go_wp2_with fail
  refine (awake_any _).mono ?_
  rintro e w0 ⟨rfl, hB0⟩
  go_wp2_with fail
  refine (Of_any x _ h1 h2).mono ?_
  rintro e w1 ⟨b1, a1, n1, c1, rfl, hN1, _, hB1⟩
  have hn1 := num_len' hN1 (abs_lt h1 h2) (by decide)
  have hv1 := vi_new 25 hN1
  have hE1 := hB1.trans ((below_new w1 (.cells #[.bool b1, .slice a1 n1 c1] 25)).mono hB1.size)
  have hC1 := hB0.trans (hE1.mono hB0.size)
  clear hN1 hB1 hE1 hB0
  go_wp2_with fail
  generalize w1.alloc (.cells #[.bool b1, .slice a1 n1 c1] 25) = W1 at *
  refine (Small_any b1 a1 n1 c1 x _ hv1.num hn1).mono ?_
  rintro e w2 ⟨rfl, hB2⟩
  rw [(small_in h1 h2).1, (small_in h1 h2).2]
  have hv2 := hv1.below hB2
  have hC2 := hC1.trans (hB2.mono hC1.size)
  clear hv1 hC1 hB2
  have k0 := hv2.k0
  have k1 := hv2.k1
  go_wp2_with fail
  refine (String_all b1 a1 n1 c1 x _ hv2.num hn1).mono ?_
  rintro e w3 ⟨l, rfl, ht, hB3⟩
  have hv3 := hv2.below hB3
  have hC3 := hC2.trans (hB3.mono hC2.size)
  have hll := txt_short ht (abs_lt h1 h2)
  have HT := Lib.hid ht
  clear k0 k1 hv2 hC2 hB3 ht
  obtain ⟨str, hstr⟩ : ∃ str : ByteArray, str = ⟨l.toArray⟩ := ⟨_, rfl⟩
  rw [← hstr]
  have hsd : str.data.toList = l := by rw [hstr]
  have hss : str.size ≤ 2000 := by rw [← size_list, hsd]; omega
  have HSD := Lib.hid hsd
  clear hstr hsd hll
  go_wp2_with fail
  refine (Parse_good str _ hss (by rw [HSD.out]; exact HT.out.1)).mono ?_
  rintro e w4 ⟨b4, a4, n4, c4, rfl, hN4, _, hB4⟩
  rw [HSD.out, HT.out.2] at hN4
  have hv4 := vi_new 25 hN4
  have hE4 := hB4.trans ((below_new w4 (.cells #[.bool b4, .slice a4 n4 c4] 25)).mono hB4.size)
  have hv3' := hv3.below hE4
  have hC4 := hC3.trans (hE4.mono hC3.size)
  have k0 := hv3'.k0
  have k1 := hv3'.k1
  clear hN4 hB4 hE4 hC3 hv3
  go_wp2_with fail
  generalize w4.alloc (.cells #[.bool b4, .slice a4 n4 c4] 25) = W4 at *
  refine (Cmp_any b4 a4 n4 c4 x b1 a1 n1 c1 x _ hv4.num hv3'.num).mono ?_
  rintro e w5 ⟨rfl, hB5⟩
  rw [cmp_self]
  have hC5 := hC4.trans (hB5.mono hC4.size)
  clear k0 k1 hv4 hv3' hC4 hB5
  go_wp2_with fail
  refine (Of_any m1 _ (by omega) (by omega)).mono ?_
  rintro e w6 ⟨b6, a6, n6, c6, rfl, hN6, _, hB6⟩
  go_wp2_with fail
  refine (Of_any m2 _ (by omega) (by omega)).mono ?_
  rintro e w7 ⟨b7, a7, n7, c7, rfl, hN7, _, hB7⟩
  have hM6 := hN6.below hB7
  have hC6 := hC5.trans (hB6.mono hC5.size)
  have hC7 := hC6.trans (hB7.mono hC6.size)
  clear hN6 hB6 hB7 hC5 hC6
  go_wp2_with fail
  refine (Mul_any b6 a6 n6 c6 m1 b7 a7 n7 c7 m2 _ hM6 hN7 (num_len' hM6 (abs_lt (by omega) (by omega)) (by decide)) (num_len' hN7 (abs_lt (by omega) (by omega)) (by decide))).mono ?_
  rintro e w8 ⟨b8, a8, n8, c8, rfl, hN8, _, hB8⟩
  have hC8 := hC7.trans (hB8.mono hC7.size)
  clear hM6 hN7 hB8 hC7
  go_wp2_with fail
  refine (Small_any b8 a8 n8 c8 (m1 * m2) _ hN8 (num_len' hN8 (abs_lt (by omega) (by omega)) (by decide))).mono ?_
  rintro e w9 ⟨rfl, hB9⟩
  rw [(small_in (by omega) (by omega) : smallV (m1 * m2) = m1 * m2 ∧ _).1, (small_in (by omega) (by omega) : smallV (m1 * m2) = m1 * m2 ∧ _).2]
  have hC9 := hC8.trans (hB9.mono hC8.size)
  clear hN8 hB9 hC8
  go_wp2_with fail
  refine (Of_any d1 _ (by omega) (by omega)).mono ?_
  rintro e w10 ⟨b10, a10, n10, c10, rfl, hN10, _, hB10⟩
  go_wp2_with fail
  refine (Of_any d2 _ (by omega) (by omega)).mono ?_
  rintro e w11 ⟨b11, a11, n11, c11, rfl, hN11, _, hB11⟩
  have hM10 := hN10.below hB11
  have hC10 := hC9.trans (hB10.mono hC9.size)
  have hC11 := hC10.trans (hB11.mono hC10.size)
  clear hN10 hB10 hB11 hC9 hC10
  go_wp2_with fail
  refine (Add_any b10 a10 n10 c10 d1 b11 a11 n11 c11 d2 _ hM10 hN11 (num_len' hM10 (abs_lt (by omega) (by omega)) (by decide)) (num_len' hN11 (abs_lt (by omega) (by omega)) (by decide))).mono ?_
  rintro e w12 ⟨b12, a12, n12, c12, rfl, hN12, _, hB12⟩
  have hC12 := hC11.trans (hB12.mono hC11.size)
  clear hM10 hN11 hB12 hC11
  go_wp2_with fail
  refine (Small_any b12 a12 n12 c12 (d1 + d2) _ hN12 (num_len' hN12 (abs_lt (by omega) (by omega)) (by decide))).mono ?_
  rintro e w13 ⟨rfl, hB13⟩
  rw [(small_in (by omega) (by omega) : smallV (d1 + d2) = d1 + d2 ∧ _).1, (small_in (by omega) (by omega) : smallV (d1 + d2) = d1 + d2 ∧ _).2]
  have hC13 := hC12.trans (hB13.mono hC12.size)
  clear hN12 hB13 hC12
  go_wp2
  go_ret
  exact ⟨rfl, hC13⟩
end Go.Proofs.YtokifocebpldaaaDoor
