/- The walk of awake. -/
import Derived.Test.YtpacbipencmjnaaDoorApi
namespace Go.Proofs.YtpacbipencmjnaaDoor
open Go.RowKit

theorem txt_a : Txt 100000000000000000000 [49, 48, 48, 48, 48, 48, 48, 48, 48, 48, 48, 48, 48, 48, 48, 48, 48, 48, 48, 48, 48] := ⟨by decide +kernel, by decide +kernel⟩
theorem txt_m4 : Txt (-4) [45, 52] := ⟨by decide +kernel, by decide +kernel⟩
theorem txt_1 : Txt 1 [49] := ⟨by decide +kernel, by decide +kernel⟩
theorem txt_m1 : Txt (-1) [45, 49] := ⟨by decide +kernel, by decide +kernel⟩
theorem txt_9 : Txt 9 [57] := ⟨by decide +kernel, by decide +kernel⟩
theorem par_x : parsesB (⟨#[49, 48, 48, 48, 48, 48, 48, 48, 48, 48, 48]⟩ : ByteArray).data.toList = true := by decide +kernel
theorem zv_x : zval (⟨#[49, 48, 48, 48, 48, 48, 48, 48, 48, 48, 48]⟩ : ByteArray).data.toList = 10000000000 := by decide +kernel
theorem bits_255 : bitsN 255 = 8 := bitsN_of (k := 7) (by decide) (by decide)
theorem bits_256 : bitsN 256 = 9 := bitsN_of (k := 8) (by decide) (by decide)

set_option maxRecDepth 100000 in
set_option maxHeartbeats 3200000 in
theorem awake_any (w : World) : Calls Tryd.prog 4 #[] w (PVal (.bool true) w) := by
  go_enter Tryd.func4, Tryd.ntmps4
  go_wp2_with fail
  refine (Parse_good ⟨#[49, 48, 48, 48, 48, 48, 48, 48, 48, 48, 48]⟩ _ (by decide) par_x).mono ?_
  rintro e w1 ⟨b1, a1, n1, c1, rfl, hN1, _, hB1⟩
  rw [zv_x] at hN1
  have hn1 := num_len' hN1 (k := 3) (by decide) (by decide)
  have hM1 := hN1.below (below_new w1 (.cells #[.bool b1, .slice a1 n1 c1] 25))
  have hB1' := hB1.trans ((below_new w1 (.cells #[.bool b1, .slice a1 n1 c1] 25)).mono hB1.size)
  clear hN1 hB1
  go_wp2_with fail
  generalize w1.alloc (.cells #[.bool b1, .slice a1 n1 c1] 25) = W1 at *
  refine (Mul_any b1 a1 n1 c1 _ b1 a1 n1 c1 _ _ hM1 hM1 hn1 hn1).mono ?_
  rintro e w2 ⟨b2, a2, n2, c2, rfl, hN2, _, hB2⟩
  have hn2 := num_len' hN2 (k := 3) (by decide) (by decide)
  have hC2 := hB1'.trans (hB2.mono hB1'.size)
  clear hM1 hB2 hB1'
  go_wp2_with fail
  refine (String_all b2 a2 n2 c2 _ _ hN2 hn2).mono ?_
  rintro e w3 ⟨l3, rfl, ht3, hB3⟩
  obtain rfl := txt_uniq ht3 txt_a
  have hC3 := hC2.trans (hB3.mono hC2.size)
  clear hN2 hB3 hC2 ht3
  go_wp2_with fail
  refine (Of_any (-7) _ (by omega) (by omega)).mono ?_
  rintro e wx4 ⟨bx4, ax4, nx4, cx4, rfl, hx4, _, hBx4⟩
  go_wp2_with fail
  refine (Of_any (2) _ (by omega) (by omega)).mono ?_
  rintro e wy4 ⟨by4, ay4, ny4, cy4, rfl, hy4, _, hBy4⟩
  have hx4' := hx4.below hBy4
  go_wp2_with fail
  refine (Quo_any bx4 ax4 nx4 cx4 (-7) by4 ay4 ny4 cy4 (2) _ hx4' hy4 (num_len hx4' (k := 1) (by decide) (by decide)) (num_len hy4 (k := 1) (by decide) (by decide)) (by decide)).mono ?_
  rintro e wq4 ⟨q, r, ⟨hq1, hq2, hq3⟩, bq4, aq4, nq4, cq4, br4, ar4, nr4, cr4, rfl, hq4, hr4, _, _, hBq4⟩
  obtain rfl : q = -4 := by omega
  obtain rfl : r = 1 := by omega
  have hCq4 : Below w.heap.size w wq4 := ((hC3.trans (hBx4.mono hC3.size)).trans (hBy4.mono (Nat.le_trans hC3.size hBx4.size))).trans (hBq4.mono (Nat.le_trans (Nat.le_trans hC3.size hBx4.size) hBy4.size))
  obtain ⟨hv4, hu4, hD4⟩ := var_two 25 hq4 hr4
  have hC4 := hCq4.trans (hD4.mono hCq4.size)
  have hP4 : Below w3.heap.size w3 wq4 := (hBx4.trans (hBy4.mono hBx4.size)).trans (hBq4.mono (Nat.le_trans hBx4.size hBy4.size))
  have hE4 := hP4.trans (hD4.mono hP4.size)
  clear hq1 hq2 hq3 hx4 hx4' hy4 hBx4 hBy4 hBq4 hq4 hr4 hCq4 hD4 hP4 hC3
  go_wp2_with fail
  generalize (wq4.alloc (.cells #[.bool bq4, .slice aq4 nq4 cq4] 25)).alloc (.cells #[.bool br4, .slice ar4 nr4 cr4] 25) = w4 at *
  refine (Of_any (7) _ (by omega) (by omega)).mono ?_
  rintro e wx5 ⟨bx5, ax5, nx5, cx5, rfl, hx5, _, hBx5⟩
  go_wp2_with fail
  refine (Of_any (-2) _ (by omega) (by omega)).mono ?_
  rintro e wy5 ⟨by5, ay5, ny5, cy5, rfl, hy5, _, hBy5⟩
  have hx5' := hx5.below hBy5
  go_wp2_with fail
  refine (Quo_any bx5 ax5 nx5 cx5 (7) by5 ay5 ny5 cy5 (-2) _ hx5' hy5 (num_len hx5' (k := 1) (by decide) (by decide)) (num_len hy5 (k := 1) (by decide) (by decide)) (by decide)).mono ?_
  rintro e wq5 ⟨q, r, ⟨hq1, hq2, hq3⟩, bq5, aq5, nq5, cq5, br5, ar5, nr5, cr5, rfl, hq5, hr5, _, _, hBq5⟩
  obtain rfl : q = -4 := by omega
  obtain rfl : r = -1 := by omega
  have hCq5 : Below w.heap.size w wq5 := ((hC4.trans (hBx5.mono hC4.size)).trans (hBy5.mono (Nat.le_trans hC4.size hBx5.size))).trans (hBq5.mono (Nat.le_trans (Nat.le_trans hC4.size hBx5.size) hBy5.size))
  obtain ⟨hv5, hu5, hD5⟩ := var_two 25 hq5 hr5
  have hC5 := hCq5.trans (hD5.mono hCq5.size)
  have hP5 : Below w4.heap.size w4 wq5 := (hBx5.trans (hBy5.mono hBx5.size)).trans (hBq5.mono (Nat.le_trans hBx5.size hBy5.size))
  have hE5 := hP5.trans (hD5.mono hP5.size)
  clear hq1 hq2 hq3 hx5 hx5' hy5 hBx5 hBy5 hBq5 hq5 hr5 hCq5 hD5 hP5 hC4
  have hv4a := hv4.below hE5
  have hu4a := hu4.below hE5
  clear hv4 hu4
  go_wp2_with fail
  generalize (wq5.alloc (.cells #[.bool bq5, .slice aq5 nq5 cq5] 25)).alloc (.cells #[.bool br5, .slice ar5 nr5 cr5] 25) = w5 at *
  refine (Of_any 99 _ (by omega) (by omega)).mono ?_
  rintro e wx6 ⟨bx6, ax6, nx6, cx6, rfl, hx6, _, hBx6⟩
  have hb6 : bx6 = false := by rw [hx6.sgn]; rfl
  subst hb6
  go_wp2_with fail
  refine (Root_pos ax6 nx6 cx6 99 _ hx6 (num_len' hx6 (k := 1) (by decide) (by decide))).mono ?_
  rintro e wq6 ⟨R, hR1, hR2, bq6, aq6, nq6, cq6, rfl, hq6, _, hBq6⟩
  obtain rfl : R = 9 := root_uniq hR1 hR2 (by decide) (by decide)
  have hP6 : Below w5.heap.size w5 wq6 := hBx6.trans (hBq6.mono hBx6.size)
  have hv6 := var_new 25 hq6
  have hD6 := below_new wq6 (.cells #[.bool bq6, .slice aq6 nq6 cq6] 25)
  have hE6 := hP6.trans (hD6.mono hP6.size)
  have hC6 := hC5.trans (hE6.mono hC5.size)
  clear hR1 hR2 hx6 hBx6 hBq6 hq6 hP6 hD6 hC5
  have hv4b := hv4a.below hE6
  have hu4b := hu4a.below hE6
  have hv5b := hv5.below hE6
  have hu5b := hu5.below hE6
  clear hv4a hu4a hv5 hu5
  go_wp2_with fail
  generalize wq6.alloc (.cells #[.bool bq6, .slice aq6 nq6 cq6] 25) = w6 at *
  refine (Parse_bad ⟨#[45, 48]⟩ _ (by decide) (by decide +kernel)).mono ?_
  rintro e w7 ⟨b7, a7, n7, c7, rfl, hN7, _, hB7⟩
  have hE7 := hB7.trans ((below_new w7 (.cells #[.bool b7, .slice a7 n7 c7] 25)).mono hB7.size)
  go_wp2_with fail
  generalize w7.alloc (.cells #[.bool b7, .slice a7 n7 c7] 25) = W7 at *
  refine (Parse_bad ⟨#[48, 49]⟩ _ (by decide) (by decide +kernel)).mono ?_
  rintro e w8 ⟨b8, a8, n8, c8, rfl, hN8, _, hB8⟩
  have hE8' := hB8.trans ((below_new w8 (.cells #[.bool b8, .slice a8 n8 c8] 25)).mono hB8.size)
  have hE8 := hE7.trans (hE8'.mono hE7.size)
  clear hN7 hB7 hN8 hB8 hE7 hE8'
  go_wp2_with fail
  generalize w8.alloc (.cells #[.bool b8, .slice a8 n8 c8] 25) = W8 at *
  refine (Of_any 255 _ (by omega) (by omega)).mono ?_
  rintro e w9 ⟨b9, a9, n9, c9, rfl, hN9, _, hB9⟩
  go_wp2_with fail
  refine (Bits_any b9 a9 n9 c9 255 _ hN9 (num_len' hN9 (k := 1) (by decide) (by decide))).mono ?_
  rintro e w10 ⟨rfl, hB10⟩
  rw [show bitsN (255 : Int).natAbs = 8 from bits_255]
  go_wp2_with fail
  refine (Of_any (-256) _ (by omega) (by omega)).mono ?_
  rintro e w11 ⟨b11, a11, n11, c11, rfl, hN11, _, hB11⟩
  go_wp2_with fail
  refine (Bits_any b11 a11 n11 c11 (-256) _ hN11 (num_len' hN11 (k := 1) (by decide) (by decide))).mono ?_
  rintro e w12 ⟨rfl, hB12⟩
  rw [show bitsN (-256 : Int).natAbs = 9 from bits_256]
  have hE9 := hB9.trans (hB10.mono hB9.size)
  have hE10 := hE9.trans (hB11.mono hE9.size)
  have hE11 := hE10.trans (hB12.mono hE10.size)
  have hE12 := hE8.trans (hE11.mono hE8.size)
  have hC12 := hC6.trans (hE12.mono hC6.size)
  clear hN9 hB9 hB10 hN11 hB11 hB12 hE9 hE10 hE11 hE8 hC6
  have hv4c := hv4b.below hE12
  have hu4c := hu4b.below hE12
  have hv5c := hv5b.below hE12
  have hu5c := hu5b.below hE12
  have hv6c := hv6.below hE12
  clear hv4b hu4b hv5b hu5b hv6
  obtain ⟨bs0, as0, ns0, cs0, k0, k1, hns0⟩ := hv4c
  go_wp2_with fail
  refine (String_all bs0 as0 ns0 cs0 _ _ hns0 (num_len' hns0 (k := 1) (by decide) (by decide))).mono ?_
  rintro e w13 ⟨l, rfl, ht, hB⟩
  obtain rfl := txt_uniq ht txt_m4
  have hC13 := hC12.trans (hB.mono hC12.size)
  replace hu4c := hu4c.below hB
  replace hv5c := hv5c.below hB
  replace hu5c := hu5c.below hB
  replace hv6c := hv6c.below hB
  clear k0 k1 hns0 ht hB hC12
  obtain ⟨bs1, as1, ns1, cs1, k0, k1, hns1⟩ := hu4c
  go_wp2_with fail
  refine (String_all bs1 as1 ns1 cs1 _ _ hns1 (num_len' hns1 (k := 1) (by decide) (by decide))).mono ?_
  rintro e w14 ⟨l, rfl, ht, hB⟩
  obtain rfl := txt_uniq ht txt_1
  have hC14 := hC13.trans (hB.mono hC13.size)
  replace hv5c := hv5c.below hB
  replace hu5c := hu5c.below hB
  replace hv6c := hv6c.below hB
  clear k0 k1 hns1 ht hB hC13
  obtain ⟨bs2, as2, ns2, cs2, k0, k1, hns2⟩ := hv5c
  go_wp2_with fail
  refine (String_all bs2 as2 ns2 cs2 _ _ hns2 (num_len' hns2 (k := 1) (by decide) (by decide))).mono ?_
  rintro e w15 ⟨l, rfl, ht, hB⟩
  obtain rfl := txt_uniq ht txt_m4
  have hC15 := hC14.trans (hB.mono hC14.size)
  replace hu5c := hu5c.below hB
  replace hv6c := hv6c.below hB
  clear k0 k1 hns2 ht hB hC14
  obtain ⟨bs3, as3, ns3, cs3, k0, k1, hns3⟩ := hu5c
  go_wp2_with fail
  refine (String_all bs3 as3 ns3 cs3 _ _ hns3 (num_len' hns3 (k := 1) (by decide) (by decide))).mono ?_
  rintro e w16 ⟨l, rfl, ht, hB⟩
  obtain rfl := txt_uniq ht txt_m1
  have hC16 := hC15.trans (hB.mono hC15.size)
  replace hv6c := hv6c.below hB
  clear k0 k1 hns3 ht hB hC15
  obtain ⟨bs4, as4, ns4, cs4, k0, k1, hns4⟩ := hv6c
  go_wp2_with fail
  refine (String_all bs4 as4 ns4 cs4 _ _ hns4 (num_len' hns4 (k := 1) (by decide) (by decide))).mono ?_
  rintro e w17 ⟨l, rfl, ht, hB⟩
  obtain rfl := txt_uniq ht txt_9
  have hC17 := hC16.trans (hB.mono hC16.size)
  clear k0 k1 hns4 ht hB hC16
  go_wp2
  go_ret
  exact ⟨rfl, hC17⟩
end Go.Proofs.YtpacbipencmjnaaDoor
