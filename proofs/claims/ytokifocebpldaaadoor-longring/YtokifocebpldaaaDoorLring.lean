/- The walk of the law LongRing. -/
import Derived.Test.YtokifocebpldaaaDoorThree
namespace Go.Proofs.YtokifocebpldaaaDoor
open Go.RowKit

theorem bnd_mul {x y : Int} {p q : Nat} (h : x.natAbs < BB ^ p) (k : y.natAbs < BB ^ q) : (x * y).natAbs < BB ^ (p + q) := by
  rw [Int.natAbs_mul, Nat.pow_add]; exact Nat.mul_lt_mul'' h k
theorem bnd_add {x y : Int} {p q : Nat} (h : x.natAbs < BB ^ p) (k : y.natAbs < BB ^ q) : (x + y).natAbs < BB ^ (p + q + 1) := by
  have h1 := Int.natAbs_add_le x y
  have h2 : BB ^ p ≤ BB ^ (p + q) := Nat.pow_le_pow_right (by decide) (by omega)
  have h3 : BB ^ q ≤ BB ^ (p + q) := Nat.pow_le_pow_right (by decide) (by omega)
  rw [Nat.pow_succ]
  have h4 : BB ^ (p + q) * 2 ≤ BB ^ (p + q) * BB := Nat.mul_le_mul_left _ (by decide)
  omega
theorem bnd_neg {x : Int} {p : Nat} (h : x.natAbs < BB ^ p) : (-x).natAbs < BB ^ p := by rwa [Int.natAbs_neg]
theorem len_of {w : World} {bl : Bool} {a : Option Addr} {n c k : Nat} {z : Int} (h : Num w bl a n c z) (hz : z.natAbs < BB ^ k) (hk : k ≤ 10000000) : n ≤ 10000000 := Nat.le_trans (fit_le h.fit hz) hk

set_option maxRecDepth 100000 in
set_option maxHeartbeats 6400000 in
theorem LongRing_any (s t u : ByteArray) (w : World) (hs : s.size ≤ maxLen) (ht : t.size ≤ maxLen) (hu : u.size ≤ maxLen) :
    Calls Tryd.prog 8 #[.string s, .string t, .string u] w (PVal (.bool true) w) := by
  have HS := Lib.hid hs
  have HT := Lib.hid ht
  have HU := Lib.hid hu
  have H0 : Hid ((⟨#[48]⟩ : ByteArray).size ≤ maxLen) := by show 1 ≤ maxLen; unfold maxLen; omega
  clear hs ht hu
  go_enter Tryd.func8, Tryd.ntmps8
  go_wp2_with fail
  refine (awake_any _).mono ?_
  rintro e w0 ⟨rfl, hB0⟩
  go_wp2_with fail
  refine (two_any s t _ HS.out HT.out).mono ?_
  rintro e w1 ⟨b1, a1, n1, c1, b2, a2, n2, c2, b8, a8, n8, c8, b9, a9, n9, c9, rfl, hX, hY, hRx, hRy, hB1⟩
  clear hRx hRy
  obtain ⟨hV1, hV2, hB2⟩ := vi_four hX hY 25 31 (.cells #[.bool b8, .slice a8 n8 c8] 31) (.cells #[.bool b9, .slice a9 n9 c9] 31)
  have hB3 := (hB0.trans (hB1.mono hB0.size)).trans (hB2.mono (hB0.trans (hB1.mono hB0.size)).size)
  clear hX hY hB0 hB1 hB2
  obtain ⟨is1, his1⟩ : ∃ q, twoB s t = q := ⟨_, rfl⟩
  rw [his1]
  have HI1 := Lib.hid his1
  clear his1
  go_wp2_with fail
  generalize (((w1.alloc (.cells #[.bool b1, .slice a1 n1 c1] 25)).alloc (.cells #[.bool b2, .slice a2 n2 c2] 25)).alloc (.cells #[.bool b8, .slice a8 n8 c8] 31)).alloc (.cells #[.bool b9, .slice a9 n9 c9] 31) = W1 at *
  refine (two_any u ⟨#[48]⟩ _ HU.out H0.out).mono ?_
  rintro e w2 ⟨b3, a3, n3, c3, b5, a5, n5, c5, b6, a6, n6, c6, b7, a7, n7, c7, rfl, hZ, hO, hRz, hRo, hB4⟩
  clear hRz hRo
  obtain ⟨hV3, hV5, hB5⟩ := vi_four hZ hO 25 31 (.cells #[.bool b6, .slice a6 n6 c6] 31) (.cells #[.bool b7, .slice a7 n7 c7] 31)
  have hB6 := hB4.trans (hB5.mono hB4.size)
  have hU1 := hV1.below hB6
  have hU2 := hV2.below hB6
  have hB7 := hB3.trans (hB6.mono hB3.size)
  clear hZ hO hV5 hV1 hV2 hB3 hB4 hB5 hB6
  obtain ⟨is2, his2⟩ : ∃ q, twoB u ⟨#[48]⟩ = q := ⟨_, rfl⟩
  rw [his2]
  have HI2 := Lib.hid his2
  clear his2
  go_upto_region 4 with (fail)
  generalize (((w2.alloc (.cells #[.bool b3, .slice a3 n3 c3] 25)).alloc (.cells #[.bool b5, .slice a5 n5 c5] 25)).alloc (.cells #[.bool b6, .slice a6 n6 c6] 31)).alloc (.cells #[.bool b7, .slice a7 n7 c7] 31) = W2 at *
  have hT0 : T3 w W2 w1.heap.size (w1.heap.size + 1) w2.heap.size b1 a1 n1 c1 (pZ s) b2 a2 n2 c2 (pZ t) b3 a3 n3 c3 (pZ u) := ⟨hB7, hU1, hU2, hV3⟩
  clear hB7 hU1 hU2 hV3
  rcases is1 with _ | _
  · go_wp2
    go_ret
    exact ⟨rfl, hT0.below⟩
  rcases is2 with _ | _
  · go_wp2
    go_ret
    exact ⟨rfl, hT0.below⟩
  have l1 := pz_len hT0.X.num (twoB_ok HI1.out).1
  have l2 := pz_len hT0.Y.num (twoB_ok HI1.out).2
  have l3 := pz_len hT0.Z.num (twoB_ok HI2.out).1
  clear HI1 HI2 HS HT HU H0
  generalize pZ s = x at *
  generalize pZ t = y at *
  generalize pZ u = z at *
  have BX := Lib.hid hT0.X.num.fit.1
  have BY := Lib.hid hT0.Y.num.fit.1
  have BZ := Lib.hid hT0.Z.num.fit.1
  go_wp2
  go_region_held3 (fun w' => w'.cell? ⟨w1.heap.size, 0, none⟩ = some (.bool b1) ∧ w'.cell? ⟨w1.heap.size, 1, none⟩ = some (.slice a1 n1 c1) ∧ w'.cell? ⟨w1.heap.size + 1, 0, none⟩ = some (.bool b2) ∧ w'.cell? ⟨w1.heap.size + 1, 1, none⟩ = some (.slice a2 n2 c2) ∧ w'.cell? ⟨w2.heap.size, 0, none⟩ = some (.bool b3) ∧ w'.cell? ⟨w2.heap.size, 1, none⟩ = some (.slice a3 n3 c3))
    (first | exact hT0.drew.hs | exact hT0.hs | exact hT1.hs | exact hT2.hs | exact hT3.hs | exact hT4.hs | exact hT5.hs)
    (first
      | (go_at_call 17; (with_reducible refine (Add_any b1 a1 n1 c1 x b2 a2 n2 c2 y _ hT0.drew.X.num hT0.drew.Y.num (by omega) (by omega)).mono ?_); rintro e w' ⟨d1r0b, d1r0a, d1r0n, d1r0c, rfl, hD1r0s1, _, hb⟩; have hT1 := hT0.later (below_undrew hb))
      | (go_at_call 17; (with_reducible refine (Add_any d1r0b d1r0a d1r0n d1r0c (x + y) b3 a3 n3 c3 z _ hD1r0s1 hT1.Z.num (len_of hD1r0s1 (bnd_add BX.out BY.out) (by omega)) (by omega)).mono ?_); rintro e w' ⟨d1r1b, d1r1a, d1r1n, d1r1c, rfl, hD1r1s2, _, hb⟩; have hT2 := hT1.later (hb); have hD1r0s2 := hD1r0s1.below hb)
      | (go_at_call 17; (with_reducible refine (Add_any b2 a2 n2 c2 y b3 a3 n3 c3 z _ hT2.Y.num hT2.Z.num (by omega) (by omega)).mono ?_); rintro e w' ⟨d1r2b, d1r2a, d1r2n, d1r2c, rfl, hD1r2s3, _, hb⟩; have hT3 := hT2.later (hb); have hD1r0s3 := hD1r0s2.below hb; have hD1r1s3 := hD1r1s2.below hb)
      | (go_at_call 17; (with_reducible refine (Add_any b1 a1 n1 c1 x d1r2b d1r2a d1r2n d1r2c (y + z) _ hT3.X.num hD1r2s3 (by omega) (len_of hD1r2s3 (bnd_add BY.out BZ.out) (by omega))).mono ?_); rintro e w' ⟨d1r3b, d1r3a, d1r3n, d1r3c, rfl, hD1r3s4, _, hb⟩; have hT4 := hT3.later (hb); have hD1r0s4 := hD1r0s3.below hb; have hD1r1s4 := hD1r1s3.below hb; have hD1r2s4 := hD1r2s3.below hb)
      | (go_at_call 22; (with_reducible refine (Cmp_any d1r1b d1r1a d1r1n d1r1c ((x + y) + z) d1r3b d1r3a d1r3n d1r3c (x + (y + z)) _ hD1r1s4 hD1r3s4).mono ?_); rintro e w' ⟨rfl, hb⟩; have hT5 := hT4.later (hb); have hD1r0s5 := hD1r0s4.below hb; have hD1r1s5 := hD1r1s4.below hb; have hD1r2s5 := hD1r2s4.below hb; have hD1r3s5 := hD1r3s4.below hb))
  clear hT0 hT1 hT2 hT3 hT4
  rw [Int.add_assoc x y z, cmp_self]
  go_wp2
  go_region_held3 (fun w' => w'.cell? ⟨w1.heap.size, 0, none⟩ = some (.bool b1) ∧ w'.cell? ⟨w1.heap.size, 1, none⟩ = some (.slice a1 n1 c1) ∧ w'.cell? ⟨w1.heap.size + 1, 0, none⟩ = some (.bool b2) ∧ w'.cell? ⟨w1.heap.size + 1, 1, none⟩ = some (.slice a2 n2 c2) ∧ w'.cell? ⟨w2.heap.size, 0, none⟩ = some (.bool b3) ∧ w'.cell? ⟨w2.heap.size, 1, none⟩ = some (.slice a3 n3 c3))
    (first | exact hT5.drew.hs | exact hT5.hs | exact hT6.hs | exact hT7.hs | exact hT8.hs | exact hT9.hs | exact hT10.hs)
    (first
      | (go_at_call 19; (with_reducible refine (Mul_any b1 a1 n1 c1 x b2 a2 n2 c2 y _ hT5.drew.X.num hT5.drew.Y.num (by omega) (by omega)).mono ?_); rintro e w' ⟨d2r0b, d2r0a, d2r0n, d2r0c, rfl, hD2r0s1, _, hb⟩; have hT6 := hT5.later (below_undrew hb))
      | (go_at_call 19; (with_reducible refine (Mul_any d2r0b d2r0a d2r0n d2r0c (x * y) b3 a3 n3 c3 z _ hD2r0s1 hT6.Z.num (len_of hD2r0s1 (bnd_mul BX.out BY.out) (by omega)) (by omega)).mono ?_); rintro e w' ⟨d2r1b, d2r1a, d2r1n, d2r1c, rfl, hD2r1s2, _, hb⟩; have hT7 := hT6.later (hb); have hD2r0s2 := hD2r0s1.below hb)
      | (go_at_call 19; (with_reducible refine (Mul_any b2 a2 n2 c2 y b3 a3 n3 c3 z _ hT7.Y.num hT7.Z.num (by omega) (by omega)).mono ?_); rintro e w' ⟨d2r2b, d2r2a, d2r2n, d2r2c, rfl, hD2r2s3, _, hb⟩; have hT8 := hT7.later (hb); have hD2r0s3 := hD2r0s2.below hb; have hD2r1s3 := hD2r1s2.below hb)
      | (go_at_call 19; (with_reducible refine (Mul_any b1 a1 n1 c1 x d2r2b d2r2a d2r2n d2r2c (y * z) _ hT8.X.num hD2r2s3 (by omega) (len_of hD2r2s3 (bnd_mul BY.out BZ.out) (by omega))).mono ?_); rintro e w' ⟨d2r3b, d2r3a, d2r3n, d2r3c, rfl, hD2r3s4, _, hb⟩; have hT9 := hT8.later (hb); have hD2r0s4 := hD2r0s3.below hb; have hD2r1s4 := hD2r1s3.below hb; have hD2r2s4 := hD2r2s3.below hb)
      | (go_at_call 22; (with_reducible refine (Cmp_any d2r1b d2r1a d2r1n d2r1c ((x * y) * z) d2r3b d2r3a d2r3n d2r3c (x * (y * z)) _ hD2r1s4 hD2r3s4).mono ?_); rintro e w' ⟨rfl, hb⟩; have hT10 := hT9.later (hb); have hD2r0s5 := hD2r0s4.below hb; have hD2r1s5 := hD2r1s4.below hb; have hD2r2s5 := hD2r2s4.below hb; have hD2r3s5 := hD2r3s4.below hb))
  clear hT5 hT6 hT7 hT8 hT9
  rw [Int.mul_assoc x y z, cmp_self]
  go_wp2
  go_region_held3 (fun w' => w'.cell? ⟨w1.heap.size, 0, none⟩ = some (.bool b1) ∧ w'.cell? ⟨w1.heap.size, 1, none⟩ = some (.slice a1 n1 c1) ∧ w'.cell? ⟨w1.heap.size + 1, 0, none⟩ = some (.bool b2) ∧ w'.cell? ⟨w1.heap.size + 1, 1, none⟩ = some (.slice a2 n2 c2) ∧ w'.cell? ⟨w2.heap.size, 0, none⟩ = some (.bool b3) ∧ w'.cell? ⟨w2.heap.size, 1, none⟩ = some (.slice a3 n3 c3))
    (first | exact hT10.drew.hs | exact hT10.hs | exact hT11.hs | exact hT12.hs | exact hT13.hs | exact hT14.hs | exact hT15.hs | exact hT16.hs)
    (first
      | (go_at_call 17; (with_reducible refine (Add_any b2 a2 n2 c2 y b3 a3 n3 c3 z _ hT10.drew.Y.num hT10.drew.Z.num (by omega) (by omega)).mono ?_); rintro e w' ⟨d3r0b, d3r0a, d3r0n, d3r0c, rfl, hD3r0s1, _, hb⟩; have hT11 := hT10.later (below_undrew hb))
      | (go_at_call 19; (with_reducible refine (Mul_any b1 a1 n1 c1 x d3r0b d3r0a d3r0n d3r0c (y + z) _ hT11.X.num hD3r0s1 (by omega) (len_of hD3r0s1 (bnd_add BY.out BZ.out) (by omega))).mono ?_); rintro e w' ⟨d3r1b, d3r1a, d3r1n, d3r1c, rfl, hD3r1s2, _, hb⟩; have hT12 := hT11.later (hb); have hD3r0s2 := hD3r0s1.below hb)
      | (go_at_call 19; (with_reducible refine (Mul_any b1 a1 n1 c1 x b2 a2 n2 c2 y _ hT12.X.num hT12.Y.num (by omega) (by omega)).mono ?_); rintro e w' ⟨d3r2b, d3r2a, d3r2n, d3r2c, rfl, hD3r2s3, _, hb⟩; have hT13 := hT12.later (hb); have hD3r0s3 := hD3r0s2.below hb; have hD3r1s3 := hD3r1s2.below hb)
      | (go_at_call 19; (with_reducible refine (Mul_any b1 a1 n1 c1 x b3 a3 n3 c3 z _ hT13.X.num hT13.Z.num (by omega) (by omega)).mono ?_); rintro e w' ⟨d3r3b, d3r3a, d3r3n, d3r3c, rfl, hD3r3s4, _, hb⟩; have hT14 := hT13.later (hb); have hD3r0s4 := hD3r0s3.below hb; have hD3r1s4 := hD3r1s3.below hb; have hD3r2s4 := hD3r2s3.below hb)
      | (go_at_call 17; (with_reducible refine (Add_any d3r2b d3r2a d3r2n d3r2c (x * y) d3r3b d3r3a d3r3n d3r3c (x * z) _ hD3r2s4 hD3r3s4 (len_of hD3r2s4 (bnd_mul BX.out BY.out) (by omega)) (len_of hD3r3s4 (bnd_mul BX.out BZ.out) (by omega))).mono ?_); rintro e w' ⟨d3r4b, d3r4a, d3r4n, d3r4c, rfl, hD3r4s5, _, hb⟩; have hT15 := hT14.later (hb); have hD3r0s5 := hD3r0s4.below hb; have hD3r1s5 := hD3r1s4.below hb; have hD3r2s5 := hD3r2s4.below hb; have hD3r3s5 := hD3r3s4.below hb)
      | (go_at_call 22; (with_reducible refine (Cmp_any d3r1b d3r1a d3r1n d3r1c (x * (y + z)) d3r4b d3r4a d3r4n d3r4c ((x * y) + (x * z)) _ hD3r1s5 hD3r4s5).mono ?_); rintro e w' ⟨rfl, hb⟩; have hT16 := hT15.later (hb); have hD3r0s6 := hD3r0s5.below hb; have hD3r1s6 := hD3r1s5.below hb; have hD3r2s6 := hD3r2s5.below hb; have hD3r3s6 := hD3r3s5.below hb; have hD3r4s6 := hD3r4s5.below hb))
  clear hT10 hT11 hT12 hT13 hT14 hT15
  rw [Int.mul_add x y z, cmp_self]
  go_wp2
  go_region_held3 (fun w' => w'.cell? ⟨w1.heap.size, 0, none⟩ = some (.bool b1) ∧ w'.cell? ⟨w1.heap.size, 1, none⟩ = some (.slice a1 n1 c1) ∧ w'.cell? ⟨w1.heap.size + 1, 0, none⟩ = some (.bool b2) ∧ w'.cell? ⟨w1.heap.size + 1, 1, none⟩ = some (.slice a2 n2 c2) ∧ w'.cell? ⟨w2.heap.size, 0, none⟩ = some (.bool b3) ∧ w'.cell? ⟨w2.heap.size, 1, none⟩ = some (.slice a3 n3 c3))
    (first | exact hT16.drew.hs | exact hT16.hs | exact hT17.hs | exact hT18.hs | exact hT19.hs)
    (first
      | (go_at_call 17; (with_reducible refine (Add_any b1 a1 n1 c1 x b2 a2 n2 c2 y _ hT16.drew.X.num hT16.drew.Y.num (by omega) (by omega)).mono ?_); rintro e w' ⟨d4r0b, d4r0a, d4r0n, d4r0c, rfl, hD4r0s1, _, hb⟩; have hT17 := hT16.later (below_undrew hb))
      | (go_at_call 17; (with_reducible refine (Add_any b2 a2 n2 c2 y b1 a1 n1 c1 x _ hT17.Y.num hT17.X.num (by omega) (by omega)).mono ?_); rintro e w' ⟨d4r1b, d4r1a, d4r1n, d4r1c, rfl, hD4r1s2, _, hb⟩; have hT18 := hT17.later (hb); have hD4r0s2 := hD4r0s1.below hb)
      | (go_at_call 22; (with_reducible refine (Cmp_any d4r0b d4r0a d4r0n d4r0c (x + y) d4r1b d4r1a d4r1n d4r1c (y + x) _ hD4r0s2 hD4r1s2).mono ?_); rintro e w' ⟨rfl, hb⟩; have hT19 := hT18.later (hb); have hD4r0s3 := hD4r0s2.below hb; have hD4r1s3 := hD4r1s2.below hb))
  clear hT16 hT17 hT18
  rw [Int.add_comm x y, cmp_self]
  go_wp2
  go_region_held3 (fun w' => w'.cell? ⟨w1.heap.size, 0, none⟩ = some (.bool b1) ∧ w'.cell? ⟨w1.heap.size, 1, none⟩ = some (.slice a1 n1 c1) ∧ w'.cell? ⟨w1.heap.size + 1, 0, none⟩ = some (.bool b2) ∧ w'.cell? ⟨w1.heap.size + 1, 1, none⟩ = some (.slice a2 n2 c2) ∧ w'.cell? ⟨w2.heap.size, 0, none⟩ = some (.bool b3) ∧ w'.cell? ⟨w2.heap.size, 1, none⟩ = some (.slice a3 n3 c3))
    (first | exact hT19.drew.hs | exact hT19.hs | exact hT20.hs | exact hT21.hs | exact hT22.hs)
    (first
      | (go_at_call 19; (with_reducible refine (Mul_any b1 a1 n1 c1 x b2 a2 n2 c2 y _ hT19.drew.X.num hT19.drew.Y.num (by omega) (by omega)).mono ?_); rintro e w' ⟨d5r0b, d5r0a, d5r0n, d5r0c, rfl, hD5r0s1, _, hb⟩; have hT20 := hT19.later (below_undrew hb))
      | (go_at_call 19; (with_reducible refine (Mul_any b2 a2 n2 c2 y b1 a1 n1 c1 x _ hT20.Y.num hT20.X.num (by omega) (by omega)).mono ?_); rintro e w' ⟨d5r1b, d5r1a, d5r1n, d5r1c, rfl, hD5r1s2, _, hb⟩; have hT21 := hT20.later (hb); have hD5r0s2 := hD5r0s1.below hb)
      | (go_at_call 22; (with_reducible refine (Cmp_any d5r0b d5r0a d5r0n d5r0c (x * y) d5r1b d5r1a d5r1n d5r1c (y * x) _ hD5r0s2 hD5r1s2).mono ?_); rintro e w' ⟨rfl, hb⟩; have hT22 := hT21.later (hb); have hD5r0s3 := hD5r0s2.below hb; have hD5r1s3 := hD5r1s2.below hb))
  clear hT19 hT20 hT21
  rw [Int.mul_comm x y, cmp_self]
  go_wp2
  go_region_held3 (fun w' => w'.cell? ⟨w1.heap.size, 0, none⟩ = some (.bool b1) ∧ w'.cell? ⟨w1.heap.size, 1, none⟩ = some (.slice a1 n1 c1) ∧ w'.cell? ⟨w1.heap.size + 1, 0, none⟩ = some (.bool b2) ∧ w'.cell? ⟨w1.heap.size + 1, 1, none⟩ = some (.slice a2 n2 c2) ∧ w'.cell? ⟨w2.heap.size, 0, none⟩ = some (.bool b3) ∧ w'.cell? ⟨w2.heap.size, 1, none⟩ = some (.slice a3 n3 c3))
    (first | exact hT22.drew.hs | exact hT22.hs | exact hT23.hs | exact hT24.hs | exact hT25.hs | exact hT26.hs)
    (first
      | (go_at_call 18; (with_reducible refine (Sub_any b1 a1 n1 c1 x b2 a2 n2 c2 y _ hT22.drew.X.num hT22.drew.Y.num (by omega) (by omega)).mono ?_); rintro e w' ⟨d6r0b, d6r0a, d6r0n, d6r0c, rfl, hD6r0s1, _, hb⟩; have hT23 := hT22.later (below_undrew hb))
      | (go_at_call 20; (with_reducible refine (Neg_any b2 a2 n2 c2 y _ hT23.Y.num (by omega)).mono ?_); rintro e w' ⟨d6r1b, d6r1a, d6r1n, d6r1c, rfl, hD6r1s2, _, hb⟩; have hT24 := hT23.later (hb); have hD6r0s2 := hD6r0s1.below hb)
      | (go_at_call 17; (with_reducible refine (Add_any b1 a1 n1 c1 x d6r1b d6r1a d6r1n d6r1c (-y) _ hT24.X.num hD6r1s2 (by omega) (len_of hD6r1s2 (bnd_neg BY.out) (by omega))).mono ?_); rintro e w' ⟨d6r2b, d6r2a, d6r2n, d6r2c, rfl, hD6r2s3, _, hb⟩; have hT25 := hT24.later (hb); have hD6r0s3 := hD6r0s2.below hb; have hD6r1s3 := hD6r1s2.below hb)
      | (go_at_call 22; (with_reducible refine (Cmp_any d6r0b d6r0a d6r0n d6r0c (x - y) d6r2b d6r2a d6r2n d6r2c (x + (-y)) _ hD6r0s3 hD6r2s3).mono ?_); rintro e w' ⟨rfl, hb⟩; have hT26 := hT25.later (hb); have hD6r0s4 := hD6r0s3.below hb; have hD6r1s4 := hD6r1s3.below hb; have hD6r2s4 := hD6r2s3.below hb))
  clear hT22 hT23 hT24 hT25
  rw [show x + (-y) = x - y from (Int.sub_eq_add_neg).symm, cmp_self]
  obtain ⟨p0, p1, q0, q1, r0, r1⟩ := hT26.hs
  go_wp2_with fail
  refine (Sub_any b1 a1 n1 c1 x b1 a1 n1 c1 x _ hT26.X.num hT26.X.num (by omega) (by omega)).mono ?_
  rintro e w' ⟨d9b, d9a, d9n, d9c, rfl, hD9, _, hb⟩
  have hT27 := hT26.later hb
  clear hb hT26 p0 p1 q0 q1 r0 r1
  go_wp2_with fail
  refine (Sign_any d9b d9a d9n d9c (x - x) _ hD9).mono ?_
  rintro e w' ⟨rfl, hb⟩
  have hT28 := hT27.later hb
  clear hb hT27 hD9
  rw [show sgnI (x - x) = 0 by rw [Int.sub_self]; rfl]
  have hBf := hT28.below
  clear hT28
  go_wp2
  go_ret
  exact ⟨rfl, hBf⟩
end Go.Proofs.YtokifocebpldaaaDoor
