/- The walk of the law LongOrder. -/
import Derived.Test.YtokifocebpldaaaDoorThree
namespace Go.Proofs.YtokifocebpldaaaDoor
open Go.RowKit

set_option maxRecDepth 100000 in
set_option maxHeartbeats 6400000 in
theorem LongOrder_any (s t u : ByteArray) (w : World) (hs : s.size ≤ maxLen) (ht : t.size ≤ maxLen) (hu : u.size ≤ maxLen) :
    Calls Tryd.prog 11 #[.string s, .string t, .string u] w (PVal (.bool true) w) := by
  have HS := Lib.hid hs
  have HT := Lib.hid ht
  have HU := Lib.hid hu
  have H0 : Hid ((⟨#[48]⟩ : ByteArray).size ≤ maxLen) := by show 1 ≤ maxLen; unfold maxLen; omega
  clear hs ht hu
  go_enter Tryd.func11, Tryd.ntmps11
  go_wp2_with fail
  refine (awake_any _).mono ?_
  rintro e w0 ⟨rfl, hB0⟩
  go_wp2_with fail
  refine (two_any s t _ HS.out HT.out).mono ?_
  rintro e w1 ⟨b1, a1, n1, c1, b2, a2, n2, c2, b8, a8, n8, c8, b9, a9, n9, c9, rfl, hX, hY, hRx, hRy, hB1⟩
  clear hRx hRy
  obtain ⟨hV1, hV2, hB2⟩ := vi_four hX hY 25 31 (.cells #[.bool b8, .slice a8 n8 c8] 31) (.cells #[.bool b9, .slice a9 n9 c9] 31)
  have hB3 := (hB0.trans (hB1.mono hB0.size)).trans (hB2.mono (hB0.trans (hB1.mono hB0.size)).size)
  clear hX hY hB0 hB1 hB2
  obtain ⟨is1, his1⟩ : ∃ q, twoB s t = q := ⟨_, rfl⟩
  rw [his1]
  have HI1 := Lib.hid his1
  clear his1
  go_wp2_with fail
  generalize (((w1.alloc (.cells #[.bool b1, .slice a1 n1 c1] 25)).alloc (.cells #[.bool b2, .slice a2 n2 c2] 25)).alloc (.cells #[.bool b8, .slice a8 n8 c8] 31)).alloc (.cells #[.bool b9, .slice a9 n9 c9] 31) = W1 at *
  refine (two_any u ⟨#[48]⟩ _ HU.out H0.out).mono ?_
  rintro e w2 ⟨b3, a3, n3, c3, b5, a5, n5, c5, b6, a6, n6, c6, b7, a7, n7, c7, rfl, hZ, hO, hRz, hRo, hB4⟩
  clear hRz hRo
  obtain ⟨hV3, hV5, hB5⟩ := vi_four hZ hO 25 31 (.cells #[.bool b6, .slice a6 n6 c6] 31) (.cells #[.bool b7, .slice a7 n7 c7] 31)
  have hB6 := hB4.trans (hB5.mono hB4.size)
  have hU1 := hV1.below hB6
  have hU2 := hV2.below hB6
  have hB7 := hB3.trans (hB6.mono hB3.size)
  clear hZ hO hV5 hV1 hV2 hB3 hB4 hB5 hB6
  obtain ⟨is2, his2⟩ : ∃ q, twoB u ⟨#[48]⟩ = q := ⟨_, rfl⟩
  rw [his2]
  have HI2 := Lib.hid his2
  clear his2
  go_upto_region 4 with (fail)
  generalize (((w2.alloc (.cells #[.bool b3, .slice a3 n3 c3] 25)).alloc (.cells #[.bool b5, .slice a5 n5 c5] 25)).alloc (.cells #[.bool b6, .slice a6 n6 c6] 31)).alloc (.cells #[.bool b7, .slice a7 n7 c7] 31) = W2 at *
  have hT0 : T3 w W2 w1.heap.size (w1.heap.size + 1) w2.heap.size b1 a1 n1 c1 (pZ s) b2 a2 n2 c2 (pZ t) b3 a3 n3 c3 (pZ u) := ⟨hB7, hU1, hU2, hV3⟩
  clear hB7 hU1 hU2 hV3
  rcases is1 with _ | _
  · go_wp2
    go_ret
    exact ⟨rfl, hT0.below⟩
  rcases is2 with _ | _
  · go_wp2
    go_ret
    exact ⟨rfl, hT0.below⟩
  have l1 := pz_len hT0.X.num (twoB_ok HI1.out).1
  have l2 := pz_len hT0.Y.num (twoB_ok HI1.out).2
  have l3 := pz_len hT0.Z.num (twoB_ok HI2.out).1
  clear HI1 HI2 HS HT HU H0
  generalize pZ s = x at *
  generalize pZ t = y at *
  generalize pZ u = z at *
  obtain ⟨p0, p1, q0, q1, r0, r1⟩ := hT0.hs
  go_wp2_with fail
  refine (Cmp_any b1 a1 n1 c1 x b2 a2 n2 c2 y _ hT0.X.num hT0.Y.num).mono ?_
  rintro e w' ⟨rfl, hb⟩
  have hT1 := hT0.later hb
  clear hb hT0 p0 p1 q0 q1 r0 r1
  obtain ⟨cc, hcc⟩ : ∃ q, cmpI x y = q := ⟨_, rfl⟩
  rw [hcc]
  have HC := Lib.hid hcc
  clear hcc
  obtain ⟨p0, p1, q0, q1, r0, r1⟩ := hT1.hs
  go_wp2_with fail
  refine (Cmp_any b2 a2 n2 c2 y b1 a1 n1 c1 x _ hT1.Y.num hT1.X.num).mono ?_
  rintro e w' ⟨rfl, hb⟩
  have hT2 := hT1.later hb
  clear hb hT1 p0 p1 q0 q1 r0 r1
  rw [cmp_back, HC.out]
  go_wp2
  go_region_held3 (fun w' => w'.cell? ⟨w1.heap.size, 0, none⟩ = some (.bool b1) ∧ w'.cell? ⟨w1.heap.size, 1, none⟩ = some (.slice a1 n1 c1) ∧ w'.cell? ⟨w1.heap.size + 1, 0, none⟩ = some (.bool b2) ∧ w'.cell? ⟨w1.heap.size + 1, 1, none⟩ = some (.slice a2 n2 c2) ∧ w'.cell? ⟨w2.heap.size, 0, none⟩ = some (.bool b3) ∧ w'.cell? ⟨w2.heap.size, 1, none⟩ = some (.slice a3 n3 c3))
    (first | exact hT2.drew.hs | exact hT2.hs | exact hT3.hs | exact hT4.hs | exact hT5.hs)
    (first
      | (go_at_call 17; (with_reducible refine (Add_any b1 a1 n1 c1 x b3 a3 n3 c3 z _ hT2.drew.X.num hT2.drew.Z.num (by omega) (by omega)).mono ?_); rintro e w' ⟨d1r0b, d1r0a, d1r0n, d1r0c, rfl, hD1r0s1, _, hb⟩; have hT3 := hT2.later (below_undrew hb))
      | (go_at_call 17; (with_reducible refine (Add_any b2 a2 n2 c2 y b3 a3 n3 c3 z _ hT3.Y.num hT3.Z.num (by omega) (by omega)).mono ?_); rintro e w' ⟨d1r1b, d1r1a, d1r1n, d1r1c, rfl, hD1r1s2, _, hb⟩; have hT4 := hT3.later (hb); have hD1r0s2 := hD1r0s1.below hb)
      | (go_at_call 22; (with_reducible refine (Cmp_any d1r0b d1r0a d1r0n d1r0c (x + z) d1r1b d1r1a d1r1n d1r1c (y + z) _ hD1r0s2 hD1r1s2).mono ?_); rintro e w' ⟨rfl, hb⟩; have hT5 := hT4.later (hb); have hD1r0s3 := hD1r0s2.below hb; have hD1r1s3 := hD1r1s2.below hb))
  clear hT2 hT3 hT4
  rw [cmp_add, HC.out]
  go_wp2
  go_region_held3 (fun w' => w'.cell? ⟨w1.heap.size, 0, none⟩ = some (.bool b1) ∧ w'.cell? ⟨w1.heap.size, 1, none⟩ = some (.slice a1 n1 c1) ∧ w'.cell? ⟨w1.heap.size + 1, 0, none⟩ = some (.bool b2) ∧ w'.cell? ⟨w1.heap.size + 1, 1, none⟩ = some (.slice a2 n2 c2) ∧ w'.cell? ⟨w2.heap.size, 0, none⟩ = some (.bool b3) ∧ w'.cell? ⟨w2.heap.size, 1, none⟩ = some (.slice a3 n3 c3))
    (first | exact hT5.drew.hs | exact hT5.hs | exact hT6.hs | exact hT7.hs | exact hT8.hs)
    (first
      | (go_at_call 19; (with_reducible refine (Mul_any b1 a1 n1 c1 x b3 a3 n3 c3 z _ hT5.drew.X.num hT5.drew.Z.num (by omega) (by omega)).mono ?_); rintro e w' ⟨d2r0b, d2r0a, d2r0n, d2r0c, rfl, hD2r0s1, _, hb⟩; have hT6 := hT5.later (below_undrew hb))
      | (go_at_call 19; (with_reducible refine (Mul_any b2 a2 n2 c2 y b3 a3 n3 c3 z _ hT6.Y.num hT6.Z.num (by omega) (by omega)).mono ?_); rintro e w' ⟨d2r1b, d2r1a, d2r1n, d2r1c, rfl, hD2r1s2, _, hb⟩; have hT7 := hT6.later (hb); have hD2r0s2 := hD2r0s1.below hb)
      | (go_at_call 22; (with_reducible refine (Cmp_any d2r0b d2r0a d2r0n d2r0c (x * z) d2r1b d2r1a d2r1n d2r1c (y * z) _ hD2r0s2 hD2r1s2).mono ?_); rintro e w' ⟨rfl, hb⟩; have hT8 := hT7.later (hb); have hD2r0s3 := hD2r0s2.below hb; have hD2r1s3 := hD2r1s2.below hb))
  clear hT5 hT6 hT7
  rw [cmp_mul, HC.out]
  obtain ⟨sz, hsz⟩ : ∃ q, sgnI z = q := ⟨_, rfl⟩
  rw [hsz]
  have HZ := Lib.hid hsz
  clear hsz
  obtain ⟨p0, p1, q0, q1, r0, r1⟩ := hT8.hs
  go_wp2_with fail
  refine (Sign_any b3 a3 n3 c3 z _ hT8.Z.num).mono ?_
  rintro e w' ⟨rfl, hb⟩
  have hT9 := hT8.later hb
  clear hb hT8 p0 p1 q0 q1 r0 r1
  rw [HZ.out]
  obtain ⟨p0, p1, q0, q1, r0, r1⟩ := hT9.hs
  go_wp2_with fail
  refine (Cmp_any b2 a2 n2 c2 y b3 a3 n3 c3 z _ hT9.Y.num hT9.Z.num).mono ?_
  rintro e w' ⟨rfl, hb⟩
  have hT10 := hT9.later hb
  clear hb hT9 p0 p1 q0 q1 r0 r1
  obtain ⟨nx, hnx⟩ : ∃ q, cmpI y z = q := ⟨_, rfl⟩
  rw [hnx]
  have HNX := Lib.hid hnx
  clear hnx
  obtain ⟨p0, p1, q0, q1, r0, r1⟩ := hT10.hs
  go_wp2_with fail
  refine (Cmp_any b1 a1 n1 c1 x b3 a3 n3 c3 z _ hT10.X.num hT10.Z.num).mono ?_
  rintro e w' ⟨rfl, hb⟩
  have hT11 := hT10.later hb
  clear hb hT10 p0 p1 q0 q1 r0 r1
  obtain ⟨fr, hfr⟩ : ∃ q, cmpI x z = q := ⟨_, rfl⟩
  rw [hfr]
  have HFR := Lib.hid hfr
  clear hfr
  obtain ⟨p0, p1, q0, q1, r0, r1⟩ := hT11.hs
  go_wp2_with fail
  refine (String_all b1 a1 n1 c1 x _ hT11.X.num (by omega)).mono ?_
  rintro e w' ⟨lp, rfl, htp, hb⟩
  have hT12 := hT11.later hb
  clear hb hT11 p0 p1 q0 q1 r0 r1
  have HTP := Lib.hid htp
  clear htp
  obtain ⟨p0, p1, q0, q1, r0, r1⟩ := hT12.hs
  go_wp2_with fail
  refine (String_all b2 a2 n2 c2 y _ hT12.Y.num (by omega)).mono ?_
  rintro e w' ⟨lq, rfl, htq, hb⟩
  have hT13 := hT12.later hb
  clear hb hT12 p0 p1 q0 q1 r0 r1
  have HTQ := Lib.hid htq
  clear htq
  have hBf := hT13.below
  clear hT13
  obtain ⟨P, hP⟩ : ∃ P : ByteArray, P = ⟨lp.toArray⟩ := ⟨_, rfl⟩
  obtain ⟨Q, hQ⟩ : ∃ P : ByteArray, P = ⟨lq.toArray⟩ := ⟨_, rfl⟩
  rw [← hP, ← hQ]
  have HPQ := Lib.hid (And.intro hP hQ)
  clear hP hQ
  have hfin : (cc = -1 ∧ P ≠ Q ∧ (0 ≤ nx ∨ (nx < 0 ∧ fr < 0))) ∨ (cc = 0 ∧ P = Q) ∨ (cc = 1 ∧ P ≠ Q) := by
    have e1 := HC.out
    have e2 := HNX.out
    have e3 := HFR.out
    have ne : x ≠ y → P ≠ Q := fun h he => h (by
      rw [HPQ.out.1, HPQ.out.2] at he
      have hl : lp = lq := by simpa using he
      rw [← HTP.out.2, ← HTQ.out.2, hl])
    rcases cmp_val x y with ⟨h1, h2⟩ | ⟨h1, h2⟩ | ⟨h1, h2⟩
    · refine .inl ⟨by omega, ne (by omega), ?_⟩
      rcases cmp_val y z with h3 | h3 | h3
      · right
        have := cmp_lt' (x := x) (y := z) (by omega)
        omega
      · left; omega
      · left; omega
    · refine .inr (.inl ⟨by omega, ?_⟩)
      have ht := HTP.out
      rw [h2] at ht
      rw [HPQ.out.1, HPQ.out.2, txt_uniq ht HTQ.out]
    · exact .inr (.inr ⟨by omega, ne (by omega)⟩)
  have hsv : sz = -1 ∨ sz = 0 ∨ sz = 1 := by
    have e1 := HZ.out
    rcases sgn_val z with h1 | h1 | h1 <;> omega
  clear HC HZ HNX HFR HTP HTQ HPQ hD1r0s1 hD1r1s2 hD1r0s2 hD1r0s3 hD1r1s3 hD2r0s1 hD2r1s2 hD2r0s2 hD2r0s3 hD2r1s3 hb
  rcases hfin with ⟨rfl, hne, hnf⟩ | ⟨rfl, rfl⟩ | ⟨rfl, hne⟩
  · have hne2 : (P.toList == Q.toList) = false := beq_eq_false_iff_ne.2 (fun h => hne (bytes_of h))
    rcases hnf with hnx | ⟨hnx, hfr⟩
    · rcases hsv with rfl | rfl | rfl <;> (go_wp2; go_ret; exact ⟨rfl, hBf⟩)
    · have hnx2 : ¬ 0 ≤ nx := by omega
      rcases hsv with rfl | rfl | rfl <;> (go_wp2; go_ret; exact ⟨rfl, hBf⟩)
  · rcases hsv with rfl | rfl | rfl <;> (go_wp2; go_ret; exact ⟨rfl, hBf⟩)
  · have hne2 : (P.toList == Q.toList) = false := beq_eq_false_iff_ne.2 (fun h => hne (bytes_of h))
    rcases hsv with rfl | rfl | rfl <;> (go_wp2; go_ret; exact ⟨rfl, hBf⟩)
end Go.Proofs.YtokifocebpldaaaDoor
