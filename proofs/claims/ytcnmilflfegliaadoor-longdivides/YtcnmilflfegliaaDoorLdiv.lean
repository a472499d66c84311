/- The walk of the law LongDivides. -/
import Derived.Test.YtcnmilflfegliaaDoorFour
import Derived.Test.YtcnmilflfegliaaDoorBxs
namespace Go.Proofs.YtcnmilflfegliaaDoor
open Go.RowKit

theorem T4.hs4 {w W : World} {i j k l : Nat} {b1 : Bool} {a1 : Option Addr} {n1 c1 : Nat} {x : Int} {b2 : Bool} {a2 : Option Addr} {n2 c2 : Nat} {y : Int} {b3 : Bool} {a3 : Option Addr} {n3 c3 : Nat} {q : Int} {b4 : Bool} {a4 : Option Addr} {n4 c4 : Nat} {r : Int} (h : T4 w W i j k l b1 a1 n1 c1 x b2 a2 n2 c2 y b3 a3 n3 c3 q b4 a4 n4 c4 r) : W.cell? ⟨i, 0, none⟩ = some (.bool b1) ∧ W.cell? ⟨i, 1, none⟩ = some (.slice a1 n1 c1) ∧ W.cell? ⟨j, 0, none⟩ = some (.bool b2) ∧ W.cell? ⟨j, 1, none⟩ = some (.slice a2 n2 c2) := ⟨h.X.k0, h.X.k1, h.Y.k0, h.Y.k1⟩
/-- Two variables hold numbers. -/
structure Hw (w W : World) (i j : Nat) (b1 : Bool) (a1 : Option Addr) (n1 c1 : Nat) (x : Int) (b2 : Bool) (a2 : Option Addr) (n2 c2 : Nat) (y : Int) : Prop where
  below : Below w.heap.size w W
  X : VI W i b1 a1 n1 c1 x
  Y : VI W j b2 a2 n2 c2 y
theorem VI.lt {W : World} {i : Nat} {b1 : Bool} {a1 : Option Addr} {n1 c1 : Nat} {x : Int} (h : VI W i b1 a1 n1 c1 x) : i < W.heap.size := World.block_lt_of_cell? W _ h.k0
theorem Hw.later {w W W' : World} {i j : Nat} {b1 : Bool} {a1 : Option Addr} {n1 c1 : Nat} {x : Int} {b2 : Bool} {a2 : Option Addr} {n2 c2 : Nat} {y : Int} (h : Hw w W i j b1 a1 n1 c1 x b2 a2 n2 c2 y) (hb : Below W.heap.size W W') : Hw w W' i j b1 a1 n1 c1 x b2 a2 n2 c2 y :=
  ⟨h.below.trans (hb.mono h.below.size), h.X.below hb, h.Y.below hb⟩
theorem VI.other {W : World} {i : Nat} {b1 : Bool} {a1 : Option Addr} {n1 c1 : Nat} {x : Int} (h : VI W i b1 a1 n1 c1 x) {k : Nat} {bk : Bool} {ak : Option Addr} {nk ck : Nat} (hk : Bx W 25 k (.bool bk) (.slice ak nk ck)) (hki : k ≠ i) (u v : Value) :
    VI ((W.setCell ⟨k, 0, none⟩ u).setCell ⟨k, 1, none⟩ v) i b1 a1 n1 c1 x := ⟨far2 h.k0 (Ne.symm hki), far2 h.k1 (Ne.symm hki), h.num.store hk _ _⟩
theorem Hw.store {w W : World} {i j : Nat} {b1 : Bool} {a1 : Option Addr} {n1 c1 : Nat} {x : Int} {b2 : Bool} {a2 : Option Addr} {n2 c2 : Nat} {y : Int} (h : Hw w W i j b1 a1 n1 c1 x b2 a2 n2 c2 y) {k : Nat} {bk : Bool} {ak : Option Addr} {nk ck : Nat} (hk : Bx W 25 k (.bool bk) (.slice ak nk ck)) (hki : k ≠ i) (hkj : k ≠ j) (hkw : w.heap.size ≤ k) (u v : Value) :
    Hw w ((W.setCell ⟨k, 0, none⟩ u).setCell ⟨k, 1, none⟩ v) i j b1 a1 n1 c1 x b2 a2 n2 c2 y :=
  ⟨h.below.trans ((only2 _ _ _ _).below hkw), h.X.other hk hki _ _, h.Y.other hk hkj _ _⟩
/-- The act behind what the region has done. -/
def sets12 (a : Act) (v18 v19 v20 v65 v66 v67 v68 v69 v70 v71 v72 v73 : Value) : Act :=
  { a with tmps := (((((((((((a.tmps.setIfInBounds 18 v18).setIfInBounds 19 v19).setIfInBounds 20 v20).setIfInBounds 65 v65).setIfInBounds 66 v66).setIfInBounds 67 v67).setIfInBounds 68 v68).setIfInBounds 69 v69).setIfInBounds 70 v70).setIfInBounds 71 v71).setIfInBounds 72 v72).setIfInBounds 73 v73 }
set_option maxRecDepth 100000 in
set_option maxHeartbeats 6400000 in
theorem LongDivides_any (s t : ByteArray) (w : World) (hs : s.size ≤ maxLen) (ht : t.size ≤ maxLen) :
    Calls Tryd.prog 6 #[.string s, .string t] w (PVal (.bool true) w) := by
  have HS := Lib.hid hs
  have HT := Lib.hid ht
  clear hs ht
  go_enter Tryd.func6, Tryd.ntmps6
  go_wp2_with fail
  refine (awake_any _).mono ?_
  rintro e w0 ⟨rfl, hB0⟩
  go_wp2_with fail
  refine (two_any s t _ HS.out HT.out).mono ?_
  rintro e w1 ⟨b1, a1, n1, c1, b2, a2, n2, c2, b8, a8, n8, c8, b9, a9, n9, c9, rfl, hX, hY, hRx, hRy, hB1⟩
  clear hRx hRy
  obtain ⟨hV1, hV2, hB2⟩ := vi_four hX hY 25 28 (.cells #[.bool b8, .slice a8 n8 c8] 28) (.cells #[.bool b9, .slice a9 n9 c9] 28)
  have hB3 := (hB0.trans (hB1.mono hB0.size)).trans (hB2.mono (hB0.trans (hB1.mono hB0.size)).size)
  clear hX hY hB0 hB1 hB2
  obtain ⟨is1, his1⟩ : ∃ q, twoB s t = q := ⟨_, rfl⟩
  rw [his1]
  have HI1 := Lib.hid his1
  clear his1
  go_upto_region 3 with (fail)
  generalize (((w1.alloc (.cells #[.bool b1, .slice a1 n1 c1] 25)).alloc (.cells #[.bool b2, .slice a2 n2 c2] 25)).alloc (.cells #[.bool b8, .slice a8 n8 c8] 28)).alloc (.cells #[.bool b9, .slice a9 n9 c9] 28) = W1 at *
  rcases is1 with _ | _
  · go_wp2
    go_ret
    exact ⟨rfl, hB3⟩
  have l1 := pz_len hV1.num (twoB_ok HI1.out).1
  have l2 := pz_len hV2.num (twoB_ok HI1.out).2
  clear HI1 HS HT
  generalize pZ s = x at *
  generalize pZ t = y at *
  have BX := Lib.hid hV1.num.fit.1
  have BY := Lib.hid hV2.num.fit.1
  have p0 := hV1.k0
  have p1 := hV1.k1
  have q0 := hV2.k0
  have q1 := hV2.k1
  by_cases hy : y = 0
  · subst hy
    go_wp2_with fail
    refine (Quo_zero b1 a1 n1 c1 b2 a2 n2 c2 _ hV2.num).mono ?_
    rintro e w2 ⟨b3, a3, n3, c3, b4, a4, n4, c4, rfl, hQ, hR, _, _, hB4⟩
    obtain ⟨_, _, hB5⟩ := vi_two hQ hR 25
    have hB6 := hB4.trans (hB5.mono hB4.size)
    have hU2 := hV2.below hB6
    have hC := hB3.trans (hB6.mono hB3.size)
    have r0 := hU2.k0
    have r1 := hU2.k1
    clear p0 p1 q0 q1 hV1 hV2 hB3 hQ hR hB4 hB5 hB6
    go_wp2_with fail
    generalize (w2.alloc (.cells #[.bool b3, .slice a3 n3 c3] 25)).alloc (.cells #[.bool b4, .slice a4 n4 c4] 25) = W2 at *
    refine (Sign_any b2 a2 n2 c2 0 _ hU2.num).mono ?_
    rintro e w3 ⟨rfl, hb⟩
    have hD := hC.trans (hb.mono hC.size)
    clear hb hC hU2 r0 r1
    rw [show sgnI 0 = 0 from rfl]
    go_wp2
    go_ret
    exact ⟨rfl, hD⟩
  have HY := Lib.hid hy
  clear hy
  go_wp2_with fail
  refine (Quo_any b1 a1 n1 c1 x b2 a2 n2 c2 y _ hV1.num hV2.num (by omega) (by omega) HY.out).mono ?_
  rintro e w2 ⟨q, r, hq, b3, a3, n3, c3, b4, a4, n4, c4, rfl, hQ, hR, _, _, hB4⟩
  have HQ := Lib.hid hq
  obtain ⟨hV3, hV4, hB5⟩ := vi_two hQ hR 25
  have hB6 := hB4.trans (hB5.mono hB4.size)
  have hU1 := hV1.below hB6
  have hU2 := hV2.below hB6
  have hC := hB3.trans (hB6.mono hB3.size)
  have l3 := len_of hQ (quo_bnd HQ.out HY.out BX.out BY.out) (by omega)
  have l4 := len_of hR (quo_left HQ.out HY.out BY.out) (by omega)
  clear p0 p1 q0 q1 hV1 hV2 hB3 hQ hR hB4 hB5 hB6 hq
  go_upto_region 6 with (fail)
  generalize (w2.alloc (.cells #[.bool b3, .slice a3 n3 c3] 25)).alloc (.cells #[.bool b4, .slice a4 n4 c4] 25) = W2 at *
  have hT0 : T4 w W2 w1.heap.size (w1.heap.size + 1) w2.heap.size (w2.heap.size + 1) b1 a1 n1 c1 x b2 a2 n2 c2 y b3 a3 n3 c3 q b4 a4 n4 c4 r := ⟨hC, hU1, hU2, hV3, hV4⟩
  clear hC hU1 hU2 hV3 hV4
  obtain ⟨sy, hsy⟩ : ∃ k, sgnI y = k := ⟨_, rfl⟩
  have HSY := Lib.hid hsy
  have hsy0 : (sy == 0) = false := by
    rw [← hsy]; rcases sgn_val y with h | h | h
    · rw [h.1]; rfl
    · exact absurd h.2 HY.out
    · rw [h.1]; rfl
  clear hsy
  obtain ⟨p0, p1, q0, q1, r0, r1, u0, u1⟩ := hT0.hs
  go_wp2_with fail
  refine (Sign_any b2 a2 n2 c2 y _ hT0.Y.num).mono ?_
  rintro e w3 ⟨rfl, hb⟩
  have hT1 := hT0.later hb
  clear hb hT0 p0 p1 q0 q1 r0 r1 u0 u1
  rw [HSY.out]
  go_wp2
  go_region_held3 (fun w' => w'.cell? ⟨w1.heap.size, 0, none⟩ = some (.bool b1) ∧ w'.cell? ⟨w1.heap.size, 1, none⟩ = some (.slice a1 n1 c1) ∧ w'.cell? ⟨w1.heap.size + 1, 0, none⟩ = some (.bool b2) ∧ w'.cell? ⟨w1.heap.size + 1, 1, none⟩ = some (.slice a2 n2 c2) ∧ w'.cell? ⟨w2.heap.size, 0, none⟩ = some (.bool b3) ∧ w'.cell? ⟨w2.heap.size, 1, none⟩ = some (.slice a3 n3 c3) ∧ w'.cell? ⟨w2.heap.size + 1, 0, none⟩ = some (.bool b4) ∧ w'.cell? ⟨w2.heap.size + 1, 1, none⟩ = some (.slice a4 n4 c4))
    (first | exact hT1.drew.hs | exact hT1.hs | exact hT2.hs | exact hT3.hs | exact hT4.hs)
    (first
      | (go_at_call 13; (with_reducible refine (Mul_any b3 a3 n3 c3 q b2 a2 n2 c2 y _ hT1.drew.Q.num hT1.drew.Y.num (by omega) (by omega)).mono ?_); rintro e w4 ⟨d1b, d1a, d1n, d1c, rfl, hD1, _, hb⟩; have hT2 := hT1.later (below_undrew hb))
      | (go_at_call 10; (with_reducible refine (Add_any d1b d1a d1n d1c (q * y) b4 a4 n4 c4 r _ hD1 hT2.R.num (len_of hD1 (bnd_mul (quo_bnd HQ.out HY.out BX.out BY.out) BY.out) (by omega)) (by omega)).mono ?_); rintro e w5 ⟨d2b, d2a, d2n, d2c, rfl, hD2, _, hb2⟩; have hT3 := hT2.later hb2)
      | (go_at_call 16; (with_reducible refine (Cmp_any d2b d2a d2n d2c (q * y + r) b1 a1 n1 c1 x _ hD2 hT3.X.num).mono ?_); rintro e w6 ⟨rfl, hb3⟩; have hT4 := hT3.later hb3))
  clear hT1 hT2 hT3 hD1 hD2
  rw [← HQ.out.1, cmp_self]
  obtain ⟨p0, p1, q0, q1, r0, r1, u0, u1⟩ := hT4.hs
  go_wp2_with fail
  refine (Sign_any b4 a4 n4 c4 r _ hT4.R.num).mono ?_
  rintro e w7 ⟨rfl, hb⟩
  have hT5 := hT4.later hb
  clear hb hT4 p0 p1 q0 q1 r0 r1 u0 u1
  obtain ⟨p0, p1, q0, q1, r0, r1, u0, u1⟩ := hT5.hs
  go_wp2_with fail
  refine (Sub_any b4 a4 n4 c4 r b2 a2 n2 c2 y _ hT5.R.num hT5.Y.num (by omega) (by omega)).mono ?_
  rintro e w8 ⟨d3b, d3a, d3n, d3c, rfl, hD3, _, hb⟩
  have hT6 := hT5.later hb
  clear hb hT5 p0 p1 q0 q1 r0 r1 u0 u1
  go_wp2_with fail
  refine (Sign_any d3b d3a d3n d3c (r - y) _ hD3).mono ?_
  rintro e w9 ⟨rfl, hb⟩
  have hT7 := hT6.later hb
  clear hb hT6 hD3
  rw [quo_near HQ.out HY.out, HSY.out]
  go_upto_region 12 with (fail)
  have hH7 : Hw w _ w1.heap.size (w1.heap.size + 1) b1 a1 n1 c1 x b2 a2 n2 c2 y := ⟨hT7.below, hT7.X, hT7.Y⟩
  have hH8 := hH7.later (Below.refl _ _).drew
  have HL5 : Hid (∀ (b : Bool) (a : Option Addr) (n c : Nat) (W : World), Num W b a n c y → n ≤ 10000000) := fun b a n c W h => Nat.le_trans (fit_le h.fit BY.out) (by omega)
  have HL6 : Hid (∀ (b : Bool) (a : Option Addr) (n c : Nat) (W : World), Num W b a n c (x * y) → n ≤ 9000000) := fun b a n c W h => Nat.le_trans (fit_le h.fit (bnd_mul BX.out BY.out)) (by omega)
  clear hT7 hH7
  refine wp_region_inv0 (fun a0 L a' W => ∃ v18 v19 v20 v65 v66 v67 v68 v69 v70 v71 v72 v73, a' = sets12 a0 v18 v19 v20 v65 v66 v67 v68 v69 v70 v71 v72 v73 ∧ J6 (fun W => Hw w W w1.heap.size (w1.heap.size + 1) b1 a1 n1 c1 x b2 a2 n2 c2 y) w w1.heap.size (w1.heap.size + 1) b1 a1 n1 c1 b2 a2 n2 c2 y (x * y) x 0 L W v18 v19 v65 v66 v67 v68 v69 v70 v71 v72 v73 ∧ (L 13 = true → v20 = .int .i64 0)) (by kernel_rfl) (by kernel_rfl) ?_ ?_ ?_
  · exact ⟨undef, undef, undef, undef, undef, undef, undef, undef, undef, undef, undef, undef, by simp [sets12], ⟨hH8, nofun, nofun, nofun, nofun, nofun, nofun, nofun, nofun, nofun, nofun, nofun, nofun, nofun, nofun, nofun, nofun⟩, nofun⟩
  · intro L a' W i hi hI hu hd
    obtain ⟨v18, v19, v20, v65, v66, v67, v68, v69, v70, v71, v72, v73, ha, J, h13⟩ := hI
    simp only [sets12, List.setIfInBounds_toArray, List.set_cons_succ, List.set_cons_zero] at ha
    subst ha
    clear hH8
    obtain rfl | rfl | rfl | rfl | rfl | rfl | rfl | rfl | rfl | rfl | rfl | rfl | rfl | rfl : i = 0 ∨ i = 1 ∨ i = 2 ∨ i = 3 ∨ i = 4 ∨ i = 5 ∨ i = 6 ∨ i = 7 ∨ i = 8 ∨ i = 9 ∨ i = 10 ∨ i = 11 ∨ i = 12 ∨ i = 13 := by have : i < 14 := hi; omega
    · apply wpOp_at
      case ho => rfl
      case hg => rfl
      intro K' hK
      have HK := Lib.hid hK
      clear hK
      have k0 := J.hv.X.k0
      have k1 := J.hv.X.k1
      clear hd
      go_simp
      exact HK.out _ _ ⟨v18, v19, v20, v65, _, v67, v68, v69, v70, v71, v72, v73, by simp [sets12], J.at0 rfl, fun e => h13 (by rwa [upd_ne (by decide)] at e)⟩
    · apply wpOp_at
      case ho => rfl
      case hg => rfl
      intro K' hK
      have HK := Lib.hid hK
      clear hK
      have k0 := J.hv.Y.k0
      have k1 := J.hv.Y.k1
      clear hd
      go_simp
      exact HK.out _ _ ⟨v18, v19, v20, v65, v66, _, v68, v69, v70, v71, v72, v73, by simp [sets12], J.at1 ⟨b2, a2, n2, c2, rfl, J.hv.Y.num⟩, fun e => h13 (by rwa [upd_ne (by decide)] at e)⟩
    · apply wpOp_at
      case ho => rfl
      case hg => rfl
      intro K' hK
      have HK := Lib.hid hK
      clear hK
      have e0 := J.h0 (hd 0 (by kernel_rfl))
      obtain ⟨b5, a5, n5, c5, e1, hN5⟩ := J.h1 (hd 1 (by kernel_rfl))
      subst e0
      subst e1
      clear hd
      go_simp
      go_at_call 13
      refine (Mul_any b1 a1 n1 c1 x b5 a5 n5 c5 y _ J.hv.X.num hN5 (by omega) (HL5.out _ _ _ _ _ hN5)).mono ?_
      rintro e W' ⟨b6, a6, n6, c6, rfl, hN6, _, hB6⟩
      exact HK.out _ _ ⟨v18, v19, v20, v65, _, _, _, v69, v70, v71, v72, v73, by simp [sets12], (J.later hB6 (J.hv.later hB6)).at2 ⟨b6, a6, n6, c6, rfl, hN6⟩, fun e => h13 (by rwa [upd_ne (by decide)] at e)⟩
    · apply wpOp_at
      case ho => rfl
      case hg => rfl
      intro K' hK
      have HK := Lib.hid hK
      clear hK
      have k0 := J.hv.Y.k0
      have k1 := J.hv.Y.k1
      clear hd
      go_simp
      exact HK.out _ _ ⟨v18, v19, v20, v65, v66, v67, v68, _, v70, v71, v72, v73, by simp [sets12], J.at3 rfl, fun e => h13 (by rwa [upd_ne (by decide)] at e)⟩
    · apply wpOp_at
      case ho => rfl
      case hg => rfl
      intro K' hK
      have HK := Lib.hid hK
      clear hK
      have e0 := J.h3 (hd 3 (by kernel_rfl))
      obtain ⟨b5, a5, n5, c5, e1, hN5⟩ := J.h2 (hd 2 (by kernel_rfl))
      subst e0
      subst e1
      clear hd
      go_simp
      go_at_call 24
      refine (Quo_any b5 a5 n5 c5 (x * y) b2 a2 n2 c2 y _ hN5 J.hv.Y.num (HL6.out _ _ _ _ _ hN5) (by omega) HY.out).mono ?_
      rintro e W' ⟨p, s, hq, b6, a6, n6, c6, b7, a7, n7, c7, rfl, hP, hZ, _, _, hB6⟩
      obtain ⟨rfl, rfl⟩ := quo_same hq HY.out
      exact HK.out _ _ ⟨v18, v19, v20, v65, v66, v67, _, _, _, v71, v72, v73, by simp [sets12], (J.later hB6 (J.hv.later hB6)).at4 ⟨_, _, rfl, ⟨b6, a6, n6, c6, rfl, hP⟩, ⟨b7, a7, n7, c7, rfl, hZ⟩⟩, fun e => h13 (by rwa [upd_ne (by decide)] at e)⟩
    · apply wpOp_at
      case ho => rfl
      case hg => rfl
      intro K' hK
      have HK := Lib.hid hK
      clear hK
      have h4 := J.h4 (hd 4 (by kernel_rfl))
      clear hd
      go_simp
      exact HK.out _ _ ⟨v18, v19, v20, _, v66, v67, v68, v69, v70, v71, v72, v73, by simp [sets12], J.at5 h4, fun e => h13 (by rwa [upd_ne (by decide)] at e)⟩
    · apply wpOp_at
      case ho => rfl
      case hg => rfl
      intro K' hK
      have HK := Lib.hid hK
      clear hK
      obtain ⟨vq, vr, e1, hvq, hvr⟩ := J.h5 (hd 5 (by kernel_rfl))
      subst e1
      clear hd
      go_simp
      exact HK.out _ _ ⟨v18, v19, v20, _, v66, v67, v68, v69, v70, _, v72, v73, by simp [sets12], J.at6 hvq, fun e => h13 (by rwa [upd_ne (by decide)] at e)⟩
    · apply wpOp_at
      case ho => rfl
      case hg => rfl
      intro K' hK
      have HK := Lib.hid hK
      clear hK
      obtain ⟨vq, vr, e1, hvq, hvr⟩ := J.h5 (hd 5 (by kernel_rfl))
      subst e1
      clear hd
      go_simp
      exact HK.out _ _ ⟨v18, v19, v20, _, v66, v67, v68, v69, v70, v71, _, v73, by simp [sets12], J.at7 hvr, fun e => h13 (by rwa [upd_ne (by decide)] at e)⟩
    · apply wpOp_at
      case ho => rfl
      case hg => rfl
      intro K' hK
      have HK := Lib.hid hK
      clear hK
      obtain ⟨vq, vr, e1, hvq, hvr⟩ := J.h5 (hd 5 (by kernel_rfl))
      subst e1
      clear hd
      go_simp
      exact HK.out _ _ ⟨v18, v19, v20, _, v66, v67, v68, v69, v70, v71, v72, _, by simp [sets12], J.at8 rfl, fun e => h13 (by rwa [upd_ne (by decide)] at e)⟩
    · apply wpOp_at
      case ho => rfl
      case hg => rfl
      intro K' hK
      have HK := Lib.hid hK
      clear hK
      have h11 : L 11 = false := by
        cases h : L 11
        · rfl
        · exact absurd (J.hcl h) (by rw [hu]; decide)
      clear hd
      go_simp
      have hB5 := below_new W (.cells #[.bool false, .slice none 0 0] 25)
      have hN5 : Nw w (W.alloc (.cells #[.bool false, .slice none 0 0] 25)) w1.heap.size (w1.heap.size + 1) (.pointer (some ⟨W.heap.size, 0, none⟩)) := ⟨W.heap.size, false, none, 0, 0, rfl, bx_new _ _ _ _, Nat.ne_of_gt J.hv.X.lt, Nat.ne_of_gt J.hv.Y.lt, J.hv.below.size⟩
      exact HK.out _ _ ⟨_, v19, v20, v65, v66, v67, v68, v69, v70, v71, v72, v73, by simp [sets12], (J.later hB5 (J.hv.later hB5)).at9 hN5 (fun e => nw_fresh (J.h10 e)) h11, fun e => h13 (by rwa [upd_ne (by decide)] at e)⟩
    · apply wpOp_at
      case ho => rfl
      case hg => rfl
      intro K' hK
      have HK := Lib.hid hK
      clear hK
      have h12 : L 12 = false := by
        cases h : L 12
        · rfl
        · exact absurd (J.hcl2 h) (by rw [hu]; decide)
      clear hd
      go_simp
      have hB5 := below_new W (.cells #[.bool false, .slice none 0 0] 25)
      have hN5 : Nw w (W.alloc (.cells #[.bool false, .slice none 0 0] 25)) w1.heap.size (w1.heap.size + 1) (.pointer (some ⟨W.heap.size, 0, none⟩)) := ⟨W.heap.size, false, none, 0, 0, rfl, bx_new _ _ _ _, Nat.ne_of_gt J.hv.X.lt, Nat.ne_of_gt J.hv.Y.lt, J.hv.below.size⟩
      exact HK.out _ _ ⟨v18, _, v20, v65, v66, v67, v68, v69, v70, v71, v72, v73, by simp [sets12], (J.later hB5 (J.hv.later hB5)).at10 hN5 (fun e => (nw_fresh (J.h9 e)).symm) h12, fun e => h13 (by rwa [upd_ne (by decide)] at e)⟩
    · apply wpOp_at
      case ho => rfl
      case hg => rfl
      intro K' hK
      have HK := Lib.hid hK
      clear hK
      obtain ⟨k, bk, ak, nk, ck, e1, hk, hki, hkj, hkw⟩ := J.h9 (hd 9 (by kernel_rfl))
      obtain ⟨b5, a5, n5, c5, e2, hN5⟩ := J.h6 (hd 6 (by kernel_rfl))
      have hne := J.hne (hd 9 (by kernel_rfl))
      have h9 := hd 9 (by kernel_rfl)
      subst e1
      subst e2
      obtain ⟨k0, k1, k2, k3⟩ := hk.cells
      clear hd
      go_simp
      exact HK.out _ _ ⟨_, v19, v20, v65, v66, v67, v68, v69, v70, _, v72, v73, by simp [sets12], J.at11 hk hki hkj hkw rfl h9 hne hN5 (J.hv.store hk hki hkj hkw _ _), fun e => h13 (by rwa [upd_ne (by decide)] at e)⟩
    · apply wpOp_at
      case ho => rfl
      case hg => rfl
      intro K' hK
      have HK := Lib.hid hK
      clear hK
      obtain ⟨k, bk, ak, nk, ck, e1, hk, hki, hkj, hkw⟩ := J.h10 (hd 10 (by kernel_rfl))
      obtain ⟨b5, a5, n5, c5, e2, hN5⟩ := J.h7 (hd 7 (by kernel_rfl))
      have hne := fun e => J.hne e (hd 10 (by kernel_rfl))
      have h9 := hd 9 (by kernel_rfl)
      have h10 := hd 10 (by kernel_rfl)
      subst e1
      subst e2
      obtain ⟨k0, k1, k2, k3⟩ := hk.cells
      clear hd
      go_simp
      exact HK.out _ _ ⟨v18, _, v20, v65, v66, v67, v68, v69, v70, v71, _, v73, by simp [sets12], J.at12 hk hki hkj hkw rfl h9 h10 hne hN5 (J.hv.store hk hki hkj hkw _ _), fun e => h13 (by rwa [upd_ne (by decide)] at e)⟩
    · apply wpOp_at
      case ho => rfl
      case hg => rfl
      intro K' hK
      have HK := Lib.hid hK
      clear hK
      have e0 := J.h8 (hd 8 (by kernel_rfl))
      subst e0
      clear hd
      go_simp
      exact HK.out _ _ ⟨v18, v19, .int .i64 0, v65, v66, v67, v68, v69, v70, v71, v72, _, by simp [sets12], J.at13, fun _ => rfl⟩
  · intro a' W L hL hI
    obtain ⟨v18, v19, v20, v65, v66, v67, v68, v69, v70, v71, v72, v73, ha, J, h13⟩ := hI
    simp only [sets12, List.setIfInBounds_toArray, List.set_cons_succ, List.set_cons_zero] at ha
    subst ha
    obtain ⟨k, bk, ak, nk, ck, e1, hk, hQ⟩ := J.h11 (hL 11 (by decide))
    obtain ⟨l, bl, al, nl, cl, e2, hl, hZ⟩ := J.h12 (hL 12 (by decide))
    have e3 := h13 (hL 13 (by decide))
    subst e1
    subst e2
    subst e3
    have hV := J.hv
    clear hH8 J h13 hL HL5 HL6
    have x0 := hV.X.k0
    have x1 := hV.X.k1
    obtain ⟨k0, k1, _, _⟩ := hk.cells
    go_wp2_with fail
    refine (Cmp_any bk ak nk ck x b1 a1 n1 c1 x _ hQ hV.X.num).mono ?_
    rintro e W1 ⟨rfl, hb1⟩
    rw [cmp_self]
    have hV1 := hV.later hb1
    have hl1 := hl.below hb1
    have hZ1 := hZ.below hb1
    clear x0 x1 k0 k1 hk hQ hV hl hZ hb1
    obtain ⟨k0, k1, _, _⟩ := hl1.cells
    go_wp2_with fail
    refine (Sign_any bl al nl cl 0 _ hZ1).mono ?_
    rintro e W2 ⟨rfl, hb2⟩
    rw [show sgnI 0 = 0 from rfl]
    have hfin := (hV1.later hb2).below
    clear k0 k1 hl1 hZ1 hV1 hb2
    have hsyb : -1 ≤ sy ∧ sy ≤ 1 := by
      rw [← HSY.out]; rcases sgn_val y with h | h | h <;> omega
    obtain ⟨s1, s2⟩ := hsyb
    rcases quo_sign HQ.out HY.out with h | ⟨h, h'⟩
    · rw [h]
      go_wp2
      go_ret
      exact ⟨rfl, hfin⟩
    · rw [HSY.out] at h'
      rw [h']
      go_wp2
      go_ret
      exact ⟨rfl, hfin⟩
end Go.Proofs.YtcnmilflfegliaaDoor
