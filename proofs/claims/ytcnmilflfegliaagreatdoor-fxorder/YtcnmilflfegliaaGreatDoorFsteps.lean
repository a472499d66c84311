/- Fixed numbers: the walk of steps. -/
import Derived.Test.YtcnmilflfegliaaGreatDoorFj
namespace Go.Proofs.YtcnmilflfegliaaGreatDoor
open Go.RowKit

/-- What steps hands back of a quotient: it, or the outermost number of its sign. -/
def stV (b : Bool) (Q : Int) : Int := if smallB Q = true then smallV Q else if b = true then -9223372036854775808 else 9223372036854775807
theorem bd60 {x : Int} (h : x.natAbs < BB ^ 60) : (x * 1048576).natAbs < BB ^ 61 := by
  rw [Int.natAbs_mul, Nat.pow_succ]
  exact Nat.mul_lt_mul_of_lt_of_le h (by decide) (by decide)
theorem len60 {w : World} {b : Bool} {a : Option Addr} {n c k : Nat} {z : Int} (h : Num w b a n c z) (hz : z.natAbs < BB ^ k) (hk : k ≤ 62) : n ≤ 62 := Nat.le_trans (fit_le h.fit hz) hk
theorem div_abs {a y : Int} (hy : 0 < y) : (flo a y).natAbs ≤ a.natAbs := by
  unfold flo
  rw [if_pos hy]
  rcases Int.lt_or_le a 0 with h | h
  · have h1 : a / y < 0 := Int.ediv_neg_of_neg_of_pos h hy
    have h2 := Int.mul_ediv_add_emod a y
    have h3 := Int.emod_lt_of_pos a hy
    have h4 := Int.emod_nonneg a (Int.ne_of_gt hy)
    have h5 : a ≤ a / y := by
      have : y * (a / y) ≤ 1 * (a / y) := Int.mul_le_mul_of_nonpos_right (by omega) (by omega)
      rw [Int.one_mul] at this
      have h6 : y * (a / y) ≤ a := by omega
      refine Int.not_lt.1 fun hlt => ?_
      have h7 : y * (a / y) + y ≤ y * a := by
        have := Int.mul_le_mul_of_nonneg_left (show a / y + 1 ≤ a by omega) (show 0 ≤ y by omega)
        rw [Int.mul_add, Int.mul_one] at this; exact this
      have h8 : y * a ≤ 1 * a := Int.mul_le_mul_of_nonpos_right (by omega) (by omega)
      omega
    omega
  · have h1 := Int.ediv_le_self y h
    have h2 := Int.ediv_nonneg h (show 0 ≤ y by omega)
    omega
theorem ten_bd (k : Nat) (h : k ≤ 20) : 10 ^ k < BB ^ 21 := Nat.lt_of_le_of_lt (Nat.pow_le_pow_right (by decide) h) (by decide)
theorem abs_nat (n : Nat) : ((n : Nat) : Int).natAbs = n := rfl

set_option maxRecDepth 100000 in
set_option maxHeartbeats 6400000 in
theorem steps_any (b : Bool) (W B : ByteArray) (w : World) (hW : digB W.data.toList = true) (hB : digB B.data.toList = true) (hWs : W.size ≤ 40) (hBs : B.size ≤ 20) :
    Calls Tryz.prog 42 #[.agg #[.bool b, .string W, .string B]] w (PVal (.int .i64 (stV b (flo (sg b (dval (W ++ B).data.toList) * 1048576) ((10 ^ B.size : Nat) : Int)))) w) := by
  have HW := Lib.hid hW
  have HB := Lib.hid hB
  clear hW hB
  have hR0 := rec_new w b W B 62
  go_enter Tryz.func42, Tryz.ntmps42
  go_wp2_with fail
  refine (withoutNoughts_any (W ++ B) _ (by rw [size_app]; omega)).mono ?_
  rintro e w' ⟨rfl, rfl⟩
  have hdig : digB (W ++ B).data.toList = true := by rw [app_list, digB_app, HW.out, HB.out]; rfl
  obtain ⟨hp, hz, hdg⟩ := wn_parses hdig
  have hlen : (wnL (W ++ B).data.toList).length ≤ 61 := by
    have h1 := wn_len (W ++ B).data.toList
    rw [size_list, size_app] at h1
    omega
  have HP := Lib.hid (And.intro hp hz)
  have hVb : dval (W ++ B).data.toList < BB ^ 60 := Nat.lt_of_lt_of_le (dig_bd hdig) (Nat.pow_le_pow_right BB_pos (by rw [size_list, size_app]; omega))
  have HVB : VB (dval (W ++ B).data.toList) := hVb
  clear hp hz hdig hdg hVb
  obtain ⟨T, hT⟩ : ∃ T : ByteArray, T = ⟨(wnL (W ++ B).data.toList).toArray⟩ := ⟨_, rfl⟩
  rw [← hT]
  have hTs : T.size ≤ 61 := by rw [hT, ← size_list]; exact hlen
  have HTL : Hid (T.data.toList = wnL (W ++ B).data.toList) := by show _ = _; rw [hT]
  clear hT hlen
  go_wp2_with fail
  generalize w.alloc (.cells #[.bool b, .string W, .string B] 62) = w0 at *
  refine (Parse_good T _ (by omega) (by rw [HTL.out]; exact HP.out.1)).mono ?_
  rintro e w1 ⟨b1, a1, n1, c1, rfl, hN1, _, hB1⟩
  rw [HTL.out, HP.out.2] at hN1
  have hR1 := hR0.later (hB1.trans ((new_below w1 (.cells #[.bool b1, .slice a1 n1 c1] 54)).mono hB1.size))
  have hX1 := bx_new w1 54 (.bool b1) (.slice a1 n1 c1)
  have hM1 := hN1.below (new_below w1 (.cells #[.bool b1, .slice a1 n1 c1] 54))
  have hi0 : w.heap.size ≤ w1.heap.size := Nat.le_trans hR0.below.size hB1.size
  clear hR0 hB1 hN1 HP HTL
  have f0 := hR1.f0
  have f2 := hR1.f2
  go_wp2_with fail
  generalize w1.alloc (.cells #[.bool b1, .slice a1 n1 c1] 54) = W1 at *
  refine (Tryz.strings_Repeat ⟨#[48]⟩ B.size _ (by omega) (by show 1 * B.size ≤ _; omega)).mono ?_
  rintro e w2 ⟨rfl, hB2⟩
  have hR2 := hR1.later hB2
  have hX2 := hX1.below hB2
  have hM2 := hM1.below hB2
  clear f0 f2 hR1 hX1 hM1 hB2
  obtain ⟨Z, hZ⟩ : ∃ Z : ByteArray, Z = ⟨(Lib.repeatL (⟨#[48]⟩ : ByteArray).data.toList B.size).toArray⟩ := ⟨_, rfl⟩
  rw [← hZ]
  have HZ : Hid ((⟨#[49]⟩ ++ Z : ByteArray).data.toList = 49 :: Lib.repeatL [48] B.size) := by show _ = _; rw [app_list, hZ]; rfl
  have hZs : (⟨#[49]⟩ ++ Z : ByteArray).size ≤ 2000 := by rw [← size_list, HZ.out, List.length_cons, (rep_dig _).2.2]; omega
  have hZs2 : Z.size ≤ 20 := by rw [hZ, ← size_list]; show (Lib.repeatL [48] B.size).length ≤ _; rw [(rep_dig _).2.2]; omega
  clear hZ
  go_wp2_with fail
  have HZP : Hid (parsesB (⟨#[49]⟩ ++ Z : ByteArray).data.toList = true ∧ zval (⟨#[49]⟩ ++ Z : ByteArray).data.toList = ((10 ^ B.size : Nat) : Int)) := by
    show _ ∧ _
    rw [HZ.out]; exact ten_parses B.size
  clear HZ
  generalize (⟨#[49]⟩ ++ Z : ByteArray) = Y at *
  refine (Parse_good Y _ hZs HZP.out.1).mono ?_
  rintro e w3 ⟨b3, a3, n3, c3, rfl, hN3, _, hB3⟩
  rw [HZP.out.2] at hN3
  have hE3 := hB3.trans ((new_below w3 (.cells #[.bool b3, .slice a3 n3 c3] 54)).mono hB3.size)
  have hR3 := hR2.later hE3
  have hX3 := hX2.below hE3
  have hM3 := hM2.below hE3
  have hY3 := bx_new w3 54 (.bool b3) (.slice a3 n3 c3)
  have hK3 := hN3.below (new_below w3 (.cells #[.bool b3, .slice a3 n3 c3] 54))
  have hne : ¬ w1.heap.size = w3.heap.size := by have := hX2.lt; have := hB3.size; omega
  clear hR2 hX2 hM2 hN3 hB3 hE3 HZP hZs hZs2
  have hH3 : Hv w (w3.alloc (.cells #[.bool b3, .slice a3 n3 c3] 54)) w1.heap.size w3.heap.size b1 a1 n1 c1 ((dval (W ++ B).data.toList : Nat) : Int) b3 a3 n3 c3 ((10 ^ B.size : Nat) : Int) := ⟨hR3.below, hX3, hY3, hM3, hK3⟩
  have f0 := hR3.f0
  obtain ⟨p0, p1, p2, p3⟩ := hX3.cells
  clear hR3 hX3 hY3 hM3 hK3
  obtain ⟨x, hx⟩ : ∃ x : Int, x = ((dval (W ++ B).data.toList : Nat) : Int) := ⟨_, rfl⟩
  obtain ⟨y, hy⟩ : ∃ y : Int, y = ((10 ^ B.size : Nat) : Int) := ⟨_, rfl⟩
  rw [← hx, ← hy] at hH3
  have HXV := Lib.hid hx
  have HYV := Lib.hid hy
  clear hx hy
  cases b
  · go_upto_region 6 with (fail)
    clear f0 p0 p1 p2 p3
    obtain ⟨WW, hWW⟩ : ∃ WW, w3.alloc (.cells #[.bool b3, .slice a3 n3 c3] 54) = WW := ⟨_, rfl⟩
    rw [hWW] at hH3 ⊢
    clear hWW
    have HV := hH3
    clear hH3
    replace HXV : Hid (x = sg false (dval (W ++ B).data.toList)) := HXV.out
    have hxb : x.natAbs < BB ^ 60 := by rw [HXV.out, sg_abs]; exact HVB
    have hn1 := len60 HV.nx hxb (by omega)
    have hn3 := len60 HV.ny (k := 21) (by rw [HYV.out, abs_nat]; exact ten_bd _ hBs) (by omega)
    have hy0 : 0 < y := by rw [HYV.out]; exact Int.natCast_pos.2 (Nat.pow_pos (by decide))
    have HLP : Hid (∀ (b : Bool) (a : Option Addr) (n c : Nat) (W : World), Num W b a n c (x * 1048576) → n ≤ 9000000) := fun b a n c W h => Nat.le_trans (len60 h (bd60 hxb) (by omega)) (by omega)
    have HLQ : Hid (∀ (b : Bool) (a : Option Addr) (n c : Nat) (W : World), Num W b a n c (flo (x * 1048576) y) → n ≤ 10000000) := fun b a n c W h => Nat.le_trans (len60 h (Nat.lt_of_le_of_lt (div_abs hy0) (bd60 hxb)) (by omega)) (by omega)
    have HY0 : Hid (y ≠ 0) := show y ≠ 0 by omega
    clear hxb hy0
    have hhv := HV.later (W2 := WW.drew) (Below.refl _ _).drew
    refine wp_region_inv0 (fun a0 L a' W => ∃ v8 v9 v10 v36 v37 v38 v39 v40 v41 v42 v43 v44, a' = sets6 a0 v8 v9 v10 v36 v37 v38 v39 v40 v41 v42 v43 v44 ∧ J6 w w1.heap.size w3.heap.size b1 a1 n1 c1 x b3 a3 n3 c3 y 1048576 (x * 1048576) (flo (x * 1048576) y) (x * 1048576 - y * flo (x * 1048576) y) L W v8 v9 v36 v37 v38 v39 v40 v41 v42 v43 v44) (by kernel_rfl) (by kernel_rfl) ?_ ?_ ?_
    · exact ⟨undef, undef, undef, undef, undef, undef, undef, undef, undef, undef, undef, undef, by simp [sets6], hhv, nofun, nofun, nofun, nofun, nofun, nofun, nofun, nofun, nofun, nofun, nofun, nofun, nofun, nofun⟩
    · intro L a' W i hi hI hu hd
      obtain ⟨v8, v9, v10, v36, v37, v38, v39, v40, v41, v42, v43, v44, ha, J⟩ := hI
      simp only [sets6, List.setIfInBounds_toArray, List.set_cons_succ, List.set_cons_zero] at ha
      subst ha
      clear hhv HV
      obtain rfl | rfl | rfl | rfl | rfl | rfl | rfl | rfl | rfl | rfl | rfl | rfl | rfl | rfl : i = 0 ∨ i = 1 ∨ i = 2 ∨ i = 3 ∨ i = 4 ∨ i = 5 ∨ i = 6 ∨ i = 7 ∨ i = 8 ∨ i = 9 ∨ i = 10 ∨ i = 11 ∨ i = 12 ∨ i = 13 := by have : i < 14 := hi; omega
      · apply wpOp_at
        case ho => rfl
        case hg => rfl
        intro K' hK
        have HK := Lib.hid hK
        clear hK
        obtain ⟨k0, k1, k2, k3⟩ := J.hv.X.cells
        clear hd
        go_simp
        exact HK.out _ _ ⟨v8, v9, v10, v36, _, v38, v39, v40, v41, v42, v43, v44, by simp [sets6], J.at0 rfl⟩
      · apply wpOp_at
        case ho => rfl
        case hg => rfl
        intro K' hK
        have HK := Lib.hid hK
        clear hK
        clear hd
        go_simp
        go_at_call 37
        refine (Of_any 1048576 _ (by omega) (by omega)).mono ?_
        rintro e W' ⟨b5, a5, n5, c5, rfl, hN5, _, hB5⟩
        exact HK.out _ _ ⟨v8, v9, v10, v36, v37, _, v39, v40, v41, v42, v43, v44, by simp [sets6], (J.later hB5).at1 ⟨b5, a5, n5, c5, rfl, hN5⟩⟩
      · apply wpOp_at
        case ho => rfl
        case hg => rfl
        intro K' hK
        have HK := Lib.hid hK
        clear hK
        have e0 := J.h0 (hd 0 (by kernel_rfl))
        obtain ⟨b5, a5, n5, c5, e1, hN5⟩ := J.h1 (hd 1 (by kernel_rfl))
        subst e0
        subst e1
        clear hd
        go_simp
        go_at_call 65
        refine (Mul_any b1 a1 n1 c1 x b5 a5 n5 c5 1048576 _ J.hv.nx hN5 (by omega) (len_two hN5 (by decide))).mono ?_
        rintro e W' ⟨b6, a6, n6, c6, rfl, hN6, _, hB6⟩
        exact HK.out _ _ ⟨v8, v9, v10, v36, _, _, _, v40, v41, v42, v43, v44, by simp [sets6], (J.later hB6).at2 ⟨b6, a6, n6, c6, rfl, hN6⟩⟩
      · apply wpOp_at
        case ho => rfl
        case hg => rfl
        intro K' hK
        have HK := Lib.hid hK
        clear hK
        obtain ⟨k0, k1, k2, k3⟩ := J.hv.Y.cells
        clear hd
        go_simp
        exact HK.out _ _ ⟨v8, v9, v10, v36, v37, v38, v39, _, v41, v42, v43, v44, by simp [sets6], J.at3 rfl⟩
      · apply wpOp_at
        case ho => rfl
        case hg => rfl
        intro K' hK
        have HK := Lib.hid hK
        clear hK
        have e0 := J.h3 (hd 3 (by kernel_rfl))
        obtain ⟨b5, a5, n5, c5, e1, hN5⟩ := J.h2 (hd 2 (by kernel_rfl))
        subst e0
        subst e1
        clear hd
        go_simp
        go_at_call 66
        refine (Quo_any b5 a5 n5 c5 (x * 1048576) b3 a3 n3 c3 y _ hN5 J.hv.ny (HLP.out _ _ _ _ _ hN5) (by omega) HY0.out).mono ?_
        rintro e W' ⟨q, r, hq, b6, a6, n6, c6, b7, a7, n7, c7, rfl, hQ, hR, _, _, hB6⟩
        obtain ⟨rfl, rfl⟩ := quo_flo hq HY0.out
        exact HK.out _ _ ⟨v8, v9, v10, v36, v37, v38, _, _, _, v42, v43, v44, by simp [sets6], (J.later hB6).at4 ⟨_, _, rfl, ⟨b6, a6, n6, c6, rfl, hQ⟩, ⟨b7, a7, n7, c7, rfl, hR⟩⟩⟩
      · apply wpOp_at
        case ho => rfl
        case hg => rfl
        intro K' hK
        have HK := Lib.hid hK
        clear hK
        have h4 := J.h4 (hd 4 (by kernel_rfl))
        clear hd
        go_simp
        exact HK.out _ _ ⟨v8, v9, v10, _, v37, v38, v39, v40, v41, v42, v43, v44, by simp [sets6], J.at5 h4⟩
      · apply wpOp_at
        case ho => rfl
        case hg => rfl
        intro K' hK
        have HK := Lib.hid hK
        clear hK
        obtain ⟨vq, vr, e1, hvq, hvr⟩ := J.h5 (hd 5 (by kernel_rfl))
        subst e1
        clear hd
        go_simp
        exact HK.out _ _ ⟨v8, v9, v10, _, v37, v38, v39, v40, v41, _, v43, v44, by simp [sets6], J.at6 hvq⟩
      · apply wpOp_at
        case ho => rfl
        case hg => rfl
        intro K' hK
        have HK := Lib.hid hK
        clear hK
        obtain ⟨vq, vr, e1, hvq, hvr⟩ := J.h5 (hd 5 (by kernel_rfl))
        subst e1
        clear hd
        go_simp
        exact HK.out _ _ ⟨v8, v9, v10, _, v37, v38, v39, v40, v41, v42, _, v44, by simp [sets6], J.at7 hvr⟩
      · apply wpOp_at
        case ho => rfl
        case hg => rfl
        intro K' hK
        have HK := Lib.hid hK
        clear hK
        obtain ⟨vq, vr, e1, hvq, hvr⟩ := J.h5 (hd 5 (by kernel_rfl))
        subst e1
        clear hd
        go_simp
        exact HK.out _ _ ⟨v8, v9, v10, _, v37, v38, v39, v40, v41, v42, v43, _, by simp [sets6], J.at8 rfl⟩
      · apply wpOp_at
        case ho => rfl
        case hg => rfl
        intro K' hK
        have HK := Lib.hid hK
        clear hK
        have h11 : L 11 = false := by
          cases h : L 11
          · rfl
          · exact absurd (J.hcl h) (by rw [hu]; decide)
        clear hd
        go_simp
        have hB5 := new_below W (.cells #[.bool false, .slice none 0 0] 54)
        have hN5 : Nw w (W.alloc (.cells #[.bool false, .slice none 0 0] 54)) w1.heap.size w3.heap.size (.pointer (some ⟨W.heap.size, 0, none⟩)) := ⟨W.heap.size, false, none, 0, 0, rfl, bx_new _ _ _ _, Nat.ne_of_gt J.hv.X.lt, Nat.ne_of_gt J.hv.Y.lt, J.hv.below.size⟩
        exact HK.out _ _ ⟨_, v9, v10, v36, v37, v38, v39, v40, v41, v42, v43, v44, by simp [sets6], (J.later hB5).at9 hN5 (fun e => nw_fresh (J.h10 e)) h11⟩
      · apply wpOp_at
        case ho => rfl
        case hg => rfl
        intro K' hK
        have HK := Lib.hid hK
        clear hK
        clear hd
        go_simp
        have hB5 := new_below W (.cells #[.bool false, .slice none 0 0] 54)
        have hN5 : Nw w (W.alloc (.cells #[.bool false, .slice none 0 0] 54)) w1.heap.size w3.heap.size (.pointer (some ⟨W.heap.size, 0, none⟩)) := ⟨W.heap.size, false, none, 0, 0, rfl, bx_new _ _ _ _, Nat.ne_of_gt J.hv.X.lt, Nat.ne_of_gt J.hv.Y.lt, J.hv.below.size⟩
        exact HK.out _ _ ⟨v8, _, v10, v36, v37, v38, v39, v40, v41, v42, v43, v44, by simp [sets6], (J.later hB5).at10 hN5 (fun e => (nw_fresh (J.h9 e)).symm)⟩
      · apply wpOp_at
        case ho => rfl
        case hg => rfl
        intro K' hK
        have HK := Lib.hid hK
        clear hK
        obtain ⟨k, bk, ak, nk, ck, e1, hk, hki, hkj, hkw⟩ := J.h9 (hd 9 (by kernel_rfl))
        obtain ⟨b5, a5, n5, c5, e2, hN5⟩ := J.h6 (hd 6 (by kernel_rfl))
        have hne := J.hne (hd 9 (by kernel_rfl))
        have h9 := hd 9 (by kernel_rfl)
        subst e1
        subst e2
        obtain ⟨k0, k1, k2, k3⟩ := hk.cells
        clear hd
        go_simp
        exact HK.out _ _ ⟨_, v9, v10, v36, v37, v38, v39, v40, v41, _, v43, v44, by simp [sets6], J.at11 hk hki hkj hkw rfl h9 hne hN5⟩
      · apply wpOp_at
        case ho => rfl
        case hg => rfl
        intro K' hK
        have HK := Lib.hid hK
        clear hK
        obtain ⟨k, bk, ak, nk, ck, e1, hk, hki, hkj, hkw⟩ := J.h10 (hd 10 (by kernel_rfl))
        obtain ⟨b5, a5, n5, c5, e2, hN5⟩ := J.h7 (hd 7 (by kernel_rfl))
        have hne := fun e => J.hne e (hd 10 (by kernel_rfl))
        have h9 := hd 9 (by kernel_rfl)
        subst e1
        subst e2
        obtain ⟨k0, k1, k2, k3⟩ := hk.cells
        clear hd
        go_simp
        exact HK.out _ _ ⟨v8, _, v10, v36, v37, v38, v39, v40, v41, v42, _, v44, by simp [sets6], J.at12 hk hki hkj hkw rfl h9 hne _ _ _ _⟩
      · apply wpOp_at
        case ho => rfl
        case hg => rfl
        intro K' hK
        have HK := Lib.hid hK
        clear hK
        have e0 := J.h8 (hd 8 (by kernel_rfl))
        subst e0
        clear hd
        go_simp
        exact HK.out _ _ ⟨v8, v9, .int .i64 0, v36, v37, v38, v39, v40, v41, v42, v43, _, by simp [sets6], J.at13⟩
    · intro a' W L hL hI
      obtain ⟨v8, v9, v10, v36, v37, v38, v39, v40, v41, v42, v43, v44, ha, J⟩ := hI
      simp only [sets6, List.setIfInBounds_toArray, List.set_cons_succ, List.set_cons_zero] at ha
      subst ha
      obtain ⟨k, bk, ak, nk, ck, e1, hk, hQ⟩ := J.h11 (hL 11 (by decide))
      subst e1
      obtain ⟨k0, k1, k2, k3⟩ := hk.cells
      have hbel := J.hv.below
      clear hhv HV J hL
      go_wp2_with fail
      refine (Small_any bk ak nk ck _ _ hQ (HLQ.out _ _ _ _ _ hQ)).mono ?_
      rintro e W' ⟨rfl, hB7⟩
      have hfin := hbel.trans (hB7.mono hbel.size)
      clear hbel hB7 hQ hk k0 k1 k2 k3
      by_cases hsm : smallB (flo (x * 1048576) y) = true
      · have HE : Hid (stV false (flo (x * 1048576) y) = smallV (flo (x * 1048576) y)) := by show _ = _; unfold stV; rw [if_pos hsm]
        rw [hsm]
        clear hsm
        go_wp2
        go_ret
        exact ⟨ret_int (by rw [← HXV.out, ← HYV.out, HE.out]), hfin⟩
      · have HE : Hid (stV false (flo (x * 1048576) y) = 9223372036854775807) := by show _ = _; unfold stV; rw [if_neg hsm]; rfl
        have hsm' : smallB (flo (x * 1048576) y) = false := by simpa using hsm
        rw [hsm']
        clear hsm hsm'
        go_wp2
        go_ret
        exact ⟨ret_int (by rw [← HXV.out, ← HYV.out, HE.out]), hfin⟩
  · have hn0 : n1 ≤ 10000000 := Nat.le_trans (len60 hH3.nx (k := 60) (by rw [HXV.out, abs_nat]; exact HVB) (by omega)) (by omega)
    go_wp2_with fail
    refine (Neg_any b1 a1 n1 c1 x _ hH3.nx hn0).mono ?_
    rintro e w4 ⟨b4, a4, n4, c4, rfl, hN4, _, hB4⟩
    have hH4 := hH3.later hB4
    clear f0 p0 p1 p2 p3 hH3 hB4 hn0
    obtain ⟨p0, p1, p2, p3⟩ := hH4.X.cells
    go_upto_region 6 with (fail)
    clear p0 p1 p2 p3
    have HV0 : Hv w ((w4.setCell ⟨w1.heap.size, 0, none⟩ (.bool b4)).setCell ⟨w1.heap.size, 1, none⟩ (.slice a4 n4 c4)) w1.heap.size w3.heap.size b4 a4 n4 c4 (-x) b3 a3 n3 c3 y :=
      ⟨hH4.below.trans ((only2 _ _ _ _).below hi0), hH4.X.self _ _, hH4.Y.other (fun e => hne e.symm) _ _, hN4.store hH4.X _ _, hH4.ny.store hH4.X _ _⟩
    clear hH4 hN4
    obtain ⟨WW, hWW⟩ : ∃ WW, (w4.setCell ⟨w1.heap.size, 0, none⟩ (.bool b4)).setCell ⟨w1.heap.size, 1, none⟩ (.slice a4 n4 c4) = WW := ⟨_, rfl⟩
    rw [hWW] at HV0 ⊢
    clear hWW
    obtain ⟨z, hz⟩ : ∃ z, z = -x := ⟨_, rfl⟩
    rw [← hz] at HV0
    have HZX : Hid (z = sg true (dval (W ++ B).data.toList)) := by show _ = _; rw [hz, HXV.out]; rfl
    clear hz HXV
    have HV := HV0
    clear HV0
    have hxb : z.natAbs < BB ^ 60 := by rw [HZX.out, sg_abs]; exact HVB
    have hn1 := len60 HV.nx hxb (by omega)
    have hn3 := len60 HV.ny (k := 21) (by rw [HYV.out, abs_nat]; exact ten_bd _ hBs) (by omega)
    have hy0 : 0 < y := by rw [HYV.out]; exact Int.natCast_pos.2 (Nat.pow_pos (by decide))
    have HLP : Hid (∀ (b : Bool) (a : Option Addr) (n c : Nat) (W : World), Num W b a n c (z * 1048576) → n ≤ 9000000) := fun b a n c W h => Nat.le_trans (len60 h (bd60 hxb) (by omega)) (by omega)
    have HLQ : Hid (∀ (b : Bool) (a : Option Addr) (n c : Nat) (W : World), Num W b a n c (flo (z * 1048576) y) → n ≤ 10000000) := fun b a n c W h => Nat.le_trans (len60 h (Nat.lt_of_le_of_lt (div_abs hy0) (bd60 hxb)) (by omega)) (by omega)
    have HY0 : Hid (y ≠ 0) := show y ≠ 0 by omega
    clear hxb hy0
    have hhv := HV.later (W2 := WW.drew) (Below.refl _ _).drew
    refine wp_region_inv0 (fun a0 L a' W => ∃ v8 v9 v10 v36 v37 v38 v39 v40 v41 v42 v43 v44, a' = sets6 a0 v8 v9 v10 v36 v37 v38 v39 v40 v41 v42 v43 v44 ∧ J6 w w1.heap.size w3.heap.size b4 a4 n4 c4 z b3 a3 n3 c3 y 1048576 (z * 1048576) (flo (z * 1048576) y) (z * 1048576 - y * flo (z * 1048576) y) L W v8 v9 v36 v37 v38 v39 v40 v41 v42 v43 v44) (by kernel_rfl) (by kernel_rfl) ?_ ?_ ?_
    · exact ⟨undef, undef, undef, undef, undef, undef, undef, undef, undef, undef, undef, undef, by simp [sets6], hhv, nofun, nofun, nofun, nofun, nofun, nofun, nofun, nofun, nofun, nofun, nofun, nofun, nofun, nofun⟩
    · intro L a' W i hi hI hu hd
      obtain ⟨v8, v9, v10, v36, v37, v38, v39, v40, v41, v42, v43, v44, ha, J⟩ := hI
      simp only [sets6, List.setIfInBounds_toArray, List.set_cons_succ, List.set_cons_zero] at ha
      subst ha
      clear hhv HV
      obtain rfl | rfl | rfl | rfl | rfl | rfl | rfl | rfl | rfl | rfl | rfl | rfl | rfl | rfl : i = 0 ∨ i = 1 ∨ i = 2 ∨ i = 3 ∨ i = 4 ∨ i = 5 ∨ i = 6 ∨ i = 7 ∨ i = 8 ∨ i = 9 ∨ i = 10 ∨ i = 11 ∨ i = 12 ∨ i = 13 := by have : i < 14 := hi; omega
      · apply wpOp_at
        case ho => rfl
        case hg => rfl
        intro K' hK
        have HK := Lib.hid hK
        clear hK
        obtain ⟨k0, k1, k2, k3⟩ := J.hv.X.cells
        clear hd
        go_simp
        exact HK.out _ _ ⟨v8, v9, v10, v36, _, v38, v39, v40, v41, v42, v43, v44, by simp [sets6], J.at0 rfl⟩
      · apply wpOp_at
        case ho => rfl
        case hg => rfl
        intro K' hK
        have HK := Lib.hid hK
        clear hK
        clear hd
        go_simp
        go_at_call 37
        refine (Of_any 1048576 _ (by omega) (by omega)).mono ?_
        rintro e W' ⟨b5, a5, n5, c5, rfl, hN5, _, hB5⟩
        exact HK.out _ _ ⟨v8, v9, v10, v36, v37, _, v39, v40, v41, v42, v43, v44, by simp [sets6], (J.later hB5).at1 ⟨b5, a5, n5, c5, rfl, hN5⟩⟩
      · apply wpOp_at
        case ho => rfl
        case hg => rfl
        intro K' hK
        have HK := Lib.hid hK
        clear hK
        have e0 := J.h0 (hd 0 (by kernel_rfl))
        obtain ⟨b5, a5, n5, c5, e1, hN5⟩ := J.h1 (hd 1 (by kernel_rfl))
        subst e0
        subst e1
        clear hd
        go_simp
        go_at_call 65
        refine (Mul_any b4 a4 n4 c4 z b5 a5 n5 c5 1048576 _ J.hv.nx hN5 (by omega) (len_two hN5 (by decide))).mono ?_
        rintro e W' ⟨b6, a6, n6, c6, rfl, hN6, _, hB6⟩
        exact HK.out _ _ ⟨v8, v9, v10, v36, _, _, _, v40, v41, v42, v43, v44, by simp [sets6], (J.later hB6).at2 ⟨b6, a6, n6, c6, rfl, hN6⟩⟩
      · apply wpOp_at
        case ho => rfl
        case hg => rfl
        intro K' hK
        have HK := Lib.hid hK
        clear hK
        obtain ⟨k0, k1, k2, k3⟩ := J.hv.Y.cells
        clear hd
        go_simp
        exact HK.out _ _ ⟨v8, v9, v10, v36, v37, v38, v39, _, v41, v42, v43, v44, by simp [sets6], J.at3 rfl⟩
      · apply wpOp_at
        case ho => rfl
        case hg => rfl
        intro K' hK
        have HK := Lib.hid hK
        clear hK
        have e0 := J.h3 (hd 3 (by kernel_rfl))
        obtain ⟨b5, a5, n5, c5, e1, hN5⟩ := J.h2 (hd 2 (by kernel_rfl))
        subst e0
        subst e1
        clear hd
        go_simp
        go_at_call 66
        refine (Quo_any b5 a5 n5 c5 (z * 1048576) b3 a3 n3 c3 y _ hN5 J.hv.ny (HLP.out _ _ _ _ _ hN5) (by omega) HY0.out).mono ?_
        rintro e W' ⟨q, r, hq, b6, a6, n6, c6, b7, a7, n7, c7, rfl, hQ, hR, _, _, hB6⟩
        obtain ⟨rfl, rfl⟩ := quo_flo hq HY0.out
        exact HK.out _ _ ⟨v8, v9, v10, v36, v37, v38, _, _, _, v42, v43, v44, by simp [sets6], (J.later hB6).at4 ⟨_, _, rfl, ⟨b6, a6, n6, c6, rfl, hQ⟩, ⟨b7, a7, n7, c7, rfl, hR⟩⟩⟩
      · apply wpOp_at
        case ho => rfl
        case hg => rfl
        intro K' hK
        have HK := Lib.hid hK
        clear hK
        have h4 := J.h4 (hd 4 (by kernel_rfl))
        clear hd
        go_simp
        exact HK.out _ _ ⟨v8, v9, v10, _, v37, v38, v39, v40, v41, v42, v43, v44, by simp [sets6], J.at5 h4⟩
      · apply wpOp_at
        case ho => rfl
        case hg => rfl
        intro K' hK
        have HK := Lib.hid hK
        clear hK
        obtain ⟨vq, vr, e1, hvq, hvr⟩ := J.h5 (hd 5 (by kernel_rfl))
        subst e1
        clear hd
        go_simp
        exact HK.out _ _ ⟨v8, v9, v10, _, v37, v38, v39, v40, v41, _, v43, v44, by simp [sets6], J.at6 hvq⟩
      · apply wpOp_at
        case ho => rfl
        case hg => rfl
        intro K' hK
        have HK := Lib.hid hK
        clear hK
        obtain ⟨vq, vr, e1, hvq, hvr⟩ := J.h5 (hd 5 (by kernel_rfl))
        subst e1
        clear hd
        go_simp
        exact HK.out _ _ ⟨v8, v9, v10, _, v37, v38, v39, v40, v41, v42, _, v44, by simp [sets6], J.at7 hvr⟩
      · apply wpOp_at
        case ho => rfl
        case hg => rfl
        intro K' hK
        have HK := Lib.hid hK
        clear hK
        obtain ⟨vq, vr, e1, hvq, hvr⟩ := J.h5 (hd 5 (by kernel_rfl))
        subst e1
        clear hd
        go_simp
        exact HK.out _ _ ⟨v8, v9, v10, _, v37, v38, v39, v40, v41, v42, v43, _, by simp [sets6], J.at8 rfl⟩
      · apply wpOp_at
        case ho => rfl
        case hg => rfl
        intro K' hK
        have HK := Lib.hid hK
        clear hK
        have h11 : L 11 = false := by
          cases h : L 11
          · rfl
          · exact absurd (J.hcl h) (by rw [hu]; decide)
        clear hd
        go_simp
        have hB5 := new_below W (.cells #[.bool false, .slice none 0 0] 54)
        have hN5 : Nw w (W.alloc (.cells #[.bool false, .slice none 0 0] 54)) w1.heap.size w3.heap.size (.pointer (some ⟨W.heap.size, 0, none⟩)) := ⟨W.heap.size, false, none, 0, 0, rfl, bx_new _ _ _ _, Nat.ne_of_gt J.hv.X.lt, Nat.ne_of_gt J.hv.Y.lt, J.hv.below.size⟩
        exact HK.out _ _ ⟨_, v9, v10, v36, v37, v38, v39, v40, v41, v42, v43, v44, by simp [sets6], (J.later hB5).at9 hN5 (fun e => nw_fresh (J.h10 e)) h11⟩
      · apply wpOp_at
        case ho => rfl
        case hg => rfl
        intro K' hK
        have HK := Lib.hid hK
        clear hK
        clear hd
        go_simp
        have hB5 := new_below W (.cells #[.bool false, .slice none 0 0] 54)
        have hN5 : Nw w (W.alloc (.cells #[.bool false, .slice none 0 0] 54)) w1.heap.size w3.heap.size (.pointer (some ⟨W.heap.size, 0, none⟩)) := ⟨W.heap.size, false, none, 0, 0, rfl, bx_new _ _ _ _, Nat.ne_of_gt J.hv.X.lt, Nat.ne_of_gt J.hv.Y.lt, J.hv.below.size⟩
        exact HK.out _ _ ⟨v8, _, v10, v36, v37, v38, v39, v40, v41, v42, v43, v44, by simp [sets6], (J.later hB5).at10 hN5 (fun e => (nw_fresh (J.h9 e)).symm)⟩
      · apply wpOp_at
        case ho => rfl
        case hg => rfl
        intro K' hK
        have HK := Lib.hid hK
        clear hK
        obtain ⟨k, bk, ak, nk, ck, e1, hk, hki, hkj, hkw⟩ := J.h9 (hd 9 (by kernel_rfl))
        obtain ⟨b5, a5, n5, c5, e2, hN5⟩ := J.h6 (hd 6 (by kernel_rfl))
        have hne := J.hne (hd 9 (by kernel_rfl))
        have h9 := hd 9 (by kernel_rfl)
        subst e1
        subst e2
        obtain ⟨k0, k1, k2, k3⟩ := hk.cells
        clear hd
        go_simp
        exact HK.out _ _ ⟨_, v9, v10, v36, v37, v38, v39, v40, v41, _, v43, v44, by simp [sets6], J.at11 hk hki hkj hkw rfl h9 hne hN5⟩
      · apply wpOp_at
        case ho => rfl
        case hg => rfl
        intro K' hK
        have HK := Lib.hid hK
        clear hK
        obtain ⟨k, bk, ak, nk, ck, e1, hk, hki, hkj, hkw⟩ := J.h10 (hd 10 (by kernel_rfl))
        obtain ⟨b5, a5, n5, c5, e2, hN5⟩ := J.h7 (hd 7 (by kernel_rfl))
        have hne := fun e => J.hne e (hd 10 (by kernel_rfl))
        have h9 := hd 9 (by kernel_rfl)
        subst e1
        subst e2
        obtain ⟨k0, k1, k2, k3⟩ := hk.cells
        clear hd
        go_simp
        exact HK.out _ _ ⟨v8, _, v10, v36, v37, v38, v39, v40, v41, v42, _, v44, by simp [sets6], J.at12 hk hki hkj hkw rfl h9 hne _ _ _ _⟩
      · apply wpOp_at
        case ho => rfl
        case hg => rfl
        intro K' hK
        have HK := Lib.hid hK
        clear hK
        have e0 := J.h8 (hd 8 (by kernel_rfl))
        subst e0
        clear hd
        go_simp
        exact HK.out _ _ ⟨v8, v9, .int .i64 0, v36, v37, v38, v39, v40, v41, v42, v43, _, by simp [sets6], J.at13⟩
    · intro a' W L hL hI
      obtain ⟨v8, v9, v10, v36, v37, v38, v39, v40, v41, v42, v43, v44, ha, J⟩ := hI
      simp only [sets6, List.setIfInBounds_toArray, List.set_cons_succ, List.set_cons_zero] at ha
      subst ha
      obtain ⟨k, bk, ak, nk, ck, e1, hk, hQ⟩ := J.h11 (hL 11 (by decide))
      subst e1
      obtain ⟨k0, k1, k2, k3⟩ := hk.cells
      have hbel := J.hv.below
      clear hhv HV J hL
      go_wp2_with fail
      refine (Small_any bk ak nk ck _ _ hQ (HLQ.out _ _ _ _ _ hQ)).mono ?_
      rintro e W' ⟨rfl, hB7⟩
      have hfin := hbel.trans (hB7.mono hbel.size)
      clear hbel hB7 hQ hk k0 k1 k2 k3
      by_cases hsm : smallB (flo (z * 1048576) y) = true
      · have HE : Hid (stV true (flo (z * 1048576) y) = smallV (flo (z * 1048576) y)) := by show _ = _; unfold stV; rw [if_pos hsm]
        rw [hsm]
        clear hsm
        go_wp2
        go_ret
        exact ⟨ret_int (by rw [← HZX.out, ← HYV.out, HE.out]), hfin⟩
      · have HE : Hid (stV true (flo (z * 1048576) y) = -9223372036854775808) := by show _ = _; unfold stV; rw [if_neg hsm]; rfl
        have hsm' : smallB (flo (z * 1048576) y) = false := by simpa using hsm
        rw [hsm']
        clear hsm hsm'
        go_wp2
        go_ret
        exact ⟨ret_int (by rw [← HZX.out, ← HYV.out, HE.out]), hfin⟩
end Go.Proofs.YtcnmilflfegliaaGreatDoor
