/- Parts of the proof. -/
import Derived.Test.YtolpfibihialkaaGreatDoorGq0
import Derived.Test.YtolpfibihialkaaGreatDoorGq26
import Derived.Test.YtolpfibihialkaaGreatDoorGq16
import Derived.Test.YtolpfibihialkaaGreatDoorGq8
/- Fixed numbers: what steps leans on. -/
namespace Go.Proofs.YtolpfibihialkaaGreatDoor
open Go.RowKit
/-- A number that is not too long. -/
def VB (n : Nat) : Prop := n < BB ^ 60
theorem wn_len (l : List UInt8) : (wnL l).length ≤ l.length + 1 := by
 unfold wnL
 split
 ·
  simp
 ·
  have := (List.dropWhile_sublist (l := l) (fun c => c == 48)).length_le; omega
/-- What a text's parts leave in memory, behind what was there. -/
structure Rec (w W1 : World) (b : Bool) (B : ByteArray) : Prop where
 below : Below w.heap.size w W1
 f0 : W1.cell? ⟨w.heap.size, 0, none⟩ = some (.bool b)
 f2 : W1.cell? ⟨w.heap.size, 2, none⟩ = some (.string B)
 lt : w.heap.size < W1.heap.size
theorem Rec.later {w W1 W2 : World} {b : Bool} {B : ByteArray} (h : Rec w W1 b B) (hb : Below W1.heap.size W1 W2) : Rec w W2 b B :=
 ⟨h.below.trans (hb.mono h.below.size), (hb.cell (p := ⟨w.heap.size, 0, none⟩) h.lt).trans h.f0, (hb.cell (p := ⟨w.heap.size, 2, none⟩) h.lt).trans h.f2, Nat.lt_of_lt_of_le h.lt hb.size⟩
theorem rec_new (w : World) (b : Bool) (W B : ByteArray) (t : TypeId) : Rec w (w.alloc (.cells #[.bool b, .string W, .string B] t)) b B :=
 ⟨(Below.refl _ _).alloc (Nat.le_refl _) _, by simp [go_sem], by simp [go_sem], by simp⟩
theorem quo_flo {x y q r : Int} (h : IsQuo x y q r) (hy : y ≠ 0) : q = flo x y ∧ r = x - y * flo x y := by
 have e : flo x y = q := flo_of (by rw [Int.mul_comm]; exact h.1.symm) h.2.1 h.2.2 hy
 rw [e]
 exact ⟨rfl, by have := h.1; rw [Int.mul_comm y q]; omega⟩
/-- The act behind what the region has done. -/
def sets6 (a : Act) (v8 v9 v10 v36 v37 v38 v39 v40 v41 v42 v43 v44 : Value) : Act :=
 { a with tmps := (((((((((((a.tmps.setIfInBounds 8 v8).setIfInBounds 9 v9).setIfInBounds 10 v10).setIfInBounds 36 v36).setIfInBounds 37 v37).setIfInBounds 38 v38).setIfInBounds 39 v39).setIfInBounds 40 v40).setIfInBounds 41 v41).setIfInBounds 42 v42).setIfInBounds 43 v43).setIfInBounds 44 v44 }
end Go.Proofs.YtolpfibihialkaaGreatDoor

/- Fixed numbers: the walk of steps. -/
namespace Go.Proofs.YtolpfibihialkaaGreatDoor
open Go.RowKit
/-- What steps hands back of a quotient: it, or the outermost number of its sign. -/
def stV (b : Bool) (Q : Int) : Int := if smallB Q = true then smallV Q else if b = true then -9223372036854775808 else 9223372036854775807
theorem bd60 {x : Int} (h : x.natAbs < BB ^ 60) : (x * 1048576).natAbs < BB ^ 61 := by
 rw [Int.natAbs_mul, Nat.pow_succ]
 exact Nat.mul_lt_mul_of_lt_of_le h (by decide) (by decide)
theorem len60 {w : World} {b : Bool} {a : Option Addr} {n c k : Nat} {z : Int} (h : Num w b a n c z) (hz : z.natAbs < BB ^ k) (hk : k ≤ 62) : n ≤ 62 := Nat.le_trans (fit_le h.fit hz) hk
theorem div_abs {a y : Int} (hy : 0 < y) : (flo a y).natAbs ≤ a.natAbs := by
 unfold flo
 rw [if_pos hy]
 rcases Int.lt_or_le a 0 with h | h
 ·
  have h1 : a / y < 0 := Int.ediv_neg_of_neg_of_pos h hy
  have h2 := Int.mul_ediv_add_emod a y
  have h3 := Int.emod_lt_of_pos a hy
  have h4 := Int.emod_nonneg a (Int.ne_of_gt hy)
  have h5 : a ≤ a / y := by
   have : y * (a / y) ≤ 1 * (a / y) := Int.mul_le_mul_of_nonpos_right (by omega) (by omega)
   rw [Int.one_mul] at this
   have h6 : y * (a / y) ≤ a := by omega
   refine Int.not_lt.1 fun hlt => ?_
   have h7 : y * (a / y) + y ≤ y * a := by
    have := Int.mul_le_mul_of_nonneg_left (show a / y + 1 ≤ a by omega) (show 0 ≤ y by omega)
    rw [Int.mul_add, Int.mul_one] at this; exact this
   have h8 : y * a ≤ 1 * a := Int.mul_le_mul_of_nonpos_right (by omega) (by omega)
   omega
  omega
 ·
  have h1 := Int.ediv_le_self y h
  have h2 := Int.ediv_nonneg h (show 0 ≤ y by omega)
  omega
theorem ten_bd (k : Nat) (h : k ≤ 20) : 10 ^ k < BB ^ 21 := Nat.lt_of_le_of_lt (Nat.pow_le_pow_right (by decide) h) (by decide)
theorem abs_nat (n : Nat) : ((n : Nat) : Int).natAbs = n := rfl
set_option maxRecDepth 100000 in
set_option maxHeartbeats 6400000 in
theorem steps_any (b : Bool) (W B : ByteArray) (w : World) (hW : digB W.data.toList = true) (hB : digB B.data.toList = true) (hWs : W.size ≤ 40) (hBs : B.size ≤ 20) :
  Calls Tryz.prog 33 #[.agg #[.bool b, .string W, .string B]] w (PVal (.int .i64 (stV b (flo (sg b (dval (W ++ B).data.toList) * 1048576) ((10 ^ B.size : Nat) : Int)))) w) := by
 have HW := Lib.hid hW
 have HB := Lib.hid hB
 clear hW hB
 have hR0 := rec_new w b W B 68
 go_enter Tryz.func33, Tryz.ntmps33
 go_wp2_with fail
 refine (withoutNoughts_any (W ++ B) _ (by rw [size_app]; omega)).mono ?_
 rintro e w' ⟨rfl, rfl⟩
 have hdig : digB (W ++ B).data.toList = true := by rw [app_list, digB_app, HW.out, HB.out]; rfl
 obtain ⟨hp, hz, hdg⟩ := wn_parses hdig
 have hlen : (wnL (W ++ B).data.toList).length ≤ 61 := by
  have h1 := wn_len (W ++ B).data.toList
  rw [size_list, size_app] at h1
  omega
 have HP := Lib.hid (And.intro hp hz)
 have hVb : dval (W ++ B).data.toList < BB ^ 60 := Nat.lt_of_lt_of_le (dig_bd hdig) (Nat.pow_le_pow_right BB_pos (by rw [size_list, size_app]; omega))
 have HVB : VB (dval (W ++ B).data.toList) := hVb
 clear hp hz hdig hdg hVb
 obtain ⟨T, hT⟩ : ∃ T : ByteArray, T = ⟨(wnL (W ++ B).data.toList).toArray⟩ := ⟨_, rfl⟩
 rw [← hT]
 have hTs : T.size ≤ 61 := by rw [hT, ← size_list]; exact hlen
 have HTL : Hid (T.data.toList = wnL (W ++ B).data.toList) := by show _ = _; rw [hT]
 clear hT hlen
 go_wp2_with fail
 generalize w.alloc (.cells #[.bool b, .string W, .string B] 68) = w0 at *
 refine (Parse_good T _ (by omega) (by rw [HTL.out]; exact HP.out.1)).mono ?_
 rintro e w1 ⟨b1, a1, n1, c1, rfl, hN1, _, hB1⟩
 rw [HTL.out, HP.out.2] at hN1
 have hR1 := hR0.later (hB1.trans ((new_below w1 (.cells #[.bool b1, .slice a1 n1 c1] 46)).mono hB1.size))
 have hX1 := bx_new w1 46 (.bool b1) (.slice a1 n1 c1)
 have hM1 := hN1.below (new_below w1 (.cells #[.bool b1, .slice a1 n1 c1] 46))
 have hi0 : w.heap.size ≤ w1.heap.size := Nat.le_trans hR0.below.size hB1.size
 clear hR0 hB1 hN1 HP HTL
 have f0 := hR1.f0
 have f2 := hR1.f2
 go_wp2_with fail
 generalize w1.alloc (.cells #[.bool b1, .slice a1 n1 c1] 46) = W1 at *
 refine (Tryz.strings_Repeat ⟨#[48]⟩ B.size _ (by omega) (by show 1 * B.size ≤ _; omega)).mono ?_
 rintro e w2 ⟨rfl, hB2⟩
 have hR2 := hR1.later hB2
 have hX2 := hX1.below hB2
 have hM2 := hM1.below hB2
 clear f0 f2 hR1 hX1 hM1 hB2
 obtain ⟨Z, hZ⟩ : ∃ Z : ByteArray, Z = ⟨(Lib.repeatL (⟨#[48]⟩ : ByteArray).data.toList B.size).toArray⟩ := ⟨_, rfl⟩
 rw [← hZ]
 have HZ : Hid ((⟨#[49]⟩ ++ Z : ByteArray).data.toList = 49 :: Lib.repeatL [48] B.size) := by show _ = _; rw [app_list, hZ]; rfl
 have hZs : (⟨#[49]⟩ ++ Z : ByteArray).size ≤ 2000 := by rw [← size_list, HZ.out, List.length_cons, (rep_dig _).2.2]; omega
 have hZs2 : Z.size ≤ 20 := by rw [hZ, ← size_list]; show (Lib.repeatL [48] B.size).length ≤ _; rw [(rep_dig _).2.2]; omega
 clear hZ
 go_wp2_with fail
 have HZP : Hid (parsesB (⟨#[49]⟩ ++ Z : ByteArray).data.toList = true ∧ zval (⟨#[49]⟩ ++ Z : ByteArray).data.toList = ((10 ^ B.size : Nat) : Int)) := by
  show _ ∧ _
  rw [HZ.out]; exact ten_parses B.size
 clear HZ
 generalize (⟨#[49]⟩ ++ Z : ByteArray) = Y at *
 refine (Parse_good Y _ hZs HZP.out.1).mono ?_
 rintro e w3 ⟨b3, a3, n3, c3, rfl, hN3, _, hB3⟩
 rw [HZP.out.2] at hN3
 have hE3 := hB3.trans ((new_below w3 (.cells #[.bool b3, .slice a3 n3 c3] 46)).mono hB3.size)
 have hR3 := hR2.later hE3
 have hX3 := hX2.below hE3
 have hM3 := hM2.below hE3
 have hY3 := bx_new w3 46 (.bool b3) (.slice a3 n3 c3)
 have hK3 := hN3.below (new_below w3 (.cells #[.bool b3, .slice a3 n3 c3] 46))
 have hne : ¬ w1.heap.size = w3.heap.size := by have := hX2.lt; have := hB3.size; omega
 clear hR2 hX2 hM2 hN3 hB3 hE3 HZP hZs hZs2
 have hH3 : Hv w (w3.alloc (.cells #[.bool b3, .slice a3 n3 c3] 46)) w1.heap.size w3.heap.size b1 a1 n1 c1 ((dval (W ++ B).data.toList : Nat) : Int) b3 a3 n3 c3 ((10 ^ B.size : Nat) : Int) := ⟨hR3.below, hX3, hY3, hM3, hK3⟩
 have f0 := hR3.f0
 obtain ⟨p0, p1, p2, p3⟩ := hX3.cells
 clear hR3 hX3 hY3 hM3 hK3
 obtain ⟨x, hx⟩ : ∃ x : Int, x = ((dval (W ++ B).data.toList : Nat) : Int) := ⟨_, rfl⟩
 obtain ⟨y, hy⟩ : ∃ y : Int, y = ((10 ^ B.size : Nat) : Int) := ⟨_, rfl⟩
 rw [← hx, ← hy] at hH3
 have HXV := Lib.hid hx
 have HYV := Lib.hid hy
 clear hx hy
 cases b
 ·
  go_upto_region 6 with (fail)
  clear f0 p0 p1 p2 p3
  obtain ⟨WW, hWW⟩ : ∃ WW, w3.alloc (.cells #[.bool b3, .slice a3 n3 c3] 46) = WW := ⟨_, rfl⟩
  rw [hWW] at hH3 ⊢
  clear hWW
  have HV := hH3
  clear hH3
  replace HXV : Hid (x = sg false (dval (W ++ B).data.toList)) := HXV.out
  have hxb : x.natAbs < BB ^ 60 := by rw [HXV.out, sg_abs]; exact HVB
  have hn1 := len60 HV.nx hxb (by omega)
  have hn3 := len60 HV.ny (k := 21) (by rw [HYV.out, abs_nat]; exact ten_bd _ hBs) (by omega)
  have hy0 : 0 < y := by rw [HYV.out]; exact Int.natCast_pos.2 (Nat.pow_pos (by decide))
  have HLP : Hid (∀ (b : Bool) (a : Option Addr) (n c : Nat) (W : World), Num W b a n c (x * 1048576) → n ≤ 9000000) := fun b a n c W h => Nat.le_trans (len60 h (bd60 hxb) (by omega)) (by omega)
  have HLQ : Hid (∀ (b : Bool) (a : Option Addr) (n c : Nat) (W : World), Num W b a n c (flo (x * 1048576) y) → n ≤ 10000000) := fun b a n c W h => Nat.le_trans (len60 h (Nat.lt_of_le_of_lt (div_abs hy0) (bd60 hxb)) (by omega)) (by omega)
  have HY0 : Hid (y ≠ 0) := show y ≠ 0 by omega
  clear hxb hy0
  have hhv := HV.later (W2 := WW.drew) (Below.refl _ _).drew
  refine wp_region_inv0 (fun a0 L a' W => ∃ v8 v9 v10 v36 v37 v38 v39 v40 v41 v42 v43 v44, a' = sets6 a0 v8 v9 v10 v36 v37 v38 v39 v40 v41 v42 v43 v44 ∧ J6 (fun W => Hv w W w1.heap.size w3.heap.size b1 a1 n1 c1 x b3 a3 n3 c3 y) w w1.heap.size w3.heap.size b1 a1 n1 c1 b3 a3 n3 c3 1048576 (x * 1048576) (flo (x * 1048576) y) (x * 1048576 - y * flo (x * 1048576) y) L W v8 v9 v36 v37 v38 v39 v40 v41 v42 v43 v44) (by kernel_rfl) (by kernel_rfl) ?_ ?_ ?_
  ·
   exact ⟨undef, undef, undef, undef, undef, undef, undef, undef, undef, undef, undef, undef, by simp [sets6], hhv, nofun, nofun, nofun, nofun, nofun, nofun, nofun, nofun, nofun, nofun, nofun, nofun, nofun, nofun, nofun, nofun⟩
  ·
   intro L a' W i hi hI hu hd
   obtain ⟨v8, v9, v10, v36, v37, v38, v39, v40, v41, v42, v43, v44, ha, J⟩ := hI
   simp only [sets6, zzC, zzD, zzE] at ha
   subst ha
   clear hhv HV
   obtain rfl | rfl | rfl | rfl | rfl | rfl | rfl | rfl | rfl | rfl | rfl | rfl | rfl | rfl : i = 0 ∨ i = 1 ∨ i = 2 ∨ i = 3 ∨ i = 4 ∨ i = 5 ∨ i = 6 ∨ i = 7 ∨ i = 8 ∨ i = 9 ∨ i = 10 ∨ i = 11 ∨ i = 12 ∨ i = 13 := by have : i < 14 := hi; omega
   ·
    apply wpOp_at
    case ho => rfl
    case hg => rfl
    intro K' hK
    have HK := Lib.hid hK
    clear hK
    obtain ⟨k0, k1, k2, k3⟩ := J.hv.X.cells
    clear hd
    go_simp
    exact HK.out _ _ ⟨v8, v9, v10, v36, _, v38, v39, v40, v41, v42, v43, v44, by simp [sets6], J.at0 rfl⟩
   ·
    apply wpOp_at
    case ho => rfl
    case hg => rfl
    intro K' hK
    have HK := Lib.hid hK
    clear hK
    clear hd
    go_simp
    go_at_call 47
    refine (Of_any 1048576 _ (by omega) (by omega)).mono ?_
    rintro e W' ⟨b5, a5, n5, c5, rfl, hN5, _, hB5⟩
    exact HK.out _ _ ⟨v8, v9, v10, v36, v37, _, v39, v40, v41, v42, v43, v44, by simp [sets6], (J.later hB5 (J.hv.later hB5)).at1 ⟨b5, a5, n5, c5, rfl, hN5⟩⟩
   ·
    apply wpOp_at
    case ho => rfl
    case hg => rfl
    intro K' hK
    have HK := Lib.hid hK
    clear hK
    have e0 := J.h0 (hd 0 (by kernel_rfl))
    obtain ⟨b5, a5, n5, c5, e1, hN5⟩ := J.h1 (hd 1 (by kernel_rfl))
    subst e0
    subst e1
    clear hd
    go_simp
    go_at_call 77
    refine (Mul_any b1 a1 n1 c1 x b5 a5 n5 c5 1048576 _ J.hv.nx hN5 (by omega) (len_two hN5 (by decide))).mono ?_
    rintro e W' ⟨b6, a6, n6, c6, rfl, hN6, _, hB6⟩
    exact HK.out _ _ ⟨v8, v9, v10, v36, _, _, _, v40, v41, v42, v43, v44, by simp [sets6], (J.later hB6 (J.hv.later hB6)).at2 ⟨b6, a6, n6, c6, rfl, hN6⟩⟩
   ·
    apply wpOp_at
    case ho => rfl
    case hg => rfl
    intro K' hK
    have HK := Lib.hid hK
    clear hK
    obtain ⟨k0, k1, k2, k3⟩ := J.hv.Y.cells
    clear hd
    go_simp
    exact HK.out _ _ ⟨v8, v9, v10, v36, v37, v38, v39, _, v41, v42, v43, v44, by simp [sets6], J.at3 rfl⟩
   ·
    apply wpOp_at
    case ho => rfl
    case hg => rfl
    intro K' hK
    have HK := Lib.hid hK
    clear hK
    have e0 := J.h3 (hd 3 (by kernel_rfl))
    obtain ⟨b5, a5, n5, c5, e1, hN5⟩ := J.h2 (hd 2 (by kernel_rfl))
    subst e0
    subst e1
    clear hd
    go_simp
    go_at_call 78
    refine (Quo_any b5 a5 n5 c5 (x * 1048576) b3 a3 n3 c3 y _ hN5 J.hv.ny (HLP.out _ _ _ _ _ hN5) (by omega) HY0.out).mono ?_
    rintro e W' ⟨q, r, hq, b6, a6, n6, c6, b7, a7, n7, c7, rfl, hQ, hR, _, _, hB6⟩
    obtain ⟨rfl, rfl⟩ := quo_flo hq HY0.out
    exact HK.out _ _ ⟨v8, v9, v10, v36, v37, v38, _, _, _, v42, v43, v44, by simp [sets6], (J.later hB6 (J.hv.later hB6)).at4 ⟨_, _, rfl, ⟨b6, a6, n6, c6, rfl, hQ⟩, ⟨b7, a7, n7, c7, rfl, hR⟩⟩⟩
   ·
    apply wpOp_at
    case ho => rfl
    case hg => rfl
    intro K' hK
    have HK := Lib.hid hK
    clear hK
    have h4 := J.h4 (hd 4 (by kernel_rfl))
    clear hd
    go_simp
    exact HK.out _ _ ⟨v8, v9, v10, _, v37, v38, v39, v40, v41, v42, v43, v44, by simp [sets6], J.at5 h4⟩
   ·
    apply wpOp_at
    case ho => rfl
    case hg => rfl
    intro K' hK
    have HK := Lib.hid hK
    clear hK
    obtain ⟨vq, vr, e1, hvq, hvr⟩ := J.h5 (hd 5 (by kernel_rfl))
    subst e1
    clear hd
    go_simp
    exact HK.out _ _ ⟨v8, v9, v10, _, v37, v38, v39, v40, v41, _, v43, v44, by simp [sets6], J.at6 hvq⟩
   ·
    apply wpOp_at
    case ho => rfl
    case hg => rfl
    intro K' hK
    have HK := Lib.hid hK
    clear hK
    obtain ⟨vq, vr, e1, hvq, hvr⟩ := J.h5 (hd 5 (by kernel_rfl))
    subst e1
    clear hd
    go_simp
    exact HK.out _ _ ⟨v8, v9, v10, _, v37, v38, v39, v40, v41, v42, _, v44, by simp [sets6], J.at7 hvr⟩
   ·
    apply wpOp_at
    case ho => rfl
    case hg => rfl
    intro K' hK
    have HK := Lib.hid hK
    clear hK
    obtain ⟨vq, vr, e1, hvq, hvr⟩ := J.h5 (hd 5 (by kernel_rfl))
    subst e1
    clear hd
    go_simp
    exact HK.out _ _ ⟨v8, v9, v10, _, v37, v38, v39, v40, v41, v42, v43, _, by simp [sets6], J.at8 rfl⟩
   ·
    apply wpOp_at
    case ho => rfl
    case hg => rfl
    intro K' hK
    have HK := Lib.hid hK
    clear hK
    have h11 : L 11 = false := by
     cases h : L 11
     ·
      rfl
     ·
      exact absurd (J.hcl h) (by rw [hu]; decide)
    clear hd
    go_simp
    have hB5 := new_below W (.cells #[.bool false, .slice none 0 0] 46)
    have hN5 : Nw w (W.alloc (.cells #[.bool false, .slice none 0 0] 46)) w1.heap.size w3.heap.size (.pointer (some ⟨W.heap.size, 0, none⟩)) := ⟨W.heap.size, false, none, 0, 0, rfl, bx_new _ _ _ _, Nat.ne_of_gt J.hv.X.lt, Nat.ne_of_gt J.hv.Y.lt, J.hv.below.size⟩
    exact HK.out _ _ ⟨_, v9, v10, v36, v37, v38, v39, v40, v41, v42, v43, v44, by simp [sets6], (J.later hB5 (J.hv.later hB5)).at9 hN5 (fun e => nw_fresh (J.h10 e)) h11⟩
   ·
    apply wpOp_at
    case ho => rfl
    case hg => rfl
    intro K' hK
    have HK := Lib.hid hK
    clear hK
    have h12 : L 12 = false := by
     cases h : L 12
     ·
      rfl
     ·
      exact absurd (J.hcl2 h) (by rw [hu]; decide)
    clear hd
    go_simp
    have hB5 := new_below W (.cells #[.bool false, .slice none 0 0] 46)
    have hN5 : Nw w (W.alloc (.cells #[.bool false, .slice none 0 0] 46)) w1.heap.size w3.heap.size (.pointer (some ⟨W.heap.size, 0, none⟩)) := ⟨W.heap.size, false, none, 0, 0, rfl, bx_new _ _ _ _, Nat.ne_of_gt J.hv.X.lt, Nat.ne_of_gt J.hv.Y.lt, J.hv.below.size⟩
    exact HK.out _ _ ⟨v8, _, v10, v36, v37, v38, v39, v40, v41, v42, v43, v44, by simp [sets6], (J.later hB5 (J.hv.later hB5)).at10 hN5 (fun e => (nw_fresh (J.h9 e)).symm) h12⟩
   ·
    apply wpOp_at
    case ho => rfl
    case hg => rfl
    intro K' hK
    have HK := Lib.hid hK
    clear hK
    obtain ⟨k, bk, ak, nk, ck, e1, hk, hki, hkj, hkw⟩ := J.h9 (hd 9 (by kernel_rfl))
    obtain ⟨b5, a5, n5, c5, e2, hN5⟩ := J.h6 (hd 6 (by kernel_rfl))
    have hne := J.hne (hd 9 (by kernel_rfl))
    have h9 := hd 9 (by kernel_rfl)
    subst e1
    subst e2
    obtain ⟨k0, k1, k2, k3⟩ := hk.cells
    clear hd
    go_simp
    exact HK.out _ _ ⟨_, v9, v10, v36, v37, v38, v39, v40, v41, _, v43, v44, by simp [sets6], J.at11 hk hki hkj hkw rfl h9 hne hN5 (J.hv.store hk hki hkj hkw _ _)⟩
   ·
    apply wpOp_at
    case ho => rfl
    case hg => rfl
    intro K' hK
    have HK := Lib.hid hK
    clear hK
    obtain ⟨k, bk, ak, nk, ck, e1, hk, hki, hkj, hkw⟩ := J.h10 (hd 10 (by kernel_rfl))
    obtain ⟨b5, a5, n5, c5, e2, hN5⟩ := J.h7 (hd 7 (by kernel_rfl))
    have hne := fun e => J.hne e (hd 10 (by kernel_rfl))
    have h9 := hd 9 (by kernel_rfl)
    have h10 := hd 10 (by kernel_rfl)
    subst e1
    subst e2
    obtain ⟨k0, k1, k2, k3⟩ := hk.cells
    clear hd
    go_simp
    exact HK.out _ _ ⟨v8, _, v10, v36, v37, v38, v39, v40, v41, v42, _, v44, by simp [sets6], J.at12 hk hki hkj hkw rfl h9 h10 hne hN5 (J.hv.store hk hki hkj hkw _ _)⟩
   ·
    apply wpOp_at
    case ho => rfl
    case hg => rfl
    intro K' hK
    have HK := Lib.hid hK
    clear hK
    have e0 := J.h8 (hd 8 (by kernel_rfl))
    subst e0
    clear hd
    go_simp
    exact HK.out _ _ ⟨v8, v9, .int .i64 0, v36, v37, v38, v39, v40, v41, v42, v43, _, by simp [sets6], J.at13⟩
  ·
   intro a' W L hL hI
   obtain ⟨v8, v9, v10, v36, v37, v38, v39, v40, v41, v42, v43, v44, ha, J⟩ := hI
   simp only [sets6, zzC, zzD, zzE] at ha
   subst ha
   obtain ⟨k, bk, ak, nk, ck, e1, hk, hQ⟩ := J.h11 (hL 11 (by decide))
   subst e1
   obtain ⟨k0, k1, k2, k3⟩ := hk.cells
   have hbel := J.hv.below
   clear hhv HV J hL
   go_wp2_with fail
   refine (Small_any bk ak nk ck _ _ hQ (HLQ.out _ _ _ _ _ hQ)).mono ?_
   rintro e W' ⟨rfl, hB7⟩
   have hfin := hbel.trans (hB7.mono hbel.size)
   clear hbel hB7 hQ hk k0 k1 k2 k3
   by_cases hsm : smallB (flo (x * 1048576) y) = true
   ·
    have HE : Hid (stV false (flo (x * 1048576) y) = smallV (flo (x * 1048576) y)) := by show _ = _; unfold stV; rw [if_pos hsm]
    rw [hsm]
    clear hsm
    go_wp2
    go_ret
    exact ⟨ret_int (by rw [← HXV.out, ← HYV.out, HE.out]), hfin⟩
   ·
    have HE : Hid (stV false (flo (x * 1048576) y) = 9223372036854775807) := by show _ = _; unfold stV; rw [if_neg hsm]; rfl
    have hsm' : smallB (flo (x * 1048576) y) = false := by simpa using hsm
    rw [hsm']
    clear hsm hsm'
    go_wp2
    go_ret
    exact ⟨ret_int (by rw [← HXV.out, ← HYV.out, HE.out]), hfin⟩
 ·
  have hn0 : n1 ≤ 10000000 := Nat.le_trans (len60 hH3.nx (k := 60) (by rw [HXV.out, abs_nat]; exact HVB) (by omega)) (by omega)
  go_wp2_with fail
  refine (Neg_any b1 a1 n1 c1 x _ hH3.nx hn0).mono ?_
  rintro e w4 ⟨b4, a4, n4, c4, rfl, hN4, _, hB4⟩
  have hH4 := hH3.later hB4
  clear f0 p0 p1 p2 p3 hH3 hB4 hn0
  obtain ⟨p0, p1, p2, p3⟩ := hH4.X.cells
  go_upto_region 6 with (fail)
  clear p0 p1 p2 p3
  have HV0 : Hv w ((w4.setCell ⟨w1.heap.size, 0, none⟩ (.bool b4)).setCell ⟨w1.heap.size, 1, none⟩ (.slice a4 n4 c4)) w1.heap.size w3.heap.size b4 a4 n4 c4 (-x) b3 a3 n3 c3 y :=
   ⟨hH4.below.trans ((only2 _ _ _ _).below hi0), hH4.X.self _ _, hH4.Y.other (fun e => hne e.symm) _ _, hN4.store hH4.X _ _, hH4.ny.store hH4.X _ _⟩
  clear hH4 hN4
  obtain ⟨WW, hWW⟩ : ∃ WW, (w4.setCell ⟨w1.heap.size, 0, none⟩ (.bool b4)).setCell ⟨w1.heap.size, 1, none⟩ (.slice a4 n4 c4) = WW := ⟨_, rfl⟩
  rw [hWW] at HV0 ⊢
  clear hWW
  obtain ⟨z, hz⟩ : ∃ z, z = -x := ⟨_, rfl⟩
  rw [← hz] at HV0
  have HZX : Hid (z = sg true (dval (W ++ B).data.toList)) := by show _ = _; rw [hz, HXV.out]; rfl
  clear hz HXV
  have HV := HV0
  clear HV0
  have hxb : z.natAbs < BB ^ 60 := by rw [HZX.out, sg_abs]; exact HVB
  have hn1 := len60 HV.nx hxb (by omega)
  have hn3 := len60 HV.ny (k := 21) (by rw [HYV.out, abs_nat]; exact ten_bd _ hBs) (by omega)
  have hy0 : 0 < y := by rw [HYV.out]; exact Int.natCast_pos.2 (Nat.pow_pos (by decide))
  have HLP : Hid (∀ (b : Bool) (a : Option Addr) (n c : Nat) (W : World), Num W b a n c (z * 1048576) → n ≤ 9000000) := fun b a n c W h => Nat.le_trans (len60 h (bd60 hxb) (by omega)) (by omega)
  have HLQ : Hid (∀ (b : Bool) (a : Option Addr) (n c : Nat) (W : World), Num W b a n c (flo (z * 1048576) y) → n ≤ 10000000) := fun b a n c W h => Nat.le_trans (len60 h (Nat.lt_of_le_of_lt (div_abs hy0) (bd60 hxb)) (by omega)) (by omega)
  have HY0 : Hid (y ≠ 0) := show y ≠ 0 by omega
  clear hxb hy0
  have hhv := HV.later (W2 := WW.drew) (Below.refl _ _).drew
  refine wp_region_inv0 (fun a0 L a' W => ∃ v8 v9 v10 v36 v37 v38 v39 v40 v41 v42 v43 v44, a' = sets6 a0 v8 v9 v10 v36 v37 v38 v39 v40 v41 v42 v43 v44 ∧ J6 (fun W => Hv w W w1.heap.size w3.heap.size b4 a4 n4 c4 z b3 a3 n3 c3 y) w w1.heap.size w3.heap.size b4 a4 n4 c4 b3 a3 n3 c3 1048576 (z * 1048576) (flo (z * 1048576) y) (z * 1048576 - y * flo (z * 1048576) y) L W v8 v9 v36 v37 v38 v39 v40 v41 v42 v43 v44) (by kernel_rfl) (by kernel_rfl) ?_ ?_ ?_
  ·
   exact ⟨undef, undef, undef, undef, undef, undef, undef, undef, undef, undef, undef, undef, by simp [sets6], hhv, nofun, nofun, nofun, nofun, nofun, nofun, nofun, nofun, nofun, nofun, nofun, nofun, nofun, nofun, nofun, nofun⟩
  ·
   intro L a' W i hi hI hu hd
   obtain ⟨v8, v9, v10, v36, v37, v38, v39, v40, v41, v42, v43, v44, ha, J⟩ := hI
   simp only [sets6, zzC, zzD, zzE] at ha
   subst ha
   clear hhv HV
   obtain rfl | rfl | rfl | rfl | rfl | rfl | rfl | rfl | rfl | rfl | rfl | rfl | rfl | rfl : i = 0 ∨ i = 1 ∨ i = 2 ∨ i = 3 ∨ i = 4 ∨ i = 5 ∨ i = 6 ∨ i = 7 ∨ i = 8 ∨ i = 9 ∨ i = 10 ∨ i = 11 ∨ i = 12 ∨ i = 13 := by have : i < 14 := hi; omega
   ·
    apply wpOp_at
    case ho => rfl
    case hg => rfl
    intro K' hK
    have HK := Lib.hid hK
    clear hK
    obtain ⟨k0, k1, k2, k3⟩ := J.hv.X.cells
    clear hd
    go_simp
    exact HK.out _ _ ⟨v8, v9, v10, v36, _, v38, v39, v40, v41, v42, v43, v44, by simp [sets6], J.at0 rfl⟩
   ·
    apply wpOp_at
    case ho => rfl
    case hg => rfl
    intro K' hK
    have HK := Lib.hid hK
    clear hK
    clear hd
    go_simp
    go_at_call 47
    refine (Of_any 1048576 _ (by omega) (by omega)).mono ?_
    rintro e W' ⟨b5, a5, n5, c5, rfl, hN5, _, hB5⟩
    exact HK.out _ _ ⟨v8, v9, v10, v36, v37, _, v39, v40, v41, v42, v43, v44, by simp [sets6], (J.later hB5 (J.hv.later hB5)).at1 ⟨b5, a5, n5, c5, rfl, hN5⟩⟩
   ·
    apply wpOp_at
    case ho => rfl
    case hg => rfl
    intro K' hK
    have HK := Lib.hid hK
    clear hK
    have e0 := J.h0 (hd 0 (by kernel_rfl))
    obtain ⟨b5, a5, n5, c5, e1, hN5⟩ := J.h1 (hd 1 (by kernel_rfl))
    subst e0
    subst e1
    clear hd
    go_simp
    go_at_call 77
    refine (Mul_any b4 a4 n4 c4 z b5 a5 n5 c5 1048576 _ J.hv.nx hN5 (by omega) (len_two hN5 (by decide))).mono ?_
    rintro e W' ⟨b6, a6, n6, c6, rfl, hN6, _, hB6⟩
    exact HK.out _ _ ⟨v8, v9, v10, v36, _, _, _, v40, v41, v42, v43, v44, by simp [sets6], (J.later hB6 (J.hv.later hB6)).at2 ⟨b6, a6, n6, c6, rfl, hN6⟩⟩
   ·
    apply wpOp_at
    case ho => rfl
    case hg => rfl
    intro K' hK
    have HK := Lib.hid hK
    clear hK
    obtain ⟨k0, k1, k2, k3⟩ := J.hv.Y.cells
    clear hd
    go_simp
    exact HK.out _ _ ⟨v8, v9, v10, v36, v37, v38, v39, _, v41, v42, v43, v44, by simp [sets6], J.at3 rfl⟩
   ·
    apply wpOp_at
    case ho => rfl
    case hg => rfl
    intro K' hK
    have HK := Lib.hid hK
    clear hK
    have e0 := J.h3 (hd 3 (by kernel_rfl))
    obtain ⟨b5, a5, n5, c5, e1, hN5⟩ := J.h2 (hd 2 (by kernel_rfl))
    subst e0
    subst e1
    clear hd
    go_simp
    go_at_call 78
    refine (Quo_any b5 a5 n5 c5 (z * 1048576) b3 a3 n3 c3 y _ hN5 J.hv.ny (HLP.out _ _ _ _ _ hN5) (by omega) HY0.out).mono ?_
    rintro e W' ⟨q, r, hq, b6, a6, n6, c6, b7, a7, n7, c7, rfl, hQ, hR, _, _, hB6⟩
    obtain ⟨rfl, rfl⟩ := quo_flo hq HY0.out
    exact HK.out _ _ ⟨v8, v9, v10, v36, v37, v38, _, _, _, v42, v43, v44, by simp [sets6], (J.later hB6 (J.hv.later hB6)).at4 ⟨_, _, rfl, ⟨b6, a6, n6, c6, rfl, hQ⟩, ⟨b7, a7, n7, c7, rfl, hR⟩⟩⟩
   ·
    apply wpOp_at
    case ho => rfl
    case hg => rfl
    intro K' hK
    have HK := Lib.hid hK
    clear hK
    have h4 := J.h4 (hd 4 (by kernel_rfl))
    clear hd
    go_simp
    exact HK.out _ _ ⟨v8, v9, v10, _, v37, v38, v39, v40, v41, v42, v43, v44, by simp [sets6], J.at5 h4⟩
   ·
    apply wpOp_at
    case ho => rfl
    case hg => rfl
    intro K' hK
    have HK := Lib.hid hK
    clear hK
    obtain ⟨vq, vr, e1, hvq, hvr⟩ := J.h5 (hd 5 (by kernel_rfl))
    subst e1
    clear hd
    go_simp
    exact HK.out _ _ ⟨v8, v9, v10, _, v37, v38, v39, v40, v41, _, v43, v44, by simp [sets6], J.at6 hvq⟩
   ·
    apply wpOp_at
    case ho => rfl
    case hg => rfl
    intro K' hK
    have HK := Lib.hid hK
    clear hK
    obtain ⟨vq, vr, e1, hvq, hvr⟩ := J.h5 (hd 5 (by kernel_rfl))
    subst e1
    clear hd
    go_simp
    exact HK.out _ _ ⟨v8, v9, v10, _, v37, v38, v39, v40, v41, v42, _, v44, by simp [sets6], J.at7 hvr⟩
   ·
    apply wpOp_at
    case ho => rfl
    case hg => rfl
    intro K' hK
    have HK := Lib.hid hK
    clear hK
    obtain ⟨vq, vr, e1, hvq, hvr⟩ := J.h5 (hd 5 (by kernel_rfl))
    subst e1
    clear hd
    go_simp
    exact HK.out _ _ ⟨v8, v9, v10, _, v37, v38, v39, v40, v41, v42, v43, _, by simp [sets6], J.at8 rfl⟩
   ·
    apply wpOp_at
    case ho => rfl
    case hg => rfl
    intro K' hK
    have HK := Lib.hid hK
    clear hK
    have h11 : L 11 = false := by
     cases h : L 11
     ·
      rfl
     ·
      exact absurd (J.hcl h) (by rw [hu]; decide)
    clear hd
    go_simp
    have hB5 := new_below W (.cells #[.bool false, .slice none 0 0] 46)
    have hN5 : Nw w (W.alloc (.cells #[.bool false, .slice none 0 0] 46)) w1.heap.size w3.heap.size (.pointer (some ⟨W.heap.size, 0, none⟩)) := ⟨W.heap.size, false, none, 0, 0, rfl, bx_new _ _ _ _, Nat.ne_of_gt J.hv.X.lt, Nat.ne_of_gt J.hv.Y.lt, J.hv.below.size⟩
    exact HK.out _ _ ⟨_, v9, v10, v36, v37, v38, v39, v40, v41, v42, v43, v44, by simp [sets6], (J.later hB5 (J.hv.later hB5)).at9 hN5 (fun e => nw_fresh (J.h10 e)) h11⟩
   ·
    apply wpOp_at
    case ho => rfl
    case hg => rfl
    intro K' hK
    have HK := Lib.hid hK
    clear hK
    have h12 : L 12 = false := by
     cases h : L 12
     ·
      rfl
     ·
      exact absurd (J.hcl2 h) (by rw [hu]; decide)
    clear hd
    go_simp
    have hB5 := new_below W (.cells #[.bool false, .slice none 0 0] 46)
    have hN5 : Nw w (W.alloc (.cells #[.bool false, .slice none 0 0] 46)) w1.heap.size w3.heap.size (.pointer (some ⟨W.heap.size, 0, none⟩)) := ⟨W.heap.size, false, none, 0, 0, rfl, bx_new _ _ _ _, Nat.ne_of_gt J.hv.X.lt, Nat.ne_of_gt J.hv.Y.lt, J.hv.below.size⟩
    exact HK.out _ _ ⟨v8, _, v10, v36, v37, v38, v39, v40, v41, v42, v43, v44, by simp [sets6], (J.later hB5 (J.hv.later hB5)).at10 hN5 (fun e => (nw_fresh (J.h9 e)).symm) h12⟩
   ·
    apply wpOp_at
    case ho => rfl
    case hg => rfl
    intro K' hK
    have HK := Lib.hid hK
    clear hK
    obtain ⟨k, bk, ak, nk, ck, e1, hk, hki, hkj, hkw⟩ := J.h9 (hd 9 (by kernel_rfl))
    obtain ⟨b5, a5, n5, c5, e2, hN5⟩ := J.h6 (hd 6 (by kernel_rfl))
    have hne := J.hne (hd 9 (by kernel_rfl))
    have h9 := hd 9 (by kernel_rfl)
    subst e1
    subst e2
    obtain ⟨k0, k1, k2, k3⟩ := hk.cells
    clear hd
    go_simp
    exact HK.out _ _ ⟨_, v9, v10, v36, v37, v38, v39, v40, v41, _, v43, v44, by simp [sets6], J.at11 hk hki hkj hkw rfl h9 hne hN5 (J.hv.store hk hki hkj hkw _ _)⟩
   ·
    apply wpOp_at
    case ho => rfl
    case hg => rfl
    intro K' hK
    have HK := Lib.hid hK
    clear hK
    obtain ⟨k, bk, ak, nk, ck, e1, hk, hki, hkj, hkw⟩ := J.h10 (hd 10 (by kernel_rfl))
    obtain ⟨b5, a5, n5, c5, e2, hN5⟩ := J.h7 (hd 7 (by kernel_rfl))
    have hne := fun e => J.hne e (hd 10 (by kernel_rfl))
    have h9 := hd 9 (by kernel_rfl)
    have h10 := hd 10 (by kernel_rfl)
    subst e1
    subst e2
    obtain ⟨k0, k1, k2, k3⟩ := hk.cells
    clear hd
    go_simp
    exact HK.out _ _ ⟨v8, _, v10, v36, v37, v38, v39, v40, v41, v42, _, v44, by simp [sets6], J.at12 hk hki hkj hkw rfl h9 h10 hne hN5 (J.hv.store hk hki hkj hkw _ _)⟩
   ·
    apply wpOp_at
    case ho => rfl
    case hg => rfl
    intro K' hK
    have HK := Lib.hid hK
    clear hK
    have e0 := J.h8 (hd 8 (by kernel_rfl))
    subst e0
    clear hd
    go_simp
    exact HK.out _ _ ⟨v8, v9, .int .i64 0, v36, v37, v38, v39, v40, v41, v42, v43, _, by simp [sets6], J.at13⟩
  ·
   intro a' W L hL hI
   obtain ⟨v8, v9, v10, v36, v37, v38, v39, v40, v41, v42, v43, v44, ha, J⟩ := hI
   simp only [sets6, zzC, zzD, zzE] at ha
   subst ha
   obtain ⟨k, bk, ak, nk, ck, e1, hk, hQ⟩ := J.h11 (hL 11 (by decide))
   subst e1
   obtain ⟨k0, k1, k2, k3⟩ := hk.cells
   have hbel := J.hv.below
   clear hhv HV J hL
   go_wp2_with fail
   refine (Small_any bk ak nk ck _ _ hQ (HLQ.out _ _ _ _ _ hQ)).mono ?_
   rintro e W' ⟨rfl, hB7⟩
   have hfin := hbel.trans (hB7.mono hbel.size)
   clear hbel hB7 hQ hk k0 k1 k2 k3
   by_cases hsm : smallB (flo (z * 1048576) y) = true
   ·
    have HE : Hid (stV true (flo (z * 1048576) y) = smallV (flo (z * 1048576) y)) := by show _ = _; unfold stV; rw [if_pos hsm]
    rw [hsm]
    clear hsm
    go_wp2
    go_ret
    exact ⟨ret_int (by rw [← HZX.out, ← HYV.out, HE.out]), hfin⟩
   ·
    have HE : Hid (stV true (flo (z * 1048576) y) = -9223372036854775808) := by show _ = _; unfold stV; rw [if_neg hsm]; rfl
    have hsm' : smallB (flo (z * 1048576) y) = false := by simpa using hsm
    rw [hsm']
    clear hsm hsm'
    go_wp2
    go_ret
    exact ⟨ret_int (by rw [← HZX.out, ← HYV.out, HE.out]), hfin⟩
end Go.Proofs.YtolpfibihialkaaGreatDoor

/- Fixed numbers: the walk of Parse. -/
namespace Go.Proofs.YtolpfibihialkaaGreatDoor
open Go.RowKit
/-- The steps of a text that is a fixed number. -/
def fQ (l : List UInt8) : Int := flo (sg (pB l) (dval (fW l ++ fB l)) * 1048576) ((10 ^ (fB l).length : Nat) : Int)
theorem flo_nn {a y : Int} (ha : 0 ≤ a) (hy : 0 < y) : 0 ≤ flo a y := by
 unfold flo; rw [if_pos hy]; exact Int.ediv_nonneg ha (by omega)
theorem flo_np {a y : Int} (ha : a ≤ 0) (hy : 0 < y) : flo a y ≤ 0 := by
 unfold flo; rw [if_pos hy]; have := Int.mul_ediv_add_emod a y; have h1 := Int.emod_nonneg a (Int.ne_of_gt hy); exact Int.not_lt.1 fun h => by have := Int.mul_pos hy h; omega
theorem st_cut (b : Bool) (V : Nat) (y : Int) (hy : 0 < y) : cutI (stV b (flo (sg b V * 1048576) y)) = cutI (flo (sg b V * 1048576) y) ∧ cutB (stV b (flo (sg b V * 1048576) y)) = cutB (flo (sg b V * 1048576) y) := by
 have hs : (b = false → 0 ≤ flo (sg b V * 1048576) y) ∧ (b = true → flo (sg b V * 1048576) y ≤ 0) := by
  constructor
  ·
   intro e; subst e; exact flo_nn (by show 0 ≤ ((V : Nat) : Int) * 1048576; omega) hy
  ·
   intro e; subst e; exact flo_np (by show (-(V : Nat) : Int) * 1048576 ≤ 0; omega) hy
 generalize flo (sg b V * 1048576) y = Q at *
 unfold stV
 by_cases h : smallB Q = true
 ·
  rw [if_pos h]
  have h1 : -9223372036854775808 ≤ Q ∧ Q ≤ 9223372036854775807 := of_decide_eq_true h
  rw [(small_is h1.1 h1.2).1]; exact ⟨rfl, rfl⟩
 ·
  rw [if_neg h]
  have h1 : ¬ (-9223372036854775808 ≤ Q ∧ Q ≤ 9223372036854775807) := fun e => h (decide_eq_true e)
  cases b
  ·
   have := hs.1 rfl
   rw [(cut_hi (n := Q) (by omega)).1, (cut_hi (n := Q) (by omega)).2]; exact ⟨rfl, rfl⟩
  ·
   have := hs.2 rfl
   rw [(cut_lo (n := Q) (by omega)).1, (cut_lo (n := Q) (by omega)).2]; exact ⟨rfl, rfl⟩
set_option maxHeartbeats 1600000 in
theorem fxParse_long (s : ByteArray) (w : World) (hs : 40 < s.size) (hs' : s.size ≤ maxLen) :
  Calls Tryz.prog 6 #[.string s] w (PVal3 (.int .i64 0) (.bool false) (.int .i64 2) w) := by
 unfold maxLen at hs'
 have hT := two_mk w 2 4
 go_enter_defers Tryz.func6, Tryz.ntmps6
 go_wp2
 refine hT.door (fun w' kp kq hb => ?_)
 exact ⟨.tuple #[.int .i64 (cutI 0), .bool (false || cutB 0), .int .i64 2], by simp [results, Tryz.results6, go_sem, kp, kq], rfl, hb⟩
/-- What Parse tells of a text: the number, whether it was cut, the error's number. -/
def fxV (l : List UInt8) : Int := if readsB l = true then cutI (fQ l) else 0
def fxC (l : List UInt8) : Bool := if readsB l = true then cutB (fQ l) else false
def fxE (l : List UInt8) : Int := if readsB l = true then 0 else 10
theorem fx_bad {l : List UInt8} (h : readsB l = false) : fxV l = 0 ∧ fxC l = false ∧ fxE l = 10 := by
 unfold fxV fxC fxE; rw [h]; exact ⟨rfl, rfl, rfl⟩
theorem fx_good {l : List UInt8} (h : readsB l = true) : fxV l = cutI (fQ l) ∧ fxC l = cutB (fQ l) ∧ fxE l = 0 := by
 unfold fxV fxC fxE; rw [h]; exact ⟨rfl, rfl, rfl⟩
theorem parts_ok {W B : List UInt8} {b p : Bool} (h : partsB W B b p = true) : digB W = true ∧ digB B = true ∧ B.length ≤ 20 := by
 unfold partsB at h
 simp only [Bool.and_eq_true, decide_eq_true_eq] at h
 exact ⟨h.1.1.1.1.1.2, h.1.1.1.1.2, h.1.2⟩
set_option maxRecDepth 100000 in
set_option maxHeartbeats 1600000 in
theorem fxParse_any (s : ByteArray) (m : Int) (w : World) (hs : s.size ≤ 40) (hm : w.cell? ⟨1, 0, none⟩ = some (.int .i64 m)) :
  Calls Tryz.prog 6 #[.string s] w (PVal3 (.int .i64 (fxV s.data.toList)) (.bool (fxC s.data.toList)) (.int .i64 (fxE s.data.toList)) w) := by
 have hlt := World.block_lt_of_cell? w _ hm
 have hT := two_mk w 2 4
 have hm0 := (hT.below.cell (p := ⟨1, 0, none⟩) hlt).trans hm
 have hWl : (fW s.data.toList).length ≤ 40 := by
  have h1 := (cut_len (pD s.data.toList) [46]).1
  have h2 := pD_le s.data.toList
  rw [size_list] at h2
  exact Nat.le_trans h1 (Nat.le_trans h2 hs)
 clear hm hlt
 go_enter_defers Tryz.func6, Tryz.ntmps6
 go_wp2_with fail
 generalize (w.alloc (.cells #[.int .i64 0] 2)).alloc (.cells #[.bool false] 4) = w0 at *
 refine (read_any s m _ hs hm0).mono ?_
 rintro e w1 ⟨rfl, hB1⟩
 clear hm0
 cases hr : readsB s.data.toList
 ·
  have HR := Lib.hid (fx_bad hr)
  have hT1 := hT.later (hB1.trans ((new_below w1 (.cells #[.bool false, .string ⟨#[]⟩, .string ⟨#[]⟩] 68)).mono hB1.size))
  have hp := hT1.p
  have hq := hT1.q
  have fp := hT1.fp
  have fq := hT1.fq
  clear hr hT hB1
  simp only [Bool.false_eq_true, if_false]
  go_wp2
  have hT2 := (hT1.putp (.int .i64 0)).putq false
  refine hT2.door (fun w' kp kq hb => ?_)
  exact ⟨.tuple #[.int .i64 (cutI 0), .bool (false || cutB 0), .int .i64 10], by simp [results, Tryz.results6, go_sem, kp, kq], by rw [HR.out.1, HR.out.2.1, HR.out.2.2]; rfl, hb⟩
 ·
  have HR := Lib.hid (fx_good hr)
  have hp1 := parts_ok hr
  obtain ⟨W, hW⟩ : ∃ W : ByteArray, W = ⟨(fW s.data.toList).toArray⟩ := ⟨_, rfl⟩
  obtain ⟨B, hB⟩ : ∃ B : ByteArray, B = ⟨(fB s.data.toList).toArray⟩ := ⟨_, rfl⟩
  obtain ⟨b, hb⟩ : ∃ b, b = pB s.data.toList := ⟨_, rfl⟩
  have eW : W.data.toList = fW s.data.toList := by rw [hW]
  have eB : B.data.toList = fB s.data.toList := by rw [hB]
  have HQ : Hid (fQ s.data.toList = flo (sg b (dval (W ++ B).data.toList) * 1048576) ((10 ^ B.size : Nat) : Int)) := by
   show _ = _
   unfold fQ
   rw [app_list, eW, eB, ← hb, ← size_list B, eB]
  have HW : Hid (digB W.data.toList = true ∧ digB B.data.toList = true ∧ W.size ≤ 40 ∧ B.size ≤ 20) := by
   show _ ∧ _
   rw [← size_list W, ← size_list B, eW, eB]
   exact ⟨hp1.1, hp1.2.1, hWl, hp1.2.2⟩
  rw [← hW, ← hB, ← hb]
  have hT1 := hT.later (hB1.trans ((new_below w1 (.cells #[.bool b, .string W, .string B] 68)).mono hB1.size))
  clear hr hp1 hW hB hb eW eB hT hB1 hWl
  simp only [if_true]
  go_wp2_with fail
  generalize w1.alloc (.cells #[.bool b, .string W, .string B] 68) = w2 at *
  refine (steps_any b W B _ HW.out.1 HW.out.2.1 HW.out.2.2.1 HW.out.2.2.2).mono ?_
  rintro e w3 ⟨rfl, hB3⟩
  have hc := st_cut b (dval (W ++ B).data.toList) ((10 ^ B.size : Nat) : Int) (Int.natCast_pos.2 (Nat.pow_pos (by decide)))
  rw [← HQ.out] at hc
  have HC := Lib.hid hc
  clear hc
  rw [← HQ.out]
  generalize stV b (fQ s.data.toList) = n at *
  have hT3 := hT1.later hB3
  have hp := hT3.p
  have hq := hT3.q
  have fp := hT3.fp
  have fq := hT3.fq
  clear hT1 hB3
  go_wp2
  have hT4 := (hT3.putp (.int .i64 n)).putq false
  refine hT4.door (fun w' kp kq hb => ?_)
  exact ⟨.tuple #[.int .i64 (cutI n), .bool (false || cutB n), .int .i64 0], by simp [results, Tryz.results6, go_sem, kp, kq], by rw [HR.out.1, HR.out.2.1, HR.out.2.2, HC.out.1, HC.out.2]; rfl, hb⟩
end Go.Proofs.YtolpfibihialkaaGreatDoor

/- Fixed numbers: the walk of fraction. -/
namespace Go.Proofs.YtolpfibihialkaaGreatDoor
open Go.RowKit
/-- What is left of a fraction behind k digits; its digits; how many it has; its text. -/
def fr (r k : Nat) : Nat := r * 10 ^ k % 1048576
def fd (r k : Nat) : Nat := fr r k * 10 / 1048576
def frL (r n : Nat) : List UInt8 := (List.range n).map fun i => (48 + fd r i).toUInt8
theorem fr_lt (r k : Nat) : fr r k < 1048576 := Nat.mod_lt _ (by decide)
theorem fr_zero {r : Nat} (h : r < 1048576) : fr r 0 = r := by unfold fr; rw [Nat.pow_zero, Nat.mul_one]; exact Nat.mod_eq_of_lt h
theorem fr_next (r k : Nat) : fr r k * 10 % 1048576 = fr r (k + 1) := by
 unfold fr; rw [Nat.pow_succ, ← Nat.mul_assoc, Nat.mod_mul_mod]
theorem fd_lt (r k : Nat) : fd r k < 10 := by have := fr_lt r k; unfold fd; omega
theorem fr_twenty (r : Nat) : fr r 20 = 0 := by
 unfold fr
 rw [show (10 : Nat) ^ 20 = 1048576 * 95367431640625 from by decide, ← Nat.mul_assoc, Nat.mul_comm r, Nat.mul_assoc, Nat.mul_mod_right]
/-- n is how many digits the fraction has. -/
def FrN (r n : Nat) : Prop := n ≤ 20 ∧ fr r n = 0 ∧ ∀ j, j < n → fr r j ≠ 0
/-- A slice's length. -/
def lenV : Value → Nat
 | .slice _ n _ => n
 | _ => 0
/-- A fraction's text is handed back. -/
def PFrac (r : Nat) (w : World) (e : Ending) (w' : World) : Prop := ∃ n, FrN r n ∧ e = .returned (.string ⟨(frL r n).toArray⟩) ∧ Below w.heap.size w w'
set_option maxHeartbeats 3200000 in
theorem fraction_any (r : Nat) (w : World) (hr : r < 1048576) (hr0 : r ≠ 0) :
  Calls Tryz.prog 69 #[.int .i64 r] w (PFrac r w) := by
 obtain ⟨i0, hi0, hz0, hzz1, hzz2⟩ := info_parts Tryz.info5
 have HI := Lib.hid (And.intro hi0 (And.intro hz0 (And.intro hzz1 hzz2)))
 have HR0 := Lib.hid hr0
 have HZ := Lib.hid (fr_zero hr)
 clear hi0 hz0 hzz1 hzz2 hr0 hr
 go_enter Tryz.func69, Tryz.ntmps69
 go_wp2
 go_loopw [0, 3] (fun rv dv wr => ∃ k : Nat, k ≤ 20 ∧ rv = .int .i64 (fr r k : Nat) ∧ wr.ownsRow w.heap.size 5 1 dv k (vals .u8 (fun i => 48 + fd r i) k) ∧ (∀ j, j < k → fr r j ≠ 0) ∧ Below w.heap.size w wr) (fun _ dv _ => 20 - lenV dv)
 case atStart => exact ⟨0, Nat.zero_le _, by rw [HZ.out], World.ownsRow_nil _ _ _ _, fun j hj => by omega, Below.refl _ _⟩
 case round =>
  obtain ⟨k, hk, rfl, how, hall, hbl⟩ := hrel
  have HA := Lib.hid hall
  clear hall
  have hlt := fr_lt r k
  obtain ⟨R, hR⟩ : ∃ R : Int, R = ((fr r k : Nat) : Int) := ⟨_, rfl⟩
  rw [← hR]
  have hR1 : 0 ≤ R := by omega
  have hR2 : R ≤ 1048575 := by omega
  by_cases h0 : fr r k = 0
  ·
   have hk0 : 0 < k := by
    rcases Nat.eq_zero_or_pos k with h | h
    ·
     subst h; exact absurd (HZ.out.symm.trans h0) HR0.out
    ·
     exact h
   obtain ⟨a, c, rfl, hlie⟩ := lie_owned how
   obtain ⟨b, o, rfl, hb⟩ := hlie.some_of_pos hk0
   have hcv : ∃ str : ByteArray, str = ⟨(frL r k).toArray⟩ ∧ (convert 97 9 (.slice (some ⟨b, o, none⟩) k c)).run Tryz.prog wr = .ok (.string str) wr := by
    refine ⟨_, rfl, ?_⟩
    have := run_convert_bytes_back (P := Tryz.prog) wr 97 9 5 ⟨b, o, none⟩ c (frL r k) Tryz.u97 (by kernel_rfl) (by kernel_rfl) (fun j hj => by
     have hj' : j < k := by simpa [frL] using hj
     rw [show (⟨b, o, none⟩ : Addr).add j = ⟨b, o + j, none⟩ from by unfold Addr.add; split <;> simp_all, hlie.at j hj']
     have := fd_lt r j
     simp only [frL, List.getElem_map, List.getElem_range]
     congr 3
     show _ = (48 + fd r j) % 256
     omega)
    rw [show (frL r k).length = k from by simp [frL]] at this
    exact this
   obtain ⟨str, hstr, hrun⟩ := hcv
   have HS := Lib.hid hstr
   have HF : Hid (FrN r k) := ⟨hk, h0, HA.out⟩
   obtain rfl : R = 0 := by omega
   clear hstr hR hlt h0 hR1 hR2 how hlie
   go_wp2
   go_ret
   exact ⟨k, HF.out, by rw [← HS.out]; rfl, hbl⟩
  ·
   have hd0 : (R == 0) = false := by simp; omega
   have hd1 : (R != 0) = true := by simp; omega
   have hk2 : k < 20 := by
    rcases Nat.lt_or_ge k 20 with h | h
    ·
     exact h
    ·
     exfalso; obtain rfl : k = 20 := by omega
     exact h0 (fr_twenty r)
   have hdl := fd_lt r k
   have HD : Hid ((48 : Int) + R * 10 / 1048576 = ((48 + fd r k : Nat) : Int)) := by show _ = _; unfold fd; omega
   have HM : Hid (R * 10 % 1048576 = ((fr r (k + 1) : Nat) : Int)) := by show _ = _; rw [← fr_next]; omega
   have HA2 : Hid (∀ j, j < k + 1 → fr r j ≠ 0) := fun j hj => by
    rcases Nat.lt_or_ge j k with h | h
    ·
     exact HA.out j h
    ·
     obtain rfl : j = k := by omega
     exact h0
   have hd2 : R * 10 / 1048576 ≤ 9 := by omega
   have hd3 : 0 ≤ R * 10 / 1048576 := by omega
   clear h0 hlt hR
   go_wp2_with (first
    | (at_builtin; refine wpList_append_own _ rfl _ _ 97 rfl w.heap.size 5 i0 (.int .u8 0) 1 1 Tryz.u97 HI.out.1 HI.out.2.1 HI.out.2.2.1 HI.out.2.2.2 rfl (by decide) _ _ _ rfl (how.alloc _) ⟨wr.heap.size, 0, none⟩ 1 1 [.int .u8 ((48 : Int) + R * 10 / 1048576)] rfl rfl ?c1 ?c2 ?c3 ?c4 ?c5 ?_)
    | fail)
   case c1 => exact cell_one_new _ _ _
   case c2 => intro u hu; simp at hu; subst hu; rfl
   case c3 => unfold maxLen; omega
   case c4 => omega
   case c5 => have := hbl.size; simp; omega
   intro v' w3 hown' hgrow _
   rw [HD.out] at hown'
   have hown2 : w3.ownsRow w.heap.size 5 1 v' (k + 1) (vals .u8 (fun i => 48 + fd r i) (k + 1)) := by rw [← vals_succ]; exact hown'
   have hb3 : Below w.heap.size w w3 := (hbl.alloc hbl.size _).grown hgrow (by have := hbl.size; simp; omega) (fun q hq => (how.lt q hq).1)
   obtain ⟨a0, c0, hu3, _⟩ := lie_owned how
   obtain ⟨a4, c4, hv4, _⟩ := lie_owned hown2
   have HL : Hid (lenV u3 = k ∧ lenV v' = k + 1) := by show _ ∧ _; rw [hu3, hv4]; exact ⟨rfl, rfl⟩
   clear hgrow how hu3 hv4
   go_wp2
   go_roundw
   case rel => exact ⟨k + 1, by omega, by rw [HM.out], hown2, HA2.out, hb3⟩
   case measure => rw [HL.out.1, HL.out.2]; omega
end Go.Proofs.YtolpfibihialkaaGreatDoor
