/- Parts of the proof. -/
import Derived.Test.YtpahkpcoinbgcaaGreatDoorGq19
import Derived.Lib.SmallJoins
/- Fixed numbers: the walk of Print. -/
namespace Go.Proofs.YtpahkpcoinbgcaaGreatDoor
open Go.RowKit Go.Sort
/-- What the walks lean on of the library's variables. -/
structure Glob (w : World) : Prop where
 mx : ∃ m : Int, w.cell? ⟨1, 0, none⟩ = some (.int .i64 m)
 tab : Lib.TabIs Tryz.prog w "internal/strconv.uint64pow10" .u64 Lib.pow10Tab
theorem Glob.below {w w' : World} (h : Glob w) (hb : Below w.heap.size w w') : Glob w' := by
 obtain ⟨m, hm⟩ := h.mx
 exact ⟨⟨m, (hb.cell (p := ⟨1, 0, none⟩) (World.block_lt_of_cell? w _ hm)).trans hm⟩, Go.Joins.tab_stays (g := 0) (by kernel_rfl) h.tab hb (Nat.le_refl _)⟩
theorem below_gr (w : World) (k : Nat) (os : Array Obj) : Below w.heap.size w (grow (w.drewN k) os) :=
 ⟨rfl, rfl, rfl, by simp [grow, World.drewN], fun i hi => by simp [grow, World.drewN, Array.getElem?_append_left hi]⟩
/-- How many digits a fraction has. -/
def frK (r : Nat) : Nat := ((List.range 21).find? fun k => fr r k == 0).getD 20
theorem frk_of {r n : Nat} (h : FrN r n) : n = frK r := by
 unfold frK
 have : (List.range 21).find? (fun k => fr r k == 0) = some n := by
  rw [List.find?_range_eq_some]
  exact ⟨by simp [h.2.1], List.mem_range.2 (by have := h.1; omega), fun j hj => by simpa using h.2.2 j hj⟩
 rw [this]; rfl
/-- The text of a number of steps that is not below 0; of any number. -/
def absL (N : Nat) : List UInt8 := Lib.itoa ((N / 1048576 : Nat) : Int) ++ (if N % 1048576 = 0 then [] else 46 :: frL (N % 1048576) (frK (N % 1048576)))
def prL (n : Int) : List UInt8 := if cutI n < 0 then 45 :: absL (cutI n).natAbs else absL (cutI n).natAbs
theorem absL_whole {N : Nat} (h : N % 1048576 = 0) : absL N = Lib.itoa ((N / 1048576 : Nat) : Int) := by unfold absL; rw [if_pos h, List.append_nil]
theorem absL_part {N : Nat} (h : N % 1048576 ≠ 0) : absL N = Lib.itoa ((N / 1048576 : Nat) : Int) ++ 46 :: frL (N % 1048576) (frK (N % 1048576)) := by unfold absL; rw [if_neg h]
theorem bytes_eq {a b : ByteArray} (h : a.data.toList = b.data.toList) : a = b := by
 cases a; cases b; congr; exact Array.toList_inj.1 h
theorem itoa_len {n : Nat} (h : n ≤ 2047) : (Lib.itoa (n : Int)).length ≤ 4 := by
 rw [Lib.itoa_nonneg, Lib.decDigits_length]
 rcases Nat.lt_or_ge n 10 with h1 | h1
 ·
  rw [Lib.nDigits_small h1]; omega
 ·
  rw [Lib.nDigits_big (by omega)]
  rcases Nat.lt_or_ge (n / 10) 10 with h2 | h2
  ·
   rw [Lib.nDigits_small h2]; omega
  ·
   rw [Lib.nDigits_big (by omega)]
   rcases Nat.lt_or_ge (n / 10 / 10) 10 with h3 | h3
   ·
    rw [Lib.nDigits_small h3]; omega
   ·
    rw [Lib.nDigits_big (by omega), Lib.nDigits_small (by omega)]; omega
theorem ret_str {a : ByteArray} {l : List UInt8} (h : a.data.toList = l) : Ending.returned (.string a) = .returned (.string ⟨l.toArray⟩) := by
 rw [bytes_eq (a := a) (b := ⟨l.toArray⟩) h]
set_option maxRecDepth 100000 in
set_option maxHeartbeats 3200000 in
theorem Print_any (n : Int) (w : World) (hG : Glob w) : Calls Tryz.prog 19 #[.int .i64 n] w (PVal (.string ⟨(prL n).toArray⟩) w) := by
 go_enter Tryz.func19, Tryz.ntmps19
 go_wp2_with fail
 refine (Clamp_any n _).mono ?_
 rintro e w1 ⟨rfl, hB1⟩
 have hG1 := hG.below hB1
 have hbd := cut_bd n
 have hp : prL n = if cutI n < 0 then 45 :: absL (cutI n).natAbs else absL (cutI n).natAbs := rfl
 have HP := Lib.hid hp
 clear hp hG
 generalize cutI n = x at *
 generalize cutB n = c at *
 obtain ⟨hb1, hb2⟩ := hbd
 rcases Int.lt_or_le x 0 with hx | hx
 ·
  obtain ⟨N, rfl⟩ : ∃ N : Int, x = -N := ⟨-x, by omega⟩
  have hN1 : 0 < N := by omega
  have hN2 : N ≤ 2147483647 := by omega
  have HN : Hid (prL n = 45 :: absL N.natAbs) := by show _ = _; rw [HP.out, if_pos hx, Int.natAbs_neg]
  clear HP hb1 hb2
  have hr0 : 0 ≤ N % 1048576 := by omega
  have hr1 : N % 1048576 ≤ 1048575 := by omega
  have hq0 : 0 ≤ N / 1048576 := by omega
  have hq1 : N / 1048576 ≤ 2047 := by omega
  have HQ : Hid ((((N.natAbs / 1048576 : Nat) : Nat) : Int) = N / 1048576 ∧ ((N.natAbs % 1048576 : Nat) : Int) = N % 1048576) := by show _ ∧ _; omega
  have hil := itoa_len (n := N.natAbs / 1048576) (by omega)
  rw [HQ.out.1] at hil
  have HIL := Lib.hid hil
  clear hil
  go_wp2_with fail
  refine (Tryz.strconv_FormatInt_10 (N / 1048576) (by omega) (by omega) _ hG1.tab).mono ?_
  rintro e w2 ⟨rfl, k, os, rfl⟩
  have hB2 := hB1.trans ((below_gr w1 k os).mono hB1.size)
  clear hG1 hB1
  generalize grow (w1.drewN k) os = w2 at *
  obtain ⟨T, hT⟩ : ∃ T : ByteArray, T = ⟨(Lib.itoa (N / 1048576)).toArray⟩ := ⟨_, rfl⟩
  have HT : Hid (T.data.toList = Lib.itoa (N / 1048576)) := by show _ = _; rw [hT]
  have hTs : T.size ≤ 4 := by rw [← size_list, HT.out]; exact HIL.out
  rw [← hT]
  clear hT HIL
  by_cases hz : N % 1048576 = 0
  ·
   have HZ : Hid (absL N.natAbs = Lib.itoa (N / 1048576)) := by show _ = _; rw [absL_whole (by omega), HQ.out.1]
   have hz2 : (N % 1048576 == 0) = true := by simpa using hz
   clear hz
   go_wp2
   go_ret
   exact ⟨ret_str (by rw [HN.out, HZ.out]; simp only [app_list, HT.out]; rfl), hB2⟩
  ·
   have hz2 : (N % 1048576 == 0) = false := by simpa using hz
   have HZ : Hid (absL N.natAbs = Lib.itoa (N / 1048576) ++ 46 :: frL (N.natAbs % 1048576) (frK (N.natAbs % 1048576))) := by show _ = _; rw [absL_part (by omega), HQ.out.1]
   have hzz : N.natAbs % 1048576 ≠ 0 := by omega
   have HRZ := Lib.hid hzz
   obtain ⟨r, hr⟩ : ∃ r : Nat, r = N.natAbs % 1048576 := ⟨_, rfl⟩
   have HRL : Hid (r < 1048576) := show r < 1048576 by omega
   have HRN : Hid (N % 1048576 = (r : Int)) := by show _ = _; omega
   rw [← hr] at HZ HRZ
   clear hz hzz hr HQ
   go_wp2_with fail
   rw [HRN.out]
   refine (fraction_any r _ HRL.out HRZ.out).mono ?_
   rintro e w3 ⟨K, hK, rfl, hB3⟩
   obtain rfl := frk_of hK
   have hB4 := hB2.trans (hB3.mono hB2.size)
   obtain ⟨F, hF⟩ : ∃ F : ByteArray, F = ⟨(frL r (frK r)).toArray⟩ := ⟨_, rfl⟩
   have HF : Hid (F.data.toList = frL r (frK r)) := by show _ = _; rw [hF]
   have hFs : F.size ≤ 20 := by rw [← size_list, HF.out]; unfold frL; simp; exact hK.1
   rw [← hF]
   clear hF hK hB2 hB3 HRL HRN
   go_wp2
   go_ret
   exact ⟨ret_str (by rw [HN.out, HZ.out]; simp only [app_list, HT.out, HF.out, List.append_assoc]; rfl), hB4⟩
 ·
  obtain ⟨N, hNx⟩ : ∃ N : Int, N = x := ⟨x, rfl⟩
  subst hNx
  have hN2 : N ≤ 2147483647 := by omega
  have HN : Hid (prL n = absL N.natAbs) := by show _ = _; rw [HP.out, if_neg (by omega)]
  clear HP hb1 hb2
  have hr0 : 0 ≤ N % 1048576 := by omega
  have hr1 : N % 1048576 ≤ 1048575 := by omega
  have hq0 : 0 ≤ N / 1048576 := by omega
  have hq1 : N / 1048576 ≤ 2047 := by omega
  have HQ : Hid ((((N.natAbs / 1048576 : Nat) : Nat) : Int) = N / 1048576 ∧ ((N.natAbs % 1048576 : Nat) : Int) = N % 1048576) := by show _ ∧ _; omega
  have hil := itoa_len (n := N.natAbs / 1048576) (by omega)
  rw [HQ.out.1] at hil
  have HIL := Lib.hid hil
  clear hil
  go_wp2_with fail
  refine (Tryz.strconv_FormatInt_10 (N / 1048576) (by omega) (by omega) _ hG1.tab).mono ?_
  rintro e w2 ⟨rfl, k, os, rfl⟩
  have hB2 := hB1.trans ((below_gr w1 k os).mono hB1.size)
  clear hG1 hB1
  generalize grow (w1.drewN k) os = w2 at *
  obtain ⟨T, hT⟩ : ∃ T : ByteArray, T = ⟨(Lib.itoa (N / 1048576)).toArray⟩ := ⟨_, rfl⟩
  have HT : Hid (T.data.toList = Lib.itoa (N / 1048576)) := by show _ = _; rw [hT]
  have hTs : T.size ≤ 4 := by rw [← size_list, HT.out]; exact HIL.out
  rw [← hT]
  clear hT HIL
  by_cases hz : N % 1048576 = 0
  ·
   have HZ : Hid (absL N.natAbs = Lib.itoa (N / 1048576)) := by show _ = _; rw [absL_whole (by omega), HQ.out.1]
   have hz2 : (N % 1048576 == 0) = true := by simpa using hz
   clear hz
   go_wp2
   go_ret
   exact ⟨ret_str (by rw [HN.out, HZ.out]; simp only [app_list, HT.out]; rfl), hB2⟩
  ·
   have hz2 : (N % 1048576 == 0) = false := by simpa using hz
   have HZ : Hid (absL N.natAbs = Lib.itoa (N / 1048576) ++ 46 :: frL (N.natAbs % 1048576) (frK (N.natAbs % 1048576))) := by show _ = _; rw [absL_part (by omega), HQ.out.1]
   have hzz : N.natAbs % 1048576 ≠ 0 := by omega
   have HRZ := Lib.hid hzz
   obtain ⟨r, hr⟩ : ∃ r : Nat, r = N.natAbs % 1048576 := ⟨_, rfl⟩
   have HRL : Hid (r < 1048576) := show r < 1048576 by omega
   have HRN : Hid (N % 1048576 = (r : Int)) := by show _ = _; omega
   rw [← hr] at HZ HRZ
   clear hz hzz hr HQ
   go_wp2_with fail
   rw [HRN.out]
   refine (fraction_any r _ HRL.out HRZ.out).mono ?_
   rintro e w3 ⟨K, hK, rfl, hB3⟩
   obtain rfl := frk_of hK
   have hB4 := hB2.trans (hB3.mono hB2.size)
   obtain ⟨F, hF⟩ : ∃ F : ByteArray, F = ⟨(frL r (frK r)).toArray⟩ := ⟨_, rfl⟩
   have HF : Hid (F.data.toList = frL r (frK r)) := by show _ = _; rw [hF]
   have hFs : F.size ≤ 20 := by rw [← size_list, HF.out]; unfold frL; simp; exact hK.1
   rw [← hF]
   clear hF hK hB2 hB3 HRL HRN
   go_wp2
   go_ret
   exact ⟨ret_str (by rw [HN.out, HZ.out]; simp only [app_list, HT.out, HF.out, List.append_assoc]; rfl), hB4⟩
end Go.Proofs.YtpahkpcoinbgcaaGreatDoor

/- Fixed numbers: the walk of the laws' awake. -/
namespace Go.Proofs.YtpahkpcoinbgcaaGreatDoor
open Go.RowKit
theorem root_one {R N r : Nat} (h1 : R * R ≤ N) (h2 : N < (R + 1) * (R + 1)) (k1 : r * r ≤ N) (k2 : N < (r + 1) * (r + 1)) : R = r := by
 rcases Nat.lt_trichotomy R r with h | h | h
 ·
  have := Nat.mul_le_mul (show R + 1 ≤ r from h) (show R + 1 ≤ r from h); omega
 ·
  exact h
 ·
  have := Nat.mul_le_mul (show r + 1 ≤ R from h) (show r + 1 ≤ R from h); omega
theorem pr_one : prL 1572864 = [49, 46, 53] := by
 have e : cutI 1572864 = 1572864 := by decide
 unfold prL
 rw [e, if_neg (by decide)]
 show absL 1572864 = _
 rw [absL_part (by decide)]
 show Lib.itoa ((1 : Nat) : Int) ++ _ = _
 rw [Lib.itoa_nonneg, Lib.decDigits_one (by decide)]
 decide +kernel
theorem pr_two : prL (-1) = [45, 48, 46, 48, 48, 48, 48, 48, 48, 57, 53, 51, 54, 55, 52, 51, 49, 54, 52, 48, 54, 50, 53] := by
 have e : cutI (-1) = -1 := by decide
 unfold prL
 rw [e, if_pos (by decide)]
 show 45 :: absL 1 = _
 rw [absL_part (by decide)]
 show 45 :: (Lib.itoa ((0 : Nat) : Int) ++ _) = _
 rw [Lib.itoa_nonneg, Lib.decDigits_one (by decide)]
 decide +kernel
theorem pa_one : fxV [45, 48, 46, 49] = -104858 ∧ fxE [45, 48, 46, 49] = 0 := by decide +kernel
theorem pa_two : fxV [57, 57, 57, 57] = 2147483647 ∧ fxC [57, 57, 57, 57] = true := by decide +kernel
theorem pa_three : fxE [45, 48] = 10 := by decide +kernel
set_option maxRecDepth 100000 in
set_option maxHeartbeats 6400000 in
theorem fawake_any (w : World) (hG : Glob w) : Calls Tryz.prog 6 #[] w (PVal (.bool true) w) := by
 have hC0 := Below.refl w.heap.size w
 go_enter Tryz.func6, Tryz.ntmps6
 go_wp2_with fail
 refine (fxMul_any (1048576) (3) _).mono ?_
 rintro e w1 ⟨rfl, hB⟩
 have hC1 := hC0.trans (hB.mono hC0.size)
 replace hG := hG.below hB
 have hv : (cutI (flo (cutI (1048576) * cutI (3)) 1048576) = 3 ∧ (cutB (1048576) || cutB (3) || cutB (flo (cutI (1048576) * cutI (3)) 1048576)) = false) := by decide +kernel
 rw [hv.1, hv.2]
 clear hv
 clear hB hC0
 go_wp2_with fail
 refine (fxMul_any (-1) (1) _).mono ?_
 rintro e w2 ⟨rfl, hB⟩
 have hC2 := hC1.trans (hB.mono hC1.size)
 replace hG := hG.below hB
 have hv : (cutI (flo (cutI (-1) * cutI (1)) 1048576) = -1 ∧ (cutB (-1) || cutB (1) || cutB (flo (cutI (-1) * cutI (1)) 1048576)) = false) := by decide +kernel
 rw [hv.1, hv.2]
 clear hv
 clear hB hC1
 go_wp2_with fail
 refine (fxMul_any (2147483647) (2147483647) _).mono ?_
 rintro e w3 ⟨rfl, hB⟩
 have hC3 := hC2.trans (hB.mono hC2.size)
 replace hG := hG.below hB
 have hv : (cutI (flo (cutI (2147483647) * cutI (2147483647)) 1048576) = 2147483647 ∧ (cutB (2147483647) || cutB (2147483647) || cutB (flo (cutI (2147483647) * cutI (2147483647)) 1048576)) = true) := by decide +kernel
 rw [hv.1, hv.2]
 clear hv
 clear hB hC2
 go_wp2_with fail
 refine (fxDiv_any (1048576) (3145728) _ (by decide)).mono ?_
 rintro e w4 ⟨rfl, hB⟩
 have hC4 := hC3.trans (hB.mono hC3.size)
 replace hG := hG.below hB
 have hv : (cutI (flo (cutI (1048576) * 1048576) (cutI (3145728))) = 349525 ∧ (cutB (1048576) || cutB (3145728) || cutB (flo (cutI (1048576) * 1048576) (cutI (3145728)))) = false) := by decide +kernel
 rw [hv.1, hv.2]
 clear hv
 clear hB hC3
 go_wp2_with fail
 refine (fxDiv_any (-1) (2097152) _ (by decide)).mono ?_
 rintro e w5 ⟨rfl, hB⟩
 have hC5 := hC4.trans (hB.mono hC4.size)
 replace hG := hG.below hB
 have hv : (cutI (flo (cutI (-1) * 1048576) (cutI (2097152))) = -1 ∧ (cutB (-1) || cutB (2097152) || cutB (flo (cutI (-1) * 1048576) (cutI (2097152)))) = false) := by decide +kernel
 rw [hv.1, hv.2]
 clear hv
 clear hB hC4
 go_wp2_with fail
 refine (fxDiv_zero 5 _).mono ?_
 rintro e w6 ⟨rfl, hB⟩
 have hC6 := hC5.trans (hB.mono hC5.size)
 replace hG := hG.below hB
 clear hB hC5
 go_wp2_with fail
 refine (fxSqrt_pos 2097152 _ (by decide)).mono ?_
 rintro e w7 ⟨R, h1, h2, _, rfl, hB⟩
 have hC7 := hC6.trans (hB.mono hC6.size)
 replace hG := hG.below hB
 have hv : (cutI 2097152 * 1048576).natAbs = 2199023255552 := by decide +kernel
 rw [hv] at h1 h2
 obtain rfl := root_one (r := 1482910) h1 h2 (by decide) (by decide)
 clear hv h1 h2
 clear hB hC6
 go_wp2_with fail
 refine (fxSqrt_neg (-1) _ (by decide)).mono ?_
 rintro e w8 ⟨rfl, hB⟩
 have hC8 := hC7.trans (hB.mono hC7.size)
 replace hG := hG.below hB
 clear hB hC7
 go_wp2_with fail
 refine (Print_any 1572864 _ hG).mono ?_
 rintro e w9 ⟨rfl, hB⟩
 have hC9 := hC8.trans (hB.mono hC8.size)
 replace hG := hG.below hB
 rw [pr_one]
 clear hB hC8
 go_wp2_with fail
 refine (Print_any (-1) _ hG).mono ?_
 rintro e w10 ⟨rfl, hB⟩
 have hC10 := hC9.trans (hB.mono hC9.size)
 replace hG := hG.below hB
 rw [pr_two]
 clear hB hC9
 obtain ⟨mx, hmx⟩ := hG.mx
 go_wp2_with fail
 refine (fxParse_any ⟨#[45, 48, 46, 49]⟩ mx _ (by decide) hmx).mono ?_
 rintro e w11 ⟨rfl, hB⟩
 have hC11 := hC10.trans (hB.mono hC10.size)
 replace hG := hG.below hB
 rw [show (⟨#[45, 48, 46, 49]⟩ : ByteArray).data.toList = [45, 48, 46, 49] from rfl]
 rw [pa_one.1, pa_one.2]
 clear hmx
 clear hB hC10
 obtain ⟨mx, hmx⟩ := hG.mx
 go_wp2_with fail
 refine (fxParse_any ⟨#[57, 57, 57, 57]⟩ mx _ (by decide) hmx).mono ?_
 rintro e w12 ⟨rfl, hB⟩
 have hC12 := hC11.trans (hB.mono hC11.size)
 replace hG := hG.below hB
 rw [show (⟨#[57, 57, 57, 57]⟩ : ByteArray).data.toList = [57, 57, 57, 57] from rfl]
 rw [pa_two.1, pa_two.2]
 clear hmx
 clear hB hC11
 obtain ⟨mx, hmx⟩ := hG.mx
 go_wp2_with fail
 refine (fxParse_any ⟨#[45, 48]⟩ mx _ (by decide) hmx).mono ?_
 rintro e w13 ⟨rfl, hB⟩
 have hC13 := hC12.trans (hB.mono hC12.size)
 replace hG := hG.below hB
 rw [show (⟨#[45, 48]⟩ : ByteArray).data.toList = [45, 48] from rfl]
 rw [pa_three]
 clear hmx
 clear hB hC12
 go_wp2
 go_ret
 exact ⟨rfl, hC13⟩
end Go.Proofs.YtpahkpcoinbgcaaGreatDoor
