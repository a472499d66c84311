/- Fixed numbers: the walk of Print. -/
import Derived.Test.YtcnmilflfegliaaGreatDoorFfrac
import Derived.Lib.SmallJoins
namespace Go.Proofs.YtcnmilflfegliaaGreatDoor
open Go.RowKit Go.Sort

/-- What the walks lean on of the library's variables. -/
structure Glob (w : World) : Prop where
  mx : ∃ m : Int, w.cell? ⟨1, 0, none⟩ = some (.int .i64 m)
  tab : Lib.TabIs Tryz.prog w "internal/strconv.uint64pow10" .u64 Lib.pow10Tab
theorem Glob.below {w w' : World} (h : Glob w) (hb : Below w.heap.size w w') : Glob w' := by
  obtain ⟨m, hm⟩ := h.mx
  exact ⟨⟨m, (hb.cell (p := ⟨1, 0, none⟩) (World.block_lt_of_cell? w _ hm)).trans hm⟩, Go.Joins.tab_stays (g := 0) (by kernel_rfl) h.tab hb (Nat.le_refl _)⟩
theorem below_gr (w : World) (k : Nat) (os : Array Obj) : Below w.heap.size w (grow (w.drewN k) os) :=
  ⟨rfl, rfl, rfl, by simp [grow, World.drewN], fun i hi => by simp [grow, World.drewN, Array.getElem?_append_left hi]⟩

/-- How many digits a fraction has. -/
def frK (r : Nat) : Nat := ((List.range 21).find? fun k => fr r k == 0).getD 20
theorem frk_of {r n : Nat} (h : FrN r n) : n = frK r := by
  unfold frK
  have : (List.range 21).find? (fun k => fr r k == 0) = some n := by
    rw [List.find?_range_eq_some]
    exact ⟨by simp [h.2.1], List.mem_range.2 (by have := h.1; omega), fun j hj => by simpa using h.2.2 j hj⟩
  rw [this]; rfl
/-- The text of a number of steps that is not below 0; of any number. -/
def absL (N : Nat) : List UInt8 := Lib.itoa ((N / 1048576 : Nat) : Int) ++ (if N % 1048576 = 0 then [] else 46 :: frL (N % 1048576) (frK (N % 1048576)))
def prL (n : Int) : List UInt8 := if cutI n < 0 then 45 :: absL (cutI n).natAbs else absL (cutI n).natAbs
theorem absL_whole {N : Nat} (h : N % 1048576 = 0) : absL N = Lib.itoa ((N / 1048576 : Nat) : Int) := by unfold absL; rw [if_pos h, List.append_nil]
theorem absL_part {N : Nat} (h : N % 1048576 ≠ 0) : absL N = Lib.itoa ((N / 1048576 : Nat) : Int) ++ 46 :: frL (N % 1048576) (frK (N % 1048576)) := by unfold absL; rw [if_neg h]
theorem bytes_eq {a b : ByteArray} (h : a.data.toList = b.data.toList) : a = b := by
  cases a; cases b; congr; exact Array.toList_inj.1 h
theorem itoa_len {n : Nat} (h : n ≤ 2047) : (Lib.itoa (n : Int)).length ≤ 4 := by
  rw [Lib.itoa_nonneg, Lib.decDigits_length]
  rcases Nat.lt_or_ge n 10 with h1 | h1
  · rw [Lib.nDigits_small h1]; omega
  · rw [Lib.nDigits_big (by omega)]
    rcases Nat.lt_or_ge (n / 10) 10 with h2 | h2
    · rw [Lib.nDigits_small h2]; omega
    · rw [Lib.nDigits_big (by omega)]
      rcases Nat.lt_or_ge (n / 10 / 10) 10 with h3 | h3
      · rw [Lib.nDigits_small h3]; omega
      · rw [Lib.nDigits_big (by omega), Lib.nDigits_small (by omega)]; omega
theorem ret_str {a : ByteArray} {l : List UInt8} (h : a.data.toList = l) : Ending.returned (.string a) = .returned (.string ⟨l.toArray⟩) := by
  rw [bytes_eq (a := a) (b := ⟨l.toArray⟩) h]

set_option maxRecDepth 100000 in
set_option maxHeartbeats 3200000 in
theorem Print_any (n : Int) (w : World) (hG : Glob w) : Calls Tryz.prog 23 #[.int .i64 n] w (PVal (.string ⟨(prL n).toArray⟩) w) := by
  go_enter Tryz.func23, Tryz.ntmps23
  go_wp2_with fail
  refine (Clamp_any n _).mono ?_
  rintro e w1 ⟨rfl, hB1⟩
  have hG1 := hG.below hB1
  have hbd := cut_bd n
  have hp : prL n = if cutI n < 0 then 45 :: absL (cutI n).natAbs else absL (cutI n).natAbs := rfl
  have HP := Lib.hid hp
  clear hp hG
  generalize cutI n = x at *
  generalize cutB n = c at *
  obtain ⟨hb1, hb2⟩ := hbd
  rcases Int.lt_or_le x 0 with hx | hx
  · obtain ⟨N, rfl⟩ : ∃ N : Int, x = -N := ⟨-x, by omega⟩
    have hN1 : 0 < N := by omega
    have hN2 : N ≤ 2147483647 := by omega
    have HN : Hid (prL n = 45 :: absL N.natAbs) := by show _ = _; rw [HP.out, if_pos hx, Int.natAbs_neg]
    clear HP hb1 hb2
    have hr0 : 0 ≤ N % 1048576 := by omega
    have hr1 : N % 1048576 ≤ 1048575 := by omega
    have hq0 : 0 ≤ N / 1048576 := by omega
    have hq1 : N / 1048576 ≤ 2047 := by omega
    have HQ : Hid ((((N.natAbs / 1048576 : Nat) : Nat) : Int) = N / 1048576 ∧ ((N.natAbs % 1048576 : Nat) : Int) = N % 1048576) := by show _ ∧ _; omega
    have hil := itoa_len (n := N.natAbs / 1048576) (by omega)
    rw [HQ.out.1] at hil
    have HIL := Lib.hid hil
    clear hil
    go_wp2_with fail
    refine (Tryz.strconv_FormatInt_10 (N / 1048576) (by omega) (by omega) _ hG1.tab).mono ?_
    rintro e w2 ⟨rfl, k, os, rfl⟩
    have hB2 := hB1.trans ((below_gr w1 k os).mono hB1.size)
    clear hG1 hB1
    generalize grow (w1.drewN k) os = w2 at *
    obtain ⟨T, hT⟩ : ∃ T : ByteArray, T = ⟨(Lib.itoa (N / 1048576)).toArray⟩ := ⟨_, rfl⟩
    have HT : Hid (T.data.toList = Lib.itoa (N / 1048576)) := by show _ = _; rw [hT]
    have hTs : T.size ≤ 4 := by rw [← size_list, HT.out]; exact HIL.out
    rw [← hT]
    clear hT HIL
    by_cases hz : N % 1048576 = 0
    · have HZ : Hid (absL N.natAbs = Lib.itoa (N / 1048576)) := by show _ = _; rw [absL_whole (by omega), HQ.out.1]
      have hz2 : (N % 1048576 == 0) = true := by simpa using hz
      clear hz
      go_wp2
      go_ret
      exact ⟨ret_str (by rw [HN.out, HZ.out]; simp only [app_list, HT.out]; rfl), hB2⟩
    · have hz2 : (N % 1048576 == 0) = false := by simpa using hz
      have HZ : Hid (absL N.natAbs = Lib.itoa (N / 1048576) ++ 46 :: frL (N.natAbs % 1048576) (frK (N.natAbs % 1048576))) := by show _ = _; rw [absL_part (by omega), HQ.out.1]
      have hzz : N.natAbs % 1048576 ≠ 0 := by omega
      have HRZ := Lib.hid hzz
      obtain ⟨r, hr⟩ : ∃ r : Nat, r = N.natAbs % 1048576 := ⟨_, rfl⟩
      have HRL : Hid (r < 1048576) := show r < 1048576 by omega
      have HRN : Hid (N % 1048576 = (r : Int)) := by show _ = _; omega
      rw [← hr] at HZ HRZ
      clear hz hzz hr HQ
      go_wp2_with fail
      rw [HRN.out]
      refine (fraction_any r _ HRL.out HRZ.out).mono ?_
      rintro e w3 ⟨K, hK, rfl, hB3⟩
      obtain rfl := frk_of hK
      have hB4 := hB2.trans (hB3.mono hB2.size)
      obtain ⟨F, hF⟩ : ∃ F : ByteArray, F = ⟨(frL r (frK r)).toArray⟩ := ⟨_, rfl⟩
      have HF : Hid (F.data.toList = frL r (frK r)) := by show _ = _; rw [hF]
      have hFs : F.size ≤ 20 := by rw [← size_list, HF.out]; unfold frL; simp; exact hK.1
      rw [← hF]
      clear hF hK hB2 hB3 HRL HRN
      go_wp2
      go_ret
      exact ⟨ret_str (by rw [HN.out, HZ.out]; simp only [app_list, HT.out, HF.out, List.append_assoc]; rfl), hB4⟩
  · obtain ⟨N, hNx⟩ : ∃ N : Int, N = x := ⟨x, rfl⟩
    subst hNx
    have hN2 : N ≤ 2147483647 := by omega
    have HN : Hid (prL n = absL N.natAbs) := by show _ = _; rw [HP.out, if_neg (by omega)]
    clear HP hb1 hb2
    have hr0 : 0 ≤ N % 1048576 := by omega
    have hr1 : N % 1048576 ≤ 1048575 := by omega
    have hq0 : 0 ≤ N / 1048576 := by omega
    have hq1 : N / 1048576 ≤ 2047 := by omega
    have HQ : Hid ((((N.natAbs / 1048576 : Nat) : Nat) : Int) = N / 1048576 ∧ ((N.natAbs % 1048576 : Nat) : Int) = N % 1048576) := by show _ ∧ _; omega
    have hil := itoa_len (n := N.natAbs / 1048576) (by omega)
    rw [HQ.out.1] at hil
    have HIL := Lib.hid hil
    clear hil
    go_wp2_with fail
    refine (Tryz.strconv_FormatInt_10 (N / 1048576) (by omega) (by omega) _ hG1.tab).mono ?_
    rintro e w2 ⟨rfl, k, os, rfl⟩
    have hB2 := hB1.trans ((below_gr w1 k os).mono hB1.size)
    clear hG1 hB1
    generalize grow (w1.drewN k) os = w2 at *
    obtain ⟨T, hT⟩ : ∃ T : ByteArray, T = ⟨(Lib.itoa (N / 1048576)).toArray⟩ := ⟨_, rfl⟩
    have HT : Hid (T.data.toList = Lib.itoa (N / 1048576)) := by show _ = _; rw [hT]
    have hTs : T.size ≤ 4 := by rw [← size_list, HT.out]; exact HIL.out
    rw [← hT]
    clear hT HIL
    by_cases hz : N % 1048576 = 0
    · have HZ : Hid (absL N.natAbs = Lib.itoa (N / 1048576)) := by show _ = _; rw [absL_whole (by omega), HQ.out.1]
      have hz2 : (N % 1048576 == 0) = true := by simpa using hz
      clear hz
      go_wp2
      go_ret
      exact ⟨ret_str (by rw [HN.out, HZ.out]; simp only [app_list, HT.out]; rfl), hB2⟩
    · have hz2 : (N % 1048576 == 0) = false := by simpa using hz
      have HZ : Hid (absL N.natAbs = Lib.itoa (N / 1048576) ++ 46 :: frL (N.natAbs % 1048576) (frK (N.natAbs % 1048576))) := by show _ = _; rw [absL_part (by omega), HQ.out.1]
      have hzz : N.natAbs % 1048576 ≠ 0 := by omega
      have HRZ := Lib.hid hzz
      obtain ⟨r, hr⟩ : ∃ r : Nat, r = N.natAbs % 1048576 := ⟨_, rfl⟩
      have HRL : Hid (r < 1048576) := show r < 1048576 by omega
      have HRN : Hid (N % 1048576 = (r : Int)) := by show _ = _; omega
      rw [← hr] at HZ HRZ
      clear hz hzz hr HQ
      go_wp2_with fail
      rw [HRN.out]
      refine (fraction_any r _ HRL.out HRZ.out).mono ?_
      rintro e w3 ⟨K, hK, rfl, hB3⟩
      obtain rfl := frk_of hK
      have hB4 := hB2.trans (hB3.mono hB2.size)
      obtain ⟨F, hF⟩ : ∃ F : ByteArray, F = ⟨(frL r (frK r)).toArray⟩ := ⟨_, rfl⟩
      have HF : Hid (F.data.toList = frL r (frK r)) := by show _ = _; rw [hF]
      have hFs : F.size ≤ 20 := by rw [← size_list, HF.out]; unfold frL; simp; exact hK.1
      rw [← hF]
      clear hF hK hB2 hB3 HRL HRN
      go_wp2
      go_ret
      exact ⟨ret_str (by rw [HN.out, HZ.out]; simp only [app_list, HT.out, HF.out, List.append_assoc]; rfl), hB4⟩
end Go.Proofs.YtcnmilflfegliaaGreatDoor
