/- Parts of the proof. -/
import Derived.Test.YtolpfibihialkaaGreatDoorGq27
import Derived.Lib.SmallJoins
import Derived.Test.YtolpfibihialkaaGreatDoorGq12
import Derived.Test.YtolpfibihialkaaGreatDoorGq26
/- Fixed numbers: the walk of Print. -/
namespace Go.Proofs.YtolpfibihialkaaGreatDoor
open Go.RowKit Go.Sort
/-- What the walks lean on of the library's variables. -/
structure Glob (w : World) : Prop where
 mx : ∃ m : Int, w.cell? ⟨1, 0, none⟩ = some (.int .i64 m)
 tab : Lib.TabIs Tryz.prog w "internal/strconv.uint64pow10" .u64 Lib.pow10Tab
theorem Glob.below {w w' : World} (h : Glob w) (hb : Below w.heap.size w w') : Glob w' := by
 obtain ⟨m, hm⟩ := h.mx
 exact ⟨⟨m, (hb.cell (p := ⟨1, 0, none⟩) (World.block_lt_of_cell? w _ hm)).trans hm⟩, Go.Joins.tab_stays (g := 0) (by kernel_rfl) h.tab hb (Nat.le_refl _)⟩
theorem below_gr (w : World) (k : Nat) (os : Array Obj) : Below w.heap.size w (grow (w.drewN k) os) :=
 ⟨rfl, rfl, rfl, by simp [grow, World.drewN], fun i hi => by simp [grow, World.drewN, Array.getElem?_append_left hi]⟩
/-- How many digits a fraction has. -/
def frK (r : Nat) : Nat := ((List.range 21).find? fun k => fr r k == 0).getD 20
theorem frk_of {r n : Nat} (h : FrN r n) : n = frK r := by
 unfold frK
 have : (List.range 21).find? (fun k => fr r k == 0) = some n := by
  rw [List.find?_range_eq_some]
  exact ⟨by simp [h.2.1], List.mem_range.2 (by have := h.1; omega), fun j hj => by simpa using h.2.2 j hj⟩
 rw [this]; rfl
/-- The text of a number of steps that is not below 0; of any number. -/
def absL (N : Nat) : List UInt8 := Lib.itoa ((N / 1048576 : Nat) : Int) ++ (if N % 1048576 = 0 then [] else 46 :: frL (N % 1048576) (frK (N % 1048576)))
def prL (n : Int) : List UInt8 := if cutI n < 0 then 45 :: absL (cutI n).natAbs else absL (cutI n).natAbs
theorem absL_whole {N : Nat} (h : N % 1048576 = 0) : absL N = Lib.itoa ((N / 1048576 : Nat) : Int) := by unfold absL; rw [if_pos h, List.append_nil]
theorem absL_part {N : Nat} (h : N % 1048576 ≠ 0) : absL N = Lib.itoa ((N / 1048576 : Nat) : Int) ++ 46 :: frL (N % 1048576) (frK (N % 1048576)) := by unfold absL; rw [if_neg h]
theorem bytes_eq {a b : ByteArray} (h : a.data.toList = b.data.toList) : a = b := by
 cases a; cases b; congr; exact Array.toList_inj.1 h
theorem itoa_len {n : Nat} (h : n ≤ 2047) : (Lib.itoa (n : Int)).length ≤ 4 := by
 rw [Lib.itoa_nonneg, Lib.decDigits_length]
 rcases Nat.lt_or_ge n 10 with h1 | h1
 ·
  rw [Lib.nDigits_small h1]; omega
 ·
  rw [Lib.nDigits_big (by omega)]
  rcases Nat.lt_or_ge (n / 10) 10 with h2 | h2
  ·
   rw [Lib.nDigits_small h2]; omega
  ·
   rw [Lib.nDigits_big (by omega)]
   rcases Nat.lt_or_ge (n / 10 / 10) 10 with h3 | h3
   ·
    rw [Lib.nDigits_small h3]; omega
   ·
    rw [Lib.nDigits_big (by omega), Lib.nDigits_small (by omega)]; omega
theorem ret_str {a : ByteArray} {l : List UInt8} (h : a.data.toList = l) : Ending.returned (.string a) = .returned (.string ⟨l.toArray⟩) := by
 rw [bytes_eq (a := a) (b := ⟨l.toArray⟩) h]
set_option maxRecDepth 100000 in
set_option maxHeartbeats 3200000 in
theorem Print_any (n : Int) (w : World) (hG : Glob w) : Calls Tryz.prog 30 #[.int .i64 n] w (PVal (.string ⟨(prL n).toArray⟩) w) := by
 go_enter Tryz.func30, Tryz.ntmps30
 go_wp2_with fail
 refine (Clamp_any n _).mono ?_
 rintro e w1 ⟨rfl, hB1⟩
 have hG1 := hG.below hB1
 have hbd := cut_bd n
 have hp : prL n = if cutI n < 0 then 45 :: absL (cutI n).natAbs else absL (cutI n).natAbs := rfl
 have HP := Lib.hid hp
 clear hp hG
 generalize cutI n = x at *
 generalize cutB n = c at *
 obtain ⟨hb1, hb2⟩ := hbd
 rcases Int.lt_or_le x 0 with hx | hx
 ·
  obtain ⟨N, rfl⟩ : ∃ N : Int, x = -N := ⟨-x, by omega⟩
  have hN1 : 0 < N := by omega
  have hN2 : N ≤ 2147483647 := by omega
  have HN : Hid (prL n = 45 :: absL N.natAbs) := by show _ = _; rw [HP.out, if_pos hx, Int.natAbs_neg]
  clear HP hb1 hb2
  have hr0 : 0 ≤ N % 1048576 := by omega
  have hr1 : N % 1048576 ≤ 1048575 := by omega
  have hq0 : 0 ≤ N / 1048576 := by omega
  have hq1 : N / 1048576 ≤ 2047 := by omega
  have HQ : Hid ((((N.natAbs / 1048576 : Nat) : Nat) : Int) = N / 1048576 ∧ ((N.natAbs % 1048576 : Nat) : Int) = N % 1048576) := by show _ ∧ _; omega
  have hil := itoa_len (n := N.natAbs / 1048576) (by omega)
  rw [HQ.out.1] at hil
  have HIL := Lib.hid hil
  clear hil
  go_wp2_with fail
  refine (Tryz.strconv_FormatInt_10 (N / 1048576) (by omega) (by omega) _ hG1.tab).mono ?_
  rintro e w2 ⟨rfl, k, os, rfl⟩
  have hB2 := hB1.trans ((below_gr w1 k os).mono hB1.size)
  clear hG1 hB1
  generalize grow (w1.drewN k) os = w2 at *
  obtain ⟨T, hT⟩ : ∃ T : ByteArray, T = ⟨(Lib.itoa (N / 1048576)).toArray⟩ := ⟨_, rfl⟩
  have HT : Hid (T.data.toList = Lib.itoa (N / 1048576)) := by show _ = _; rw [hT]
  have hTs : T.size ≤ 4 := by rw [← size_list, HT.out]; exact HIL.out
  rw [← hT]
  clear hT HIL
  by_cases hz : N % 1048576 = 0
  ·
   have HZ : Hid (absL N.natAbs = Lib.itoa (N / 1048576)) := by show _ = _; rw [absL_whole (by omega), HQ.out.1]
   have hz2 : (N % 1048576 == 0) = true := by simpa using hz
   clear hz
   go_wp2
   go_ret
   exact ⟨ret_str (by rw [HN.out, HZ.out]; simp only [app_list, HT.out]; rfl), hB2⟩
  ·
   have hz2 : (N % 1048576 == 0) = false := by simpa using hz
   have HZ : Hid (absL N.natAbs = Lib.itoa (N / 1048576) ++ 46 :: frL (N.natAbs % 1048576) (frK (N.natAbs % 1048576))) := by show _ = _; rw [absL_part (by omega), HQ.out.1]
   have hzz : N.natAbs % 1048576 ≠ 0 := by omega
   have HRZ := Lib.hid hzz
   obtain ⟨r, hr⟩ : ∃ r : Nat, r = N.natAbs % 1048576 := ⟨_, rfl⟩
   have HRL : Hid (r < 1048576) := show r < 1048576 by omega
   have HRN : Hid (N % 1048576 = (r : Int)) := by show _ = _; omega
   rw [← hr] at HZ HRZ
   clear hz hzz hr HQ
   go_wp2_with fail
   rw [HRN.out]
   refine (fraction_any r _ HRL.out HRZ.out).mono ?_
   rintro e w3 ⟨K, hK, rfl, hB3⟩
   obtain rfl := frk_of hK
   have hB4 := hB2.trans (hB3.mono hB2.size)
   obtain ⟨F, hF⟩ : ∃ F : ByteArray, F = ⟨(frL r (frK r)).toArray⟩ := ⟨_, rfl⟩
   have HF : Hid (F.data.toList = frL r (frK r)) := by show _ = _; rw [hF]
   have hFs : F.size ≤ 20 := by rw [← size_list, HF.out]; unfold frL; simp; exact hK.1
   rw [← hF]
   clear hF hK hB2 hB3 HRL HRN
   go_wp2
   go_ret
   exact ⟨ret_str (by rw [HN.out, HZ.out]; simp only [app_list, HT.out, HF.out, List.append_assoc]; rfl), hB4⟩
 ·
  obtain ⟨N, hNx⟩ : ∃ N : Int, N = x := ⟨x, rfl⟩
  subst hNx
  have hN2 : N ≤ 2147483647 := by omega
  have HN : Hid (prL n = absL N.natAbs) := by show _ = _; rw [HP.out, if_neg (by omega)]
  clear HP hb1 hb2
  have hr0 : 0 ≤ N % 1048576 := by omega
  have hr1 : N % 1048576 ≤ 1048575 := by omega
  have hq0 : 0 ≤ N / 1048576 := by omega
  have hq1 : N / 1048576 ≤ 2047 := by omega
  have HQ : Hid ((((N.natAbs / 1048576 : Nat) : Nat) : Int) = N / 1048576 ∧ ((N.natAbs % 1048576 : Nat) : Int) = N % 1048576) := by show _ ∧ _; omega
  have hil := itoa_len (n := N.natAbs / 1048576) (by omega)
  rw [HQ.out.1] at hil
  have HIL := Lib.hid hil
  clear hil
  go_wp2_with fail
  refine (Tryz.strconv_FormatInt_10 (N / 1048576) (by omega) (by omega) _ hG1.tab).mono ?_
  rintro e w2 ⟨rfl, k, os, rfl⟩
  have hB2 := hB1.trans ((below_gr w1 k os).mono hB1.size)
  clear hG1 hB1
  generalize grow (w1.drewN k) os = w2 at *
  obtain ⟨T, hT⟩ : ∃ T : ByteArray, T = ⟨(Lib.itoa (N / 1048576)).toArray⟩ := ⟨_, rfl⟩
  have HT : Hid (T.data.toList = Lib.itoa (N / 1048576)) := by show _ = _; rw [hT]
  have hTs : T.size ≤ 4 := by rw [← size_list, HT.out]; exact HIL.out
  rw [← hT]
  clear hT HIL
  by_cases hz : N % 1048576 = 0
  ·
   have HZ : Hid (absL N.natAbs = Lib.itoa (N / 1048576)) := by show _ = _; rw [absL_whole (by omega), HQ.out.1]
   have hz2 : (N % 1048576 == 0) = true := by simpa using hz
   clear hz
   go_wp2
   go_ret
   exact ⟨ret_str (by rw [HN.out, HZ.out]; simp only [app_list, HT.out]; rfl), hB2⟩
  ·
   have hz2 : (N % 1048576 == 0) = false := by simpa using hz
   have HZ : Hid (absL N.natAbs = Lib.itoa (N / 1048576) ++ 46 :: frL (N.natAbs % 1048576) (frK (N.natAbs % 1048576))) := by show _ = _; rw [absL_part (by omega), HQ.out.1]
   have hzz : N.natAbs % 1048576 ≠ 0 := by omega
   have HRZ := Lib.hid hzz
   obtain ⟨r, hr⟩ : ∃ r : Nat, r = N.natAbs % 1048576 := ⟨_, rfl⟩
   have HRL : Hid (r < 1048576) := show r < 1048576 by omega
   have HRN : Hid (N % 1048576 = (r : Int)) := by show _ = _; omega
   rw [← hr] at HZ HRZ
   clear hz hzz hr HQ
   go_wp2_with fail
   rw [HRN.out]
   refine (fraction_any r _ HRL.out HRZ.out).mono ?_
   rintro e w3 ⟨K, hK, rfl, hB3⟩
   obtain rfl := frk_of hK
   have hB4 := hB2.trans (hB3.mono hB2.size)
   obtain ⟨F, hF⟩ : ∃ F : ByteArray, F = ⟨(frL r (frK r)).toArray⟩ := ⟨_, rfl⟩
   have HF : Hid (F.data.toList = frL r (frK r)) := by show _ = _; rw [hF]
   have hFs : F.size ≤ 20 := by rw [← size_list, HF.out]; unfold frL; simp; exact hK.1
   rw [← hF]
   clear hF hK hB2 hB3 HRL HRN
   go_wp2
   go_ret
   exact ⟨ret_str (by rw [HN.out, HZ.out]; simp only [app_list, HT.out, HF.out, List.append_assoc]; rfl), hB4⟩
end Go.Proofs.YtolpfibihialkaaGreatDoor

/- Fixed numbers' texts, as numbers: what is printed is read (no walk). No statement of the seat is proved here. -/
namespace Go.Proofs.YtolpfibihialkaaGreatDoor
open Go.RowKit
/-- The digits ahead of the point, and those behind it. -/
theorem no_dot {c : UInt8} (h : isDig c = true) : (46 == c) = false := by
 rw [beq_eq_false_iff_ne]
 rintro rfl
 exact absurd h (by decide)
theorem idx_dot (B : List UInt8) : ∀ {W : List UInt8}, digB W = true → Lib.index (W ++ 46 :: B) [46] = (W.length : Int)
 | [], _ => by simp [Lib.index, List.isPrefixOf]
 | c :: W, h => by
  unfold digB at h
  rw [List.all_cons, Bool.and_eq_true] at h
  have ih := idx_dot B (W := W) h.2
  have hn := no_dot h.1
  show (if [46].isPrefixOf (c :: (W ++ 46 :: B)) then 0 else if Lib.index (W ++ 46 :: B) [46] == -1 then -1 else Lib.index (W ++ 46 :: B) [46] + 1) = _
  rw [ih, if_neg (by simp [List.isPrefixOf, hn]), if_neg (by simp)]
  simp
theorem idx_none : ∀ {W : List UInt8}, digB W = true → Lib.index W [46] = -1
 | [], _ => by simp [Lib.index]
 | c :: W, h => by
  unfold digB at h
  rw [List.all_cons, Bool.and_eq_true] at h
  have ih := idx_none (W := W) h.2
  have hn := no_dot h.1
  show (if [46].isPrefixOf (c :: W) then 0 else if Lib.index W [46] == -1 then -1 else Lib.index W [46] + 1) = _
  rw [ih, if_neg (by simp [List.isPrefixOf, hn]), if_pos (by simp)]
theorem cut_dot {W B : List UInt8} (h : digB W = true) : Lib.cut (W ++ 46 :: B) [46] = (W, B, true) := by
 unfold Lib.cut
 rw [idx_dot B h, if_pos (by omega)]
 simp
theorem cut_none {W : List UInt8} (h : digB W = true) : Lib.cut W [46] = (W, [], false) := by
 unfold Lib.cut
 rw [idx_none h, if_neg (by omega)]
end Go.Proofs.YtolpfibihialkaaGreatDoor

/- How a text is read, digit by digit, as the document does it; that this is how package fx reads it (no walk). No statement of the seat is proved here. -/
namespace Go.Proofs.YtolpfibihialkaaGreatDoor
open Go.RowKit
theorem idx_skip (R : List UInt8) {c : UInt8} (hc : c ≠ 46) : ∀ {W : List UInt8}, digB W = true → Lib.index (W ++ c :: R) [46] = -1 ∨ (W.length : Int) + 1 ≤ Lib.index (W ++ c :: R) [46]
 | [], _ => by
  have hn : (46 == c) = false := by rw [beq_eq_false_iff_ne]; exact fun e => hc e.symm
  have hg := Lib.index_ge R [46]
  show (if [46].isPrefixOf (c :: R) then (0 : Int) else if Lib.index R [46] == -1 then -1 else Lib.index R [46] + 1) = -1 ∨ _ ≤ (if [46].isPrefixOf (c :: R) then (0 : Int) else if Lib.index R [46] == -1 then -1 else Lib.index R [46] + 1)
  rw [if_neg (by simp [List.isPrefixOf, hn])]
  by_cases h : Lib.index R [46] = -1
  ·
   left
   rw [if_pos (by simp [h])]
  ·
   right
   rw [if_neg (by simp [h])]
   simp only [List.length_nil]
   omega
 | a :: W, h => by
  unfold digB at h
  rw [List.all_cons, Bool.and_eq_true] at h
  have ih := idx_skip R hc (W := W) h.2
  have hn := no_dot h.1
  show (if [46].isPrefixOf (a :: (W ++ c :: R)) then (0 : Int) else if Lib.index (W ++ c :: R) [46] == -1 then -1 else Lib.index (W ++ c :: R) [46] + 1) = -1 ∨ _ ≤ (if [46].isPrefixOf (a :: (W ++ c :: R)) then (0 : Int) else if Lib.index (W ++ c :: R) [46] == -1 then -1 else Lib.index (W ++ c :: R) [46] + 1)
  rw [if_neg (by simp [List.isPrefixOf, hn])]
  rcases ih with ih | ih
  ·
   left
   rw [if_pos (by simp [ih])]
  ·
   right
   rw [if_neg (by simp; omega)]
   simp only [List.length_cons]
   omega
/-- A sign that is neither a digit nor the point. -/
theorem cut_bad {W R : List UInt8} {c : UInt8} (h : digB W = true) (hc : isDig c = false) (hd : c ≠ 46) : digB (Lib.cut (W ++ c :: R) [46]).1 = false := by
 have hall : ∀ l : List UInt8, digB (W ++ c :: l) = false := by
  intro l
  unfold digB
  rw [List.all_append, List.all_cons, hc, Bool.false_and, Bool.and_false]
 unfold Lib.cut
 rcases idx_skip R hd h with e | e
 ·
  rw [e, if_neg (by omega)]
  exact hall R
 ·
  rw [if_pos (by omega)]
  show digB ((W ++ c :: R).take (Lib.index (W ++ c :: R) [46]).toNat) = false
  obtain ⟨m, hm⟩ : ∃ m, (Lib.index (W ++ c :: R) [46]).toNat = W.length + (m + 1) := ⟨(Lib.index (W ++ c :: R) [46]).toNat - W.length - 1, by omega⟩
  rw [hm, List.take_append, List.take_of_length_le (by omega), show W.length + (m + 1) - W.length = m + 1 by omega, List.take_succ_cons]
  exact hall _
/-- The parts that the document reads: the digits ahead, what is behind them. -/
def dW (l : List UInt8) : List UInt8 := (pD l).takeWhile isDig
def dR (l : List UInt8) : List UInt8 := (pD l).dropWhile isDig
theorem d_split (l : List UInt8) : pD l = dW l ++ dR l := (List.takeWhile_append_dropWhile ..).symm
theorem dW_dig (l : List UInt8) : digB (dW l) = true := by
 unfold digB dW
 rw [List.all_eq_true]
 intro c hc
 exact (List.all_eq_true.1 (List.all_takeWhile (p := isDig) (l := pD l))) c hc
theorem dropD_head {l : List UInt8} {c : UInt8} {R : List UInt8} (h : l.dropWhile isDig = c :: R) : isDig c = false := by
 have := List.head?_dropWhile_not isDig l
 rw [h] at this
 simpa using this
theorem r_end {l : List UInt8} (h : dR l = []) : fW l = dW l ∧ fB l = [] ∧ fP l = false := by
 have e := d_split l
 rw [h, List.append_nil] at e
 unfold fW fB fP fC
 rw [e, cut_none (dW_dig l)]
 exact ⟨rfl, rfl, rfl⟩
theorem r_dot {l B : List UInt8} (h : dR l = 46 :: B) : fW l = dW l ∧ fB l = B ∧ fP l = true := by
 have e := d_split l
 rw [h] at e
 unfold fW fB fP fC
 rw [e, cut_dot (dW_dig l)]
 exact ⟨rfl, rfl, rfl⟩
theorem parts_nd {W B : List UInt8} {b p : Bool} (h : digB W = false) : partsB W B b p = false := by unfold partsB; rw [h]; simp
theorem parts_nb {W B : List UInt8} {b p : Bool} (h : digB B = false) : partsB W B b p = false := by unfold partsB; rw [h]; simp
theorem parts_e {W B : List UInt8} {b p : Bool} (h : W.isEmpty = true) : partsB W B b p = false := by unfold partsB; rw [h]; simp
theorem r_bad {l R : List UInt8} {c : UInt8} (h : dR l = c :: R) (hc : c ≠ 46) : readsB l = false := by
 have e := d_split l
 rw [h] at e
 refine parts_nd ?_
 unfold fW fC
 rw [e]
 exact cut_bad (dW_dig l) (dropD_head h) hc
/-- No digit ahead, or a nought ahead of others. -/
theorem r_ahead {l : List UInt8} (h : dW l = [] ∨ ((dW l).head? == some 48 && decide (1 < (dW l).length)) = true) : readsB l = false := by
 have key : ∀ B p, partsB (dW l) B (pB l) p = false := by
  intro B p
  rcases h with h | h
  ·
   rw [h]; exact parts_e rfl
  ·
   exact bad4 h
 cases e : dR l with
 | nil =>
  obtain ⟨h1, h2, h3⟩ := r_end e
  unfold readsB
  rw [h1]
  exact key _ _
 | cons c R =>
  by_cases hc : c = 46
  ·
   subst hc
   obtain ⟨h1, h2, h3⟩ := r_dot e
   unfold readsB
   rw [h1]
   exact key _ _
  ·
   exact r_bad e hc
theorem wn_zero {d : List UInt8} (h : digB d = true) : (wnL d == [48]) = decide (dval d = 0) := by
 obtain ⟨h1, h2, _⟩ := wn_parses h
 by_cases hv : dval d = 0
 ·
  rw [decide_eq_true hv]
  have : Txt 0 (wnL d) := ⟨h1, by rw [h2, hv]; rfl⟩
  rw [txt_uniq this (show Txt 0 [48] from ⟨by decide, by decide⟩)]
  rfl
 ·
  rw [decide_eq_false hv, beq_eq_false_iff_ne]
  intro e
  rw [e, show zval [48] = 0 by decide] at h2
  omega
/-- A text that is read: its parts. -/
theorem r_good {l B : List UInt8} (hW : dW l ≠ []) (hh : ((dW l).head? == some 48 && decide (1 < (dW l).length)) = false) (hb : digB B = true) (h20 : B.length ≤ 20) (hd : (dR l = [] ∧ B = []) ∨ (dR l = 46 :: B ∧ B ≠ [])) :
  readsB l = !(pB l && decide (dval (dW l ++ B) = 0)) ∧ fQ l = flo (sg (pB l) (dval (dW l ++ B)) * 1048576) ((10 ^ B.length : Nat) : Int) := by
 obtain ⟨p, h1, h2, h3, h4⟩ : ∃ p, fW l = dW l ∧ fB l = B ∧ fP l = p ∧ (p && B.isEmpty) = false := by
  rcases hd with ⟨e, rfl⟩ | ⟨e, hne⟩
  ·
   obtain ⟨a, b, c⟩ := r_end e
   exact ⟨false, a, b, c, rfl⟩
  ·
   obtain ⟨a, b, c⟩ := r_dot e
   refine ⟨true, a, b, c, ?_⟩
   cases B with
   | nil => exact absurd rfl hne
   | cons _ _ => rfl
 have hdd : digB (dW l ++ B) = true := by
  have := dW_dig l
  unfold digB at *
  rw [List.all_append, this, hb]
  rfl
 have hne : (dW l).isEmpty = false := by
  cases e : dW l with
  | nil => exact absurd e hW
  | cons _ _ => rfl
 constructor
 ·
  unfold readsB partsB
  rw [h1, h2, h3, hne, dW_dig, hb, hh, h4, decide_eq_true h20, wn_zero hdd]
  rfl
 ·
  unfold fQ
  rw [h1, h2]
/-- What stands behind the point is no number. -/
theorem r_behind {l B : List UInt8} (hd : dR l = 46 :: B) (h : B.takeWhile isDig = [] ∨ B.dropWhile isDig ≠ [] ∨ 20 < (B.takeWhile isDig).length) : readsB l = false := by
 obtain ⟨h1, h2, h3⟩ := r_dot hd
 unfold readsB
 rw [h1, h2, h3]
 have hs : B = B.takeWhile isDig ++ B.dropWhile isDig := (List.takeWhile_append_dropWhile ..).symm
 by_cases hr : B.dropWhile isDig = []
 ·
  rw [hr, List.append_nil] at hs
  rcases h with h | h | h
  ·
   rw [h] at hs
   rw [hs]
   exact bad5 rfl
  ·
   exact absurd hr h
  ·
   rw [← hs] at h
   exact bad6 (decide_eq_false (by omega))
 ·
  refine parts_nb ?_
  cases e : B.dropWhile isDig with
  | nil => exact absurd e hr
  | cons c R =>
   have hc := dropD_head e
   rw [hs, e]
   unfold digB
   rw [List.all_append, List.all_cons, hc, Bool.false_and, Bool.and_false]
end Go.Proofs.YtolpfibihialkaaGreatDoor

/- The digits of a text from a place on (no walk). No statement of the seat is proved here. -/
namespace Go.Proofs.YtolpfibihialkaaGreatDoor
open Go.RowKit
/-- The digits from a place on; what is behind them. -/
def tw (s : ByteArray) (g : Nat) : List UInt8 := (s.data.toList.drop g).takeWhile isDig
def dw (s : ByteArray) (g : Nat) : List UInt8 := (s.data.toList.drop g).dropWhile isDig
theorem twdw (s : ByteArray) (g : Nat) : s.data.toList.drop g = tw s g ++ dw s g := (List.takeWhile_append_dropWhile ..).symm
theorem at_some (s : ByteArray) {i : Nat} (h : i < s.size) : s.data.toList[i]? = some s[i] := by
 have h1 := take_snoc s i h
 have h2 : s.data.toList.length = s.size := size_list s
 have h3 : (s.data.toList.take (i + 1))[i]? = some s[i] := by
  rw [h1, List.getElem?_append_right (by rw [List.length_take]; omega), List.length_take, Nat.min_eq_left (by omega), Nat.sub_self]
  rfl
 rwa [List.getElem?_take, if_pos (by omega)] at h3
theorem tw_dig (s : ByteArray) (g : Nat) : digB (tw s g) = true := by
 unfold digB tw
 exact List.all_takeWhile
theorem len_eq (s : ByteArray) (g : Nat) (hg : g ≤ s.size) : (tw s g).length + (dw s g).length = s.size - g := by
 have := congrArg List.length (twdw s g)
 rw [List.length_append, List.length_drop, size_list] at this
 omega
theorem tw_at (s : ByteArray) (g k : Nat) (hg : g ≤ s.size) (h : k < (tw s g).length) : ∃ hi : g + k < s.size, isDig s[g + k] = true ∧ (tw s g).take (k + 1) = (tw s g).take k ++ [s[g + k]] := by
 have hl := len_eq s g hg
 have hi : g + k < s.size := by omega
 have e1 : (tw s g)[k]? = some s[g + k] := by
  have e2 := congrArg (fun m : List UInt8 => m[k]?) (twdw s g)
  simp only [List.getElem?_drop, List.getElem?_append_left h] at e2
  rw [← e2, at_some s hi]
 obtain ⟨_, e3⟩ := List.getElem?_eq_some_iff.1 e1
 refine ⟨hi, ?_, ?_⟩
 ·
  rw [← e3]
  exact List.all_eq_true.1 (tw_dig s g) _ (List.getElem_mem h)
 ·
  rw [List.take_succ_eq_append_getElem h, e3]
theorem tw_end (s : ByteArray) (g : Nat) (hg : g ≤ s.size) : (dw s g = [] ∧ g + (tw s g).length = s.size) ∨ ∃ (hi : g + (tw s g).length < s.size), dw s g = s[g + (tw s g).length] :: s.data.toList.drop (g + (tw s g).length + 1) ∧ isDig s[g + (tw s g).length] = false := by
 have hl := len_eq s g hg
 cases e : dw s g with
 | nil =>
  rw [e, List.length_nil] at hl
  exact .inl ⟨rfl, by omega⟩
 | cons c R =>
  right
  rw [e, List.length_cons] at hl
  have hi : g + (tw s g).length < s.size := by omega
  have e2 : (dw s g)[0]? = some s[g + (tw s g).length] := by
   have e3 := congrArg (fun m : List UInt8 => m[(tw s g).length]?) (twdw s g)
   simp only [List.getElem?_drop] at e3
   rw [List.getElem?_append_right (Nat.le_refl _), Nat.sub_self, at_some s hi] at e3
   exact e3.symm
  rw [e] at e2
  have hc : c = s[g + (tw s g).length] := by simpa using e2
  have hR : R = s.data.toList.drop (g + (tw s g).length + 1) := by
   have e3 := congrArg (List.drop ((tw s g).length + 1)) (twdw s g)
   rw [List.drop_drop, e, List.drop_append, List.drop_of_length_le (l := tw s g) (by omega), List.nil_append, show (tw s g).length + 1 - (tw s g).length = 1 by omega] at e3
   rw [show g + (tw s g).length + 1 = g + ((tw s g).length + 1) by omega, e3]
   rfl
  refine ⟨hi, by rw [hc, hR], ?_⟩
  rw [← hc]
  exact dropD_head e
theorem tw_big (s : ByteArray) (g k : Nat) (hs : s.size ≤ 40) (hg : g ≤ s.size) : ((dval ((tw s g).take k) : Nat) : Int).natAbs < 10 ^ 50 := by
 have hl := len_eq s g hg
 have h1 : ((tw s g).take k).all isDig = true := by
  rw [List.all_eq_true]
  intro c hc
  exact List.all_eq_true.1 (tw_dig s g) c (List.mem_of_mem_take hc)
 have h2 := dval_lt _ h1
 have h3 : 10 ^ ((tw s g).take k).length ≤ 10 ^ 50 := Nat.pow_le_pow_right (by decide) (by rw [List.length_take]; omega)
 rw [Int.natAbs_natCast]
 omega
end Go.Proofs.YtolpfibihialkaaGreatDoor

/- Fixed numbers: the walk of the laws' awake. -/
namespace Go.Proofs.YtolpfibihialkaaGreatDoor
open Go.RowKit
theorem root_one {R N r : Nat} (h1 : R * R ≤ N) (h2 : N < (R + 1) * (R + 1)) (k1 : r * r ≤ N) (k2 : N < (r + 1) * (r + 1)) : R = r := by
 rcases Nat.lt_trichotomy R r with h | h | h
 ·
  have := Nat.mul_le_mul (show R + 1 ≤ r from h) (show R + 1 ≤ r from h); omega
 ·
  exact h
 ·
  have := Nat.mul_le_mul (show r + 1 ≤ R from h) (show r + 1 ≤ R from h); omega
theorem pr_one : prL 1572864 = [49, 46, 53] := by
 have e : cutI 1572864 = 1572864 := by decide
 unfold prL
 rw [e, if_neg (by decide)]
 show absL 1572864 = _
 rw [absL_part (by decide)]
 show Lib.itoa ((1 : Nat) : Int) ++ _ = _
 rw [Lib.itoa_nonneg, Lib.decDigits_one (by decide)]
 decide +kernel
theorem pr_two : prL (-1) = [45, 48, 46, 48, 48, 48, 48, 48, 48, 57, 53, 51, 54, 55, 52, 51, 49, 54, 52, 48, 54, 50, 53] := by
 have e : cutI (-1) = -1 := by decide
 unfold prL
 rw [e, if_pos (by decide)]
 show 45 :: absL 1 = _
 rw [absL_part (by decide)]
 show 45 :: (Lib.itoa ((0 : Nat) : Int) ++ _) = _
 rw [Lib.itoa_nonneg, Lib.decDigits_one (by decide)]
 decide +kernel
theorem pa_one : fxV [45, 48, 46, 49] = -104858 ∧ fxE [45, 48, 46, 49] = 0 := by decide +kernel
theorem pa_two : fxV [57, 57, 57, 57] = 2147483647 ∧ fxC [57, 57, 57, 57] = true := by decide +kernel
theorem pa_three : fxE [45, 48] = 10 := by decide +kernel
set_option maxRecDepth 100000 in
set_option maxHeartbeats 6400000 in
theorem fawake_any (w : World) (hG : Glob w) : Calls Tryz.prog 5 #[] w (PVal (.bool true) w) := by
 have hC0 := Below.refl w.heap.size w
 go_enter Tryz.func5, Tryz.ntmps5
 go_wp2_with fail
 refine (fxMul_any (1048576) (3) _).mono ?_
 rintro e w1 ⟨rfl, hB⟩
 have hC1 := hC0.trans (hB.mono hC0.size)
 replace hG := hG.below hB
 have hv : (cutI (flo (cutI (1048576) * cutI (3)) 1048576) = 3 ∧ (cutB (1048576) || cutB (3) || cutB (flo (cutI (1048576) * cutI (3)) 1048576)) = false) := by decide +kernel
 rw [hv.1, hv.2]
 clear hv
 clear hB hC0
 go_wp2_with fail
 refine (fxMul_any (-1) (1) _).mono ?_
 rintro e w2 ⟨rfl, hB⟩
 have hC2 := hC1.trans (hB.mono hC1.size)
 replace hG := hG.below hB
 have hv : (cutI (flo (cutI (-1) * cutI (1)) 1048576) = -1 ∧ (cutB (-1) || cutB (1) || cutB (flo (cutI (-1) * cutI (1)) 1048576)) = false) := by decide +kernel
 rw [hv.1, hv.2]
 clear hv
 clear hB hC1
 go_wp2_with fail
 refine (fxMul_any (2147483647) (2147483647) _).mono ?_
 rintro e w3 ⟨rfl, hB⟩
 have hC3 := hC2.trans (hB.mono hC2.size)
 replace hG := hG.below hB
 have hv : (cutI (flo (cutI (2147483647) * cutI (2147483647)) 1048576) = 2147483647 ∧ (cutB (2147483647) || cutB (2147483647) || cutB (flo (cutI (2147483647) * cutI (2147483647)) 1048576)) = true) := by decide +kernel
 rw [hv.1, hv.2]
 clear hv
 clear hB hC2
 go_wp2_with fail
 refine (fxDiv_any (1048576) (3145728) _ (by decide)).mono ?_
 rintro e w4 ⟨rfl, hB⟩
 have hC4 := hC3.trans (hB.mono hC3.size)
 replace hG := hG.below hB
 have hv : (cutI (flo (cutI (1048576) * 1048576) (cutI (3145728))) = 349525 ∧ (cutB (1048576) || cutB (3145728) || cutB (flo (cutI (1048576) * 1048576) (cutI (3145728)))) = false) := by decide +kernel
 rw [hv.1, hv.2]
 clear hv
 clear hB hC3
 go_wp2_with fail
 refine (fxDiv_any (-1) (2097152) _ (by decide)).mono ?_
 rintro e w5 ⟨rfl, hB⟩
 have hC5 := hC4.trans (hB.mono hC4.size)
 replace hG := hG.below hB
 have hv : (cutI (flo (cutI (-1) * 1048576) (cutI (2097152))) = -1 ∧ (cutB (-1) || cutB (2097152) || cutB (flo (cutI (-1) * 1048576) (cutI (2097152)))) = false) := by decide +kernel
 rw [hv.1, hv.2]
 clear hv
 clear hB hC4
 go_wp2_with fail
 refine (fxDiv_zero 5 _).mono ?_
 rintro e w6 ⟨rfl, hB⟩
 have hC6 := hC5.trans (hB.mono hC5.size)
 replace hG := hG.below hB
 clear hB hC5
 go_wp2_with fail
 refine (fxSqrt_pos 2097152 _ (by decide)).mono ?_
 rintro e w7 ⟨R, h1, h2, _, rfl, hB⟩
 have hC7 := hC6.trans (hB.mono hC6.size)
 replace hG := hG.below hB
 have hv : (cutI 2097152 * 1048576).natAbs = 2199023255552 := by decide +kernel
 rw [hv] at h1 h2
 obtain rfl := root_one (r := 1482910) h1 h2 (by decide) (by decide)
 clear hv h1 h2
 clear hB hC6
 go_wp2_with fail
 refine (fxSqrt_neg (-1) _ (by decide)).mono ?_
 rintro e w8 ⟨rfl, hB⟩
 have hC8 := hC7.trans (hB.mono hC7.size)
 replace hG := hG.below hB
 clear hB hC7
 go_wp2_with fail
 refine (Print_any 1572864 _ hG).mono ?_
 rintro e w9 ⟨rfl, hB⟩
 have hC9 := hC8.trans (hB.mono hC8.size)
 replace hG := hG.below hB
 rw [pr_one]
 clear hB hC8
 go_wp2_with fail
 refine (Print_any (-1) _ hG).mono ?_
 rintro e w10 ⟨rfl, hB⟩
 have hC10 := hC9.trans (hB.mono hC9.size)
 replace hG := hG.below hB
 rw [pr_two]
 clear hB hC9
 obtain ⟨mx, hmx⟩ := hG.mx
 go_wp2_with fail
 refine (fxParse_any ⟨#[45, 48, 46, 49]⟩ mx _ (by decide) hmx).mono ?_
 rintro e w11 ⟨rfl, hB⟩
 have hC11 := hC10.trans (hB.mono hC10.size)
 replace hG := hG.below hB
 rw [show (⟨#[45, 48, 46, 49]⟩ : ByteArray).data.toList = [45, 48, 46, 49] from rfl]
 rw [pa_one.1, pa_one.2]
 clear hmx
 clear hB hC10
 obtain ⟨mx, hmx⟩ := hG.mx
 go_wp2_with fail
 refine (fxParse_any ⟨#[57, 57, 57, 57]⟩ mx _ (by decide) hmx).mono ?_
 rintro e w12 ⟨rfl, hB⟩
 have hC12 := hC11.trans (hB.mono hC11.size)
 replace hG := hG.below hB
 rw [show (⟨#[57, 57, 57, 57]⟩ : ByteArray).data.toList = [57, 57, 57, 57] from rfl]
 rw [pa_two.1, pa_two.2]
 clear hmx
 clear hB hC11
 obtain ⟨mx, hmx⟩ := hG.mx
 go_wp2_with fail
 refine (fxParse_any ⟨#[45, 48]⟩ mx _ (by decide) hmx).mono ?_
 rintro e w13 ⟨rfl, hB⟩
 have hC13 := hC12.trans (hB.mono hC12.size)
 replace hG := hG.below hB
 rw [show (⟨#[45, 48]⟩ : ByteArray).data.toList = [45, 48] from rfl]
 rw [pa_three]
 clear hmx
 clear hB hC12
 go_wp2
 go_ret
 exact ⟨rfl, hC13⟩
end Go.Proofs.YtolpfibihialkaaGreatDoor
