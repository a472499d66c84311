/- Fixed numbers: the walk of Parse. -/
import Derived.Test.YtcnmilflfegliaaGreatDoorFsteps
namespace Go.Proofs.YtcnmilflfegliaaGreatDoor
open Go.RowKit

/-- The steps of a text that is a fixed number. -/
def fQ (l : List UInt8) : Int := flo (sg (pB l) (dval (fW l ++ fB l)) * 1048576) ((10 ^ (fB l).length : Nat) : Int)
theorem flo_nn {a y : Int} (ha : 0 ≤ a) (hy : 0 < y) : 0 ≤ flo a y := by
  unfold flo; rw [if_pos hy]; exact Int.ediv_nonneg ha (by omega)
theorem flo_np {a y : Int} (ha : a ≤ 0) (hy : 0 < y) : flo a y ≤ 0 := by
  unfold flo; rw [if_pos hy]; have := Int.mul_ediv_add_emod a y; have h1 := Int.emod_nonneg a (Int.ne_of_gt hy); exact Int.not_lt.1 fun h => by have := Int.mul_pos hy h; omega
theorem st_cut (b : Bool) (V : Nat) (y : Int) (hy : 0 < y) : cutI (stV b (flo (sg b V * 1048576) y)) = cutI (flo (sg b V * 1048576) y) ∧ cutB (stV b (flo (sg b V * 1048576) y)) = cutB (flo (sg b V * 1048576) y) := by
  have hs : (b = false → 0 ≤ flo (sg b V * 1048576) y) ∧ (b = true → flo (sg b V * 1048576) y ≤ 0) := by
    constructor
    · intro e; subst e; exact flo_nn (by show 0 ≤ ((V : Nat) : Int) * 1048576; omega) hy
    · intro e; subst e; exact flo_np (by show (-(V : Nat) : Int) * 1048576 ≤ 0; omega) hy
  generalize flo (sg b V * 1048576) y = Q at *
  unfold stV
  by_cases h : smallB Q = true
  · rw [if_pos h]
    have h1 : -9223372036854775808 ≤ Q ∧ Q ≤ 9223372036854775807 := of_decide_eq_true h
    rw [(small_is h1.1 h1.2).1]; exact ⟨rfl, rfl⟩
  · rw [if_neg h]
    have h1 : ¬ (-9223372036854775808 ≤ Q ∧ Q ≤ 9223372036854775807) := fun e => h (decide_eq_true e)
    cases b
    · have := hs.1 rfl
      rw [(cut_hi (n := Q) (by omega)).1, (cut_hi (n := Q) (by omega)).2]; exact ⟨rfl, rfl⟩
    · have := hs.2 rfl
      rw [(cut_lo (n := Q) (by omega)).1, (cut_lo (n := Q) (by omega)).2]; exact ⟨rfl, rfl⟩

set_option maxHeartbeats 1600000 in
theorem fxParse_long (s : ByteArray) (w : World) (hs : 40 < s.size) (hs' : s.size ≤ maxLen) :
    Calls Tryz.prog 21 #[.string s] w (PVal3 (.int .i64 0) (.bool false) (.int .i64 2) w) := by
  unfold maxLen at hs'
  have hT := two_mk w 2 4
  go_enter_defers Tryz.func21, Tryz.ntmps21
  go_wp2
  refine hT.door (fun w' kp kq hb => ?_)
  exact ⟨.tuple #[.int .i64 (cutI 0), .bool (false || cutB 0), .int .i64 2], by simp [results, Tryz.results21, go_sem, kp, kq], rfl, hb⟩

/-- What Parse tells of a text: the number, whether it was cut, the error's number. -/
def fxV (l : List UInt8) : Int := if readsB l = true then cutI (fQ l) else 0
def fxC (l : List UInt8) : Bool := if readsB l = true then cutB (fQ l) else false
def fxE (l : List UInt8) : Int := if readsB l = true then 0 else 10
theorem fx_bad {l : List UInt8} (h : readsB l = false) : fxV l = 0 ∧ fxC l = false ∧ fxE l = 10 := by
  unfold fxV fxC fxE; rw [h]; exact ⟨rfl, rfl, rfl⟩
theorem fx_good {l : List UInt8} (h : readsB l = true) : fxV l = cutI (fQ l) ∧ fxC l = cutB (fQ l) ∧ fxE l = 0 := by
  unfold fxV fxC fxE; rw [h]; exact ⟨rfl, rfl, rfl⟩
theorem parts_ok {W B : List UInt8} {b p : Bool} (h : partsB W B b p = true) : digB W = true ∧ digB B = true ∧ B.length ≤ 20 := by
  unfold partsB at h
  simp only [Bool.and_eq_true, decide_eq_true_eq] at h
  exact ⟨h.1.1.1.1.1.2, h.1.1.1.1.2, h.1.2⟩

set_option maxRecDepth 100000 in
set_option maxHeartbeats 1600000 in
theorem fxParse_any (s : ByteArray) (m : Int) (w : World) (hs : s.size ≤ 40) (hm : w.cell? ⟨1, 0, none⟩ = some (.int .i64 m)) :
    Calls Tryz.prog 21 #[.string s] w (PVal3 (.int .i64 (fxV s.data.toList)) (.bool (fxC s.data.toList)) (.int .i64 (fxE s.data.toList)) w) := by
  have hlt := World.block_lt_of_cell? w _ hm
  have hT := two_mk w 2 4
  have hm0 := (hT.below.cell (p := ⟨1, 0, none⟩) hlt).trans hm
  have hWl : (fW s.data.toList).length ≤ 40 := by
    have h1 := (cut_len (pD s.data.toList) [46]).1
    have h2 := pD_le s.data.toList
    rw [size_list] at h2
    exact Nat.le_trans h1 (Nat.le_trans h2 hs)
  clear hm hlt
  go_enter_defers Tryz.func21, Tryz.ntmps21
  go_wp2_with fail
  generalize (w.alloc (.cells #[.int .i64 0] 2)).alloc (.cells #[.bool false] 4) = w0 at *
  refine (read_any s m _ hs hm0).mono ?_
  rintro e w1 ⟨rfl, hB1⟩
  clear hm0
  cases hr : readsB s.data.toList
  · have HR := Lib.hid (fx_bad hr)
    have hT1 := hT.later (hB1.trans ((new_below w1 (.cells #[.bool false, .string ⟨#[]⟩, .string ⟨#[]⟩] 62)).mono hB1.size))
    have hp := hT1.p
    have hq := hT1.q
    have fp := hT1.fp
    have fq := hT1.fq
    clear hr hT hB1
    simp only [Bool.false_eq_true, if_false]
    go_wp2
    have hT2 := (hT1.putp (.int .i64 0)).putq false
    refine hT2.door (fun w' kp kq hb => ?_)
    exact ⟨.tuple #[.int .i64 (cutI 0), .bool (false || cutB 0), .int .i64 10], by simp [results, Tryz.results21, go_sem, kp, kq], by rw [HR.out.1, HR.out.2.1, HR.out.2.2]; rfl, hb⟩
  · have HR := Lib.hid (fx_good hr)
    have hp1 := parts_ok hr
    obtain ⟨W, hW⟩ : ∃ W : ByteArray, W = ⟨(fW s.data.toList).toArray⟩ := ⟨_, rfl⟩
    obtain ⟨B, hB⟩ : ∃ B : ByteArray, B = ⟨(fB s.data.toList).toArray⟩ := ⟨_, rfl⟩
    obtain ⟨b, hb⟩ : ∃ b, b = pB s.data.toList := ⟨_, rfl⟩
    have eW : W.data.toList = fW s.data.toList := by rw [hW]
    have eB : B.data.toList = fB s.data.toList := by rw [hB]
    have HQ : Hid (fQ s.data.toList = flo (sg b (dval (W ++ B).data.toList) * 1048576) ((10 ^ B.size : Nat) : Int)) := by
      show _ = _
      unfold fQ
      rw [app_list, eW, eB, ← hb, ← size_list B, eB]
    have HW : Hid (digB W.data.toList = true ∧ digB B.data.toList = true ∧ W.size ≤ 40 ∧ B.size ≤ 20) := by
      show _ ∧ _
      rw [← size_list W, ← size_list B, eW, eB]
      exact ⟨hp1.1, hp1.2.1, hWl, hp1.2.2⟩
    rw [← hW, ← hB, ← hb]
    have hT1 := hT.later (hB1.trans ((new_below w1 (.cells #[.bool b, .string W, .string B] 62)).mono hB1.size))
    clear hr hp1 hW hB hb eW eB hT hB1 hWl
    simp only [if_true]
    go_wp2_with fail
    generalize w1.alloc (.cells #[.bool b, .string W, .string B] 62) = w2 at *
    refine (steps_any b W B _ HW.out.1 HW.out.2.1 HW.out.2.2.1 HW.out.2.2.2).mono ?_
    rintro e w3 ⟨rfl, hB3⟩
    have hc := st_cut b (dval (W ++ B).data.toList) ((10 ^ B.size : Nat) : Int) (Int.natCast_pos.2 (Nat.pow_pos (by decide)))
    rw [← HQ.out] at hc
    have HC := Lib.hid hc
    clear hc
    rw [← HQ.out]
    generalize stV b (fQ s.data.toList) = n at *
    have hT3 := hT1.later hB3
    have hp := hT3.p
    have hq := hT3.q
    have fp := hT3.fp
    have fq := hT3.fq
    clear hT1 hB3
    go_wp2
    have hT4 := (hT3.putp (.int .i64 n)).putq false
    refine hT4.door (fun w' kp kq hb => ?_)
    exact ⟨.tuple #[.int .i64 (cutI n), .bool (false || cutB n), .int .i64 0], by simp [results, Tryz.results21, go_sem, kp, kq], by rw [HR.out.1, HR.out.2.1, HR.out.2.2, HC.out.1, HC.out.2]; rfl, hb⟩
end Go.Proofs.YtcnmilflfegliaaGreatDoor
