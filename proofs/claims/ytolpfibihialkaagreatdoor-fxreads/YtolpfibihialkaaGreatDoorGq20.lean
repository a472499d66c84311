/- Parts of the proof. -/
import Derived.Test.YtolpfibihialkaaGreatDoorGq19
import Derived.Test.YtolpfibihialkaaGreatDoorGq10
import Derived.Test.YtolpfibihialkaaGreatDoorGq11
/- Fixed numbers: the walks of Div, Sqrt. -/
namespace Go.Proofs.YtolpfibihialkaaGreatDoor
open Go.RowKit
theorem cut_nz {b : Int} (h : b ≠ 0) : cutI b ≠ 0 := by unfold cutI; omega
theorem scale_bd {x : Int} (h1 : -2147483647 ≤ x) (h2 : x ≤ 2147483647) : -2251799812636672 ≤ x * 1048576 ∧ x * 1048576 ≤ 2251799812636672 := by omega
set_option maxHeartbeats 1600000 in
theorem fxDiv_zero (a : Int) (w : World) : Calls Tryz.prog 28 #[.int .i64 a, .int .i64 0] w (PVal3 (.int .i64 0) (.bool false) (.int .i64 11) w) := by
 go_enter_defers Tryz.func28, Tryz.ntmps28
 go_wp2_with fail
 have hT := two_mk w 2 4
 generalize (w.alloc (.cells #[.int .i64 0] 2)).alloc (.cells #[.bool false] 4) = w0 at *
 refine (clampBoth_any a 0 _).mono ?_
 rintro e w1 ⟨rfl, hB1⟩
 have hT1 := hT.later hB1
 clear hT hB1
 rw [show cutI 0 = 0 from rfl]
 obtain ⟨c, hc⟩ : ∃ c, (cutB a || cutB 0) = c := ⟨_, rfl⟩
 rw [hc]
 clear hc
 have hp := hT1.p
 have hq := hT1.q
 have fp := hT1.fp
 have fq := hT1.fq
 go_wp2
 have hT3 := ((hT1.putq c).putp (.int .i64 0)).putq false
 generalize ((w1.setCell ⟨w.heap.size + 1, 0, none⟩ (.bool c)).setCell ⟨w.heap.size, 0, none⟩ (.int .i64 0)).setCell ⟨w.heap.size + 1, 0, none⟩ (.bool false) = w3 at *
 refine hT3.door (fun w' kp kq hb => ?_)
 exact ⟨.tuple #[.int .i64 (cutI 0), .bool (false || cutB 0), .int .i64 11], by simp [results, Tryz.results28, go_sem, kp, kq], rfl, hb⟩
set_option maxHeartbeats 1600000 in
theorem fxDiv_any (a b : Int) (w : World) (hb0 : b ≠ 0) : Calls Tryz.prog 28 #[.int .i64 a, .int .i64 b] w
  (PVal3 (.int .i64 (cutI (flo (cutI a * 1048576) (cutI b)))) (.bool (cutB a || cutB b || cutB (flo (cutI a * 1048576) (cutI b)))) (.int .i64 0) w) := by
 have hy0 := cut_nz hb0
 go_enter_defers Tryz.func28, Tryz.ntmps28
 go_wp2_with fail
 have hT := two_mk w 2 4
 generalize (w.alloc (.cells #[.int .i64 0] 2)).alloc (.cells #[.bool false] 4) = w0 at *
 refine (clampBoth_any a b _).mono ?_
 rintro e w1 ⟨rfl, hB1⟩
 have hT1 := hT.later hB1
 clear hT hB1
 obtain ⟨x, hx⟩ : ∃ x, cutI a = x := ⟨_, rfl⟩
 obtain ⟨y, hy⟩ : ∃ y, cutI b = y := ⟨_, rfl⟩
 obtain ⟨c, hc⟩ : ∃ c, (cutB a || cutB b) = c := ⟨_, rfl⟩
 have bx := cut_bd a
 rw [hx] at bx
 rw [hy] at hy0
 rw [hx, hy, hc]
 obtain ⟨bx1, bx2⟩ := bx
 obtain ⟨bm1, bm2⟩ := scale_bd bx1 bx2
 have HX := Lib.hid hx
 have HY := Lib.hid hy
 have HC := Lib.hid hc
 clear hx hy hc
 have hw : IntKind.i64.wrap (x * 1048576) = x * 1048576 := IntWalk.i64_in _ (by omega)
 have hyd : (y == 0) = false := by simpa using hy0
 have hy1 : ¬ y = 0 := hy0
 have hp := hT1.p
 have hq := hT1.q
 have fp := hT1.fp
 have fq := hT1.fq
 go_wp2_with fail
 have hT2 := hT1.putq c
 clear hp hq fp fq hT1
 generalize w1.setCell ⟨w.heap.size + 1, 0, none⟩ (.bool c) = w2 at *
 have hp := hT2.p
 have hq := hT2.q
 have fp := hT2.fp
 have fq := hT2.fq
 refine wp_region_noPanic ?_
 go_region_with (go_at_call 64; (with_reducible refine (over_any (x * 1048576) y _ hy1 (by omega) (by omega)).mono ?_); rintro e w2 ⟨rfl, nq, rfl⟩)
 all_goals
  refine NoPanic.normal ?_
  have hT3 := (((hT2.drewN (1 + nq)).putp (.int .i64 (flo (x * 1048576) y))).putq c)
  clear hp hq fp fq
  generalize ((w2.drewN (1 + nq)).setCell ⟨w.heap.size, 0, none⟩ (.int .i64 (flo (x * 1048576) y))).setCell ⟨w.heap.size + 1, 0, none⟩ (.bool c) = w3 at *
  go_wp2
  refine hT3.door (fun w' kp kq hb => ?_)
  exact ⟨.tuple #[.int .i64 (cutI (flo (x * 1048576) y)), .bool (c || cutB (flo (x * 1048576) y)), .int .i64 0], by simp [results, Tryz.results28, go_sem, kp, kq], by rw [HX.out, HY.out, HC.out], hb⟩
/-- The square root of a number of steps, and no error, are handed back. -/
def PSqrt (a : Int) (w : World) (e : Ending) (w' : World) : Prop :=
 ∃ R : Nat, R * R ≤ (cutI a * 1048576).natAbs ∧ (cutI a * 1048576).natAbs < (R + 1) * (R + 1) ∧ R ≤ 47453132 ∧ e = .returned (.tuple #[.int .i64 R, .bool (cutB a), .int .i64 0]) ∧ Below w.heap.size w w'
theorem root_bd {R N : Nat} (h : R * R ≤ N) (hN : N ≤ 2251799812636672) : R ≤ 47453132 := by
 refine Nat.le_of_not_lt fun hlt => ?_
 have := Nat.mul_le_mul (show 47453133 ≤ R from hlt) (show 47453133 ≤ R from hlt)
 omega
theorem cut_sign {a : Int} : (cutI a < 0 ↔ a < 0) := by unfold cutI; omega
theorem len_two {w : World} {bl : Bool} {a : Option Addr} {n c : Nat} {z : Int} (h : Num w bl a n c z) (hz : z.natAbs < 18446744073709551616) : n ≤ 10000000 :=
 Nat.le_trans (fit_le h.fit (two_lt hz)) (by omega)
theorem small_is {z : Int} (h1 : -9223372036854775808 ≤ z) (h2 : z ≤ 9223372036854775807) : smallV z = z ∧ smallB z = true := by
 unfold smallV smallB
 exact ⟨if_pos ⟨h1, h2⟩, decide_eq_true ⟨h1, h2⟩⟩
theorem new_below (w : World) (o : Obj) : Below w.heap.size w (w.alloc o) := (Below.refl _ _).alloc (Nat.le_refl _) _
set_option maxHeartbeats 1600000 in
theorem fxSqrt_neg (a : Int) (w : World) (ha : a < 0) : Calls Tryz.prog 29 #[.int .i64 a] w (PVal3 (.int .i64 0) (.bool false) (.int .i64 12) w) := by
 have bx := cut_bd a
 have hx0 := cut_sign.2 ha
 go_enter_defers Tryz.func29, Tryz.ntmps29
 go_wp2_with fail
 have hT := two_mk w 2 4
 generalize (w.alloc (.cells #[.int .i64 0] 2)).alloc (.cells #[.bool false] 4) = w0 at *
 refine (Clamp_any a _).mono ?_
 rintro e w1 ⟨rfl, hB1⟩
 have hT1 := hT.later hB1
 clear hT hB1
 obtain ⟨x, hx⟩ : ∃ x, cutI a = x := ⟨_, rfl⟩
 obtain ⟨c, hc⟩ : ∃ c, cutB a = c := ⟨_, rfl⟩
 rw [hx] at bx hx0
 rw [hx, hc]
 obtain ⟨bx1, bx2⟩ := bx
 obtain ⟨bm1, bm2⟩ := scale_bd bx1 bx2
 clear hx hc
 have hp := hT1.p
 have hq := hT1.q
 have fp := hT1.fp
 have fq := hT1.fq
 go_wp2_with fail
 have hT2 := hT1.putq c
 clear hp hq fp fq hT1
 generalize w1.setCell ⟨w.heap.size + 1, 0, none⟩ (.bool c) = w2 at *
 refine (Of_any (x * 1048576) _ (by omega) (by omega)).mono ?_
 rintro e w3 ⟨b3, a3, n3, c3, rfl, hN3, _, hB3⟩
 have hb3 : b3 = true := by rw [hN3.sgn]; simp; omega
 subst hb3
 have hT3 := hT2.later hB3
 clear hT2 hB3
 go_wp2_with fail
 refine (Root_neg a3 n3 c3 _).mono ?_
 rintro e w4 ⟨b4, a4, n4, c4, rfl, hN4, _, hB4⟩
 have hT4 := hT3.later (hB4.trans ((new_below w4 (.cells #[.bool b4, .slice a4 n4 c4] 46)).mono hB4.size))
 have hp := hT4.p
 have hq := hT4.q
 have fp := hT4.fp
 have fq := hT4.fq
 clear hT3 hB4 hN3 hN4
 go_wp2
 generalize w4.alloc (.cells #[.bool b4, .slice a4 n4 c4] 46) = w5 at *
 have hT5 := (hT4.putp (.int .i64 0)).putq false
 refine hT5.door (fun w' kp kq hb => ?_)
 exact ⟨.tuple #[.int .i64 (cutI 0), .bool (false || cutB 0), .int .i64 12], by simp [results, Tryz.results29, go_sem, kp, kq], rfl, hb⟩
set_option maxHeartbeats 1600000 in
theorem fxSqrt_pos (a : Int) (w : World) (ha : 0 ≤ a) : Calls Tryz.prog 29 #[.int .i64 a] w (PSqrt a w) := by
 have bx := cut_bd a
 have hx0 : ¬ cutI a < 0 := by rw [cut_sign]; omega
 go_enter_defers Tryz.func29, Tryz.ntmps29
 go_wp2_with fail
 have hT := two_mk w 2 4
 generalize (w.alloc (.cells #[.int .i64 0] 2)).alloc (.cells #[.bool false] 4) = w0 at *
 refine (Clamp_any a _).mono ?_
 rintro e w1 ⟨rfl, hB1⟩
 have hT1 := hT.later hB1
 clear hT hB1
 obtain ⟨x, hx⟩ : ∃ x, cutI a = x := ⟨_, rfl⟩
 obtain ⟨c, hc⟩ : ∃ c, cutB a = c := ⟨_, rfl⟩
 rw [hx] at bx hx0
 rw [hx, hc]
 obtain ⟨bx1, bx2⟩ := bx
 obtain ⟨bm1, bm2⟩ := scale_bd bx1 bx2
 have HX := Lib.hid hx
 have HC := Lib.hid hc
 clear hx hc
 have hp := hT1.p
 have hq := hT1.q
 have fp := hT1.fp
 have fq := hT1.fq
 go_wp2_with fail
 have hT2 := hT1.putq c
 clear hp hq fp fq hT1
 generalize w1.setCell ⟨w.heap.size + 1, 0, none⟩ (.bool c) = w2 at *
 refine (Of_any (x * 1048576) _ (by omega) (by omega)).mono ?_
 rintro e w3 ⟨b3, a3, n3, c3, rfl, hN3, _, hB3⟩
 have hb3 : b3 = false := by rw [hN3.sgn]; simp; omega
 subst hb3
 have hT3 := hT2.later hB3
 clear hT2 hB3
 go_wp2_with fail
 refine (Root_pos a3 n3 c3 _ _ hN3 (len_two hN3 (by omega))).mono ?_
 rintro e w4 ⟨R, hR1, hR2, b4, a4, n4, c4, rfl, hN4, _, hB4⟩
 have hRb := root_bd hR1 (by omega)
 have HR := Lib.hid (And.intro hR1 hR2)
 clear hR1 hR2
 have hT4 := hT3.later (hB4.trans ((new_below w4 (.cells #[.bool b4, .slice a4 n4 c4] 46)).mono hB4.size))
 have hM4 := hN4.below (new_below w4 (.cells #[.bool b4, .slice a4 n4 c4] 46))
 have hn4 := len_two hN4 (by omega)
 clear hT3 hB4 hN3 hN4
 go_wp2_with fail
 generalize w4.alloc (.cells #[.bool b4, .slice a4 n4 c4] 46) = w5 at *
 refine (Small_any b4 a4 n4 c4 (R : Int) _ hM4 hn4).mono ?_
 rintro e w6 ⟨rfl, hB6⟩
 rw [(small_is (z := (R : Int)) (by omega) (by omega)).1, (small_is (z := (R : Int)) (by omega) (by omega)).2]
 have hT6 := hT4.later hB6
 have hp := hT6.p
 have hq := hT6.q
 have fp := hT6.fp
 have fq := hT6.fq
 clear hT4 hB6 hM4
 go_wp2
 have hT7 := ((hT6.putp (.int .i64 R)).putp (.int .i64 R)).putq c
 refine hT7.door (fun w' kp kq hb => ?_)
 have hcR := cut_in (n := (R : Int)) (by omega) (by omega)
 rw [hcR.1] at kp
 rw [hcR.2, Bool.or_false] at kq
 exact ⟨.tuple #[.int .i64 R, .bool c, .int .i64 0], by simp [results, Tryz.results29, go_sem, kp, kq], R, by rw [HX.out]; exact HR.out.1, by rw [HX.out]; exact HR.out.2, hRb, by rw [HC.out], hb⟩
end Go.Proofs.YtolpfibihialkaaGreatDoor
