/- The walk of the law SpanTight. -/
import Derived.Test.YtpacbipencmjnaaSh
namespace Go.Proofs.Ytpacbipencmjnaa
open Go.RowKit

theorem run_min4 {P : Program} (w : World) (ts : Array TypeId) (t : TypeId) (a b c d : Int) : (Builtin.min_ ts t #[.int .i64 a, .int .i64 b, .int .i64 c, .int .i64 d]).run P w = .ok (.int .i64 (min (min (min a b) c) d)) w := by
  have e : ∀ x y : Int, (if y < x then y else x) = min x y := fun x y => by
    rw [Int.min_def]
    split <;> split <;> omega
  simp [Builtin.min_, Builtin.min2, e]
theorem run_max4 {P : Program} (w : World) (ts : Array TypeId) (t : TypeId) (a b c d : Int) : (Builtin.max_ ts t #[.int .i64 a, .int .i64 b, .int .i64 c, .int .i64 d]).run P w = .ok (.int .i64 (max (max (max a b) c) d)) w := by
  have e : ∀ x y : Int, (if y > x then y else x) = max x y := fun x y => by
    rw [Int.max_def]
    split <;> split <;> omega
  simp [Builtin.max_, Builtin.max2, e]
attribute [local go_sem high] run_min4 run_max4
set_option maxRecDepth 100000 in
set_option maxHeartbeats 6400000 in
theorem SpanTight_any (x y : Sp) (w : World) : Calls Try.prog 7 #[.agg #[.int .i64 x.lo, .int .i64 x.hi, .bool x.all], .agg #[.int .i64 y.lo, .int .i64 y.hi, .bool y.all]] w (PVal (.bool true) w) := by
  have HM := Lib.hid (sMul_any x y)
  have HA := Lib.hid (sAdd_any x y)
  have hmc := mul_cases x y
  have hac := add_cases x y
  generalize mulS x y = m at *
  generalize addS x y = s at *
  have HMC := Lib.hid hmc
  have HAC := Lib.hid hac
  clear hmc hac
  go_enter Try.func7, Try.ntmps7
  go_wp2_with fail
  have hJ := bs2 w x.lo x.hi x.all y.lo y.hi y.all
  generalize (w.alloc (.cells #[.int .i64 x.lo, .int .i64 x.hi, .bool x.all] 23)).alloc (.cells #[.int .i64 y.lo, .int .i64 y.hi, .bool y.all] 23) = w1 at *
  refine (sawake_any _).mono ?_
  rintro e W1 ⟨rfl, hB⟩
  replace hJ := hJ.later hB
  clear hB
  have f00 := hJ.c0.1
  have f01 := hJ.c0.2.1
  have f02 := hJ.c0.2.2.1
  have f10 := hJ.c1.1
  have f11 := hJ.c1.2.1
  have f12 := hJ.c1.2.2.1
  have fz0 : w.heap.size < W1.heap.size := by have := hJ.sz; simp only [List.length_cons, List.length_nil] at this; omega
  have fz1 : w.heap.size + 1 < W1.heap.size := by have := hJ.sz; simp only [List.length_cons, List.length_nil] at this; omega
  go_wp2_with fail
  refine (HM.out _).mono ?_
  rintro e W2 ⟨rfl, hB⟩
  replace hJ := hJ.later hB
  clear f00 f01 f02 f10 f11 f12 fz0 fz1
  clear hB
  have f00 := hJ.c0.1
  have f01 := hJ.c0.2.1
  have f02 := hJ.c0.2.2.1
  have f10 := hJ.c1.1
  have f11 := hJ.c1.2.1
  have f12 := hJ.c1.2.2.1
  have fz0 : w.heap.size < W2.heap.size := by have := hJ.sz; simp only [List.length_cons, List.length_nil] at this; omega
  have fz1 : w.heap.size + 1 < W2.heap.size := by have := hJ.sz; simp only [List.length_cons, List.length_nil] at this; omega
  go_wp2_with fail
  refine (HA.out _).mono ?_
  rintro e W3 ⟨rfl, hB⟩
  have km := (b3_new W2 m).below hB
  have hx : Below W2.heap.size W2 W3 := ((Below.refl _ _).alloc (Nat.le_refl _) _).trans (hB.mono (by simp))
  replace hJ := hJ.later hx
  clear f00 f01 f02 f10 f11 f12 fz0 fz1
  clear hB hx
  generalize W2.heap.size = bm at *
  have f00 := hJ.c0.1
  have f01 := hJ.c0.2.1
  have f02 := hJ.c0.2.2.1
  have f10 := hJ.c1.1
  have f11 := hJ.c1.2.1
  have f12 := hJ.c1.2.2.1
  have fz0 : w.heap.size < W3.heap.size := by have := hJ.sz; simp only [List.length_cons, List.length_nil] at this; omega
  have fz1 : w.heap.size + 1 < W3.heap.size := by have := hJ.sz; simp only [List.length_cons, List.length_nil] at this; omega
  have flm : bm < W3.heap.size := (Array.getElem?_eq_some_iff.1 km).1
  have fm0 := km.cells.1
  have fm1 := km.cells.2.1
  have fm2 := km.cells.2.2.1
  have hJf := hJ.later ((Below.refl _ _).alloc (Nat.le_refl _) (.cells #[.int .i64 s.lo, .int .i64 s.hi, .bool s.all] 23))
  cases hax : x.all
  case true =>
    go_wp2
    go_ret
    exact ⟨rfl, hJf.below⟩
  cases hay : y.all
  case true =>
    go_wp2
    go_ret
    exact ⟨rfl, hJf.below⟩
  cases ham : m.all
  case true =>
    go_wp2
    go_ret
    exact ⟨rfl, hJf.below⟩
  cases has : s.all
  case true =>
    rw [has] at hJf
    go_wp2
    go_ret
    exact ⟨rfl, hJf.below⟩
  obtain ⟨_, hx, hy, em⟩ : okB m = true ∧ okB x = true ∧ okB y = true ∧ m = ⟨min4 x y / 1048576, -(-max4 x y / 1048576), false⟩ := by
    rcases HMC.out with h | h
    · rw [h] at ham; cases ham
    · exact h
  obtain ⟨es1, es2⟩ : s.lo = x.lo + y.lo ∧ s.hi = x.hi + y.hi := by
    rcases HAC.out with h | ⟨_, _, _, h⟩
    · rw [h] at has; cases has
    · rw [h]; exact ⟨rfl, rfl⟩
  obtain ⟨kx1, kx2, kx3, _⟩ := ok_of hx
  obtain ⟨ky1, ky2, ky3, _⟩ := ok_of hy
  have em1 : m.lo = min4 x y / 1048576 := by rw [em]
  have em2 : m.hi = -(-max4 x y / 1048576) := by rw [em]
  unfold min4 at em1
  unfold max4 at em2
  have b1 := mul_bd (x := x.lo) (y := y.lo) (by omega) (by omega) (by omega) (by omega)
  have b2 := mul_bd (x := x.lo) (y := y.hi) (by omega) (by omega) (by omega) (by omega)
  have b3 := mul_bd (x := x.hi) (y := y.lo) (by omega) (by omega) (by omega) (by omega)
  have b4 := mul_bd (x := x.hi) (y := y.hi) (by omega) (by omega) (by omega) (by omega)
  have v1 : IntKind.i64.wrap (x.lo * y.lo) = x.lo * y.lo := IntWalk.i64_in _ (by omega)
  have v2 : IntKind.i64.wrap (x.lo * y.hi) = x.lo * y.hi := IntWalk.i64_in _ (by omega)
  have v3 : IntKind.i64.wrap (x.hi * y.lo) = x.hi * y.lo := IntWalk.i64_in _ (by omega)
  have v4 : IntKind.i64.wrap (x.hi * y.hi) = x.hi * y.hi := IntWalk.i64_in _ (by omega)
  obtain ⟨ll, hll⟩ : ∃ l, l = x.lo * y.lo := ⟨_, rfl⟩
  obtain ⟨lh, hlh⟩ : ∃ l, l = x.lo * y.hi := ⟨_, rfl⟩
  obtain ⟨hl, hhl⟩ : ∃ l, l = x.hi * y.lo := ⟨_, rfl⟩
  obtain ⟨hh, hhh⟩ : ∃ l, l = x.hi * y.hi := ⟨_, rfl⟩
  rw [← hll] at b1 v1
  rw [← hlh] at b2 v2
  rw [← hhl] at b3 v3
  rw [← hhh] at b4 v4
  rw [← hll, ← hlh, ← hhl, ← hhh] at em1 em2
  have z1 : wrap64 (x.lo * y.lo) = ll := by rw [← hll]; unfold wrap64; omega
  have y1 : IntKind.i64.wrap (x.lo * y.lo) = ll := by rw [← hll]; exact v1
  clear v1
  have z2 : wrap64 (x.lo * y.hi) = lh := by rw [← hlh]; unfold wrap64; omega
  have y2 : IntKind.i64.wrap (x.lo * y.hi) = lh := by rw [← hlh]; exact v2
  clear v2
  have z3 : wrap64 (x.hi * y.lo) = hl := by rw [← hhl]; unfold wrap64; omega
  have y3 : IntKind.i64.wrap (x.hi * y.lo) = hl := by rw [← hhl]; exact v3
  clear v3
  have z4 : wrap64 (x.hi * y.hi) = hh := by rw [← hhh]; unfold wrap64; omega
  have y4 : IntKind.i64.wrap (x.hi * y.hi) = hh := by rw [← hhh]; exact v4
  clear v4
  have z5 : wrap64 (min ll (min lh (min hl hh)) - m.lo * 1048576) = min ll (min lh (min hl hh)) - m.lo * 1048576 := by unfold wrap64; omega
  have z6 : wrap64 (m.hi * 1048576 - max ll (max lh (max hl hh))) = m.hi * 1048576 - max ll (max lh (max hl hh)) := by unfold wrap64; omega
  have d5 : decide (min ll (min lh (min hl hh)) - m.lo * 1048576 < 1048576) = true := decide_eq_true (by omega)
  have d6 : decide (m.hi * 1048576 - max ll (max lh (max hl hh)) < 1048576) = true := decide_eq_true (by omega)
  have d1 : (s.lo == x.lo + y.lo) = true := by simpa using es1
  have d2 : (s.hi == x.hi + y.hi) = true := by simpa using es2
  have d3 : decide (min (min (min ll lh) hl) hh - m.lo * 1048576 < 1048576) = true := decide_eq_true (by omega)
  have d4 : decide (m.hi * 1048576 - max (max (max ll lh) hl) hh < 1048576) = true := decide_eq_true (by omega)
  have v5 : IntKind.i64.wrap (min (min (min ll lh) hl) hh - m.lo * 1048576) = min (min (min ll lh) hl) hh - m.lo * 1048576 := IntWalk.i64_in _ (by omega)
  have v6 : IntKind.i64.wrap (m.hi * 1048576 - max (max (max ll lh) hl) hh) = m.hi * 1048576 - max (max (max ll lh) hl) hh := IntWalk.i64_in _ (by omega)
  have m1 : -4611686018427387904 ≤ m.lo * 1048576 ∧ m.lo * 1048576 ≤ 4611686018427387904 := by omega
  have m2 : -4611686018427387904 ≤ m.hi * 1048576 ∧ m.hi * 1048576 ≤ 4611686018427387904 := by omega
  have v7 : IntKind.i64.wrap (m.lo * 1048576) = m.lo * 1048576 := IntWalk.i64_in _ (by omega)
  have v8 : IntKind.i64.wrap (m.hi * 1048576) = m.hi * 1048576 := IntWalk.i64_in _ (by omega)
  rw [has] at hJf
  clear hx hy em em1 em2 es1 es2 hll hlh hhl hhh m1 m2 b1 b2 b3 b4 HMC HAC HM HA
  go_wp2
  go_ret
  exact ⟨rfl, hJf.below⟩
end Go.Proofs.Ytpacbipencmjnaa
