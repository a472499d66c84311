/- The walk of the law SpanHolds. -/
import Derived.Test.YtpacbipencmjnaaSh
namespace Go.Proofs.Ytpacbipencmjnaa
open Go.RowKit

theorem has_of {x : Sp} {a : Int} (h : hasB x a = true) (hx : okB x = true) : x.lo ≤ a ∧ a ≤ x.hi := by
  unfold hasB at h
  rw [hx] at h
  simpa using h
theorem line_all {x : Sp} (h : x = lineS) : x.all = true := by rw [h]; rfl
theorem within_cases (z : Sp) (n b : Int) (hb : b = 1 ∨ b = 1048576) (h : z = lineS ∨ (okB z = true ∧ z.lo * b ≤ n ∧ n ≤ z.hi * b)) (W : World) : Calls Try.prog 40 #[.agg #[.int .i64 z.lo, .int .i64 z.hi, .bool z.all], .int .i64 n, .int .i64 b] W (PVal (.bool true) W) := by
  rcases h with h | ⟨hk, h1, h2⟩
  · exact within_all z n b (line_all h) W
  · obtain ⟨k1, k2, k3, k4⟩ := ok_of hk
    rcases hb with rfl | rfl
    · exact within_in z n 1 k4 h1 h2 (by omega) (by omega) (by omega) (by omega) W
    · exact within_in z n 1048576 k4 h1 h2 (by omega) (by omega) (by omega) (by omega) W
theorem holds_add {x y : Sp} {a b : Int} (p : hasB x a = true) (q : hasB y b = true) : addS x y = lineS ∨ (okB (addS x y) = true ∧ (addS x y).lo * 1 ≤ a + b ∧ a + b ≤ (addS x y).hi * 1) := by
  rcases add_cases x y with h | ⟨h, hx, hy, e⟩
  · exact .inl h
  · have h1 := has_of p hx
    have h2 := has_of q hy
    refine .inr ⟨h, ?_⟩
    rw [e]
    show (x.lo + y.lo) * 1 ≤ _ ∧ _ ≤ (x.hi + y.hi) * 1
    omega
theorem has_neg {y : Sp} {b : Int} (q : hasB y b = true) : hasB (negS y) (-b) = true := by
  cases hy : okB y
  · unfold negS; rw [hy]; rfl
  · have k := ok_of hy
    have h := has_of q hy
    have e : negS y = ⟨-y.hi, -y.lo, false⟩ := by unfold negS; rw [hy]; rfl
    have hk : okB ⟨-y.hi, -y.lo, false⟩ = true := ok_mk (by show _ ≤ -y.hi; omega) (by show -y.hi ≤ -y.lo; omega) (by show -y.lo ≤ _; omega) rfl
    rw [e]
    unfold hasB
    rw [hk]
    simp only [Bool.not_true, Bool.false_or, Bool.and_eq_true, decide_eq_true_eq]
    omega
theorem holds_sub {x y : Sp} {a b : Int} (p : hasB x a = true) (q : hasB y b = true) : subS x y = lineS ∨ (okB (subS x y) = true ∧ (subS x y).lo * 1 ≤ a - b ∧ a - b ≤ (subS x y).hi * 1) := by
  have := holds_add p (has_neg q)
  rw [← Int.sub_eq_add_neg] at this
  exact this
theorem holds_neg {x : Sp} {a : Int} (p : hasB x a = true) : negS x = lineS ∨ (okB (negS x) = true ∧ (negS x).lo * 1 ≤ -a ∧ -a ≤ (negS x).hi * 1) := by
  cases hx : okB x
  · left; unfold negS; rw [hx]; rfl
  · have k := ok_of hx
    have h := has_of p hx
    have e : negS x = ⟨-x.hi, -x.lo, false⟩ := by unfold negS; rw [hx]; rfl
    rw [e]
    exact .inr ⟨ok_mk (by show _ ≤ -x.hi; omega) (by show -x.hi ≤ -x.lo; omega) (by show -x.lo ≤ _; omega) rfl, by show -x.hi * 1 ≤ _; omega, by show _ ≤ -x.lo * 1; omega⟩
theorem holds_mul {x y : Sp} {a b : Int} (p : hasB x a = true) (q : hasB y b = true) : mulS x y = lineS ∨ (okB (mulS x y) = true ∧ (mulS x y).lo * 1048576 ≤ a * b ∧ a * b ≤ (mulS x y).hi * 1048576) := by
  rcases mul_cases x y with h | ⟨h, hx, hy, e⟩
  · exact .inl h
  · have h1 := has_of p hx
    have h2 := has_of q hy
    exact .inr ⟨h, mul_holds h h1.1 h1.2 h2.1 h2.2⟩
theorem holds_sqr {x : Sp} {a : Int} (p : hasB x a = true) : sqrS x = lineS ∨ (okB (sqrS x) = true ∧ (sqrS x).lo * 1048576 ≤ a * a ∧ a * a ≤ (sqrS x).hi * 1048576) := by
  rcases sqr_cases x with h | ⟨h, hx, _⟩
  · exact .inl h
  · have h1 := has_of p hx
    exact .inr ⟨h, sqr_holds h h1.1 h1.2⟩
theorem holds_div {x y : Sp} {a b : Int} (p : hasB x a = true) (q : hasB y b = true) : (divS x y).all = true ∨ ((divS x y).all = false ∧ okB (divS x y) = true ∧ ((0 < b ∧ (divS x y).lo * b ≤ a * 1048576 ∧ a * 1048576 ≤ (divS x y).hi * b) ∨ (b < 0 ∧ a * 1048576 ≤ (divS x y).lo * b ∧ (divS x y).hi * b ≤ a * 1048576))) := by
  rcases div_cases x y with h | ⟨h, hx, hy, _⟩
  · exact .inl (line_all h)
  · have h1 := has_of p hx
    have h2 := has_of q hy
    obtain ⟨k1, k2, k3⟩ := div_holds h h1.1 h1.2 h2.1 h2.2
    refine .inr ⟨(ok_of h).2.2.2, h, ?_⟩
    rcases Int.lt_or_gt_of_ne k3 with hb | hb
    · exact .inr ⟨hb, k2 hb⟩
    · exact .inl ⟨hb, k1 hb⟩
theorem sqrt_ok {x : Sp} : sqrtS x = lineS ∨ (okB (sqrtS x) = true ∧ okB x = true) := by
  cases hx : okB x
  · left; unfold sqrtS; rw [hx]; rfl
  · have k := ok_of hx
    by_cases h0 : 0 ≤ x.hi
    · right
      have e : sqrtS x = joinS (rootS (max x.lo 0)) (rootS x.hi) := by
        unfold sqrtS
        rw [if_pos]
        rw [hx]
        simpa using h0
      rw [e, okB_join, (root_of (a := max x.lo 0) (by omega) (by omega)).1, (root_of (a := x.hi) (by omega) (by omega)).1]
      exact ⟨rfl, rfl⟩
    · left
      unfold sqrtS
      rw [if_neg]
      rw [hx]
      simpa using h0
theorem holds_sqrt {x : Sp} {a : Int} (p : hasB x a = true) : (sqrtS x).all = true ∨ ((sqrtS x).all = false ∧ okB (sqrtS x) = true ∧ (a < 0 ∨ (0 ≤ a ∧ (sqrtS x).lo * (sqrtS x).lo ≤ a * 1048576 ∧ a * 1048576 ≤ (sqrtS x).hi * (sqrtS x).hi))) := by
  rcases sqrt_ok (x := x) with h | ⟨h, hx⟩
  · exact .inl (line_all h)
  · have h1 := has_of p hx
    refine .inr ⟨(ok_of h).2.2.2, h, ?_⟩
    rcases Int.lt_or_le a 0 with h0 | h0
    · exact .inl h0
    · exact .inr ⟨h0, sqrt_holds h h1.1 h1.2 h0⟩
set_option maxRecDepth 100000 in
set_option maxHeartbeats 6400000 in
theorem Holds_no (x y : Sp) (a b : Int) (w : World) (h : ¬ (hasB x a = true ∧ hasB y b = true ∧ -2147483647 ≤ a ∧ a ≤ 2147483647 ∧ -2147483647 ≤ b ∧ b ≤ 2147483647)) : Calls Try.prog 6 #[.agg #[.int .i64 x.lo, .int .i64 x.hi, .bool x.all], .agg #[.int .i64 y.lo, .int .i64 y.hi, .bool y.all], .int .i64 a, .int .i64 b] w (PVal (.bool true) w) := by
  have HP := Lib.hid (Has_any x a)
  have HQ := Lib.hid (Has_any y b)
  generalize hasB x a = p at *
  generalize hasB y b = q at *
  have HH := Lib.hid h
  clear h
  go_enter Try.func6, Try.ntmps6
  go_wp2_with fail
  have hJ := bs2 w x.lo x.hi x.all y.lo y.hi y.all
  generalize (w.alloc (.cells #[.int .i64 x.lo, .int .i64 x.hi, .bool x.all] 23)).alloc (.cells #[.int .i64 y.lo, .int .i64 y.hi, .bool y.all] 23) = w1 at *
  refine (sawake_any _).mono ?_
  rintro e W1 ⟨rfl, hB⟩
  replace hJ := hJ.later hB
  clear hB
  have f00 := hJ.c0.1
  have f01 := hJ.c0.2.1
  have f02 := hJ.c0.2.2.1
  have f10 := hJ.c1.1
  have f11 := hJ.c1.2.1
  have f12 := hJ.c1.2.2.1
  have fz0 : w.heap.size < W1.heap.size := by have := hJ.sz; simp only [List.length_cons, List.length_nil] at this; omega
  have fz1 : w.heap.size + 1 < W1.heap.size := by have := hJ.sz; simp only [List.length_cons, List.length_nil] at this; omega
  go_wp2_with fail
  refine (HP.out _).mono ?_
  rintro e W2 ⟨rfl, hB⟩
  replace hJ := hJ.later hB
  clear f00 f01 f02 f10 f11 f12 fz0 fz1
  clear hB
  have f00 := hJ.c0.1
  have f01 := hJ.c0.2.1
  have f02 := hJ.c0.2.2.1
  have f10 := hJ.c1.1
  have f11 := hJ.c1.2.1
  have f12 := hJ.c1.2.2.1
  have fz0 : w.heap.size < W2.heap.size := by have := hJ.sz; simp only [List.length_cons, List.length_nil] at this; omega
  have fz1 : w.heap.size + 1 < W2.heap.size := by have := hJ.sz; simp only [List.length_cons, List.length_nil] at this; omega
  go_wp2_with fail
  refine (HQ.out _).mono ?_
  rintro e W3 ⟨rfl, hB⟩
  replace hJ := hJ.later hB
  clear f00 f01 f02 f10 f11 f12 fz0 fz1
  clear hB
  cases p
  case false =>
    go_wp2
    go_ret
    exact ⟨rfl, hJ.below⟩
  cases q
  case false =>
    go_wp2
    go_ret
    exact ⟨rfl, hJ.below⟩
  by_cases a1 : a < -2147483647
  case pos =>
    have d1 : decide (a < -2147483647) = true := decide_eq_true a1
    go_wp2
    go_ret
    exact ⟨rfl, hJ.below⟩
  have d1 : decide (a < -2147483647) = false := decide_eq_false a1
  by_cases a2 : 2147483647 < a
  case pos =>
    have d2 : decide (2147483647 < a) = true := decide_eq_true a2
    go_wp2
    go_ret
    exact ⟨rfl, hJ.below⟩
  have d2 : decide (2147483647 < a) = false := decide_eq_false a2
  by_cases a3 : b < -2147483647
  case pos =>
    have d3 : decide (b < -2147483647) = true := decide_eq_true a3
    go_wp2
    go_ret
    exact ⟨rfl, hJ.below⟩
  have d3 : decide (b < -2147483647) = false := decide_eq_false a3
  by_cases a4 : 2147483647 < b
  case pos =>
    have d4 : decide (2147483647 < b) = true := decide_eq_true a4
    go_wp2
    go_ret
    exact ⟨rfl, hJ.below⟩
  exact absurd ⟨rfl, rfl, by omega, by omega, by omega, by omega⟩ HH.out
set_option maxRecDepth 100000 in
set_option maxHeartbeats 12800000 in
theorem Holds_yes (x y : Sp) (a b : Int) (w : World) (p : hasB x a = true) (q : hasB y b = true) (a1 : -2147483647 ≤ a) (a2 : a ≤ 2147483647) (b1 : -2147483647 ≤ b) (b2 : b ≤ 2147483647) : Calls Try.prog 6 #[.agg #[.int .i64 x.lo, .int .i64 x.hi, .bool x.all], .agg #[.int .i64 y.lo, .int .i64 y.hi, .bool y.all], .int .i64 a, .int .i64 b] w (PVal (.bool true) w) := by
  have HP := Lib.hid (Has_at p)
  have HQ := Lib.hid (Has_at q)
  have HC1 := Lib.hid (sAdd_any x y)
  have HW1 := Lib.hid (within_cases _ _ 1 (.inl rfl) (holds_add p q))
  have HC2 := Lib.hid (sSub_any x y)
  have HW2 := Lib.hid (within_cases _ _ 1 (.inl rfl) (holds_sub p q))
  have HC3 := Lib.hid (sMul_any x y)
  have HW3 := Lib.hid (within_cases _ _ 1048576 (.inr rfl) (holds_mul p q))
  have HC4 := Lib.hid (sSqr_any x)
  have HW4 := Lib.hid (within_cases _ _ 1048576 (.inr rfl) (holds_sqr p))
  have HC5 := Lib.hid (sNeg_any x)
  have HW5 := Lib.hid (within_cases _ _ 1 (.inl rfl) (holds_neg p))
  have HC6 := Lib.hid (sDiv_any x y)
  have HD := Lib.hid (holds_div p q)
  have HC7 := Lib.hid (sSqrt_any x)
  have HR := Lib.hid (holds_sqrt p)
  generalize addS x y = z1 at *
  generalize subS x y = z2 at *
  generalize mulS x y = z3 at *
  generalize sqrS x = z4 at *
  generalize negS x = z5 at *
  generalize divS x y = d at *
  generalize sqrtS x = r at *
  clear p q
  have m1 := mul_bd a1 a2 b1 b2
  have m2 := mul_bd a1 a2 a1 a2
  have v1 : IntKind.i64.wrap (a * b) = a * b := IntWalk.i64_in _ (by omega)
  have v2 : IntKind.i64.wrap (a * a) = a * a := IntWalk.i64_in _ (by omega)
  have e1 : decide (a < -2147483647) = false := decide_eq_false (by omega)
  have e2 : decide (2147483647 < a) = false := decide_eq_false (by omega)
  have e3 : decide (b < -2147483647) = false := decide_eq_false (by omega)
  have e4 : decide (2147483647 < b) = false := decide_eq_false (by omega)
  clear m1 m2
  go_enter Try.func6, Try.ntmps6
  go_wp2_with fail
  have hJ := bs2 w x.lo x.hi x.all y.lo y.hi y.all
  generalize (w.alloc (.cells #[.int .i64 x.lo, .int .i64 x.hi, .bool x.all] 23)).alloc (.cells #[.int .i64 y.lo, .int .i64 y.hi, .bool y.all] 23) = w1 at *
  refine (sawake_any _).mono ?_
  rintro e W1 ⟨rfl, hB⟩
  replace hJ := hJ.later hB
  clear hB
  have f00 := hJ.c0.1
  have f01 := hJ.c0.2.1
  have f02 := hJ.c0.2.2.1
  have fz0 : w.heap.size < W1.heap.size := by have := hJ.sz; simp only [List.length_cons, List.length_nil] at this; omega
  go_wp2_with fail
  refine (HP.out _).mono ?_
  rintro e W2 ⟨rfl, hB⟩
  replace hJ := hJ.later hB
  clear f00 f01 f02 fz0
  clear hB
  have f10 := hJ.c1.1
  have f11 := hJ.c1.2.1
  have f12 := hJ.c1.2.2.1
  have fz1 : w.heap.size + 1 < W2.heap.size := by have := hJ.sz; simp only [List.length_cons, List.length_nil] at this; omega
  go_wp2_with fail
  refine (HQ.out _).mono ?_
  rintro e W3 ⟨rfl, hB⟩
  replace hJ := hJ.later hB
  clear f10 f11 f12 fz1
  clear hB
  have f00 := hJ.c0.1
  have f01 := hJ.c0.2.1
  have f02 := hJ.c0.2.2.1
  have f10 := hJ.c1.1
  have f11 := hJ.c1.2.1
  have f12 := hJ.c1.2.2.1
  have fz0 : w.heap.size < W3.heap.size := by have := hJ.sz; simp only [List.length_cons, List.length_nil] at this; omega
  have fz1 : w.heap.size + 1 < W3.heap.size := by have := hJ.sz; simp only [List.length_cons, List.length_nil] at this; omega
  go_wp2_with fail
  refine (HC1.out _).mono ?_
  rintro e W4 ⟨rfl, hB⟩
  replace hJ := hJ.later hB
  clear f00 f01 f02 f10 f11 f12 fz0 fz1
  clear hB
  go_wp2_with fail
  refine (HW1.out _).mono ?_
  rintro e W5 ⟨rfl, hB⟩
  replace hJ := hJ.later hB
  clear hB
  have f00 := hJ.c0.1
  have f01 := hJ.c0.2.1
  have f02 := hJ.c0.2.2.1
  have f10 := hJ.c1.1
  have f11 := hJ.c1.2.1
  have f12 := hJ.c1.2.2.1
  have fz0 : w.heap.size < W5.heap.size := by have := hJ.sz; simp only [List.length_cons, List.length_nil] at this; omega
  have fz1 : w.heap.size + 1 < W5.heap.size := by have := hJ.sz; simp only [List.length_cons, List.length_nil] at this; omega
  go_wp2_with fail
  refine (HC2.out _).mono ?_
  rintro e W6 ⟨rfl, hB⟩
  replace hJ := hJ.later hB
  clear f00 f01 f02 f10 f11 f12 fz0 fz1
  clear hB
  go_wp2_with fail
  refine (HW2.out _).mono ?_
  rintro e W7 ⟨rfl, hB⟩
  replace hJ := hJ.later hB
  clear hB
  have f00 := hJ.c0.1
  have f01 := hJ.c0.2.1
  have f02 := hJ.c0.2.2.1
  have f10 := hJ.c1.1
  have f11 := hJ.c1.2.1
  have f12 := hJ.c1.2.2.1
  have fz0 : w.heap.size < W7.heap.size := by have := hJ.sz; simp only [List.length_cons, List.length_nil] at this; omega
  have fz1 : w.heap.size + 1 < W7.heap.size := by have := hJ.sz; simp only [List.length_cons, List.length_nil] at this; omega
  go_wp2_with fail
  refine (HC3.out _).mono ?_
  rintro e W8 ⟨rfl, hB⟩
  replace hJ := hJ.later hB
  clear f00 f01 f02 f10 f11 f12 fz0 fz1
  clear hB
  go_wp2_with fail
  refine (HW3.out _).mono ?_
  rintro e W9 ⟨rfl, hB⟩
  replace hJ := hJ.later hB
  clear hB
  have f00 := hJ.c0.1
  have f01 := hJ.c0.2.1
  have f02 := hJ.c0.2.2.1
  have fz0 : w.heap.size < W9.heap.size := by have := hJ.sz; simp only [List.length_cons, List.length_nil] at this; omega
  go_wp2_with fail
  refine (HC4.out _).mono ?_
  rintro e W10 ⟨rfl, hB⟩
  replace hJ := hJ.later hB
  clear f00 f01 f02 fz0
  clear hB
  go_wp2_with fail
  refine (HW4.out _).mono ?_
  rintro e W11 ⟨rfl, hB⟩
  replace hJ := hJ.later hB
  clear hB
  have f00 := hJ.c0.1
  have f01 := hJ.c0.2.1
  have f02 := hJ.c0.2.2.1
  have fz0 : w.heap.size < W11.heap.size := by have := hJ.sz; simp only [List.length_cons, List.length_nil] at this; omega
  go_wp2_with fail
  refine (HC5.out _).mono ?_
  rintro e W12 ⟨rfl, hB⟩
  replace hJ := hJ.later hB
  clear f00 f01 f02 fz0
  clear hB
  go_wp2_with fail
  refine (HW5.out _).mono ?_
  rintro e W13 ⟨rfl, hB⟩
  replace hJ := hJ.later hB
  clear hB
  have f00 := hJ.c0.1
  have f01 := hJ.c0.2.1
  have f02 := hJ.c0.2.2.1
  have f10 := hJ.c1.1
  have f11 := hJ.c1.2.1
  have f12 := hJ.c1.2.2.1
  have fz0 : w.heap.size < W13.heap.size := by have := hJ.sz; simp only [List.length_cons, List.length_nil] at this; omega
  have fz1 : w.heap.size + 1 < W13.heap.size := by have := hJ.sz; simp only [List.length_cons, List.length_nil] at this; omega
  go_wp2_with fail
  refine (HC6.out _).mono ?_
  rintro e W14 ⟨rfl, hB⟩
  replace hJ := hJ.later hB
  clear f00 f01 f02 f10 f11 f12 fz0 fz1
  clear hB
  rcases HD.out with hd | ⟨hd, hk, ⟨h0, h1, h2⟩ | ⟨h0, h1, h2⟩⟩
  · clear v1 v2
    have f00 := hJ.c0.1
    have f01 := hJ.c0.2.1
    have f02 := hJ.c0.2.2.1
    have fz0 : w.heap.size < W14.heap.size := by have := hJ.sz; simp only [List.length_cons, List.length_nil] at this; omega
    go_wp2_with fail
    refine (HC7.out _).mono ?_
    rintro e W15 ⟨rfl, hB⟩
    rw [← hd] at hB
    have kd := (b3_new W14 d).below hB
    have hx : Below W14.heap.size W14 W15 := ((Below.refl _ _).alloc (Nat.le_refl _) _).trans (hB.mono (by simp))
    replace hJ := hJ.later hx
    clear f00 f01 f02 fz0
    clear hB hx
    generalize W14.heap.size = bd at *
    clear hd
    clear kd
    have hJf := hJ.later ((Below.refl _ _).alloc (Nat.le_refl _) (.cells #[.int .i64 r.lo, .int .i64 r.hi, .bool r.all] 23))
    rcases HR.out with hr | ⟨hr, hk, h0 | ⟨h0, h1, h2⟩⟩
    · rw [hr] at hJf
      go_wp2
      go_ret
      exact ⟨rfl, hJf.below⟩
    · have g4 : decide (a < 0) = true := decide_eq_true h0
      rw [hr] at hJf
      go_wp2
      go_ret
      exact ⟨rfl, hJf.below⟩
    · have kr := ok_of hk
      have m1 := mul_bd (x := r.lo) (y := r.lo) (by omega) (by omega) (by omega) (by omega)
      have m2 := mul_bd (x := r.hi) (y := r.hi) (by omega) (by omega) (by omega) (by omega)
      have v5 : IntKind.i64.wrap (r.lo * r.lo) = r.lo * r.lo := IntWalk.i64_in _ (by omega)
      have v6 : IntKind.i64.wrap (r.hi * r.hi) = r.hi * r.hi := IntWalk.i64_in _ (by omega)
      have g4 : decide (a < 0) = false := decide_eq_false (by omega)
      have g5 : decide (r.lo * r.lo ≤ a * 1048576) = true := decide_eq_true h1
      have g6 : decide (a * 1048576 ≤ r.hi * r.hi) = true := decide_eq_true h2
      clear kr m1 m2 hk h1 h2
      rw [hr] at hJf
      go_wp2
      go_ret
      exact ⟨rfl, hJf.below⟩
  · have kd := ok_of hk
    have m1 := mul_bd (x := d.lo) (y := b) (by omega) (by omega) b1 b2
    have m2 := mul_bd (x := d.hi) (y := b) (by omega) (by omega) b1 b2
    have v3 : IntKind.i64.wrap (d.lo * b) = d.lo * b := IntWalk.i64_in _ (by omega)
    have v4 : IntKind.i64.wrap (d.hi * b) = d.hi * b := IntWalk.i64_in _ (by omega)
    have g1 : decide (0 < b) = true := decide_eq_true h0
    have g2 : decide (d.lo * b ≤ a * 1048576) = true := decide_eq_true h1
    have g3 : decide (a * 1048576 ≤ d.hi * b) = true := decide_eq_true h2
    clear kd m1 m2 hk h1 h2 v1 v2
    have f00 := hJ.c0.1
    have f01 := hJ.c0.2.1
    have f02 := hJ.c0.2.2.1
    have fz0 : w.heap.size < W14.heap.size := by have := hJ.sz; simp only [List.length_cons, List.length_nil] at this; omega
    go_wp2_with fail
    refine (HC7.out _).mono ?_
    rintro e W15 ⟨rfl, hB⟩
    rw [← hd] at hB
    have kd := (b3_new W14 d).below hB
    have hx : Below W14.heap.size W14 W15 := ((Below.refl _ _).alloc (Nat.le_refl _) _).trans (hB.mono (by simp))
    replace hJ := hJ.later hx
    clear f00 f01 f02 fz0
    clear hB hx
    generalize W14.heap.size = bd at *
    clear hd g1 g2 g3 v3 v4
    clear kd
    have hJf := hJ.later ((Below.refl _ _).alloc (Nat.le_refl _) (.cells #[.int .i64 r.lo, .int .i64 r.hi, .bool r.all] 23))
    rcases HR.out with hr | ⟨hr, hk, h0 | ⟨h0, h1, h2⟩⟩
    · rw [hr] at hJf
      go_wp2
      go_ret
      exact ⟨rfl, hJf.below⟩
    · have g4 : decide (a < 0) = true := decide_eq_true h0
      rw [hr] at hJf
      go_wp2
      go_ret
      exact ⟨rfl, hJf.below⟩
    · have kr := ok_of hk
      have m1 := mul_bd (x := r.lo) (y := r.lo) (by omega) (by omega) (by omega) (by omega)
      have m2 := mul_bd (x := r.hi) (y := r.hi) (by omega) (by omega) (by omega) (by omega)
      have v5 : IntKind.i64.wrap (r.lo * r.lo) = r.lo * r.lo := IntWalk.i64_in _ (by omega)
      have v6 : IntKind.i64.wrap (r.hi * r.hi) = r.hi * r.hi := IntWalk.i64_in _ (by omega)
      have g4 : decide (a < 0) = false := decide_eq_false (by omega)
      have g5 : decide (r.lo * r.lo ≤ a * 1048576) = true := decide_eq_true h1
      have g6 : decide (a * 1048576 ≤ r.hi * r.hi) = true := decide_eq_true h2
      clear kr m1 m2 hk h1 h2
      rw [hr] at hJf
      go_wp2
      go_ret
      exact ⟨rfl, hJf.below⟩
  · have kd := ok_of hk
    have m1 := mul_bd (x := d.lo) (y := b) (by omega) (by omega) b1 b2
    have m2 := mul_bd (x := d.hi) (y := b) (by omega) (by omega) b1 b2
    have v3 : IntKind.i64.wrap (d.lo * b) = d.lo * b := IntWalk.i64_in _ (by omega)
    have v4 : IntKind.i64.wrap (d.hi * b) = d.hi * b := IntWalk.i64_in _ (by omega)
    have g1 : decide (0 < b) = false := decide_eq_false (by omega)
    have g1' : decide (b < 0) = true := decide_eq_true h0
    have g2 : decide (a * 1048576 ≤ d.lo * b) = true := decide_eq_true h1
    have g3 : decide (d.hi * b ≤ a * 1048576) = true := decide_eq_true h2
    clear kd m1 m2 hk h1 h2 v1 v2
    have f00 := hJ.c0.1
    have f01 := hJ.c0.2.1
    have f02 := hJ.c0.2.2.1
    have fz0 : w.heap.size < W14.heap.size := by have := hJ.sz; simp only [List.length_cons, List.length_nil] at this; omega
    go_wp2_with fail
    refine (HC7.out _).mono ?_
    rintro e W15 ⟨rfl, hB⟩
    rw [← hd] at hB
    have kd := (b3_new W14 d).below hB
    have hx : Below W14.heap.size W14 W15 := ((Below.refl _ _).alloc (Nat.le_refl _) _).trans (hB.mono (by simp))
    replace hJ := hJ.later hx
    clear f00 f01 f02 fz0
    clear hB hx
    generalize W14.heap.size = bd at *
    clear hd g1 g1' g2 g3 v3 v4
    clear kd
    have hJf := hJ.later ((Below.refl _ _).alloc (Nat.le_refl _) (.cells #[.int .i64 r.lo, .int .i64 r.hi, .bool r.all] 23))
    rcases HR.out with hr | ⟨hr, hk, h0 | ⟨h0, h1, h2⟩⟩
    · rw [hr] at hJf
      go_wp2
      go_ret
      exact ⟨rfl, hJf.below⟩
    · have g4 : decide (a < 0) = true := decide_eq_true h0
      rw [hr] at hJf
      go_wp2
      go_ret
      exact ⟨rfl, hJf.below⟩
    · have kr := ok_of hk
      have m1 := mul_bd (x := r.lo) (y := r.lo) (by omega) (by omega) (by omega) (by omega)
      have m2 := mul_bd (x := r.hi) (y := r.hi) (by omega) (by omega) (by omega) (by omega)
      have v5 : IntKind.i64.wrap (r.lo * r.lo) = r.lo * r.lo := IntWalk.i64_in _ (by omega)
      have v6 : IntKind.i64.wrap (r.hi * r.hi) = r.hi * r.hi := IntWalk.i64_in _ (by omega)
      have g4 : decide (a < 0) = false := decide_eq_false (by omega)
      have g5 : decide (r.lo * r.lo ≤ a * 1048576) = true := decide_eq_true h1
      have g6 : decide (a * 1048576 ≤ r.hi * r.hi) = true := decide_eq_true h2
      clear kr m1 m2 hk h1 h2
      rw [hr] at hJf
      go_wp2
      go_ret
      exact ⟨rfl, hJf.below⟩
theorem SpanHolds_any (x y : Sp) (a b : Int) (w : World) : Calls Try.prog 6 #[.agg #[.int .i64 x.lo, .int .i64 x.hi, .bool x.all], .agg #[.int .i64 y.lo, .int .i64 y.hi, .bool y.all], .int .i64 a, .int .i64 b] w (PVal (.bool true) w) := by
  by_cases h : hasB x a = true ∧ hasB y b = true ∧ -2147483647 ≤ a ∧ a ≤ 2147483647 ∧ -2147483647 ≤ b ∧ b ≤ 2147483647
  · obtain ⟨p, q, a1, a2, b1, b2⟩ := h
    exact Holds_yes x y a b w p q a1 a2 b1 b2
  · exact Holds_no x y a b w h
end Go.Proofs.Ytpacbipencmjnaa
