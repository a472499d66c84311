/- Parts of the proof. -/
import Derived.Test.YtpahkpcoinbgcaaGs16
import Derived.Test.YtpahkpcoinbgcaaGs9
/- Fixed numbers: the walks of Div, Sqrt. -/
namespace Go.Proofs.Ytpahkpcoinbgcaa
open Go.RowKit
theorem cut_nz {b : Int} (h : b ≠ 0) : cutI b ≠ 0 := by unfold cutI; omega
theorem scale_bd {x : Int} (h1 : -2147483647 ≤ x) (h2 : x ≤ 2147483647) : -2251799812636672 ≤ x * 1048576 ∧ x * 1048576 ≤ 2251799812636672 := by omega
set_option maxHeartbeats 1600000 in
theorem fxDiv_any (a b : Int) (w : World) (hb0 : b ≠ 0) : Calls Try.prog 77 #[.int .i64 a, .int .i64 b] w
  (PVal3 (.int .i64 (cutI (flo (cutI a * 1048576) (cutI b)))) (.bool (cutB a || cutB b || cutB (flo (cutI a * 1048576) (cutI b)))) (.int .i64 0) w) := by
 have hy0 := cut_nz hb0
 go_enter_defers Try.func77, Try.ntmps77
 go_wp2_with fail
 have hT := two_mk w 2 4
 generalize (w.alloc (.cells #[.int .i64 0] 2)).alloc (.cells #[.bool false] 4) = w0 at *
 refine (clampBoth_any a b _).mono ?_
 rintro e w1 ⟨rfl, hB1⟩
 have hT1 := hT.later hB1
 clear hT hB1
 obtain ⟨x, hx⟩ : ∃ x, cutI a = x := ⟨_, rfl⟩
 obtain ⟨y, hy⟩ : ∃ y, cutI b = y := ⟨_, rfl⟩
 obtain ⟨c, hc⟩ : ∃ c, (cutB a || cutB b) = c := ⟨_, rfl⟩
 have bx := cut_bd a
 rw [hx] at bx
 rw [hy] at hy0
 rw [hx, hy, hc]
 obtain ⟨bx1, bx2⟩ := bx
 obtain ⟨bm1, bm2⟩ := scale_bd bx1 bx2
 have HX := Lib.hid hx
 have HY := Lib.hid hy
 have HC := Lib.hid hc
 clear hx hy hc
 have hw : IntKind.i64.wrap (x * 1048576) = x * 1048576 := IntWalk.i64_in _ (by omega)
 have hyd : (y == 0) = false := by simpa using hy0
 have hy1 : ¬ y = 0 := hy0
 have hp := hT1.p
 have hq := hT1.q
 have fp := hT1.fp
 have fq := hT1.fq
 go_wp2_with fail
 have hT2 := hT1.putq c
 clear hp hq fp fq hT1
 generalize w1.setCell ⟨w.heap.size + 1, 0, none⟩ (.bool c) = w2 at *
 have hp := hT2.p
 have hq := hT2.q
 have fp := hT2.fp
 have fq := hT2.fq
 refine wp_region_noPanic ?_
 go_region_with (go_at_call 106; (with_reducible refine (over_any (x * 1048576) y _ hy1 (by omega) (by omega)).mono ?_); rintro e w2 ⟨rfl, nq, rfl⟩)
 all_goals
  refine NoPanic.normal ?_
  have hT3 := (((hT2.drewN (1 + nq)).putp (.int .i64 (flo (x * 1048576) y))).putq c)
  clear hp hq fp fq
  generalize ((w2.drewN (1 + nq)).setCell ⟨w.heap.size, 0, none⟩ (.int .i64 (flo (x * 1048576) y))).setCell ⟨w.heap.size + 1, 0, none⟩ (.bool c) = w3 at *
  go_wp2
  refine hT3.door (fun w' kp kq hb => ?_)
  exact ⟨.tuple #[.int .i64 (cutI (flo (x * 1048576) y)), .bool (c || cutB (flo (x * 1048576) y)), .int .i64 0], by simp [results, Try.results77, go_sem, kp, kq], by rw [HX.out, HY.out, HC.out], hb⟩
/-- The square root of a number of steps, and no error, are handed back. -/
def PSqrt (a : Int) (w : World) (e : Ending) (w' : World) : Prop :=
 ∃ R : Nat, R * R ≤ (cutI a * 1048576).natAbs ∧ (cutI a * 1048576).natAbs < (R + 1) * (R + 1) ∧ R ≤ 47453132 ∧ e = .returned (.tuple #[.int .i64 R, .bool (cutB a), .int .i64 0]) ∧ Below w.heap.size w w'
theorem root_bd {R N : Nat} (h : R * R ≤ N) (hN : N ≤ 2251799812636672) : R ≤ 47453132 := by
 refine Nat.le_of_not_lt fun hlt => ?_
 have := Nat.mul_le_mul (show 47453133 ≤ R from hlt) (show 47453133 ≤ R from hlt)
 omega
theorem cut_sign {a : Int} : (cutI a < 0 ↔ a < 0) := by unfold cutI; omega
theorem len_two {w : World} {bl : Bool} {a : Option Addr} {n c : Nat} {z : Int} (h : Num w bl a n c z) (hz : z.natAbs < 18446744073709551616) : n ≤ 10000000 :=
 Nat.le_trans (fit_le h.fit (two_lt hz)) (by omega)
theorem small_is {z : Int} (h1 : -9223372036854775808 ≤ z) (h2 : z ≤ 9223372036854775807) : smallV z = z ∧ smallB z = true := by
 unfold smallV smallB
 exact ⟨if_pos ⟨h1, h2⟩, decide_eq_true ⟨h1, h2⟩⟩
theorem new_below (w : World) (o : Obj) : Below w.heap.size w (w.alloc o) := (Below.refl _ _).alloc (Nat.le_refl _) _
set_option maxHeartbeats 1600000 in
theorem fxSqrt_pos (a : Int) (w : World) (ha : 0 ≤ a) : Calls Try.prog 111 #[.int .i64 a] w (PSqrt a w) := by
 have bx := cut_bd a
 have hx0 : ¬ cutI a < 0 := by rw [cut_sign]; omega
 go_enter_defers Try.func111, Try.ntmps111
 go_wp2_with fail
 have hT := two_mk w 2 4
 generalize (w.alloc (.cells #[.int .i64 0] 2)).alloc (.cells #[.bool false] 4) = w0 at *
 refine (Clamp_any a _).mono ?_
 rintro e w1 ⟨rfl, hB1⟩
 have hT1 := hT.later hB1
 clear hT hB1
 obtain ⟨x, hx⟩ : ∃ x, cutI a = x := ⟨_, rfl⟩
 obtain ⟨c, hc⟩ : ∃ c, cutB a = c := ⟨_, rfl⟩
 rw [hx] at bx hx0
 rw [hx, hc]
 obtain ⟨bx1, bx2⟩ := bx
 obtain ⟨bm1, bm2⟩ := scale_bd bx1 bx2
 have HX := Lib.hid hx
 have HC := Lib.hid hc
 clear hx hc
 have hp := hT1.p
 have hq := hT1.q
 have fp := hT1.fp
 have fq := hT1.fq
 go_wp2_with fail
 have hT2 := hT1.putq c
 clear hp hq fp fq hT1
 generalize w1.setCell ⟨w.heap.size + 1, 0, none⟩ (.bool c) = w2 at *
 refine (Of_any (x * 1048576) _ (by omega) (by omega)).mono ?_
 rintro e w3 ⟨b3, a3, n3, c3, rfl, hN3, _, hB3⟩
 have hb3 : b3 = false := by rw [hN3.sgn]; simp; omega
 subst hb3
 have hT3 := hT2.later hB3
 clear hT2 hB3
 go_wp2_with fail
 refine (Root_pos a3 n3 c3 _ _ hN3 (len_two hN3 (by omega))).mono ?_
 rintro e w4 ⟨R, hR1, hR2, b4, a4, n4, c4, rfl, hN4, _, hB4⟩
 have hRb := root_bd hR1 (by omega)
 have HR := Lib.hid (And.intro hR1 hR2)
 clear hR1 hR2
 have hT4 := hT3.later (hB4.trans ((new_below w4 (.cells #[.bool b4, .slice a4 n4 c4] 113)).mono hB4.size))
 have hM4 := hN4.below (new_below w4 (.cells #[.bool b4, .slice a4 n4 c4] 113))
 have hn4 := len_two hN4 (by omega)
 clear hT3 hB4 hN3 hN4
 go_wp2_with fail
 generalize w4.alloc (.cells #[.bool b4, .slice a4 n4 c4] 113) = w5 at *
 refine (Small_any b4 a4 n4 c4 (R : Int) _ hM4 hn4).mono ?_
 rintro e w6 ⟨rfl, hB6⟩
 rw [(small_is (z := (R : Int)) (by omega) (by omega)).1, (small_is (z := (R : Int)) (by omega) (by omega)).2]
 have hT6 := hT4.later hB6
 have hp := hT6.p
 have hq := hT6.q
 have fp := hT6.fp
 have fq := hT6.fq
 clear hT4 hB6 hM4
 go_wp2
 have hT7 := ((hT6.putp (.int .i64 R)).putp (.int .i64 R)).putq c
 refine hT7.door (fun w' kp kq hb => ?_)
 have hcR := cut_in (n := (R : Int)) (by omega) (by omega)
 rw [hcR.1] at kp
 rw [hcR.2, Bool.or_false] at kq
 exact ⟨.tuple #[.int .i64 R, .bool c, .int .i64 0], by simp [results, Try.results111, go_sem, kp, kq], R, by rw [HX.out]; exact HR.out.1, by rw [HX.out]; exact HR.out.2, hRb, by rw [HC.out], hb⟩
end Go.Proofs.Ytpahkpcoinbgcaa

/- Spans: what comes of them, as numbers (no walk). -/
namespace Go.Proofs.Ytpahkpcoinbgcaa
open Go.RowKit
/-- A span, by its fields. -/
structure Sp where
 lo : Int
 hi : Int
 all : Bool
/-- The whole line. -/
def lineS : Sp := ⟨0, 0, true⟩
/-- May a span be, and is it not the whole line? -/
def okB (x : Sp) : Bool := decide (-2147483647 ≤ x.lo) && decide (x.lo ≤ x.hi) && decide (x.hi ≤ 2147483647) && !x.all
theorem ok_of {x : Sp} (h : okB x = true) : -2147483647 ≤ x.lo ∧ x.lo ≤ x.hi ∧ x.hi ≤ 2147483647 ∧ x.all = false := by
 unfold okB at h
 simp only [Bool.and_eq_true, decide_eq_true_eq, Bool.not_eq_true'] at h
 exact ⟨h.1.1.1, h.1.1.2, h.1.2, h.2⟩
theorem ok_mk {x : Sp} (h1 : -2147483647 ≤ x.lo) (h2 : x.lo ≤ x.hi) (h3 : x.hi ≤ 2147483647) (h4 : x.all = false) : okB x = true := by
 unfold okB
 simp only [Bool.and_eq_true, decide_eq_true_eq, Bool.not_eq_true']
 exact ⟨⟨⟨h1, h2⟩, h3⟩, h4⟩
/-- A span as all calls take it. -/
def mkS (x : Sp) : Sp := if okB x then x else lineS
theorem mkS_ok {x : Sp} (h : okB x = true) : mkS x = x := if_pos h
theorem mkS_no {x : Sp} (h : okB x = false) : mkS x = lineS := by unfold mkS; rw [h]; rfl
theorem okB_mk (x : Sp) : okB (mkS x) = okB x := by
 cases h : okB x
 ·
  rw [mkS_no h]; rfl
 ·
  rw [mkS_ok h, h]
def ofS (a b : Int) : Sp := mkS ⟨min a b, max a b, false⟩
theorem ofS_le {a b : Int} (h : a ≤ b) : ofS a b = mkS ⟨a, b, false⟩ := by
 unfold ofS
 rw [Int.min_eq_left h, Int.max_eq_right h]
theorem ofS_ge {a b : Int} (h : b ≤ a) : ofS a b = mkS ⟨b, a, false⟩ := by
 unfold ofS
 rw [Int.min_eq_right h, Int.max_eq_left h]
def hasB (x : Sp) (n : Int) : Bool := !okB x || (decide (x.lo ≤ n) && decide (n ≤ x.hi))
def joinS (x y : Sp) : Sp := if okB x && okB y then ⟨min x.lo y.lo, max x.hi y.hi, false⟩ else lineS
def midS (x : Sp) : Int := if okB x then (x.lo + x.hi) / 2 else 0
def radS (x : Sp) : Int := if okB x then x.hi - (x.lo + x.hi) / 2 else 2147483647
def negS (x : Sp) : Sp := if okB x then ⟨-x.hi, -x.lo, false⟩ else lineS
def min4 (x y : Sp) : Int := min (min (min (x.lo * y.lo) (x.lo * y.hi)) (x.hi * y.lo)) (x.hi * y.hi)
def max4 (x y : Sp) : Int := max (max (max (x.lo * y.lo) (x.lo * y.hi)) (x.hi * y.lo)) (x.hi * y.hi)
/-- What comes of two spans by a rule, from their ends. -/
def endsS (R : Int → Int → Sp) (x y : Sp) : Sp := if okB x && okB y then joinS (joinS (joinS (joinS (R x.lo y.lo) (R x.lo y.lo)) (R x.lo y.hi)) (R x.hi y.lo)) (R x.hi y.hi) else lineS
/-- The span of a sum; of a product; of a quotient. -/
def addR (a b : Int) : Sp := mkS ⟨a + b, a + b, false⟩
def mulR (a b : Int) : Sp := mkS ⟨a * b / 1048576, -(-(a * b) / 1048576), false⟩
def divR (a b : Int) : Sp := mkS ⟨flo (a * 1048576) b, -flo (-(a * 1048576)) b, false⟩
def addS (x y : Sp) : Sp := endsS addR x y
def mulS (x y : Sp) : Sp := endsS mulR x y
def divS (x y : Sp) : Sp := if hasB y 0 then lineS else endsS divR x y
def sqrS (x : Sp) : Sp := if okB x then (if x.lo ≤ 0 ∧ 0 ≤ x.hi then joinS (joinS (mulR x.lo x.lo) (mulR x.hi x.hi)) ⟨0, 0, false⟩ else joinS (mulR x.lo x.lo) (mulR x.hi x.hi)) else lineS
theorem okB_join {x y : Sp} : okB (joinS x y) = (okB x && okB y) := by
 unfold joinS
 cases hx : okB x
 ·
  rfl
 ·
  cases hy : okB y
  ·
   rfl
  ·
   obtain ⟨a1, a2, a3, _⟩ := ok_of hx
   obtain ⟨b1, b2, b3, _⟩ := ok_of hy
   refine ok_mk ?_ ?_ ?_ rfl
   ·
    show _ ≤ min x.lo y.lo; omega
   ·
    show min x.lo y.lo ≤ max x.hi y.hi; omega
   ·
    show max x.hi y.hi ≤ _; omega
theorem join_ok {x y : Sp} (hx : okB x = true) (hy : okB y = true) : joinS x y = ⟨min x.lo y.lo, max x.hi y.hi, false⟩ := by unfold joinS; rw [hx, hy]; rfl
theorem join_no {x y : Sp} (h : (okB x && okB y) = false) : joinS x y = lineS := by unfold joinS; rw [h]; rfl
/-- Four spans of ends, joined: the whole line, or the least and the greatest. -/
theorem ends_ok {R : Int → Int → Sp} {x y : Sp} (hx : okB x = true) (hy : okB y = true) (h1 : okB (R x.lo y.lo) = true) (h2 : okB (R x.lo y.hi) = true) (h3 : okB (R x.hi y.lo) = true) (h4 : okB (R x.hi y.hi) = true) :
  endsS R x y = ⟨min (min (min (R x.lo y.lo).lo (R x.lo y.hi).lo) (R x.hi y.lo).lo) (R x.hi y.hi).lo, max (max (max (R x.lo y.lo).hi (R x.lo y.hi).hi) (R x.hi y.lo).hi) (R x.hi y.hi).hi, false⟩ := by
 unfold endsS
 rw [hx, hy]
 have e1 : okB (joinS (R x.lo y.lo) (R x.lo y.lo)) = true := by rw [okB_join, h1]; rfl
 have e2 : okB (joinS (joinS (R x.lo y.lo) (R x.lo y.lo)) (R x.lo y.hi)) = true := by rw [okB_join, e1, h2]; rfl
 have e3 : okB (joinS (joinS (joinS (R x.lo y.lo) (R x.lo y.lo)) (R x.lo y.hi)) (R x.hi y.lo)) = true := by rw [okB_join, e2, h3]; rfl
 show joinS _ _ = _
 rw [join_ok e3 h4, join_ok e2 h3, join_ok e1 h2, join_ok h1 h1]
 show Sp.mk (min (min (min (min _ _) _) _) _) (max (max (max (max _ _) _) _) _) _ = _
 rw [Int.min_self, Int.max_self]
theorem ends_no {R : Int → Int → Sp} {x y : Sp} (h : (okB x && okB y && okB (R x.lo y.lo) && okB (R x.lo y.hi) && okB (R x.hi y.lo) && okB (R x.hi y.hi)) = false) : endsS R x y = lineS := by
 unfold endsS
 cases hx : okB x
 ·
  rfl
 ·
  cases hy : okB y
  ·
   rfl
  ·
   show joinS _ _ = _
   refine join_no ?_
   rw [okB_join, okB_join, okB_join]
   rw [hx, hy] at h
   revert h
   cases okB (R x.lo y.lo) <;> cases okB (R x.lo y.hi) <;> cases okB (R x.hi y.lo) <;> cases okB (R x.hi y.hi) <;> simp
theorem ends_cases (R : Int → Int → Sp) (x y : Sp) : endsS R x y = lineS ∨ (okB (endsS R x y) = true ∧ okB x = true ∧ okB y = true ∧ okB (R x.lo y.lo) = true ∧ okB (R x.lo y.hi) = true ∧ okB (R x.hi y.lo) = true ∧ okB (R x.hi y.hi) = true ∧
  endsS R x y = ⟨min (min (min (R x.lo y.lo).lo (R x.lo y.hi).lo) (R x.hi y.lo).lo) (R x.hi y.hi).lo, max (max (max (R x.lo y.lo).hi (R x.lo y.hi).hi) (R x.hi y.lo).hi) (R x.hi y.hi).hi, false⟩) := by
 cases h0 : (okB x && okB y && okB (R x.lo y.lo) && okB (R x.lo y.hi) && okB (R x.hi y.lo) && okB (R x.hi y.hi))
 ·
  exact .inl (ends_no h0)
 ·
  simp only [Bool.and_eq_true] at h0
  have e := ends_ok h0.1.1.1.1.1 h0.1.1.1.1.2 h0.1.1.1.2 h0.1.1.2 h0.1.2 h0.2
  refine .inr ⟨?_, h0.1.1.1.1.1, h0.1.1.1.1.2, h0.1.1.1.2, h0.1.1.2, h0.1.2, h0.2, e⟩
  rw [e]
  obtain ⟨a1, a2, a3, _⟩ := ok_of h0.1.1.1.2
  obtain ⟨b1, b2, b3, _⟩ := ok_of h0.1.1.2
  obtain ⟨c1, c2, c3, _⟩ := ok_of h0.1.2
  obtain ⟨d1, d2, d3, _⟩ := ok_of h0.2
  refine ok_mk ?_ ?_ ?_ rfl
  ·
   show _ ≤ min (min (min _ _) _) _; omega
  ·
   show min (min (min _ _) _) _ ≤ max (max (max _ _) _) _; omega
  ·
   show max (max (max _ _) _) _ ≤ _; omega
/-- Products of what lies between ends lie between those of the ends. -/
theorem mul_ends {a lo hi b : Int} (h1 : lo ≤ a) (h2 : a ≤ hi) : min (lo * b) (hi * b) ≤ a * b ∧ a * b ≤ max (lo * b) (hi * b) := by
 rcases Int.le_total 0 b with h | h
 ·
  have e1 := Int.mul_le_mul_of_nonneg_right h1 h
  have e2 := Int.mul_le_mul_of_nonneg_right h2 h
  omega
 ·
  have e1 := Int.mul_le_mul_of_nonpos_right h1 h
  have e2 := Int.mul_le_mul_of_nonpos_right h2 h
  omega
theorem bil {x y : Sp} {a b : Int} (h1 : x.lo ≤ a) (h2 : a ≤ x.hi) (h3 : y.lo ≤ b) (h4 : b ≤ y.hi) : min4 x y ≤ a * b ∧ a * b ≤ max4 x y := by
 have e1 := mul_ends (b := b) h1 h2
 have e2 := mul_ends (b := x.lo) h3 h4
 have e3 := mul_ends (b := x.hi) h3 h4
 rw [Int.mul_comm y.lo, Int.mul_comm y.hi, Int.mul_comm b] at e2 e3
 unfold min4 max4
 omega
theorem mulR_of {a b : Int} (h : okB (mulR a b) = true) : mulR a b = ⟨a * b / 1048576, -(-(a * b) / 1048576), false⟩ := by
 unfold mulR at h ⊢
 rw [okB_mk] at h
 exact mkS_ok h
theorem mul_cases (x y : Sp) : mulS x y = lineS ∨ (okB (mulS x y) = true ∧ okB x = true ∧ okB y = true ∧ mulS x y = ⟨min4 x y / 1048576, -(-max4 x y / 1048576), false⟩) := by
 unfold mulS
 rcases ends_cases mulR x y with h | ⟨h, hx, hy, h1, h2, h3, h4, e⟩
 ·
  exact .inl h
 ·
  refine .inr ⟨h, hx, hy, ?_⟩
  rw [e, mulR_of h1, mulR_of h2, mulR_of h3, mulR_of h4]
  unfold min4 max4
  generalize x.lo * y.lo = p
  generalize x.lo * y.hi = q
  generalize x.hi * y.lo = r
  generalize x.hi * y.hi = s
  congr 1
  ·
   show min (min (min (_ / _) (_ / _)) (_ / _)) (_ / _) = _; omega
  ·
   show max (max (max (-(_ / _)) (-(_ / _))) (-(_ / _))) (-(_ / _)) = _; omega
theorem flo_pos {a b : Int} (h : 0 < b) : flo a b = a / b := if_pos h
theorem sq_pos (a : Int) : 0 ≤ a * a := by
 rcases Int.le_total 0 a with h0 | h0
 ·
  exact Int.mul_nonneg h0 h0
 ·
  have := Int.mul_nonneg (a := -a) (b := -a) (by omega) (by omega)
  rw [Int.neg_mul_neg] at this
  exact this
/-- The root: the greatest number whose square is not above. -/
def isq : Nat → Nat
 | 0 => 0
 | n + 1 => if (isq n + 1) * (isq n + 1) ≤ n + 1 then isq n + 1 else isq n
theorem isq_spec (N : Nat) : isq N * isq N ≤ N ∧ N < (isq N + 1) * (isq N + 1) := by
 induction N with
 | zero => exact ⟨Nat.le_refl _, by decide⟩
 | succ n ih =>
  unfold isq
  generalize isq n = r at *
  have e1 : (r + 1 + 1) * (r + 1 + 1) = (r + 1) * (r + 1) + 2 * r + 3 := by rw [Nat.add_mul (r + 1) 1, Nat.mul_add (r + 1) (r + 1)]; omega
  split
  ·
   next h => exact ⟨h, by omega⟩
  ·
   next h => exact ⟨by omega, by omega⟩
theorem isq_uniq {N R : Nat} (h1 : R * R ≤ N) (h2 : N < (R + 1) * (R + 1)) : R = isq N := by
 obtain ⟨k1, k2⟩ := isq_spec N
 have key : ∀ a b : Nat, a * a ≤ N → N < (b + 1) * (b + 1) → a ≤ b := by
  intro a b ha hb
  refine Nat.le_of_not_lt fun hc => ?_
  have := Nat.mul_le_mul (show b + 1 ≤ a from hc) (show b + 1 ≤ a from hc)
  omega
 have := key R _ h1 k2
 have := key _ R k1 h2
 omega
/-- The root of a fixed number not below 0, rounded down, and up. -/
def rtN (a : Int) : Nat := isq (a * 1048576).natAbs
def rootS (a : Int) : Sp := if ((rtN a : Nat) : Int) * ((rtN a : Nat) : Int) = a * 1048576 then mkS ⟨rtN a, rtN a, false⟩ else mkS ⟨rtN a, rtN a + 1, false⟩
def sqrtS (x : Sp) : Sp := if okB x && decide (0 ≤ x.hi) then joinS (rootS (max x.lo 0)) (rootS x.hi) else lineS
theorem rt_of {a : Int} (h : 0 ≤ a) : ((rtN a : Nat) : Int) * ((rtN a : Nat) : Int) ≤ a * 1048576 ∧ a * 1048576 < (((rtN a : Nat) : Int) + 1) * (((rtN a : Nat) : Int) + 1) := by
 obtain ⟨k1, k2⟩ := isq_spec (a * 1048576).natAbs
 unfold rtN
 generalize isq (a * 1048576).natAbs = r at *
 have e1 : ((r : Int) + 1) * ((r : Int) + 1) = (((r + 1) * (r + 1) : Nat) : Int) := by rw [Int.natCast_mul]; rfl
 rw [← Int.natCast_mul, e1]
 omega
theorem rt_le {a : Int} (h : 0 ≤ a) (h2 : a ≤ 2147483647) : rtN a ≤ 47453132 := by
 obtain ⟨k1, _⟩ := isq_spec (a * 1048576).natAbs
 refine Nat.le_of_not_lt fun hlt => ?_
 have := Nat.mul_le_mul (show 47453133 ≤ rtN a from hlt) (show 47453133 ≤ rtN a from hlt)
 unfold rtN at this
 omega
theorem root_of {a : Int} (h : 0 ≤ a) (h2 : a ≤ 2147483647) : okB (rootS a) = true ∧ 0 ≤ (rootS a).lo ∧ (rootS a).lo * (rootS a).lo ≤ a * 1048576 ∧ 0 ≤ (rootS a).hi ∧ a * 1048576 ≤ (rootS a).hi * (rootS a).hi := by
 have hl := rt_le h h2
 have hr := rt_of h
 unfold rootS
 generalize rtN a = r at *
 split
 ·
  next he =>
  have hk : okB ⟨(r : Int), r, false⟩ = true := ok_mk (by show _ ≤ (r : Int); omega) (Int.le_refl _) (by show (r : Int) ≤ _; omega) rfl
  rw [mkS_ok hk]
  exact ⟨hk, by show 0 ≤ (r : Int); omega, hr.1, by show 0 ≤ (r : Int); omega, by show _ ≤ (r : Int) * r; omega⟩
 ·
  next he =>
  have hk : okB ⟨(r : Int), (r : Int) + 1, false⟩ = true := ok_mk (by show _ ≤ (r : Int); omega) (by show (r : Int) ≤ (r : Int) + 1; omega) (by show (r : Int) + 1 ≤ _; omega) rfl
  rw [mkS_ok hk]
  exact ⟨hk, by show 0 ≤ (r : Int); omega, hr.1, by show 0 ≤ (r : Int) + 1; omega, by show _ ≤ ((r : Int) + 1) * ((r : Int) + 1); omega⟩
end Go.Proofs.Ytpahkpcoinbgcaa
