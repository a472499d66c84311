/- Fixed numbers: the walk of over, the greatest whole number not above a quotient. -/
import Derived.Test.YtpahkpcoinbgcaaGr9
import Derived.Test.YtpahkpcoinbgcaaGr4
import Derived.IntWalk
import Derived.Test.YtpahkpcoinbgcaaGr5
namespace Go.Proofs.Ytpahkpcoinbgcaa
open Go.RowKit

/-- A value is handed back, and the world is as it was but for the count of draws. -/
def PQuiet (v : Value) (w : World) (e : Ending) (w' : World) : Prop := e = .returned v ∧ ∃ n, w' = w.drewN n
/-- The greatest whole number not above a / b. -/
def flo (a b : Int) : Int := if 0 < b then a / b else (-a) / (-b)
theorem tq (a b : Int) : b * a.tdiv b + a.tmod b = a := Int.mul_tdiv_add_tmod a b
theorem tr_abs (a b : Int) (h : b ≠ 0) : (a.tmod b).natAbs < b.natAbs := by
  rw [Int.natAbs_tmod]; exact Nat.mod_lt _ (by omega)
theorem tr_pos (a b : Int) (h : 0 ≤ a) : 0 ≤ a.tmod b := Int.tmod_nonneg b h
theorem tr_neg (a b : Int) (h : a ≤ 0) : a.tmod b ≤ 0 := by
  have := Int.tmod_nonneg (a := -a) b (by omega)
  rw [Int.neg_tmod] at this; omega
theorem flo_of {a b q r : Int} (h : b * q + r = a) (hp : 0 < b → 0 ≤ r ∧ r < b) (hn : b < 0 → b < r ∧ r ≤ 0) (hb : b ≠ 0) : flo a b = q := by
  unfold flo
  split
  · rename_i h0
    exact ((Int.ediv_emod_unique h0).2 ⟨by rw [Int.add_comm]; exact h, hp h0⟩).1
  · have h0 : 0 < -b := by omega
    have := hn (by omega)
    exact ((Int.ediv_emod_unique (r := -r) h0).2 ⟨by rw [Int.neg_mul]; omega, by omega, by omega⟩).1
theorem flo_same {a b : Int} (hb : b ≠ 0) (h : a.tmod b = 0 ∨ (a.tmod b < 0 ↔ b < 0)) : flo a b = a.tdiv b := by
  have := tr_abs a b hb
  refine flo_of (tq a b) (fun h0 => ?_) (fun h0 => ?_) hb
  · rcases h with h | h <;> omega
  · rcases h with h | h <;> omega
theorem flo_less {a b : Int} (hb : b ≠ 0) (h0 : a.tmod b ≠ 0) (h : ¬ (a.tmod b < 0 ↔ b < 0)) : flo a b = a.tdiv b - 1 := by
  have := tr_abs a b hb
  refine flo_of (r := a.tmod b + b) (by have := tq a b; rw [Int.mul_sub]; omega) (fun h0 => ?_) (fun h0 => ?_) hb <;> omega
theorem tdiv_bd (a b : Int) (h1 : -4611686018427387904 ≤ a) (h2 : a ≤ 4611686018427387904) : -4611686018427387904 ≤ a.tdiv b ∧ a.tdiv b ≤ 4611686018427387904 := by
  have h : (a.tdiv b).natAbs ≤ a.natAbs := by rw [Int.natAbs_tdiv]; exact Nat.div_le_self _ _
  omega

set_option maxHeartbeats 800000 in
theorem over_any (a b : Int) (w : World) (hb : ¬ b = 0) (h1 : -4611686018427387904 ≤ a) (h2 : a ≤ 4611686018427387904) :
    Calls Try.prog 106 #[.int .i64 a, .int .i64 b] w (PQuiet (.int .i64 (flo a b)) w) := by
  have hs := @flo_same a b hb
  have hl := @flo_less a b hb
  have hbd := tdiv_bd a b h1 h2
  obtain ⟨q, hq⟩ : ∃ q, a.tdiv b = q := ⟨_, rfl⟩
  obtain ⟨r, hr⟩ : ∃ r, a.tmod b = r := ⟨_, rfl⟩
  rw [hq] at hs hl hbd
  rw [hr] at hs hl
  obtain ⟨hq1, hq2⟩ := hbd
  have hw : IntKind.i64.wrap q = q := IntWalk.i64_in _ (by omega)
  have HS := Lib.hid hs
  have HL := Lib.hid hl
  clear hs hl
  go_enter Try.func106, Try.ntmps106
  go_wp2_with fail
  go_quiet (fail)
  clear hq hr hw
  rcases Int.lt_trichotomy r 0 with h | h | h
  · have r0 : (r == 0) = false := by simp; omega
    have r0' : (r != 0) = true := by simp; omega
    have hd : decide (r < 0) = true := decide_eq_true h
    rcases Int.lt_or_le b 0 with k | k
    · have hdb : decide (b < 0) = true := decide_eq_true k
      have HE : Hid (flo a b = q) := HS.out (.inr ⟨fun _ => k, fun _ => h⟩)
      go_wp2
      go_ret
      exact ⟨ret_int HE.out.symm, nq, rfl⟩
    · have hdb : decide (b < 0) = false := decide_eq_false (by omega)
      have HE : Hid (flo a b = q - 1) := HL.out (by omega) (fun e => by have := e.1 h; omega)
      go_wp2
      go_ret
      exact ⟨ret_int HE.out.symm, nq, rfl⟩
  · subst h
    have HE : Hid (flo a b = q) := HS.out (.inl rfl)
    go_wp2
    go_ret
    exact ⟨ret_int HE.out.symm, nq, rfl⟩
  · have r0 : (r == 0) = false := by simp; omega
    have r0' : (r != 0) = true := by simp; omega
    have hd : decide (r < 0) = false := decide_eq_false (by omega)
    rcases Int.lt_or_le b 0 with k | k
    · have hdb : decide (b < 0) = true := decide_eq_true k
      have HE : Hid (flo a b = q - 1) := HL.out (by omega) (fun e => by have := e.2 k; omega)
      go_wp2
      go_ret
      exact ⟨ret_int HE.out.symm, nq, rfl⟩
    · have hdb : decide (b < 0) = false := decide_eq_false (by omega)
      have HE : Hid (flo a b = q) := HS.out (.inr ⟨fun x => by omega, fun x => by omega⟩)
      go_wp2
      go_ret
      exact ⟨ret_int HE.out.symm, nq, rfl⟩
end Go.Proofs.Ytpahkpcoinbgcaa

/- Fixed numbers: the walks of Add, Sub, Mul, Div. -/
namespace Go.Proofs.Ytpahkpcoinbgcaa
open Go.RowKit

/-- Two places for a call's results, behind what was there. -/
structure Two (w w1 : World) (v : Value) (c : Bool) : Prop where
  below : Below w.heap.size w w1
  p : w1.cell? ⟨w.heap.size, 0, none⟩ = some v
  q : w1.cell? ⟨w.heap.size + 1, 0, none⟩ = some (.bool c)
  fp : w1.frozen? ⟨w.heap.size, 0, none⟩ = false
  fq : w1.frozen? ⟨w.heap.size + 1, 0, none⟩ = false
  sz : w.heap.size + 1 < w1.heap.size
theorem two_mk (w : World) (s t : TypeId) : Two w ((w.alloc (.cells #[.int .i64 0] s)).alloc (.cells #[.bool false] t)) (.int .i64 0) false :=
  ⟨((Below.refl _ _).alloc (Nat.le_refl _) _).alloc (by simp) _, by simp [go_sem], by simp [go_sem], by simp [go_sem], by simp [go_sem], by simp⟩
theorem Two.later {w w1 w2 : World} {v : Value} {c : Bool} (h : Two w w1 v c) (hb : Below w1.heap.size w1 w2) : Two w w2 v c :=
  ⟨h.below.trans (hb.mono h.below.size), (hb.cell (p := ⟨w.heap.size, 0, none⟩) (by have := h.sz; show w.heap.size < _; omega)).trans h.p, (hb.cell (p := ⟨w.heap.size + 1, 0, none⟩) h.sz).trans h.q,
    (hb.frozen (p := ⟨w.heap.size, 0, none⟩) (by have := h.sz; show w.heap.size < _; omega)).trans h.fp, (hb.frozen (p := ⟨w.heap.size + 1, 0, none⟩) h.sz).trans h.fq, Nat.lt_of_lt_of_le h.sz hb.size⟩

theorem Two.putq {w w1 : World} {v : Value} {c : Bool} (h : Two w w1 v c) (c' : Bool) : Two w (w1.setCell ⟨w.heap.size + 1, 0, none⟩ (.bool c')) v c' := by
  have hp := h.p
  have hq := h.q
  have fp := h.fp
  have fq := h.fq
  exact ⟨h.below.setCell (p := ⟨w.heap.size + 1, 0, none⟩) (Nat.le_succ _) _, by simp [go_sem, hp, hq], by simp [go_sem, hp, hq], by simp [go_sem, fp], by simp [go_sem, fq], by simpa [go_sem] using h.sz⟩
theorem Two.putp {w w1 : World} {v : Value} {c : Bool} (h : Two w w1 v c) (v' : Value) : Two w (w1.setCell ⟨w.heap.size, 0, none⟩ v') v' c := by
  have hp := h.p
  have hq := h.q
  have fp := h.fp
  have fq := h.fq
  exact ⟨h.below.setCell (p := ⟨w.heap.size, 0, none⟩) (Nat.le_refl _) _, by simp [go_sem, hp, hq], by simp [go_sem, hp, hq], by simp [go_sem, fp], by simp [go_sem, fq], by simpa [go_sem] using h.sz⟩
theorem Two.drewN {w w1 : World} {v : Value} {c : Bool} (h : Two w w1 v c) (n : Nat) : Two w (w1.drewN n) v c := ⟨below_drewN h.below n, h.p, h.q, h.fp, h.fq, h.sz⟩
theorem Two.drew {w w1 : World} {v : Value} {c : Bool} (h : Two w w1 v c) : Two w w1.drew v c := ⟨h.below.drew, h.p, h.q, h.fp, h.fq, h.sz⟩
/-- The door of a call that hands back two results. -/
theorem Two.door {w w1 : World} {n : Int} {c : Bool} (h : Two w w1 (.int .i64 n) c) {fn : Func} {tmps : Array Value} {R : Ending → World → Prop}
    (k : ∀ w' : World, w'.cell? ⟨w.heap.size, 0, none⟩ = some (.int .i64 (cutI n)) → w'.cell? ⟨w.heap.size + 1, 0, none⟩ = some (.bool (c || cutB n)) → Below w.heap.size w w' → Leaves Try.prog fn tmps R [] .returning w') :
    Leaves Try.prog fn tmps R [{ target := .fn (.func 103) #[], args := #[.pointer (some ⟨w.heap.size, 0, none⟩), .pointer (some ⟨w.heap.size + 1, 0, none⟩)] }] .returning w1 :=
  Go.Proofs.Ytpahkpcoinbgcaa.door w.heap.size w.heap.size (w.heap.size + 1) n c w1 h.p h.q (by omega) h.fp h.fq (Nat.le_refl _) (by omega) (fun w' hp hq hb => k w' hp hq (h.below.trans hb))
theorem Two.sets {w w1 w' : World} {v : Value} {c : Bool} (h : Two w w1 v c) {u1 u2 u3 : Value} (hb : Below w.heap.size (((w1.setCell ⟨w.heap.size + 1, 0, none⟩ u1).setCell ⟨w.heap.size, 0, none⟩ u2).setCell ⟨w.heap.size + 1, 0, none⟩ u3) w') : Below w.heap.size w w' :=
  h.below.trans ((((Below.refl w.heap.size w1).setCell (p := ⟨w.heap.size + 1, 0, none⟩) (Nat.le_succ _) _).setCell (p := ⟨w.heap.size, 0, none⟩) (Nat.le_refl _) _).setCell (p := ⟨w.heap.size + 1, 0, none⟩) (Nat.le_succ _) _ |>.trans hb)

set_option maxHeartbeats 800000 in
theorem fxAdd_any (a b : Int) (w : World) : Calls Try.prog 72 #[.int .i64 a, .int .i64 b] w (PVal2 (.int .i64 (cutI (cutI a + cutI b))) (.bool (cutB a || cutB b || cutB (cutI a + cutI b))) w) := by
  go_enter_defers Try.func72, Try.ntmps72
  go_wp2_with fail
  have hT := two_mk w 2 4
  generalize (w.alloc (.cells #[.int .i64 0] 2)).alloc (.cells #[.bool false] 4) = w0 at *
  refine (clampBoth_any a b _).mono ?_
  rintro e w1 ⟨rfl, hB1⟩
  have hT1 := hT.later hB1
  clear hT hB1
  obtain ⟨x, hx⟩ : ∃ x, cutI a = x := ⟨_, rfl⟩
  obtain ⟨y, hy⟩ : ∃ y, cutI b = y := ⟨_, rfl⟩
  obtain ⟨c, hc⟩ : ∃ c, (cutB a || cutB b) = c := ⟨_, rfl⟩
  have bx := cut_bd a
  have by' := cut_bd b
  rw [hx] at bx
  rw [hy] at by'
  rw [hx, hy, hc]
  obtain ⟨bx1, bx2⟩ := bx
  obtain ⟨by1, by2⟩ := by'
  have HX := Lib.hid hx
  have HY := Lib.hid hy
  have HC := Lib.hid hc
  clear hx hy hc
  have hp := hT1.p
  have hq := hT1.q
  have fp := hT1.fp
  have fq := hT1.fq
  go_wp2
  refine door w.heap.size w.heap.size (w.heap.size + 1) (x + y) c _ (by simp [go_sem, hp, hq]) (by simp [go_sem, hp, hq]) (by omega) (by simp [go_sem, fp, fq]) (by simp [go_sem, fp, fq]) (Nat.le_refl _) (by omega) (fun w' kp kq hb => ?_)
  exact ⟨.tuple #[.int .i64 (cutI (x + y)), .bool (c || cutB (x + y))], by simp [results, Try.results72, go_sem, kp, kq], by rw [HX.out, HY.out, HC.out], hT1.sets hb⟩

theorem mul_bd {x y : Int} (bx1 : -2147483647 ≤ x) (bx2 : x ≤ 2147483647) (by1 : -2147483647 ≤ y) (by2 : y ≤ 2147483647) : -4611686018427387904 ≤ x * y ∧ x * y ≤ 4611686018427387904 := by
  have h : (x * y).natAbs ≤ 2147483647 * 2147483647 := by rw [Int.natAbs_mul]; exact Nat.mul_le_mul (by omega) (by omega)
  omega

set_option maxHeartbeats 1600000 in
theorem fxMul_any (a b : Int) (w : World) : Calls Try.prog 105 #[.int .i64 a, .int .i64 b] w (PVal2 (.int .i64 (cutI (flo (cutI a * cutI b) 1048576))) (.bool (cutB a || cutB b || cutB (flo (cutI a * cutI b) 1048576))) w) := by
  go_enter_defers Try.func105, Try.ntmps105
  go_wp2_with fail
  have hT := two_mk w 2 4
  generalize (w.alloc (.cells #[.int .i64 0] 2)).alloc (.cells #[.bool false] 4) = w0 at *
  refine (clampBoth_any a b _).mono ?_
  rintro e w1 ⟨rfl, hB1⟩
  have hT1 := hT.later hB1
  clear hT hB1
  obtain ⟨x, hx⟩ : ∃ x, cutI a = x := ⟨_, rfl⟩
  obtain ⟨y, hy⟩ : ∃ y, cutI b = y := ⟨_, rfl⟩
  obtain ⟨c, hc⟩ : ∃ c, (cutB a || cutB b) = c := ⟨_, rfl⟩
  have bx := cut_bd a
  have by' := cut_bd b
  rw [hx] at bx
  rw [hy] at by'
  rw [hx, hy, hc]
  obtain ⟨bm1, bm2⟩ := mul_bd bx.1 bx.2 by'.1 by'.2
  have HX := Lib.hid hx
  have HY := Lib.hid hy
  have HC := Lib.hid hc
  clear hx hy hc bx by'
  have hw : IntKind.i64.wrap (x * y) = x * y := IntWalk.i64_in _ (by omega)
  have hp := hT1.p
  have hq := hT1.q
  have fp := hT1.fp
  have fq := hT1.fq
  go_wp2_with fail
  have hT2 := hT1.putq c
  clear hp hq fp fq hT1
  generalize w1.setCell ⟨w.heap.size + 1, 0, none⟩ (.bool c) = w2 at *
  have hq := hT2.q
  have fp := hT2.fp
  have fq := hT2.fq
  have hp := hT2.p
  refine wp_region_noPanic ?_
  go_region_with (go_at_call 106; (with_reducible refine (over_any (x * y) 1048576 _ (by decide) bm1 bm2).mono ?_); rintro e w2 ⟨rfl, nq, rfl⟩)
  all_goals
    refine NoPanic.normal ?_
    have hT3 := (((hT2.drewN (1 + nq)).putp (.int .i64 (flo (x * y) 1048576))).putq c)
    clear hp hq fp fq
    generalize ((w2.drewN (1 + nq)).setCell ⟨w.heap.size, 0, none⟩ (.int .i64 (flo (x * y) 1048576))).setCell ⟨w.heap.size + 1, 0, none⟩ (.bool c) = w3 at *
    go_wp2
    refine hT3.door (fun w' kp kq hb => ?_)
    exact ⟨.tuple #[.int .i64 (cutI (flo (x * y) 1048576)), .bool (c || cutB (flo (x * y) 1048576))], by simp [results, Try.results105, go_sem, kp, kq], by rw [HX.out, HY.out, HC.out], hb⟩
end Go.Proofs.Ytpahkpcoinbgcaa

/- The walk of Small. -/
namespace Go.Proofs.Ytpahkpcoinbgcaa
open Go.RowKit

/-- A number as an int64, and whether it is one. -/
def smallV (z : Int) : Int := if -9223372036854775808 ≤ z ∧ z ≤ 9223372036854775807 then z else 0
def smallB (z : Int) : Bool := decide (-9223372036854775808 ≤ z ∧ z ≤ 9223372036854775807)

theorem ret2 {k : IntKind} {a b : Int} {c d : Bool} (h : a = b) (h' : c = d) : Ending.returned (.tuple #[.int k a, .bool c]) = .returned (.tuple #[.int k b, .bool d]) := by rw [h, h']
theorem or_first (x : Nat) (h : x < 4294967296) : bits .or .u64 0 (x : Int) = (x : Int) := by
  have := u64_or_nat 0 x (by omega) (by omega)
  simpa using this
theorem or_second {x y : Nat} (h : x < 4294967296) (h' : y < 4294967296) : bits .or .u64 (x : Int) ((y : Int) * 4294967296) = ((x + 4294967296 * y : Nat) : Int) := by
  have e : ((y * 4294967296 : Nat) : Int) = (y : Int) * 4294967296 := by omega
  rw [← e, u64_or_nat x (y * 4294967296) (by omega) (by omega)]
  have h2 := Nat.two_pow_add_eq_or_of_lt (b := x) (i := 32) (by omega) y
  rw [show (2 : Nat) ^ 32 = 4294967296 from rfl] at h2
  rw [Nat.mul_comm y, Nat.or_comm, ← h2]
  omega

set_option maxRecDepth 100000 in
set_option maxHeartbeats 800000 in
theorem Small_long (bl : Bool) (a : Option Addr) (n c : Nat) (w : World) (hn : 2 < n) (hn' : n ≤ 10000000) :
    Calls Try.prog 125 #[.agg #[.bool bl, .slice a n c]] w (PVal2 (.int .i64 0) (.bool false) w) := by
  go_enter Try.func125, Try.ntmps125
  go_wp2
  go_ret2
  exact ⟨rfl, (Below.refl w.heap.size w).alloc (Nat.le_refl _) _⟩

set_option maxRecDepth 100000 in
set_option maxHeartbeats 1600000 in
theorem Small_short (bl : Bool) (a : Option Addr) (n c : Nat) (z : Int) (w : World) (h : Num w bl a n c z) (hn : n ≤ 2) :
    Calls Try.prog 125 #[.agg #[.bool bl, .slice a n c]] w (PVal2 (.int .i64 (smallV z)) (.bool (smallB z)) w) := by
  have hB := (Below.refl w.heap.size w).alloc (Nat.le_refl _) (.cells #[.bool bl, .slice a n c] 113)
  have hl := h.lie.below hB
  have hN : z.natAbs < BB ^ n := h.fit.1
  have hN2 : z.natAbs < BB ^ 2 := fit_mono hN hn
  have hs := h.sgn
  have HN := Lib.hid hN
  have HN2 := Lib.hid hN2
  have HS := Lib.hid hs
  clear h hN hN2 hs
  go_enter Try.func125, Try.ntmps125
  go_wp2
  go_loop [4, 15] (fun sv iv => ∃ k : Nat, k ≤ n ∧ iv = .int .i64 k ∧ sv = .int .u64 ((z.natAbs % BB ^ k : Nat) : Int)) (fun _ iv => n - (intOf iv).toNat)
  case atStart => exact ⟨0, Nat.zero_le _, rfl, by simp [Nat.mod_one]⟩
  case round =>
    obtain ⟨k, hk, rfl, rfl⟩ := hrel
    by_cases hlt : k < n
    · obtain ⟨b1, o1, rfl, hb1⟩ := hl.some_of_pos (by omega)
      have c1 := hl.at k hlt
      have hla := lmb_lt z.natAbs k
      have hk2 : k = 0 ∨ k = 1 := by omega
      rcases hk2 with rfl | rfl
      · have ho := or_first _ hla
        have HM : Hid (z.natAbs % BB ^ 1 = lmb z.natAbs 0) := by show _ = _; rw [mod_succ]; simp [Nat.mod_one]
        simp only [Nat.pow_zero, Nat.mod_one]
        rw [Nat.add_zero] at c1
        clear hl
        go_wp2
        go_round
        case rel => exact ⟨1, by omega, by go_num, by rw [HM.out]⟩
        case measure => simp [intOf]; omega
      · have HM : Hid (z.natAbs % BB ^ 1 = lmb z.natAbs 0) := by show _ = _; rw [mod_succ]; simp [Nat.mod_one]
        have hl0 := lmb_lt z.natAbs 0
        have ho := or_second hl0 hla
        have HM2 : Hid (z.natAbs % BB ^ 2 = lmb z.natAbs 0 + 4294967296 * lmb z.natAbs 1) := by show _ = _; rw [mod_succ, HM.out, Nat.pow_one]; rfl
        rw [HM.out]
        rw [← HM2.out] at ho
        clear hl
        go_wp2
        go_round
        case rel => exact ⟨2, by omega, rfl, by rw [Int.natCast_emod, Int.natCast_pow]⟩
        case measure => simp [intOf]; omega
    · obtain rfl : k = n := by omega
      rw [Nat.mod_eq_of_lt HN.out]
      have hNb : z.natAbs < 18446744073709551616 := HN2.out
      obtain ⟨N, hNe⟩ : ∃ N, N = z.natAbs := ⟨_, rfl⟩
      rw [← hNe] at hNb ⊢
      have HNE := Lib.hid hNe
      clear hNe hl
      cases bl
      · by_cases hc : N ≤ 9223372036854775807
        · have hd : decide ((9223372036854775807 : Int) < (N : Int)) = false := by simp; omega
          have HR : Hid ((N : Int) = smallV z ∧ smallB z = true) := by
            have h1 := HNE.out; have h2 := HS.out; simp at h2; show _ ∧ _; unfold smallV smallB; rw [if_pos (by omega)]; simp; omega
          have hNI : (N : Int) ≤ 9223372036854775807 := by omega
          clear hc
          go_wp2
          go_ret2
          exact ⟨by rw [← HR.out.1, HR.out.2]; rfl, hB⟩
        · have hd : decide ((9223372036854775807 : Int) < (N : Int)) = true := by simp; omega
          have HR : Hid (smallV z = 0 ∧ smallB z = false) := by
            have h1 := HNE.out; have h2 := HS.out; simp at h2; show _ ∧ _; unfold smallV smallB; rw [if_neg (by omega)]; simp; omega
          clear hc
          go_wp2
          go_ret2
          exact ⟨by rw [HR.out.1, HR.out.2]; rfl, hB⟩
      · by_cases hc : N ≤ 9223372036854775808
        · have hd : decide ((9223372036854775808 : Int) < (N : Int)) = false := by simp; omega
          have HR : Hid (-(N : Int) = smallV z ∧ smallB z = true) := by
            have h1 := HNE.out; have h2 := HS.out; simp at h2; show _ ∧ _; unfold smallV smallB; rw [if_pos (by omega)]; simp; omega
          have hNI : (N : Int) ≤ 9223372036854775808 := by omega
          clear hc
          have HW : Hid (wrap64 (IntKind.u64.wrap (-(N : Int))) = -(N : Int)) := by show _ = _; rw [IntKind.wrap_u64]; unfold wrap64; omega
          go_wp2
          go_ret2
          exact ⟨ret2 (HW.out.trans HR.out.1) HR.out.2.symm, hB⟩
        · have hd : decide ((9223372036854775808 : Int) < (N : Int)) = true := by simp; omega
          have HR : Hid (smallV z = 0 ∧ smallB z = false) := by
            have h1 := HNE.out; have h2 := HS.out; simp at h2; show _ ∧ _; unfold smallV smallB; rw [if_neg (by omega)]; simp; omega
          clear hc
          go_wp2
          go_ret2
          exact ⟨by rw [HR.out.1, HR.out.2]; rfl, hB⟩

theorem Small_any (bl : Bool) (a : Option Addr) (n c : Nat) (z : Int) (w : World) (h : Num w bl a n c z) (hn : n ≤ 10000000) :
    Calls Try.prog 125 #[.agg #[.bool bl, .slice a n c]] w (PVal2 (.int .i64 (smallV z)) (.bool (smallB z)) w) := by
  by_cases h2 : n ≤ 2
  · exact Small_short bl a n c z w h h2
  · have h3 : BB ^ 2 ≤ z.natAbs := by
      rcases h.fit.2 with h0 | h0
      · omega
      · exact Nat.le_trans (Nat.pow_le_pow_right BB_pos (by omega)) h0
    have h4 : (18446744073709551616 : Nat) ≤ z.natAbs := h3
    have e1 : smallV z = 0 := by unfold smallV; rw [if_neg (by omega)]
    have e2 : smallB z = false := by unfold smallB; simp; omega
    rw [e1, e2]
    exact Small_long bl a n c w (by omega) hn
end Go.Proofs.Ytpahkpcoinbgcaa

/- Fixed numbers: the walks of Div, Sqrt. -/
namespace Go.Proofs.Ytpahkpcoinbgcaa
open Go.RowKit

theorem cut_zero {b : Int} (h : b = 0) : cutI b = 0 := by subst h; rfl
theorem cut_nz {b : Int} (h : b ≠ 0) : cutI b ≠ 0 := by unfold cutI; omega
theorem scale_bd {x : Int} (h1 : -2147483647 ≤ x) (h2 : x ≤ 2147483647) : -2251799812636672 ≤ x * 1048576 ∧ x * 1048576 ≤ 2251799812636672 := by omega

set_option maxHeartbeats 1600000 in
theorem fxDiv_zero (a : Int) (w : World) : Calls Try.prog 77 #[.int .i64 a, .int .i64 0] w (PVal3 (.int .i64 0) (.bool false) (.int .i64 11) w) := by
  go_enter_defers Try.func77, Try.ntmps77
  go_wp2_with fail
  have hT := two_mk w 2 4
  generalize (w.alloc (.cells #[.int .i64 0] 2)).alloc (.cells #[.bool false] 4) = w0 at *
  refine (clampBoth_any a 0 _).mono ?_
  rintro e w1 ⟨rfl, hB1⟩
  have hT1 := hT.later hB1
  clear hT hB1
  rw [show cutI 0 = 0 from rfl]
  obtain ⟨c, hc⟩ : ∃ c, (cutB a || cutB 0) = c := ⟨_, rfl⟩
  rw [hc]
  clear hc
  have hp := hT1.p
  have hq := hT1.q
  have fp := hT1.fp
  have fq := hT1.fq
  go_wp2
  have hT3 := ((hT1.putq c).putp (.int .i64 0)).putq false
  generalize ((w1.setCell ⟨w.heap.size + 1, 0, none⟩ (.bool c)).setCell ⟨w.heap.size, 0, none⟩ (.int .i64 0)).setCell ⟨w.heap.size + 1, 0, none⟩ (.bool false) = w3 at *
  refine hT3.door (fun w' kp kq hb => ?_)
  exact ⟨.tuple #[.int .i64 (cutI 0), .bool (false || cutB 0), .int .i64 11], by simp [results, Try.results77, go_sem, kp, kq], rfl, hb⟩

set_option maxHeartbeats 1600000 in
theorem fxDiv_any (a b : Int) (w : World) (hb0 : b ≠ 0) : Calls Try.prog 77 #[.int .i64 a, .int .i64 b] w
    (PVal3 (.int .i64 (cutI (flo (cutI a * 1048576) (cutI b)))) (.bool (cutB a || cutB b || cutB (flo (cutI a * 1048576) (cutI b)))) (.int .i64 0) w) := by
  have hy0 := cut_nz hb0
  go_enter_defers Try.func77, Try.ntmps77
  go_wp2_with fail
  have hT := two_mk w 2 4
  generalize (w.alloc (.cells #[.int .i64 0] 2)).alloc (.cells #[.bool false] 4) = w0 at *
  refine (clampBoth_any a b _).mono ?_
  rintro e w1 ⟨rfl, hB1⟩
  have hT1 := hT.later hB1
  clear hT hB1
  obtain ⟨x, hx⟩ : ∃ x, cutI a = x := ⟨_, rfl⟩
  obtain ⟨y, hy⟩ : ∃ y, cutI b = y := ⟨_, rfl⟩
  obtain ⟨c, hc⟩ : ∃ c, (cutB a || cutB b) = c := ⟨_, rfl⟩
  have bx := cut_bd a
  rw [hx] at bx
  rw [hy] at hy0
  rw [hx, hy, hc]
  obtain ⟨bx1, bx2⟩ := bx
  obtain ⟨bm1, bm2⟩ := scale_bd bx1 bx2
  have HX := Lib.hid hx
  have HY := Lib.hid hy
  have HC := Lib.hid hc
  clear hx hy hc
  have hw : IntKind.i64.wrap (x * 1048576) = x * 1048576 := IntWalk.i64_in _ (by omega)
  have hyd : (y == 0) = false := by simpa using hy0
  have hy1 : ¬ y = 0 := hy0
  have hp := hT1.p
  have hq := hT1.q
  have fp := hT1.fp
  have fq := hT1.fq
  go_wp2_with fail
  have hT2 := hT1.putq c
  clear hp hq fp fq hT1
  generalize w1.setCell ⟨w.heap.size + 1, 0, none⟩ (.bool c) = w2 at *
  have hp := hT2.p
  have hq := hT2.q
  have fp := hT2.fp
  have fq := hT2.fq
  refine wp_region_noPanic ?_
  go_region_with (go_at_call 106; (with_reducible refine (over_any (x * 1048576) y _ hy1 (by omega) (by omega)).mono ?_); rintro e w2 ⟨rfl, nq, rfl⟩)
  all_goals
    refine NoPanic.normal ?_
    have hT3 := (((hT2.drewN (1 + nq)).putp (.int .i64 (flo (x * 1048576) y))).putq c)
    clear hp hq fp fq
    generalize ((w2.drewN (1 + nq)).setCell ⟨w.heap.size, 0, none⟩ (.int .i64 (flo (x * 1048576) y))).setCell ⟨w.heap.size + 1, 0, none⟩ (.bool c) = w3 at *
    go_wp2
    refine hT3.door (fun w' kp kq hb => ?_)
    exact ⟨.tuple #[.int .i64 (cutI (flo (x * 1048576) y)), .bool (c || cutB (flo (x * 1048576) y)), .int .i64 0], by simp [results, Try.results77, go_sem, kp, kq], by rw [HX.out, HY.out, HC.out], hb⟩

/-- The square root of a number of steps, and no error, are handed back. -/
def PSqrt (a : Int) (w : World) (e : Ending) (w' : World) : Prop :=
  ∃ R : Nat, R * R ≤ (cutI a * 1048576).natAbs ∧ (cutI a * 1048576).natAbs < (R + 1) * (R + 1) ∧ R ≤ 47453132 ∧ e = .returned (.tuple #[.int .i64 R, .bool (cutB a), .int .i64 0]) ∧ Below w.heap.size w w'
theorem root_bd {R N : Nat} (h : R * R ≤ N) (hN : N ≤ 2251799812636672) : R ≤ 47453132 := by
  refine Nat.le_of_not_lt fun hlt => ?_
  have := Nat.mul_le_mul (show 47453133 ≤ R from hlt) (show 47453133 ≤ R from hlt)
  omega
theorem cut_sign {a : Int} : (cutI a < 0 ↔ a < 0) := by unfold cutI; omega
theorem len_two {w : World} {bl : Bool} {a : Option Addr} {n c : Nat} {z : Int} (h : Num w bl a n c z) (hz : z.natAbs < 18446744073709551616) : n ≤ 10000000 :=
  Nat.le_trans (fit_le h.fit (two_lt hz)) (by omega)
theorem small_is {z : Int} (h1 : -9223372036854775808 ≤ z) (h2 : z ≤ 9223372036854775807) : smallV z = z ∧ smallB z = true := by
  unfold smallV smallB
  exact ⟨if_pos ⟨h1, h2⟩, decide_eq_true ⟨h1, h2⟩⟩
theorem new_below (w : World) (o : Obj) : Below w.heap.size w (w.alloc o) := (Below.refl _ _).alloc (Nat.le_refl _) _

set_option maxHeartbeats 1600000 in
theorem fxSqrt_neg (a : Int) (w : World) (ha : a < 0) : Calls Try.prog 111 #[.int .i64 a] w (PVal3 (.int .i64 0) (.bool false) (.int .i64 12) w) := by
  have bx := cut_bd a
  have hx0 := cut_sign.2 ha
  go_enter_defers Try.func111, Try.ntmps111
  go_wp2_with fail
  have hT := two_mk w 2 4
  generalize (w.alloc (.cells #[.int .i64 0] 2)).alloc (.cells #[.bool false] 4) = w0 at *
  refine (Clamp_any a _).mono ?_
  rintro e w1 ⟨rfl, hB1⟩
  have hT1 := hT.later hB1
  clear hT hB1
  obtain ⟨x, hx⟩ : ∃ x, cutI a = x := ⟨_, rfl⟩
  obtain ⟨c, hc⟩ : ∃ c, cutB a = c := ⟨_, rfl⟩
  rw [hx] at bx hx0
  rw [hx, hc]
  obtain ⟨bx1, bx2⟩ := bx
  obtain ⟨bm1, bm2⟩ := scale_bd bx1 bx2
  clear hx hc
  have hp := hT1.p
  have hq := hT1.q
  have fp := hT1.fp
  have fq := hT1.fq
  go_wp2_with fail
  have hT2 := hT1.putq c
  clear hp hq fp fq hT1
  generalize w1.setCell ⟨w.heap.size + 1, 0, none⟩ (.bool c) = w2 at *
  refine (Of_any (x * 1048576) _ (by omega) (by omega)).mono ?_
  rintro e w3 ⟨b3, a3, n3, c3, rfl, hN3, _, hB3⟩
  have hb3 : b3 = true := by rw [hN3.sgn]; simp; omega
  subst hb3
  have hT3 := hT2.later hB3
  clear hT2 hB3
  go_wp2_with fail
  refine (Root_neg a3 n3 c3 _).mono ?_
  rintro e w4 ⟨b4, a4, n4, c4, rfl, hN4, _, hB4⟩
  have hT4 := hT3.later (hB4.trans ((new_below w4 (.cells #[.bool b4, .slice a4 n4 c4] 113)).mono hB4.size))
  have hp := hT4.p
  have hq := hT4.q
  have fp := hT4.fp
  have fq := hT4.fq
  clear hT3 hB4 hN3 hN4
  go_wp2
  generalize w4.alloc (.cells #[.bool b4, .slice a4 n4 c4] 113) = w5 at *
  have hT5 := (hT4.putp (.int .i64 0)).putq false
  refine hT5.door (fun w' kp kq hb => ?_)
  exact ⟨.tuple #[.int .i64 (cutI 0), .bool (false || cutB 0), .int .i64 12], by simp [results, Try.results111, go_sem, kp, kq], rfl, hb⟩

set_option maxHeartbeats 1600000 in
theorem fxSqrt_pos (a : Int) (w : World) (ha : 0 ≤ a) : Calls Try.prog 111 #[.int .i64 a] w (PSqrt a w) := by
  have bx := cut_bd a
  have hx0 : ¬ cutI a < 0 := by rw [cut_sign]; omega
  go_enter_defers Try.func111, Try.ntmps111
  go_wp2_with fail
  have hT := two_mk w 2 4
  generalize (w.alloc (.cells #[.int .i64 0] 2)).alloc (.cells #[.bool false] 4) = w0 at *
  refine (Clamp_any a _).mono ?_
  rintro e w1 ⟨rfl, hB1⟩
  have hT1 := hT.later hB1
  clear hT hB1
  obtain ⟨x, hx⟩ : ∃ x, cutI a = x := ⟨_, rfl⟩
  obtain ⟨c, hc⟩ : ∃ c, cutB a = c := ⟨_, rfl⟩
  rw [hx] at bx hx0
  rw [hx, hc]
  obtain ⟨bx1, bx2⟩ := bx
  obtain ⟨bm1, bm2⟩ := scale_bd bx1 bx2
  have HX := Lib.hid hx
  have HC := Lib.hid hc
  clear hx hc
  have hp := hT1.p
  have hq := hT1.q
  have fp := hT1.fp
  have fq := hT1.fq
  go_wp2_with fail
  have hT2 := hT1.putq c
  clear hp hq fp fq hT1
  generalize w1.setCell ⟨w.heap.size + 1, 0, none⟩ (.bool c) = w2 at *
  refine (Of_any (x * 1048576) _ (by omega) (by omega)).mono ?_
  rintro e w3 ⟨b3, a3, n3, c3, rfl, hN3, _, hB3⟩
  have hb3 : b3 = false := by rw [hN3.sgn]; simp; omega
  subst hb3
  have hT3 := hT2.later hB3
  clear hT2 hB3
  go_wp2_with fail
  refine (Root_pos a3 n3 c3 _ _ hN3 (len_two hN3 (by omega))).mono ?_
  rintro e w4 ⟨R, hR1, hR2, b4, a4, n4, c4, rfl, hN4, _, hB4⟩
  have hRb := root_bd hR1 (by omega)
  have HR := Lib.hid (And.intro hR1 hR2)
  clear hR1 hR2
  have hT4 := hT3.later (hB4.trans ((new_below w4 (.cells #[.bool b4, .slice a4 n4 c4] 113)).mono hB4.size))
  have hM4 := hN4.below (new_below w4 (.cells #[.bool b4, .slice a4 n4 c4] 113))
  have hn4 := len_two hN4 (by omega)
  clear hT3 hB4 hN3 hN4
  go_wp2_with fail
  generalize w4.alloc (.cells #[.bool b4, .slice a4 n4 c4] 113) = w5 at *
  refine (Small_any b4 a4 n4 c4 (R : Int) _ hM4 hn4).mono ?_
  rintro e w6 ⟨rfl, hB6⟩
  rw [(small_is (z := (R : Int)) (by omega) (by omega)).1, (small_is (z := (R : Int)) (by omega) (by omega)).2]
  have hT6 := hT4.later hB6
  have hp := hT6.p
  have hq := hT6.q
  have fp := hT6.fp
  have fq := hT6.fq
  clear hT4 hB6 hM4
  go_wp2
  have hT7 := ((hT6.putp (.int .i64 R)).putp (.int .i64 R)).putq c
  refine hT7.door (fun w' kp kq hb => ?_)
  have hcR := cut_in (n := (R : Int)) (by omega) (by omega)
  rw [hcR.1] at kp
  rw [hcR.2, Bool.or_false] at kq
  exact ⟨.tuple #[.int .i64 R, .bool c, .int .i64 0], by simp [results, Try.results111, go_sem, kp, kq], R, by rw [HX.out]; exact HR.out.1, by rw [HX.out]; exact HR.out.2, hRb, by rw [HC.out], hb⟩
end Go.Proofs.Ytpahkpcoinbgcaa
