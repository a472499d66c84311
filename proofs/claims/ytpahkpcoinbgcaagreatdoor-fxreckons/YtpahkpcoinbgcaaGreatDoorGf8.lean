/- Parts of the proof. -/
import Derived.Test.YtpahkpcoinbgcaaGreatDoorGf7
import Derived.Test.YtpahkpcoinbgcaaGreatDoorGf4
import Derived.Test.YtpahkpcoinbgcaaGreatDoorGf1
import Derived.Laws.StructEq
/- Fixed numbers: the walks of Add, Sub, Mul, Div. -/
namespace Go.Proofs.YtpahkpcoinbgcaaGreatDoor
open Go.RowKit
/-- Two places for a call's results, behind what was there. -/
structure Two (w w1 : World) (v : Value) (c : Bool) : Prop where
 below : Below w.heap.size w w1
 p : w1.cell? ⟨w.heap.size, 0, none⟩ = some v
 q : w1.cell? ⟨w.heap.size + 1, 0, none⟩ = some (.bool c)
 fp : w1.frozen? ⟨w.heap.size, 0, none⟩ = false
 fq : w1.frozen? ⟨w.heap.size + 1, 0, none⟩ = false
 sz : w.heap.size + 1 < w1.heap.size
theorem two_mk (w : World) (s t : TypeId) : Two w ((w.alloc (.cells #[.int .i64 0] s)).alloc (.cells #[.bool false] t)) (.int .i64 0) false :=
 ⟨((Below.refl _ _).alloc (Nat.le_refl _) _).alloc (by simp) _, by simp [go_sem], by simp [go_sem], by simp [go_sem], by simp [go_sem], by simp⟩
theorem Two.later {w w1 w2 : World} {v : Value} {c : Bool} (h : Two w w1 v c) (hb : Below w1.heap.size w1 w2) : Two w w2 v c :=
 ⟨h.below.trans (hb.mono h.below.size), (hb.cell (p := ⟨w.heap.size, 0, none⟩) (by have := h.sz; show w.heap.size < _; omega)).trans h.p, (hb.cell (p := ⟨w.heap.size + 1, 0, none⟩) h.sz).trans h.q,
  (hb.frozen (p := ⟨w.heap.size, 0, none⟩) (by have := h.sz; show w.heap.size < _; omega)).trans h.fp, (hb.frozen (p := ⟨w.heap.size + 1, 0, none⟩) h.sz).trans h.fq, Nat.lt_of_lt_of_le h.sz hb.size⟩
theorem Two.putq {w w1 : World} {v : Value} {c : Bool} (h : Two w w1 v c) (c' : Bool) : Two w (w1.setCell ⟨w.heap.size + 1, 0, none⟩ (.bool c')) v c' := by
 have hp := h.p
 have hq := h.q
 have fp := h.fp
 have fq := h.fq
 exact ⟨h.below.setCell (p := ⟨w.heap.size + 1, 0, none⟩) (Nat.le_succ _) _, by simp [go_sem, hp, hq], by simp [go_sem, hp, hq], by simp [go_sem, fp], by simp [go_sem, fq], by simpa [go_sem] using h.sz⟩
theorem Two.putp {w w1 : World} {v : Value} {c : Bool} (h : Two w w1 v c) (v' : Value) : Two w (w1.setCell ⟨w.heap.size, 0, none⟩ v') v' c := by
 have hp := h.p
 have hq := h.q
 have fp := h.fp
 have fq := h.fq
 exact ⟨h.below.setCell (p := ⟨w.heap.size, 0, none⟩) (Nat.le_refl _) _, by simp [go_sem, hp, hq], by simp [go_sem, hp, hq], by simp [go_sem, fp], by simp [go_sem, fq], by simpa [go_sem] using h.sz⟩
theorem Two.drewN {w w1 : World} {v : Value} {c : Bool} (h : Two w w1 v c) (n : Nat) : Two w (w1.drewN n) v c := ⟨below_drewN h.below n, h.p, h.q, h.fp, h.fq, h.sz⟩
theorem Two.drew {w w1 : World} {v : Value} {c : Bool} (h : Two w w1 v c) : Two w w1.drew v c := ⟨h.below.drew, h.p, h.q, h.fp, h.fq, h.sz⟩
/-- The door of a call that hands back two results. -/
theorem Two.door {w w1 : World} {n : Int} {c : Bool} (h : Two w w1 (.int .i64 n) c) {fn : Func} {tmps : Array Value} {R : Ending → World → Prop}
  (k : ∀ w' : World, w'.cell? ⟨w.heap.size, 0, none⟩ = some (.int .i64 (cutI n)) → w'.cell? ⟨w.heap.size + 1, 0, none⟩ = some (.bool (c || cutB n)) → Below w.heap.size w w' → Leaves Tryz.prog fn tmps R [] .returning w') :
  Leaves Tryz.prog fn tmps R [{ target := .fn (.func 22) #[], args := #[.pointer (some ⟨w.heap.size, 0, none⟩), .pointer (some ⟨w.heap.size + 1, 0, none⟩)] }] .returning w1 :=
 Go.Proofs.YtpahkpcoinbgcaaGreatDoor.door w.heap.size w.heap.size (w.heap.size + 1) n c w1 h.p h.q (by omega) h.fp h.fq (Nat.le_refl _) (by omega) (fun w' hp hq hb => k w' hp hq (h.below.trans hb))
theorem Two.sets {w w1 w' : World} {v : Value} {c : Bool} (h : Two w w1 v c) {u1 u2 u3 : Value} (hb : Below w.heap.size (((w1.setCell ⟨w.heap.size + 1, 0, none⟩ u1).setCell ⟨w.heap.size, 0, none⟩ u2).setCell ⟨w.heap.size + 1, 0, none⟩ u3) w') : Below w.heap.size w w' :=
 h.below.trans ((((Below.refl w.heap.size w1).setCell (p := ⟨w.heap.size + 1, 0, none⟩) (Nat.le_succ _) _).setCell (p := ⟨w.heap.size, 0, none⟩) (Nat.le_refl _) _).setCell (p := ⟨w.heap.size + 1, 0, none⟩) (Nat.le_succ _) _ |>.trans hb)
set_option maxHeartbeats 800000 in
theorem fxAdd_any (a b : Int) (w : World) : Calls Tryz.prog 7 #[.int .i64 a, .int .i64 b] w (PVal2 (.int .i64 (cutI (cutI a + cutI b))) (.bool (cutB a || cutB b || cutB (cutI a + cutI b))) w) := by
 go_enter_defers Tryz.func7, Tryz.ntmps7
 go_wp2_with fail
 have hT := two_mk w 2 4
 generalize (w.alloc (.cells #[.int .i64 0] 2)).alloc (.cells #[.bool false] 4) = w0 at *
 refine (clampBoth_any a b _).mono ?_
 rintro e w1 ⟨rfl, hB1⟩
 have hT1 := hT.later hB1
 clear hT hB1
 obtain ⟨x, hx⟩ : ∃ x, cutI a = x := ⟨_, rfl⟩
 obtain ⟨y, hy⟩ : ∃ y, cutI b = y := ⟨_, rfl⟩
 obtain ⟨c, hc⟩ : ∃ c, (cutB a || cutB b) = c := ⟨_, rfl⟩
 have bx := cut_bd a
 have by' := cut_bd b
 rw [hx] at bx
 rw [hy] at by'
 rw [hx, hy, hc]
 obtain ⟨bx1, bx2⟩ := bx
 obtain ⟨by1, by2⟩ := by'
 have HX := Lib.hid hx
 have HY := Lib.hid hy
 have HC := Lib.hid hc
 clear hx hy hc
 have hp := hT1.p
 have hq := hT1.q
 have fp := hT1.fp
 have fq := hT1.fq
 go_wp2
 refine door w.heap.size w.heap.size (w.heap.size + 1) (x + y) c _ (by simp [go_sem, hp, hq]) (by simp [go_sem, hp, hq]) (by omega) (by simp [go_sem, fp, fq]) (by simp [go_sem, fp, fq]) (Nat.le_refl _) (by omega) (fun w' kp kq hb => ?_)
 exact ⟨.tuple #[.int .i64 (cutI (x + y)), .bool (c || cutB (x + y))], by simp [results, Tryz.results7, go_sem, kp, kq], by rw [HX.out, HY.out, HC.out], hT1.sets hb⟩
set_option maxHeartbeats 800000 in
theorem fxSub_any (a b : Int) (w : World) : Calls Tryz.prog 9 #[.int .i64 a, .int .i64 b] w (PVal2 (.int .i64 (cutI (cutI a - cutI b))) (.bool (cutB a || cutB b || cutB (cutI a - cutI b))) w) := by
 go_enter_defers Tryz.func9, Tryz.ntmps9
 go_wp2_with fail
 have hT := two_mk w 2 4
 generalize (w.alloc (.cells #[.int .i64 0] 2)).alloc (.cells #[.bool false] 4) = w0 at *
 refine (clampBoth_any a b _).mono ?_
 rintro e w1 ⟨rfl, hB1⟩
 have hT1 := hT.later hB1
 clear hT hB1
 obtain ⟨x, hx⟩ : ∃ x, cutI a = x := ⟨_, rfl⟩
 obtain ⟨y, hy⟩ : ∃ y, cutI b = y := ⟨_, rfl⟩
 obtain ⟨c, hc⟩ : ∃ c, (cutB a || cutB b) = c := ⟨_, rfl⟩
 have bx := cut_bd a
 have by' := cut_bd b
 rw [hx] at bx
 rw [hy] at by'
 rw [hx, hy, hc]
 obtain ⟨bx1, bx2⟩ := bx
 obtain ⟨by1, by2⟩ := by'
 have HX := Lib.hid hx
 have HY := Lib.hid hy
 have HC := Lib.hid hc
 clear hx hy hc
 have hp := hT1.p
 have hq := hT1.q
 have fp := hT1.fp
 have fq := hT1.fq
 go_wp2
 refine door w.heap.size w.heap.size (w.heap.size + 1) (x - y) c _ (by simp [go_sem, hp, hq]) (by simp [go_sem, hp, hq]) (by omega) (by simp [go_sem, fp, fq]) (by simp [go_sem, fp, fq]) (Nat.le_refl _) (by omega) (fun w' kp kq hb => ?_)
 exact ⟨.tuple #[.int .i64 (cutI (x - y)), .bool (c || cutB (x - y))], by simp [results, Tryz.results9, go_sem, kp, kq], by rw [HX.out, HY.out, HC.out], hT1.sets hb⟩
theorem mul_bd {x y : Int} (bx1 : -2147483647 ≤ x) (bx2 : x ≤ 2147483647) (by1 : -2147483647 ≤ y) (by2 : y ≤ 2147483647) : -4611686018427387904 ≤ x * y ∧ x * y ≤ 4611686018427387904 := by
 have h : (x * y).natAbs ≤ 2147483647 * 2147483647 := by rw [Int.natAbs_mul]; exact Nat.mul_le_mul (by omega) (by omega)
 omega
set_option maxHeartbeats 1600000 in
theorem fxMul_any (a b : Int) (w : World) : Calls Tryz.prog 11 #[.int .i64 a, .int .i64 b] w (PVal2 (.int .i64 (cutI (flo (cutI a * cutI b) 1048576))) (.bool (cutB a || cutB b || cutB (flo (cutI a * cutI b) 1048576))) w) := by
 go_enter_defers Tryz.func11, Tryz.ntmps11
 go_wp2_with fail
 have hT := two_mk w 2 4
 generalize (w.alloc (.cells #[.int .i64 0] 2)).alloc (.cells #[.bool false] 4) = w0 at *
 refine (clampBoth_any a b _).mono ?_
 rintro e w1 ⟨rfl, hB1⟩
 have hT1 := hT.later hB1
 clear hT hB1
 obtain ⟨x, hx⟩ : ∃ x, cutI a = x := ⟨_, rfl⟩
 obtain ⟨y, hy⟩ : ∃ y, cutI b = y := ⟨_, rfl⟩
 obtain ⟨c, hc⟩ : ∃ c, (cutB a || cutB b) = c := ⟨_, rfl⟩
 have bx := cut_bd a
 have by' := cut_bd b
 rw [hx] at bx
 rw [hy] at by'
 rw [hx, hy, hc]
 obtain ⟨bm1, bm2⟩ := mul_bd bx.1 bx.2 by'.1 by'.2
 have HX := Lib.hid hx
 have HY := Lib.hid hy
 have HC := Lib.hid hc
 clear hx hy hc bx by'
 have hw : IntKind.i64.wrap (x * y) = x * y := IntWalk.i64_in _ (by omega)
 have hp := hT1.p
 have hq := hT1.q
 have fp := hT1.fp
 have fq := hT1.fq
 go_wp2_with fail
 have hT2 := hT1.putq c
 clear hp hq fp fq hT1
 generalize w1.setCell ⟨w.heap.size + 1, 0, none⟩ (.bool c) = w2 at *
 have hq := hT2.q
 have fp := hT2.fp
 have fq := hT2.fq
 have hp := hT2.p
 refine wp_region_noPanic ?_
 go_region_with (go_at_call 28; (with_reducible refine (over_any (x * y) 1048576 _ (by decide) bm1 bm2).mono ?_); rintro e w2 ⟨rfl, nq, rfl⟩)
 all_goals
  refine NoPanic.normal ?_
  have hT3 := (((hT2.drewN (1 + nq)).putp (.int .i64 (flo (x * y) 1048576))).putq c)
  clear hp hq fp fq
  generalize ((w2.drewN (1 + nq)).setCell ⟨w.heap.size, 0, none⟩ (.int .i64 (flo (x * y) 1048576))).setCell ⟨w.heap.size + 1, 0, none⟩ (.bool c) = w3 at *
  go_wp2
  refine hT3.door (fun w' kp kq hb => ?_)
  exact ⟨.tuple #[.int .i64 (cutI (flo (x * y) 1048576)), .bool (c || cutB (flo (x * y) 1048576))], by simp [results, Tryz.results11, go_sem, kp, kq], by rw [HX.out, HY.out, HC.out], hb⟩
end Go.Proofs.YtpahkpcoinbgcaaGreatDoor

/- The walk of Small. -/
namespace Go.Proofs.YtpahkpcoinbgcaaGreatDoor
open Go.RowKit
/-- A number as an int64, and whether it is one. -/
def smallV (z : Int) : Int := if -9223372036854775808 ≤ z ∧ z ≤ 9223372036854775807 then z else 0
def smallB (z : Int) : Bool := decide (-9223372036854775808 ≤ z ∧ z ≤ 9223372036854775807)
theorem ret2 {k : IntKind} {a b : Int} {c d : Bool} (h : a = b) (h' : c = d) : Ending.returned (.tuple #[.int k a, .bool c]) = .returned (.tuple #[.int k b, .bool d]) := by rw [h, h']
theorem or_first (x : Nat) (h : x < 4294967296) : bits .or .u64 0 (x : Int) = (x : Int) := by
 have := u64_or_nat 0 x (by omega) (by omega)
 simpa using this
theorem or_second {x y : Nat} (h : x < 4294967296) (h' : y < 4294967296) : bits .or .u64 (x : Int) ((y : Int) * 4294967296) = ((x + 4294967296 * y : Nat) : Int) := by
 have e : ((y * 4294967296 : Nat) : Int) = (y : Int) * 4294967296 := by omega
 rw [← e, u64_or_nat x (y * 4294967296) (by omega) (by omega)]
 have h2 := Nat.two_pow_add_eq_or_of_lt (b := x) (i := 32) (by omega) y
 rw [show (2 : Nat) ^ 32 = 4294967296 from rfl] at h2
 rw [Nat.mul_comm y, Nat.or_comm, ← h2]
 omega
set_option maxRecDepth 100000 in
set_option maxHeartbeats 800000 in
theorem Small_long (bl : Bool) (a : Option Addr) (n c : Nat) (w : World) (hn : 2 < n) (hn' : n ≤ 10000000) :
  Calls Tryz.prog 34 #[.agg #[.bool bl, .slice a n c]] w (PVal2 (.int .i64 0) (.bool false) w) := by
 go_enter Tryz.func34, Tryz.ntmps34
 go_wp2
 go_ret2
 exact ⟨rfl, (Below.refl w.heap.size w).alloc (Nat.le_refl _) _⟩
set_option maxRecDepth 100000 in
set_option maxHeartbeats 1600000 in
theorem Small_short (bl : Bool) (a : Option Addr) (n c : Nat) (z : Int) (w : World) (h : Num w bl a n c z) (hn : n ≤ 2) :
  Calls Tryz.prog 34 #[.agg #[.bool bl, .slice a n c]] w (PVal2 (.int .i64 (smallV z)) (.bool (smallB z)) w) := by
 have hB := (Below.refl w.heap.size w).alloc (Nat.le_refl _) (.cells #[.bool bl, .slice a n c] 53)
 have hl := h.lie.below hB
 have hN : z.natAbs < BB ^ n := h.fit.1
 have hN2 : z.natAbs < BB ^ 2 := fit_mono hN hn
 have hs := h.sgn
 have HN := Lib.hid hN
 have HN2 := Lib.hid hN2
 have HS := Lib.hid hs
 clear h hN hN2 hs
 go_enter Tryz.func34, Tryz.ntmps34
 go_wp2
 go_loop [4, 15] (fun sv iv => ∃ k : Nat, k ≤ n ∧ iv = .int .i64 k ∧ sv = .int .u64 ((z.natAbs % BB ^ k : Nat) : Int)) (fun _ iv => n - (intOf iv).toNat)
 case atStart => exact ⟨0, Nat.zero_le _, rfl, by simp [Nat.mod_one]⟩
 case round =>
  obtain ⟨k, hk, rfl, rfl⟩ := hrel
  by_cases hlt : k < n
  ·
   obtain ⟨b1, o1, rfl, hb1⟩ := hl.some_of_pos (by omega)
   have c1 := hl.at k hlt
   have hla := lmb_lt z.natAbs k
   have hk2 : k = 0 ∨ k = 1 := by omega
   rcases hk2 with rfl | rfl
   ·
    have ho := or_first _ hla
    have HM : Hid (z.natAbs % BB ^ 1 = lmb z.natAbs 0) := by show _ = _; rw [mod_succ]; simp [Nat.mod_one]
    simp only [Nat.pow_zero, Nat.mod_one]
    rw [Nat.add_zero] at c1
    clear hl
    go_wp2
    go_round
    case rel => exact ⟨1, by omega, by go_num, by rw [HM.out]⟩
    case measure => simp [intOf]; omega
   ·
    have HM : Hid (z.natAbs % BB ^ 1 = lmb z.natAbs 0) := by show _ = _; rw [mod_succ]; simp [Nat.mod_one]
    have hl0 := lmb_lt z.natAbs 0
    have ho := or_second hl0 hla
    have HM2 : Hid (z.natAbs % BB ^ 2 = lmb z.natAbs 0 + 4294967296 * lmb z.natAbs 1) := by show _ = _; rw [mod_succ, HM.out, Nat.pow_one]; rfl
    rw [HM.out]
    rw [← HM2.out] at ho
    clear hl
    go_wp2
    go_round
    case rel => exact ⟨2, by omega, rfl, by rw [Int.natCast_emod, Int.natCast_pow]⟩
    case measure => simp [intOf]; omega
  ·
   obtain rfl : k = n := by omega
   rw [Nat.mod_eq_of_lt HN.out]
   have hNb : z.natAbs < 18446744073709551616 := HN2.out
   obtain ⟨N, hNe⟩ : ∃ N, N = z.natAbs := ⟨_, rfl⟩
   rw [← hNe] at hNb ⊢
   have HNE := Lib.hid hNe
   clear hNe hl
   cases bl
   ·
    by_cases hc : N ≤ 9223372036854775807
    ·
     have hd : decide ((9223372036854775807 : Int) < (N : Int)) = false := by simp; omega
     have HR : Hid ((N : Int) = smallV z ∧ smallB z = true) := by
      have h1 := HNE.out; have h2 := HS.out; simp at h2; show _ ∧ _; unfold smallV smallB; rw [if_pos (by omega)]; simp; omega
     have hNI : (N : Int) ≤ 9223372036854775807 := by omega
     clear hc
     go_wp2
     go_ret2
     exact ⟨by rw [← HR.out.1, HR.out.2]; rfl, hB⟩
    ·
     have hd : decide ((9223372036854775807 : Int) < (N : Int)) = true := by simp; omega
     have HR : Hid (smallV z = 0 ∧ smallB z = false) := by
      have h1 := HNE.out; have h2 := HS.out; simp at h2; show _ ∧ _; unfold smallV smallB; rw [if_neg (by omega)]; simp; omega
     clear hc
     go_wp2
     go_ret2
     exact ⟨by rw [HR.out.1, HR.out.2]; rfl, hB⟩
   ·
    by_cases hc : N ≤ 9223372036854775808
    ·
     have hd : decide ((9223372036854775808 : Int) < (N : Int)) = false := by simp; omega
     have HR : Hid (-(N : Int) = smallV z ∧ smallB z = true) := by
      have h1 := HNE.out; have h2 := HS.out; simp at h2; show _ ∧ _; unfold smallV smallB; rw [if_pos (by omega)]; simp; omega
     have hNI : (N : Int) ≤ 9223372036854775808 := by omega
     clear hc
     have HW : Hid (wrap64 (IntKind.u64.wrap (-(N : Int))) = -(N : Int)) := by show _ = _; rw [IntKind.wrap_u64]; unfold wrap64; omega
     go_wp2
     go_ret2
     exact ⟨ret2 (HW.out.trans HR.out.1) HR.out.2.symm, hB⟩
    ·
     have hd : decide ((9223372036854775808 : Int) < (N : Int)) = true := by simp; omega
     have HR : Hid (smallV z = 0 ∧ smallB z = false) := by
      have h1 := HNE.out; have h2 := HS.out; simp at h2; show _ ∧ _; unfold smallV smallB; rw [if_neg (by omega)]; simp; omega
     clear hc
     go_wp2
     go_ret2
     exact ⟨by rw [HR.out.1, HR.out.2]; rfl, hB⟩
theorem Small_any (bl : Bool) (a : Option Addr) (n c : Nat) (z : Int) (w : World) (h : Num w bl a n c z) (hn : n ≤ 10000000) :
  Calls Tryz.prog 34 #[.agg #[.bool bl, .slice a n c]] w (PVal2 (.int .i64 (smallV z)) (.bool (smallB z)) w) := by
 by_cases h2 : n ≤ 2
 ·
  exact Small_short bl a n c z w h h2
 ·
  have h3 : BB ^ 2 ≤ z.natAbs := by
   rcases h.fit.2 with h0 | h0
   ·
    omega
   ·
    exact Nat.le_trans (Nat.pow_le_pow_right BB_pos (by omega)) h0
  have h4 : (18446744073709551616 : Nat) ≤ z.natAbs := h3
  have e1 : smallV z = 0 := by unfold smallV; rw [if_neg (by omega)]
  have e2 : smallB z = false := by unfold smallB; simp; omega
  rw [e1, e2]
  exact Small_long bl a n c w (by omega) hn
end Go.Proofs.YtpahkpcoinbgcaaGreatDoor

/- Fixed numbers: the walks of Div, Sqrt. -/
namespace Go.Proofs.YtpahkpcoinbgcaaGreatDoor
open Go.RowKit
theorem cut_nz {b : Int} (h : b ≠ 0) : cutI b ≠ 0 := by unfold cutI; omega
theorem scale_bd {x : Int} (h1 : -2147483647 ≤ x) (h2 : x ≤ 2147483647) : -2251799812636672 ≤ x * 1048576 ∧ x * 1048576 ≤ 2251799812636672 := by omega
set_option maxHeartbeats 1600000 in
theorem fxDiv_zero (a : Int) (w : World) : Calls Tryz.prog 13 #[.int .i64 a, .int .i64 0] w (PVal3 (.int .i64 0) (.bool false) (.int .i64 11) w) := by
 go_enter_defers Tryz.func13, Tryz.ntmps13
 go_wp2_with fail
 have hT := two_mk w 2 4
 generalize (w.alloc (.cells #[.int .i64 0] 2)).alloc (.cells #[.bool false] 4) = w0 at *
 refine (clampBoth_any a 0 _).mono ?_
 rintro e w1 ⟨rfl, hB1⟩
 have hT1 := hT.later hB1
 clear hT hB1
 rw [show cutI 0 = 0 from rfl]
 obtain ⟨c, hc⟩ : ∃ c, (cutB a || cutB 0) = c := ⟨_, rfl⟩
 rw [hc]
 clear hc
 have hp := hT1.p
 have hq := hT1.q
 have fp := hT1.fp
 have fq := hT1.fq
 go_wp2
 have hT3 := ((hT1.putq c).putp (.int .i64 0)).putq false
 generalize ((w1.setCell ⟨w.heap.size + 1, 0, none⟩ (.bool c)).setCell ⟨w.heap.size, 0, none⟩ (.int .i64 0)).setCell ⟨w.heap.size + 1, 0, none⟩ (.bool false) = w3 at *
 refine hT3.door (fun w' kp kq hb => ?_)
 exact ⟨.tuple #[.int .i64 (cutI 0), .bool (false || cutB 0), .int .i64 11], by simp [results, Tryz.results13, go_sem, kp, kq], rfl, hb⟩
set_option maxHeartbeats 1600000 in
theorem fxDiv_any (a b : Int) (w : World) (hb0 : b ≠ 0) : Calls Tryz.prog 13 #[.int .i64 a, .int .i64 b] w
  (PVal3 (.int .i64 (cutI (flo (cutI a * 1048576) (cutI b)))) (.bool (cutB a || cutB b || cutB (flo (cutI a * 1048576) (cutI b)))) (.int .i64 0) w) := by
 have hy0 := cut_nz hb0
 go_enter_defers Tryz.func13, Tryz.ntmps13
 go_wp2_with fail
 have hT := two_mk w 2 4
 generalize (w.alloc (.cells #[.int .i64 0] 2)).alloc (.cells #[.bool false] 4) = w0 at *
 refine (clampBoth_any a b _).mono ?_
 rintro e w1 ⟨rfl, hB1⟩
 have hT1 := hT.later hB1
 clear hT hB1
 obtain ⟨x, hx⟩ : ∃ x, cutI a = x := ⟨_, rfl⟩
 obtain ⟨y, hy⟩ : ∃ y, cutI b = y := ⟨_, rfl⟩
 obtain ⟨c, hc⟩ : ∃ c, (cutB a || cutB b) = c := ⟨_, rfl⟩
 have bx := cut_bd a
 rw [hx] at bx
 rw [hy] at hy0
 rw [hx, hy, hc]
 obtain ⟨bx1, bx2⟩ := bx
 obtain ⟨bm1, bm2⟩ := scale_bd bx1 bx2
 have HX := Lib.hid hx
 have HY := Lib.hid hy
 have HC := Lib.hid hc
 clear hx hy hc
 have hw : IntKind.i64.wrap (x * 1048576) = x * 1048576 := IntWalk.i64_in _ (by omega)
 have hyd : (y == 0) = false := by simpa using hy0
 have hy1 : ¬ y = 0 := hy0
 have hp := hT1.p
 have hq := hT1.q
 have fp := hT1.fp
 have fq := hT1.fq
 go_wp2_with fail
 have hT2 := hT1.putq c
 clear hp hq fp fq hT1
 generalize w1.setCell ⟨w.heap.size + 1, 0, none⟩ (.bool c) = w2 at *
 have hp := hT2.p
 have hq := hT2.q
 have fp := hT2.fp
 have fq := hT2.fq
 refine wp_region_noPanic ?_
 go_region_with (go_at_call 28; (with_reducible refine (over_any (x * 1048576) y _ hy1 (by omega) (by omega)).mono ?_); rintro e w2 ⟨rfl, nq, rfl⟩)
 all_goals
  refine NoPanic.normal ?_
  have hT3 := (((hT2.drewN (1 + nq)).putp (.int .i64 (flo (x * 1048576) y))).putq c)
  clear hp hq fp fq
  generalize ((w2.drewN (1 + nq)).setCell ⟨w.heap.size, 0, none⟩ (.int .i64 (flo (x * 1048576) y))).setCell ⟨w.heap.size + 1, 0, none⟩ (.bool c) = w3 at *
  go_wp2
  refine hT3.door (fun w' kp kq hb => ?_)
  exact ⟨.tuple #[.int .i64 (cutI (flo (x * 1048576) y)), .bool (c || cutB (flo (x * 1048576) y)), .int .i64 0], by simp [results, Tryz.results13, go_sem, kp, kq], by rw [HX.out, HY.out, HC.out], hb⟩
/-- The square root of a number of steps, and no error, are handed back. -/
def PSqrt (a : Int) (w : World) (e : Ending) (w' : World) : Prop :=
 ∃ R : Nat, R * R ≤ (cutI a * 1048576).natAbs ∧ (cutI a * 1048576).natAbs < (R + 1) * (R + 1) ∧ R ≤ 47453132 ∧ e = .returned (.tuple #[.int .i64 R, .bool (cutB a), .int .i64 0]) ∧ Below w.heap.size w w'
theorem root_bd {R N : Nat} (h : R * R ≤ N) (hN : N ≤ 2251799812636672) : R ≤ 47453132 := by
 refine Nat.le_of_not_lt fun hlt => ?_
 have := Nat.mul_le_mul (show 47453133 ≤ R from hlt) (show 47453133 ≤ R from hlt)
 omega
theorem cut_sign {a : Int} : (cutI a < 0 ↔ a < 0) := by unfold cutI; omega
theorem len_two {w : World} {bl : Bool} {a : Option Addr} {n c : Nat} {z : Int} (h : Num w bl a n c z) (hz : z.natAbs < 18446744073709551616) : n ≤ 10000000 :=
 Nat.le_trans (fit_le h.fit (two_lt hz)) (by omega)
theorem small_is {z : Int} (h1 : -9223372036854775808 ≤ z) (h2 : z ≤ 9223372036854775807) : smallV z = z ∧ smallB z = true := by
 unfold smallV smallB
 exact ⟨if_pos ⟨h1, h2⟩, decide_eq_true ⟨h1, h2⟩⟩
theorem new_below (w : World) (o : Obj) : Below w.heap.size w (w.alloc o) := (Below.refl _ _).alloc (Nat.le_refl _) _
set_option maxHeartbeats 1600000 in
theorem fxSqrt_neg (a : Int) (w : World) (ha : a < 0) : Calls Tryz.prog 15 #[.int .i64 a] w (PVal3 (.int .i64 0) (.bool false) (.int .i64 12) w) := by
 have bx := cut_bd a
 have hx0 := cut_sign.2 ha
 go_enter_defers Tryz.func15, Tryz.ntmps15
 go_wp2_with fail
 have hT := two_mk w 2 4
 generalize (w.alloc (.cells #[.int .i64 0] 2)).alloc (.cells #[.bool false] 4) = w0 at *
 refine (Clamp_any a _).mono ?_
 rintro e w1 ⟨rfl, hB1⟩
 have hT1 := hT.later hB1
 clear hT hB1
 obtain ⟨x, hx⟩ : ∃ x, cutI a = x := ⟨_, rfl⟩
 obtain ⟨c, hc⟩ : ∃ c, cutB a = c := ⟨_, rfl⟩
 rw [hx] at bx hx0
 rw [hx, hc]
 obtain ⟨bx1, bx2⟩ := bx
 obtain ⟨bm1, bm2⟩ := scale_bd bx1 bx2
 clear hx hc
 have hp := hT1.p
 have hq := hT1.q
 have fp := hT1.fp
 have fq := hT1.fq
 go_wp2_with fail
 have hT2 := hT1.putq c
 clear hp hq fp fq hT1
 generalize w1.setCell ⟨w.heap.size + 1, 0, none⟩ (.bool c) = w2 at *
 refine (Of_any (x * 1048576) _ (by omega) (by omega)).mono ?_
 rintro e w3 ⟨b3, a3, n3, c3, rfl, hN3, _, hB3⟩
 have hb3 : b3 = true := by rw [hN3.sgn]; simp; omega
 subst hb3
 have hT3 := hT2.later hB3
 clear hT2 hB3
 go_wp2_with fail
 refine (Root_neg a3 n3 c3 _).mono ?_
 rintro e w4 ⟨b4, a4, n4, c4, rfl, hN4, _, hB4⟩
 have hT4 := hT3.later (hB4.trans ((new_below w4 (.cells #[.bool b4, .slice a4 n4 c4] 53)).mono hB4.size))
 have hp := hT4.p
 have hq := hT4.q
 have fp := hT4.fp
 have fq := hT4.fq
 clear hT3 hB4 hN3 hN4
 go_wp2
 generalize w4.alloc (.cells #[.bool b4, .slice a4 n4 c4] 53) = w5 at *
 have hT5 := (hT4.putp (.int .i64 0)).putq false
 refine hT5.door (fun w' kp kq hb => ?_)
 exact ⟨.tuple #[.int .i64 (cutI 0), .bool (false || cutB 0), .int .i64 12], by simp [results, Tryz.results15, go_sem, kp, kq], rfl, hb⟩
set_option maxHeartbeats 1600000 in
theorem fxSqrt_pos (a : Int) (w : World) (ha : 0 ≤ a) : Calls Tryz.prog 15 #[.int .i64 a] w (PSqrt a w) := by
 have bx := cut_bd a
 have hx0 : ¬ cutI a < 0 := by rw [cut_sign]; omega
 go_enter_defers Tryz.func15, Tryz.ntmps15
 go_wp2_with fail
 have hT := two_mk w 2 4
 generalize (w.alloc (.cells #[.int .i64 0] 2)).alloc (.cells #[.bool false] 4) = w0 at *
 refine (Clamp_any a _).mono ?_
 rintro e w1 ⟨rfl, hB1⟩
 have hT1 := hT.later hB1
 clear hT hB1
 obtain ⟨x, hx⟩ : ∃ x, cutI a = x := ⟨_, rfl⟩
 obtain ⟨c, hc⟩ : ∃ c, cutB a = c := ⟨_, rfl⟩
 rw [hx] at bx hx0
 rw [hx, hc]
 obtain ⟨bx1, bx2⟩ := bx
 obtain ⟨bm1, bm2⟩ := scale_bd bx1 bx2
 have HX := Lib.hid hx
 have HC := Lib.hid hc
 clear hx hc
 have hp := hT1.p
 have hq := hT1.q
 have fp := hT1.fp
 have fq := hT1.fq
 go_wp2_with fail
 have hT2 := hT1.putq c
 clear hp hq fp fq hT1
 generalize w1.setCell ⟨w.heap.size + 1, 0, none⟩ (.bool c) = w2 at *
 refine (Of_any (x * 1048576) _ (by omega) (by omega)).mono ?_
 rintro e w3 ⟨b3, a3, n3, c3, rfl, hN3, _, hB3⟩
 have hb3 : b3 = false := by rw [hN3.sgn]; simp; omega
 subst hb3
 have hT3 := hT2.later hB3
 clear hT2 hB3
 go_wp2_with fail
 refine (Root_pos a3 n3 c3 _ _ hN3 (len_two hN3 (by omega))).mono ?_
 rintro e w4 ⟨R, hR1, hR2, b4, a4, n4, c4, rfl, hN4, _, hB4⟩
 have hRb := root_bd hR1 (by omega)
 have HR := Lib.hid (And.intro hR1 hR2)
 clear hR1 hR2
 have hT4 := hT3.later (hB4.trans ((new_below w4 (.cells #[.bool b4, .slice a4 n4 c4] 53)).mono hB4.size))
 have hM4 := hN4.below (new_below w4 (.cells #[.bool b4, .slice a4 n4 c4] 53))
 have hn4 := len_two hN4 (by omega)
 clear hT3 hB4 hN3 hN4
 go_wp2_with fail
 generalize w4.alloc (.cells #[.bool b4, .slice a4 n4 c4] 53) = w5 at *
 refine (Small_any b4 a4 n4 c4 (R : Int) _ hM4 hn4).mono ?_
 rintro e w6 ⟨rfl, hB6⟩
 rw [(small_is (z := (R : Int)) (by omega) (by omega)).1, (small_is (z := (R : Int)) (by omega) (by omega)).2]
 have hT6 := hT4.later hB6
 have hp := hT6.p
 have hq := hT6.q
 have fp := hT6.fp
 have fq := hT6.fq
 clear hT4 hB6 hM4
 go_wp2
 have hT7 := ((hT6.putp (.int .i64 R)).putp (.int .i64 R)).putq c
 refine hT7.door (fun w' kp kq hb => ?_)
 have hcR := cut_in (n := (R : Int)) (by omega) (by omega)
 rw [hcR.1] at kp
 rw [hcR.2, Bool.or_false] at kq
 exact ⟨.tuple #[.int .i64 R, .bool c, .int .i64 0], by simp [results, Tryz.results15, go_sem, kp, kq], R, by rw [HX.out]; exact HR.out.1, by rw [HX.out]; exact HR.out.2, hRb, by rw [HC.out], hb⟩
end Go.Proofs.YtpahkpcoinbgcaaGreatDoor

/- Spans: what comes of them, as numbers (no walk). -/
namespace Go.Proofs.YtpahkpcoinbgcaaGreatDoor
open Go.RowKit
/-- The root: the greatest number whose square is not above. -/
def isq : Nat → Nat
 | 0 => 0
 | n + 1 => if (isq n + 1) * (isq n + 1) ≤ n + 1 then isq n + 1 else isq n
theorem isq_spec (N : Nat) : isq N * isq N ≤ N ∧ N < (isq N + 1) * (isq N + 1) := by
 induction N with
 | zero => exact ⟨Nat.le_refl _, by decide⟩
 | succ n ih =>
  unfold isq
  generalize isq n = r at *
  have e1 : (r + 1 + 1) * (r + 1 + 1) = (r + 1) * (r + 1) + 2 * r + 3 := by rw [Nat.add_mul (r + 1) 1, Nat.mul_add (r + 1) (r + 1)]; omega
  split
  ·
   next h => exact ⟨h, by omega⟩
  ·
   next h => exact ⟨by omega, by omega⟩
theorem isq_uniq {N R : Nat} (h1 : R * R ≤ N) (h2 : N < (R + 1) * (R + 1)) : R = isq N := by
 obtain ⟨k1, k2⟩ := isq_spec N
 have key : ∀ a b : Nat, a * a ≤ N → N < (b + 1) * (b + 1) → a ≤ b := by
  intro a b ha hb
  refine Nat.le_of_not_lt fun hc => ?_
  have := Nat.mul_le_mul (show b + 1 ≤ a from hc) (show b + 1 ≤ a from hc)
  omega
 have := key R _ h1 k2
 have := key _ R k1 h2
 omega
end Go.Proofs.YtpahkpcoinbgcaaGreatDoor

/- Spans in memory: boxes of three cells, one behind the other. -/
namespace Go.Proofs.YtpahkpcoinbgcaaGreatDoor
open Go.RowKit
theorem heap_new (w : World) (o : Obj) : (w.alloc o).heap[w.heap.size]? = some o := by rw [heap_alloc_new]
theorem heap_set_ne (w : World) {k k' o : Nat} (v : Value) (h : k ≠ k') : (w.setCell ⟨k', o, none⟩ v).heap[k]? = w.heap[k]? := by
 simp only [World.setCell, Array.getElem?_modify]
 rw [if_neg (fun e => h e.symm)]
end Go.Proofs.YtpahkpcoinbgcaaGreatDoor

/- Regions in which variables are made and stored in, in any order; variables of any kind, wherever they lie. No statement of the seat is proved here. -/
namespace Go.Proofs.YtpahkpcoinbgcaaGreatDoor
open Go Go.RowKit
section
variable {P : Program}
def OpY (P : Program) (Q : Exit → Act → World → Prop) (o : Oper) (ops : Array Oper) (A : Act) (VP : Nat → Value → World → Prop) (J : (Nat → Bool) → (Nat → Value) → World → Prop) (n i : Nat) (L : Nat → Bool) (u : Nat → Value) (W : World) : Prop :=
 (Region.wanted o (yielded ops A.tmps) = false ∧ VP i undef W ∧ J (upd L i) (updV u i undef) W) ∨
 (Region.wanted o (yielded ops A.tmps) = true ∧ ∀ K' : Act → World → Prop, (∀ v W', J (upd L i) (updV u i v) W' → VP i v W' → (∀ j, j < n → VP j (u j) W → VP j (u j) W') → K' (A.put o.dst v) W') → Oper.wp P o A W K' Q)
theorem wp_region_y {Q : Exit → Act → World → Prop} {id : Nat} {a : Act} {w : World} {l : List Oper} (n : Nat) (ds : List (Option Tmp)) (VP : Nat → Value → World → Prop) (J : (Nat → Bool) → (Nat → Value) → World → Prop) (hm : P.follows .mixedOrders = true) (hB : tailsB2 .any l.toArray n = true) (hds : ds = (l.take n).map (·.dst)) (hs : slotsB ds = true)
  (hz : ds.all (fun d => match d with | some t => decide (t < a.tmps.size) | none => true) = true)
  (h0 : ∀ u, J (fun _ => false) u w.drew)
  (step : ∀ i (hi : i < l.length), i < n → ∀ (L : Nat → Bool) (u : Nat → Value) (W : World) (A : Act), L i = false → J L u W → (∀ j, j < n → Region.waitsFor .any l.toArray i j = true → L j = true ∧ VP j (u j) W) →
   (∀ t, some t ∉ ds → A.tmps[t]? = a.tmps[t]?) → (∀ j d, ds[j]? = some (some d) → A.tmps[d]? = some (u j)) → OpY P Q l[i] l.toArray A VP J n i L u W)
  (fin : ∀ (L : Nat → Bool) (u : Nat → Value) (W : World), (∀ j, j < n → L j = true) → J L u W → (∀ j, j < n → VP j (u j) W) → wpList P l.toArray Q (l.drop n) (layS a ds u 0) W) : (Code.region id l.toArray true).wp P Q a w := by
 have hl : n ≤ l.length := by
  have hB' := hB
  unfold tailsB2 at hB'
  simp only [Bool.and_eq_true, decide_eq_true_eq] at hB'
  simpa using hB'.1.1.1
 have hlen : ds.length = n := by rw [hds]; simp; omega
 refine wp_region_inv2 n (fun L a' W => ∃ u : Nat → Value, J L u W ∧ (∀ j, j < n → L j = true → VP j (u j) W) ∧ a' = layS a ds u 0) hm hB ⟨fun k => ((ds.getD k none).map fun t => a.tmps.getD t undef).getD undef, h0 _, nofun, ?_⟩ ?_ ?_
 ·
  refine (layS_self a ds _ 0 (fun j d hj => ?_)).symm
  have : ds.getD (0 + j) none = d := by rw [Nat.zero_add, List.getD_eq_getElem?_getD, hj]; rfl
  rw [this]
 ·
  rintro L a' W i hi ⟨u, hJ, hu, rfl⟩ hLi hw
  have hil : i < l.length := Nat.lt_of_lt_of_le hi hl
  have hid : ds[i]? = some l[i].dst := by
   rw [hds]
   simp [List.getElem?_take, hi, hil]
  have hinn : ∀ j d, ds[j]? = some (some d) → (layS a ds u 0).tmps[d]? = some (u j) := by
   intro j d hj
   have hd' : d < a.tmps.size := by
    have := List.all_eq_true.1 hz _ (List.mem_of_getElem? hj)
    simpa using this
   have h1 := layS_in ds a u 0 j d hs hj hd'
   rwa [Nat.zero_add] at h1
  refine wpOp_step (o := l[i]) (by simp [hil]) (fun K' hK => ?_)
  have key : ∀ W' v, J (upd L i) (updV u i v) W' → VP i v W' → (∀ j, j < n → VP j (u j) W → VP j (u j) W') → K' ((layS a ds u 0).put l[i].dst v) W' := by
   intro W' v hj hv hb
   rw [layS_put hs hid]
   refine hK _ _ ⟨updV u i v, hj, fun j hjn hLj => ?_, rfl⟩
   unfold updV
   by_cases h : j = i
   ·
    rw [if_pos h, h]; exact hv
   ·
    rw [if_neg h]
    rw [upd_ne h] at hLj
    exact hb j hjn (hu j hjn hLj)
  rcases step i hil hi L u W _ hLi hJ (fun j hjn hj => ⟨hw j hj, hu j hjn (hw j hj)⟩) (fun t ht => layS_out _ _ _ _ _ ht) hinn with ⟨h1, h2, h3⟩ | ⟨h1, h2⟩
  ·
   rw [if_neg (by rw [h1]; decide)]
   exact key W undef h3 h2 (fun _ _ h => h)
  ·
   rw [if_pos h1]
   exact h2 K' (fun v W' hj hv hb => key W' v hj hv hb)
 ·
  rintro a' W ⟨L, hL, u, hJ, hu, rfl⟩
  exact fin L u W hL hJ (fun j hj => hu j hj (hL j hj))
end
/-- Variables and what they hold. -/
def Cl (W : World) (p : Nat × Array Value × TypeId) : Prop := W.heap[p.1]? = some (.cells p.2.1 p.2.2 (0, 0))
theorem Cl.below {W W' : World} {p : Nat × Array Value × TypeId} (h : Cl W p) (hb : Below W.heap.size W W') : Cl W' p := by
 unfold Cl at h ⊢
 rw [hb.block _ (Array.getElem?_eq_some_iff.1 h).1]
 exact h
theorem Cl.far {W : World} {p : Nat × Array Value × TypeId} (h : Cl W p) {b : Nat} (hb : p.1 ≠ b) (x y : Value) : Cl ((W.setCell ⟨b, 0, none⟩ x).setCell ⟨b, 1, none⟩ y) p := by
 unfold Cl at h ⊢
 rw [heap_set_ne _ _ hb, heap_set_ne _ _ hb]
 exact h
/-- A number of the document's: its parts, its value. -/
structure NR where
 b : Bool
 a : Option Addr
 n : Nat
 c : Nat
 z : Int
def NR.v (p : NR) : Value := .agg #[.bool p.b, .slice p.a p.n p.c]
def NR.is (p : NR) (W : World) : Prop := RNum W p.b p.a p.n p.c p.z
/-- What is known between regions: the variables, the numbers. -/
structure Cs (w W : World) (l : List (Nat × Array Value × TypeId)) (ns : List NR) : Prop where
 below : Below w.heap.size w W
 at' : ∀ p, p ∈ l → Cl W p
 num : ∀ p, p ∈ ns → p.is W
theorem Cs.later {w W W' : World} {l : List (Nat × Array Value × TypeId)} {ns : List NR} (h : Cs w W l ns) (hb : Below W.heap.size W W') : Cs w W' l ns := ⟨h.below.trans (hb.mono h.below.size), fun p hp => (h.at' p hp).below hb, fun p hp => RNum.below (h.num p hp) hb⟩
theorem Cs.drew {w W : World} {l : List (Nat × Array Value × TypeId)} {ns : List NR} (h : Cs w W l ns) : Cs w W.drew l ns := h.later (Below.refl _ _).drew
theorem Cs.new {w W : World} {l : List (Nat × Array Value × TypeId)} {ns : List NR} (h : Cs w W l ns) (C : Array Value) (T : TypeId) : Cs w (W.alloc (.cells C T)) ((W.heap.size, C, T) :: l) ns := by
 have hb : Below W.heap.size W (W.alloc (.cells C T)) := (Below.refl _ _).alloc (Nat.le_refl _) _
 refine ⟨(h.later hb).below, fun p hp => ?_, (h.later hb).num⟩
 rcases List.mem_cons.1 hp with rfl | hp
 ·
  exact heap_new W _
 ·
  exact (h.later hb).at' p hp
theorem Cs.lt {w W : World} {l : List (Nat × Array Value × TypeId)} {ns : List NR} (h : Cs w W l ns) : ∀ p, p ∈ l → p.1 < W.heap.size := fun p hp => (Array.getElem?_eq_some_iff.1 (h.at' p hp)).1
theorem Cs.more {w W : World} {l : List (Nat × Array Value × TypeId)} {ns : List NR} (h : Cs w W l ns) {p : NR} (hp : p.is W) : Cs w W l (p :: ns) := ⟨h.below, h.at', fun q hq => by
 rcases List.mem_cons.1 hq with rfl | hq
 ·
  exact hp
 ·
  exact h.num q hq⟩
/-- In a region: all of them ahead of m. -/
structure Cm (w : World) (m : Nat) (l : List (Nat × Array Value × TypeId)) (ns : List NR) (W : World) : Prop where
 cs : Cs w W l ns
 le : m ≤ W.heap.size
 lt : ∀ p, p ∈ l → p.1 < m
 ge : w.heap.size ≤ m
theorem Cs.cm {w W : World} {l : List (Nat × Array Value × TypeId)} {ns : List NR} (h : Cs w W l ns) : Cm w W.heap.size l ns W.drew := ⟨h.drew, Nat.le_refl _, h.lt, h.below.size⟩
theorem Cm.later {w W W' : World} {m : Nat} {l : List (Nat × Array Value × TypeId)} {ns : List NR} (h : Cm w m l ns W) (hb : Below W.heap.size W W') : Cm w m l ns W' := ⟨h.cs.later hb, Nat.le_trans h.le hb.size, h.lt, h.ge⟩
theorem Cm.far {w W : World} {m b : Nat} {l : List (Nat × Array Value × TypeId)} {ns : List NR} (h : Cm w m l ns W) (hb : m ≤ b) {t : TypeId} {bk : Bool} {ak : Option Addr} {nk ck : Nat} (hk : Bx W t b (.bool bk) (.slice ak nk ck)) (x y : Value) : Cm w m l ns ((W.setCell ⟨b, 0, none⟩ x).setCell ⟨b, 1, none⟩ y) := by
 have h1 := h.le
 have h2 := h.ge
 refine ⟨⟨(h.cs.below.setCell (p := ⟨b, 0, none⟩) (by show w.heap.size ≤ b; omega) _).setCell (p := ⟨b, 1, none⟩) (by show w.heap.size ≤ b; omega) _, fun p hp => (h.cs.at' p hp).far (by have := h.lt p hp; omega) _ _, fun p hp => RNum.store (h.cs.num p hp) hk _ _⟩, ?_, h.lt, h.ge⟩
 rw [World.size_setCell, World.size_setCell]
 exact h1
/-- The invariant of a region: al the operations that make variables of numbers, sts those that store: (the store, where, what). -/
structure Jy (w : World) (m : Nat) (l : List (Nat × Array Value × TypeId)) (ns : List NR) (T : TypeId) (al : List Nat) (sts : List (Nat × Nat × Nat)) (L : Nat → Bool) (u : Nat → Value) (W : World) : Prop where
 cm : Cm w m l ns W
 bx : ∀ a, a ∈ al → L a = true → ∃ (b : Nat) (bk : Bool) (ak : Option Addr) (nk ck : Nat), u a = .pointer (some ⟨b, 0, none⟩) ∧ m ≤ b ∧ Bx W T b (.bool bk) (.slice ak nk ck)
 ne : ∀ a a', a ∈ al → a' ∈ al → a ≠ a' → L a = true → L a' = true → u a ≠ u a'
 st : ∀ s, s ∈ sts → L s.1 = true → L s.2.1 = true ∧ L s.2.2 = true ∧ ∃ (b : Nat) (p q : Value), u s.2.1 = .pointer (some ⟨b, 0, none⟩) ∧ u s.2.2 = .agg #[p, q] ∧ Bx W T b p q
section
variable {w W : World} {m : Nat} {l : List (Nat × Array Value × TypeId)} {ns : List NR} {T : TypeId} {al : List Nat} {sts : List (Nat × Nat × Nat)} {L : Nat → Bool} {u : Nat → Value}
theorem Jy.start (h : Cs w W l ns) (u : Nat → Value) : Jy w W.heap.size l ns T al sts (fun _ => false) u W.drew := ⟨h.cm, nofun, nofun, nofun⟩
theorem upd_mono {i j : Nat} (h : L j = true) : upd L i j = true := by
 unfold upd
 split
 ·
  rfl
 ·
  exact h
theorem updV_ne {i j : Nat} {v : Value} (h : j ≠ i) : updV u i v j = u j := if_neg h
theorem ne_of {i j : Nat} (h1 : L i = false) (h2 : L j = true) : j ≠ i := fun e => by rw [e, h1] at h2; cases h2
/-- An operation that only makes memory grow. -/
theorem Jy.grow {W' : World} {i : Nat} {v : Value} (h : Jy w m l ns T al sts L u W) (hLi : L i = false) (ha : i ∉ al) (hs : ∀ s, s ∈ sts → s.1 ≠ i) (hb : Below W.heap.size W W') : Jy w m l ns T al sts (upd L i) (updV u i v) W' := by
 refine ⟨h.cm.later hb, fun a ha' hL => ?_, fun a a' h1 h2 hne hL1 hL2 => ?_, fun s hs' hL => ?_⟩
 ·
  have e : a ≠ i := fun e => ha (e ▸ ha')
  rw [upd_ne e] at hL
  obtain ⟨b, bk, ak, nk, ck, e1, e2, e3⟩ := h.bx a ha' hL
  exact ⟨b, bk, ak, nk, ck, by rw [updV_ne e]; exact e1, e2, e3.below hb⟩
 ·
  have e : a ≠ i := fun e => ha (e ▸ h1)
  have e' : a' ≠ i := fun e => ha (e ▸ h2)
  rw [upd_ne e] at hL1
  rw [upd_ne e'] at hL2
  rw [updV_ne e, updV_ne e']
  exact h.ne a a' h1 h2 hne hL1 hL2
 ·
  rw [upd_ne (hs s hs')] at hL
  obtain ⟨k1, k2, b, p, q, e1, e2, e3⟩ := h.st s hs' hL
  exact ⟨upd_mono k1, upd_mono k2, b, p, q, by rw [updV_ne (ne_of hLi k1)]; exact e1, by rw [updV_ne (ne_of hLi k2)]; exact e2, e3.below hb⟩
/-- An operation that makes a variable. -/
theorem Jy.alloc {i : Nat} (h : Jy w m l ns T al sts L u W) (hLi : L i = false) (hs : ∀ s, s ∈ sts → s.1 ≠ i) : Jy w m l ns T al sts (upd L i) (updV u i (.pointer (some ⟨W.heap.size, 0, none⟩))) (W.alloc (.cells #[.bool false, .slice none 0 0] T)) := by
 have hb : Below W.heap.size W (W.alloc (.cells #[.bool false, .slice none 0 0] T)) := (Below.refl _ _).alloc (Nat.le_refl _) _
 refine ⟨h.cm.later hb, fun a ha' hL => ?_, fun a a' h1 h2 hne hL1 hL2 => ?_, fun s hs' hL => ?_⟩
 ·
  by_cases e : a = i
  ·
   subst e
   exact ⟨W.heap.size, false, none, 0, 0, by simp [updV], h.cm.le, bx_new _ _ _ _⟩
  ·
   rw [upd_ne e] at hL
   obtain ⟨b, bk, ak, nk, ck, e1, e2, e3⟩ := h.bx a ha' hL
   exact ⟨b, bk, ak, nk, ck, by rw [updV_ne e]; exact e1, e2, e3.below hb⟩
 ·
  have old : ∀ a, a ∈ al → a ≠ i → upd L i a = true → updV u i (.pointer (some ⟨W.heap.size, 0, none⟩)) a ≠ .pointer (some ⟨W.heap.size, 0, none⟩) := by
   intro a ha e hL hc
   rw [upd_ne e] at hL
   obtain ⟨b, _, _, _, _, e1, _, e3⟩ := h.bx a ha hL
   rw [updV_ne e, e1] at hc
   have := e3.lt
   injection hc with hc
   injection hc with hc
   injection hc with hc
   omega
  by_cases e : a = i
  ·
   have e' : a' ≠ i := fun x => hne (e.trans x.symm)
   intro hc
   refine old a' h2 e' hL2 ?_
   rw [← hc, e]
   simp [updV]
  ·
   by_cases e' : a' = i
   ·
    intro hc
    refine old a h1 e hL1 ?_
    rw [hc, e']
    simp [updV]
   ·
    rw [upd_ne e] at hL1
    rw [upd_ne e'] at hL2
    rw [updV_ne e, updV_ne e']
    exact h.ne a a' h1 h2 hne hL1 hL2
 ·
  rw [upd_ne (hs s hs')] at hL
  obtain ⟨k1, k2, b, p, q, e1, e2, e3⟩ := h.st s hs' hL
  exact ⟨upd_mono k1, upd_mono k2, b, p, q, by rw [updV_ne (ne_of hLi k1)]; exact e1, by rw [updV_ne (ne_of hLi k2)]; exact e2, e3.below hb⟩
/-- An operation that stores a number in a variable that was made. -/
theorem Jy.store {i a x b : Nat} {bk : Bool} {ak : Option Addr} {nk ck : Nat} {b' : Bool} {a' : Option Addr} {n' c' : Nat} {v : Value} (h : Jy w m l ns T al sts L u W) (hLi : L i = false) (ha : i ∉ al) (hin : a ∈ al) (hua : ∀ s, s ∈ sts → s.1 = i → s = (i, a, x)) (hal : ∀ s, s ∈ sts → s.2.1 ∈ al) (hun : ∀ s, s ∈ sts → s.1 ≠ i → s.2.1 ≠ a) (hLa : L a = true) (hLx : L x = true) (eu : u a = .pointer (some ⟨b, 0, none⟩)) (hm : m ≤ b) (hB : Bx W T b (.bool bk) (.slice ak nk ck)) (ex : u x = .agg #[.bool b', .slice a' n' c']) :
  Jy w m l ns T al sts (upd L i) (updV u i v) ((W.setCell ⟨b, 0, none⟩ (.bool b')).setCell ⟨b, 1, none⟩ (.slice a' n' c')) := by
 refine ⟨h.cm.far hm hB _ _, fun a1 ha' hL => ?_, fun a1 a2 h1 h2 hne hL1 hL2 => ?_, fun s hs' hL => ?_⟩
 ·
  have e : a1 ≠ i := fun e => ha (e ▸ ha')
  rw [upd_ne e] at hL
  obtain ⟨b1, bk1, ak1, nk1, ck1, e1, e2, e3⟩ := h.bx a1 ha' hL
  by_cases hb : b1 = b
  ·
   subst hb
   exact ⟨b1, b', a', n', c', by rw [updV_ne e]; exact e1, e2, e3.self _ _⟩
  ·
   exact ⟨b1, bk1, ak1, nk1, ck1, by rw [updV_ne e]; exact e1, e2, e3.other hb _ _⟩
 ·
  have e : a1 ≠ i := fun e => ha (e ▸ h1)
  have e' : a2 ≠ i := fun e => ha (e ▸ h2)
  rw [upd_ne e] at hL1
  rw [upd_ne e'] at hL2
  rw [updV_ne e, updV_ne e']
  exact h.ne a1 a2 h1 h2 hne hL1 hL2
 ·
  by_cases hs : s.1 = i
  ·
   rw [hua s hs' hs]
   refine ⟨upd_mono hLa, upd_mono hLx, b, _, _, by rw [updV_ne (ne_of hLi hLa)]; exact eu, by rw [updV_ne (ne_of hLi hLx)]; exact ex, hB.self _ _⟩
  ·
   rw [upd_ne hs] at hL
   obtain ⟨k1, k2, b1, p, q, e1, e2, e3⟩ := h.st s hs' hL
   have hb : b1 ≠ b := by
    intro hc
    refine h.ne s.2.1 a (hal s hs') hin (hun s hs' hs) k1 hLa ?_
    rw [e1, eu, hc]
   exact ⟨upd_mono k1, upd_mono k2, b1, p, q, by rw [updV_ne (ne_of hLi k1)]; exact e1, by rw [updV_ne (ne_of hLi k2)]; exact e2, e3.other hb _ _⟩
end
end Go.Proofs.YtpahkpcoinbgcaaGreatDoor
