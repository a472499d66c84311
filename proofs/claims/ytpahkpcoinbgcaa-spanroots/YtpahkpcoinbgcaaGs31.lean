/- Parts of the proof. -/
import Derived.Test.YtpahkpcoinbgcaaGs28
import Derived.Test.YtpahkpcoinbgcaaGs30
import Derived.Test.YtpahkpcoinbgcaaGs1
/- Spans that hold fractions; what is enclosed holds the sum of 13 terms. No statement of the seat is proved here. -/
namespace Go.Proofs.Ytpahkpcoinbgcaa
open Go.RowKit
/-- The sums over any measure q of the number p. -/
def mQ (q : Nat) (c k : Nat) : Nat := q * grN (c + 2 * k) 2
def hV (q : Nat) (c : Nat) (p : Int) : Nat → Int
 | 0 => 1
 | k + 1 => hV q c p k * (mQ q c k : Nat) + (-p) ^ (k + 1)
theorem pw_nonneg {m : Int} (h : 0 ≤ m) : ∀ j : Nat, 0 ≤ m ^ j
 | 0 => by rw [Int.pow_zero]; decide
 | j + 1 => by rw [Int.pow_succ]; exact Int.mul_nonneg (pw_nonneg h j) h
theorem dd {m n : Int} (h0 : 0 ≤ m) (h : m ≤ n) : ∀ j : Nat, 0 ≤ n ^ j - m ^ j ∧ (n - m) * m ^ j ≤ n ^ (j + 1) - m ^ (j + 1)
 | 0 => by simp [Int.pow_succ]
 | j + 1 => by
  obtain ⟨h1, h2⟩ := dd h0 h j
  have h3 : 0 ≤ (n - m) * m ^ j := Int.mul_nonneg (by omega) (pw_nonneg h0 j)
  refine ⟨by omega, ?_⟩
  have e : n ^ (j + 1 + 1) - m ^ (j + 1 + 1) = (n - m) * m ^ (j + 1) + n * (n ^ (j + 1) - m ^ (j + 1)) := by
   rw [Int.pow_succ n (j + 1), Int.pow_succ m (j + 1), Int.sub_mul, Int.mul_sub, Int.mul_comm (n ^ (j + 1)) n, Int.mul_comm (m ^ (j + 1)) m]
   omega
  have h4 : 0 ≤ n * (n ^ (j + 1) - m ^ (j + 1)) := Int.mul_nonneg (by omega) (by omega)
  omega
theorem dd2 {m n : Int} (h0 : 0 ≤ m) (h : m ≤ n) (j : Nat) : n ^ (j + 2) - m ^ (j + 2) ≤ (n + m) * (n ^ (j + 1) - m ^ (j + 1)) := by
 have h2 := (dd h0 h j).2
 have e : n ^ (j + 2) - m ^ (j + 2) = n * (n ^ (j + 1) - m ^ (j + 1)) + m * ((n - m) * m ^ j) := by
  show n ^ (j + 1 + 1) - m ^ (j + 1 + 1) = _
  rw [Int.pow_succ n (j + 1), Int.pow_succ m (j + 1), Int.mul_sub, Int.mul_comm (n ^ (j + 1)) n, Int.mul_comm (m ^ (j + 1)) m, ← Int.mul_assoc, Int.mul_comm m (n - m), Int.mul_assoc (n - m) m, Int.mul_comm m (m ^ j), ← Int.pow_succ, Nat.succ_eq_add_one, Int.sub_mul]
  omega
 rw [e, Int.add_mul]
 have := Int.mul_le_mul_of_nonneg_left h2 h0
 omega
end Go.Proofs.Ytpahkpcoinbgcaa

/- Spans: the walks of the laws' awake and within. -/
namespace Go.Proofs.Ytpahkpcoinbgcaa
open Go.RowKit
attribute [local go_sem ↓] run_eqlS run_neqS
theorem sOf_at {a b : Int} {z : Sp} (h : ofS a b = z) (w : World) : Calls Try.prog 67 #[.int .i64 a, .int .i64 b] w (PSp z w) := h ▸ sOf_any a b w
theorem sMul_at {x y z : Sp} (h : mulS x y = z) (w : World) : Calls Try.prog 16 #[.agg #[.int .i64 x.lo, .int .i64 x.hi, .bool x.all], .agg #[.int .i64 y.lo, .int .i64 y.hi, .bool y.all]] w (PSp z w) := h ▸ sMul_any x y w
theorem sDiv_at {x y z : Sp} (h : divS x y = z) (w : World) : Calls Try.prog 17 #[.agg #[.int .i64 x.lo, .int .i64 x.hi, .bool x.all], .agg #[.int .i64 y.lo, .int .i64 y.hi, .bool y.all]] w (PSp z w) := h ▸ sDiv_any x y w
theorem sAdd_at {x y z : Sp} (h : addS x y = z) (w : World) : Calls Try.prog 14 #[.agg #[.int .i64 x.lo, .int .i64 x.hi, .bool x.all], .agg #[.int .i64 y.lo, .int .i64 y.hi, .bool y.all]] w (PSp z w) := h ▸ sAdd_any x y w
theorem sSqr_at {x z : Sp} (h : sqrS x = z) (w : World) : Calls Try.prog 23 #[.agg #[.int .i64 x.lo, .int .i64 x.hi, .bool x.all]] w (PSp z w) := h ▸ sSqr_any x w
theorem sSqrt_at {x z : Sp} (h : sqrtS x = z) (w : World) : Calls Try.prog 24 #[.agg #[.int .i64 x.lo, .int .i64 x.hi, .bool x.all]] w (PSp z w) := h ▸ sSqrt_any x w
theorem Mid_at {x : Sp} {n : Int} (h : midS x = n) (w : World) : Calls Try.prog 68 #[.agg #[.int .i64 x.lo, .int .i64 x.hi, .bool x.all]] w (PVal (.int .i64 n) w) := h ▸ Mid_any x w
theorem Rad_at {x : Sp} {n : Int} (h : radS x = n) (w : World) : Calls Try.prog 69 #[.agg #[.int .i64 x.lo, .int .i64 x.hi, .bool x.all]] w (PVal (.int .i64 n) w) := h ▸ Rad_any x w
theorem rt_two : rtN 2097152 = 1482910 := (isq_uniq (by decide) (by decide)).symm
theorem sqrt_ex : sqrtS ⟨-1048576, 2097152, false⟩ = ⟨0, 1482911, false⟩ := by
 have e1 : rootS 2097152 = ⟨1482910, 1482911, false⟩ := by
  unfold rootS
  rw [rt_two]
  rfl
 have e2 : rootS (max (-1048576) 0) = ⟨0, 0, false⟩ := rfl
 unfold sqrtS
 rw [if_pos (by rfl)]
 show joinS (rootS (max (-1048576) 0)) (rootS 2097152) = _
 rw [e1, e2]
 rfl
set_option maxRecDepth 100000 in
set_option maxHeartbeats 1600000 in
theorem sawake_any (w : World) : Calls Try.prog 12 #[] w (PVal (.bool true) w) := by
 have hb0 := Below.refl w.heap.size w
 go_enter Try.func12, Try.ntmps12
 go_wp2_with fail
 refine (sOf_at (a := 2) (b := -1) (z := ⟨-1, 2, false⟩) rfl _).mono ?_
 rintro e W1 ⟨rfl, hB⟩
 replace hb0 := hb0.trans (hB.mono hb0.size)
 clear hB
 go_wp2_with fail
 refine (sOf_at (a := 1048576) (b := 3145728) (z := ⟨1048576, 3145728, false⟩) rfl _).mono ?_
 rintro e W2 ⟨rfl, hB⟩
 replace hb0 := hb0.trans (hB.mono hb0.size)
 clear hB
 go_wp2_with fail
 refine (sMul_at (x := ⟨-1, 2, false⟩) (y := ⟨1048576, 3145728, false⟩) (z := ⟨-3, 6, false⟩) rfl _).mono ?_
 rintro e W3 ⟨rfl, hB⟩
 replace hb0 := hb0.trans (hB.mono hb0.size)
 clear hB
 go_wp2_with fail
 refine (sOf_at (a := 1048576) (b := 1048576) (z := ⟨1048576, 1048576, false⟩) rfl _).mono ?_
 rintro e W4 ⟨rfl, hB⟩
 have k0 := (b3_new W3 ⟨-3, 6, false⟩).below hB
 have hx : Below W3.heap.size W3 W4 := ((Below.refl _ _).alloc (Nat.le_refl _) _).trans (hB.mono (by simp))
 replace hb0 := hb0.trans (hx.mono hb0.size)
 clear hB hx
 go_wp2_with fail
 refine (sOf_at (a := 3145728) (b := 3145728) (z := ⟨3145728, 3145728, false⟩) rfl _).mono ?_
 rintro e W5 ⟨rfl, hB⟩
 replace k0 := k0.below hB
 replace hb0 := hb0.trans (hB.mono hb0.size)
 clear hB
 go_wp2_with fail
 refine (sDiv_at (x := ⟨1048576, 1048576, false⟩) (y := ⟨3145728, 3145728, false⟩) (z := ⟨349525, 349526, false⟩) rfl _).mono ?_
 rintro e W6 ⟨rfl, hB⟩
 replace k0 := k0.below hB
 replace hb0 := hb0.trans (hB.mono hb0.size)
 clear hB
 go_wp2_with fail
 refine (sOf_at (a := (-2097152)) (b := 1048576) (z := ⟨-2097152, 1048576, false⟩) rfl _).mono ?_
 rintro e W7 ⟨rfl, hB⟩
 have k1 := (b3_new W6 ⟨349525, 349526, false⟩).below hB
 have hx : Below W6.heap.size W6 W7 := ((Below.refl _ _).alloc (Nat.le_refl _) _).trans (hB.mono (by simp))
 replace k0 := k0.below hx
 replace hb0 := hb0.trans (hx.mono hb0.size)
 clear hB hx
 go_wp2_with fail
 refine (sSqr_at (x := ⟨-2097152, 1048576, false⟩) (z := ⟨0, 4194304, false⟩) rfl _).mono ?_
 rintro e W8 ⟨rfl, hB⟩
 replace k0 := k0.below hB
 replace k1 := k1.below hB
 replace hb0 := hb0.trans (hB.mono hb0.size)
 clear hB
 go_wp2_with fail
 refine (sOf_at (a := (-1048576)) (b := 2097152) (z := ⟨-1048576, 2097152, false⟩) rfl _).mono ?_
 rintro e W9 ⟨rfl, hB⟩
 have k2 := (b3_new W8 ⟨0, 4194304, false⟩).below hB
 have hx : Below W8.heap.size W8 W9 := ((Below.refl _ _).alloc (Nat.le_refl _) _).trans (hB.mono (by simp))
 replace k0 := k0.below hx
 replace k1 := k1.below hx
 replace hb0 := hb0.trans (hx.mono hb0.size)
 clear hB hx
 go_wp2_with fail
 refine (sSqrt_at (x := ⟨-1048576, 2097152, false⟩) (z := ⟨0, 1482911, false⟩) sqrt_ex _).mono ?_
 rintro e W10 ⟨rfl, hB⟩
 replace k0 := k0.below hB
 replace k1 := k1.below hB
 replace k2 := k2.below hB
 replace hb0 := hb0.trans (hB.mono hb0.size)
 clear hB
 go_wp2_with fail
 refine (sOf_at (a := 1) (b := 2) (z := ⟨1, 2, false⟩) rfl _).mono ?_
 rintro e W11 ⟨rfl, hB⟩
 have k3 := (b3_new W10 ⟨0, 1482911, false⟩).below hB
 have hx : Below W10.heap.size W10 W11 := ((Below.refl _ _).alloc (Nat.le_refl _) _).trans (hB.mono (by simp))
 replace k0 := k0.below hx
 replace k1 := k1.below hx
 replace k2 := k2.below hx
 replace hb0 := hb0.trans (hx.mono hb0.size)
 clear hB hx
 go_wp2_with fail
 refine (sOf_at (a := (-1)) (b := 1) (z := ⟨-1, 1, false⟩) rfl _).mono ?_
 rintro e W12 ⟨rfl, hB⟩
 replace k0 := k0.below hB
 replace k1 := k1.below hB
 replace k2 := k2.below hB
 replace k3 := k3.below hB
 replace hb0 := hb0.trans (hB.mono hb0.size)
 clear hB
 go_wp2_with fail
 refine (sDiv_at (x := ⟨1, 2, false⟩) (y := ⟨-1, 1, false⟩) (z := ⟨0, 0, true⟩) rfl _).mono ?_
 rintro e W13 ⟨rfl, hB⟩
 replace k0 := k0.below hB
 replace k1 := k1.below hB
 replace k2 := k2.below hB
 replace k3 := k3.below hB
 replace hb0 := hb0.trans (hB.mono hb0.size)
 clear hB
 go_wp2_with fail
 refine (sOf_at (a := 2147483647) (b := 2147483647) (z := ⟨2147483647, 2147483647, false⟩) rfl _).mono ?_
 rintro e W14 ⟨rfl, hB⟩
 have k4 := (b3_new W13 ⟨0, 0, true⟩).below hB
 have hx : Below W13.heap.size W13 W14 := ((Below.refl _ _).alloc (Nat.le_refl _) _).trans (hB.mono (by simp))
 replace k0 := k0.below hx
 replace k1 := k1.below hx
 replace k2 := k2.below hx
 replace k3 := k3.below hx
 replace hb0 := hb0.trans (hx.mono hb0.size)
 clear hB hx
 go_wp2_with fail
 refine (sOf_at (a := 1) (b := 1) (z := ⟨1, 1, false⟩) rfl _).mono ?_
 rintro e W15 ⟨rfl, hB⟩
 replace k0 := k0.below hB
 replace k1 := k1.below hB
 replace k2 := k2.below hB
 replace k3 := k3.below hB
 replace k4 := k4.below hB
 replace hb0 := hb0.trans (hB.mono hb0.size)
 clear hB
 go_wp2_with fail
 refine (sAdd_at (x := ⟨2147483647, 2147483647, false⟩) (y := ⟨1, 1, false⟩) (z := ⟨0, 0, true⟩) rfl _).mono ?_
 rintro e W16 ⟨rfl, hB⟩
 replace k0 := k0.below hB
 replace k1 := k1.below hB
 replace k2 := k2.below hB
 replace k3 := k3.below hB
 replace k4 := k4.below hB
 replace hb0 := hb0.trans (hB.mono hb0.size)
 clear hB
 go_wp2_with fail
 refine (sOf_at (a := 1) (b := 4) (z := ⟨1, 4, false⟩) rfl _).mono ?_
 rintro e W17 ⟨rfl, hB⟩
 have k5 := (b3_new W16 ⟨0, 0, true⟩).below hB
 have hx : Below W16.heap.size W16 W17 := ((Below.refl _ _).alloc (Nat.le_refl _) _).trans (hB.mono (by simp))
 replace k0 := k0.below hx
 replace k1 := k1.below hx
 replace k2 := k2.below hx
 replace k3 := k3.below hx
 replace k4 := k4.below hx
 replace hb0 := hb0.trans (hx.mono hb0.size)
 clear hB hx
 go_wp2_with fail
 refine (Mid_at (x := ⟨1, 4, false⟩) (n := 2) rfl _).mono ?_
 rintro e W18 ⟨rfl, hB⟩
 replace k0 := k0.below hB
 replace k1 := k1.below hB
 replace k2 := k2.below hB
 replace k3 := k3.below hB
 replace k4 := k4.below hB
 replace k5 := k5.below hB
 replace hb0 := hb0.trans (hB.mono hb0.size)
 clear hB
 go_wp2_with fail
 refine (sOf_at (a := 1) (b := 4) (z := ⟨1, 4, false⟩) rfl _).mono ?_
 rintro e W19 ⟨rfl, hB⟩
 replace k0 := k0.below hB
 replace k1 := k1.below hB
 replace k2 := k2.below hB
 replace k3 := k3.below hB
 replace k4 := k4.below hB
 replace k5 := k5.below hB
 replace hb0 := hb0.trans (hB.mono hb0.size)
 clear hB
 go_wp2_with fail
 refine (Rad_at (x := ⟨1, 4, false⟩) (n := 2) rfl _).mono ?_
 rintro e W20 ⟨rfl, hB⟩
 replace k0 := k0.below hB
 replace k1 := k1.below hB
 replace k2 := k2.below hB
 replace k3 := k3.below hB
 replace k4 := k4.below hB
 replace k5 := k5.below hB
 replace hb0 := hb0.trans (hB.mono hb0.size)
 clear hB
 have k0a := k0.cells.1
 have k0b := k0.cells.2.1
 have k0c := k0.cells.2.2.1
 have k0l := (Array.getElem?_eq_some_iff.1 k0).1
 have k1a := k1.cells.1
 have k1b := k1.cells.2.1
 have k1c := k1.cells.2.2.1
 have k1l := (Array.getElem?_eq_some_iff.1 k1).1
 have k2a := k2.cells.1
 have k2b := k2.cells.2.1
 have k2c := k2.cells.2.2.1
 have k2l := (Array.getElem?_eq_some_iff.1 k2).1
 have k3a := k3.cells.1
 have k3b := k3.cells.2.1
 have k3c := k3.cells.2.2.1
 have k3l := (Array.getElem?_eq_some_iff.1 k3).1
 have k4a := k4.cells.1
 have k4b := k4.cells.2.1
 have k4c := k4.cells.2.2.1
 have k4l := (Array.getElem?_eq_some_iff.1 k4).1
 have k5a := k5.cells.1
 have k5b := k5.cells.2.1
 have k5c := k5.cells.2.2.1
 have k5l := (Array.getElem?_eq_some_iff.1 k5).1
 have hfin : Below w.heap.size w (W20.alloc (.cells #[.int .i64 0, .int .i64 0, .bool true] 23)) := hb0.alloc hb0.size _
 go_wp2
 go_ret
 exact ⟨rfl, hfin⟩
end Go.Proofs.Ytpahkpcoinbgcaa
