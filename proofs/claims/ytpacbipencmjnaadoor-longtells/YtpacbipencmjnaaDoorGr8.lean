/- The walk of the law LongSmall. -/
import Derived.Test.YtpacbipencmjnaaDoorGr6
import Derived.Test.YtpacbipencmjnaaDoorTwo
import Derived.Test.YtpacbipencmjnaaDoorGr7
namespace Go.Proofs.YtpacbipencmjnaaDoor
open Go.RowKit

theorem tmod_in (a : Int) : -1999999999 ≤ a.tmod 2000000000 ∧ a.tmod 2000000000 ≤ 1999999999 := by
  rcases Int.le_total 0 a with h | h
  · rw [Int.tmod_eq_emod_of_nonneg h]; omega
  · have e : a.tmod 2000000000 = -((-a).tmod 2000000000) := by rw [Int.neg_tmod, Int.neg_neg]
    rw [e, Int.tmod_eq_emod_of_nonneg (by omega)]; omega
theorem tdiv_in (a : Int) (h1 : -9223372036854775808 ≤ a) (h2 : a ≤ 9223372036854775807) : -4611686018427387904 ≤ a.tdiv 2 ∧ a.tdiv 2 ≤ 4611686018427387903 := by
  rcases Int.le_total 0 a with h | h
  · rw [Int.tdiv_eq_ediv_of_nonneg h]; omega
  · have e : a.tdiv 2 = -((-a).tdiv 2) := by rw [Int.neg_tdiv, Int.neg_neg]
    rw [e, Int.tdiv_eq_ediv_of_nonneg (by omega)]; omega
theorem mul_in {x y : Int} (hx : -1999999999 ≤ x ∧ x ≤ 1999999999) (hy : -1999999999 ≤ y ∧ y ≤ 1999999999) : -4000000000000000000 ≤ x * y ∧ x * y ≤ 4000000000000000000 := by
  have h : (x * y).natAbs ≤ 1999999999 * 1999999999 := by rw [Int.natAbs_mul]; exact Nat.mul_le_mul (by omega) (by omega)
  omega
theorem small_in {z : Int} (h1 : -9223372036854775808 ≤ z) (h2 : z ≤ 9223372036854775807) : smallV z = z ∧ smallB z = true := by
  unfold smallV smallB
  exact ⟨if_pos ⟨h1, h2⟩, decide_eq_true ⟨h1, h2⟩⟩
theorem cmp_self (z : Int) : cmpI z z = 0 := by simp [cmpI]
theorem abs_lt {z : Int} (h1 : -9223372036854775808 ≤ z) (h2 : z ≤ 9223372036854775807) : z.natAbs < BB ^ 2 := two_lt (by omega)
theorem txt_short {z : Int} {l : List UInt8} (h : Txt z l) (hz : z.natAbs < BB ^ 2) : l.length ≤ 21 := by
  have hz' : z.natAbs < 18446744073709551616 := hz
  rcases parts_of h.1 with ⟨rfl, h1⟩ | ⟨d, rfl, h0, hp, h1⟩ | ⟨d, rfl, h0, hp, h1⟩
  · simp
  · have a1 := dval_ge hp.dig hp.ne hp.head
    rw [h.2] at h1
    have : 10 ^ (l.length - 1) < 10 ^ 20 := Nat.lt_of_le_of_lt a1 (by omega)
    have := (Nat.pow_lt_pow_iff_right (by decide : 1 < 10)).1 this
    omega
  · have a1 := dval_ge hp.dig hp.ne hp.head
    rw [h.2] at h1
    have : 10 ^ (d.length - 1) < 10 ^ 20 := Nat.lt_of_le_of_lt a1 (by omega)
    have := (Nat.pow_lt_pow_iff_right (by decide : 1 < 10)).1 this
    rw [List.length_cons]; omega

end Go.Proofs.YtpacbipencmjnaaDoor

/- Three numbers in variables. -/
namespace Go.Proofs.YtpacbipencmjnaaDoor
open Go.RowKit

/-- Blocks i, j, k hold the numbers x, y, z. -/
structure T3 (w W : World) (i j k : Nat) (b1 : Bool) (a1 : Option Addr) (n1 c1 : Nat) (x : Int) (b2 : Bool) (a2 : Option Addr) (n2 c2 : Nat) (y : Int) (b3 : Bool) (a3 : Option Addr) (n3 c3 : Nat) (z : Int) : Prop where
  below : Below w.heap.size w W
  X : VI W i b1 a1 n1 c1 x
  Y : VI W j b2 a2 n2 c2 y
  Z : VI W k b3 a3 n3 c3 z
section
variable {w W W' : World} {i j k : Nat} {b1 : Bool} {a1 : Option Addr} {n1 c1 : Nat} {x : Int} {b2 : Bool} {a2 : Option Addr} {n2 c2 : Nat} {y : Int} {b3 : Bool} {a3 : Option Addr} {n3 c3 : Nat} {z : Int}
theorem T3.later (h : T3 w W i j k b1 a1 n1 c1 x b2 a2 n2 c2 y b3 a3 n3 c3 z) (hb : Below W.heap.size W W') : T3 w W' i j k b1 a1 n1 c1 x b2 a2 n2 c2 y b3 a3 n3 c3 z :=
  ⟨h.below.trans (hb.mono h.below.size), h.X.below hb, h.Y.below hb, h.Z.below hb⟩
theorem T3.drew (h : T3 w W i j k b1 a1 n1 c1 x b2 a2 n2 c2 y b3 a3 n3 c3 z) : T3 w W.drew i j k b1 a1 n1 c1 x b2 a2 n2 c2 y b3 a3 n3 c3 z := h.later (Below.refl _ _).drew
theorem T3.hs (h : T3 w W i j k b1 a1 n1 c1 x b2 a2 n2 c2 y b3 a3 n3 c3 z) : W.cell? ⟨i, 0, none⟩ = some (.bool b1) ∧ W.cell? ⟨i, 1, none⟩ = some (.slice a1 n1 c1) ∧ W.cell? ⟨j, 0, none⟩ = some (.bool b2) ∧ W.cell? ⟨j, 1, none⟩ = some (.slice a2 n2 c2) ∧ W.cell? ⟨k, 0, none⟩ = some (.bool b3) ∧ W.cell? ⟨k, 1, none⟩ = some (.slice a3 n3 c3) :=
  ⟨h.X.k0, h.X.k1, h.Y.k0, h.Y.k1, h.Z.k0, h.Z.k1⟩
end
theorem pz_len {w : World} {s : ByteArray} {b : Bool} {a : Option Addr} {n c : Nat} (h : Num w b a n c (pZ s)) (hp : parsesB s.data.toList = true ∧ pZ s = zval s.data.toList ∧ s.size ≤ 150) : n ≤ 150 := by
  rw [hp.2.1] at h
  have := fit_le h.fit (zval_bb hp.1)
  rw [size_list] at this
  omega
theorem cmp_val (x y : Int) : (cmpI x y = -1 ∧ x < y) ∨ (cmpI x y = 0 ∧ x = y) ∨ (cmpI x y = 1 ∧ y < x) := by
  unfold cmpI; split <;> (try split) <;> omega
theorem vi_four {w : World} {b1 : Bool} {a1 : Option Addr} {n1 c1 : Nat} {x : Int} {b2 : Bool} {a2 : Option Addr} {n2 c2 : Nat} {y : Int} (h : Num w b1 a1 n1 c1 x) (h' : Num w b2 a2 n2 c2 y) (t t' : TypeId) (o o' : Obj) :
    VI ((((w.alloc (.cells #[.bool b1, .slice a1 n1 c1] t)).alloc (.cells #[.bool b2, .slice a2 n2 c2] t)).alloc o).alloc o') w.heap.size b1 a1 n1 c1 x ∧
    VI ((((w.alloc (.cells #[.bool b1, .slice a1 n1 c1] t)).alloc (.cells #[.bool b2, .slice a2 n2 c2] t)).alloc o).alloc o') (w.heap.size + 1) b2 a2 n2 c2 y ∧
    Below w.heap.size w ((((w.alloc (.cells #[.bool b1, .slice a1 n1 c1] t)).alloc (.cells #[.bool b2, .slice a2 n2 c2] t)).alloc o).alloc o') := by
  have e : (w.alloc (.cells #[.bool b1, .slice a1 n1 c1] t)).heap.size = w.heap.size + 1 := by simp
  have B1 := below_new w (.cells #[.bool b1, .slice a1 n1 c1] t)
  have V2 := vi_new t (h'.below B1)
  rw [e] at V2
  have V1 := (vi_new t h).below (below_new _ (.cells #[.bool b2, .slice a2 n2 c2] t))
  refine ⟨(V1.below (below_new _ o)).below (below_new _ o'), (V2.below (below_new _ o)).below (below_new _ o'), ?_⟩
  exact (((Below.refl w.heap.size w).alloc (Nat.le_refl _) _).alloc (by simp) _).alloc (by simp; omega) _ |>.alloc (by simp; omega) _
theorem bytes_of {P Q : ByteArray} (h : P.toList = Q.toList) : P = Q := by
  rw [Lib.toList_data, Lib.toList_data] at h
  have h1 : P.data = Q.data := Array.toList_inj.1 h
  cases P; cases Q; cases h1; rfl
theorem cmp_back (x y : Int) : cmpI y x = -cmpI x y := by unfold cmpI; split <;> split <;> (try split) <;> omega
theorem cmp_add (x y z : Int) : cmpI (x + z) (y + z) = cmpI x y := by unfold cmpI; split <;> split <;> (try split) <;> (try split) <;> omega
theorem sgn_val (z : Int) : (sgnI z = -1 ∧ z < 0) ∨ (sgnI z = 0 ∧ z = 0) ∨ (sgnI z = 1 ∧ 0 < z) := by unfold sgnI; split <;> (try split) <;> omega
theorem cmp_lt' {x y : Int} (h : x < y) : cmpI x y = -1 := by unfold cmpI; rw [if_pos h]
theorem cmp_gt' {x y : Int} (h : y < x) : cmpI x y = 1 := by unfold cmpI; rw [if_neg (by omega), if_pos h]
theorem cmp_mul (x y z : Int) : cmpI (x * z) (y * z) = cmpI x y * sgnI z := by
  rcases sgn_val z with ⟨h1, h2⟩ | ⟨h1, h2⟩ | ⟨h1, h2⟩ <;> rw [h1]
  · rcases cmp_val x y with ⟨h3, h4⟩ | ⟨h3, h4⟩ | ⟨h3, h4⟩ <;> rw [h3]
    · exact cmp_gt' (Int.mul_lt_mul_of_neg_right h4 h2)
    · rw [h4, cmp_self]; rfl
    · exact cmp_lt' (Int.mul_lt_mul_of_neg_right h4 h2)
  · rw [h2, Int.mul_zero, Int.mul_zero, Int.mul_zero, cmp_self]
  · rcases cmp_val x y with ⟨h3, h4⟩ | ⟨h3, h4⟩ | ⟨h3, h4⟩ <;> rw [h3]
    · exact cmp_lt' (Int.mul_lt_mul_of_pos_right h4 h2)
    · rw [h4, cmp_self]; rfl
    · exact cmp_gt' (Int.mul_lt_mul_of_pos_right h4 h2)
end Go.Proofs.YtpacbipencmjnaaDoor

/- The walk of the law LongRing. -/
namespace Go.Proofs.YtpacbipencmjnaaDoor
open Go.RowKit

theorem bnd_mul {x y : Int} {p q : Nat} (h : x.natAbs < BB ^ p) (k : y.natAbs < BB ^ q) : (x * y).natAbs < BB ^ (p + q) := by
  rw [Int.natAbs_mul, Nat.pow_add]; exact Nat.mul_lt_mul'' h k
theorem bnd_add {x y : Int} {p q : Nat} (h : x.natAbs < BB ^ p) (k : y.natAbs < BB ^ q) : (x + y).natAbs < BB ^ (p + q + 1) := by
  have h1 := Int.natAbs_add_le x y
  have h2 : BB ^ p ≤ BB ^ (p + q) := Nat.pow_le_pow_right (by decide) (by omega)
  have h3 : BB ^ q ≤ BB ^ (p + q) := Nat.pow_le_pow_right (by decide) (by omega)
  rw [Nat.pow_succ]
  have h4 : BB ^ (p + q) * 2 ≤ BB ^ (p + q) * BB := Nat.mul_le_mul_left _ (by decide)
  omega
theorem bnd_neg {x : Int} {p : Nat} (h : x.natAbs < BB ^ p) : (-x).natAbs < BB ^ p := by rwa [Int.natAbs_neg]
theorem len_of {w : World} {bl : Bool} {a : Option Addr} {n c k : Nat} {z : Int} (h : Num w bl a n c z) (hz : z.natAbs < BB ^ k) (hk : k ≤ 10000000) : n ≤ 10000000 := Nat.le_trans (fit_le h.fit hz) hk

end Go.Proofs.YtpacbipencmjnaaDoor

/- Four numbers in variables; what a quotient and a rest are. -/
namespace Go.Proofs.YtpacbipencmjnaaDoor
open Go.RowKit

/-- Blocks hold the numbers x, y, q, r. -/
structure T4 (w W : World) (i j k l : Nat) (b1 : Bool) (a1 : Option Addr) (n1 c1 : Nat) (x : Int) (b2 : Bool) (a2 : Option Addr) (n2 c2 : Nat) (y : Int) (b3 : Bool) (a3 : Option Addr) (n3 c3 : Nat) (q : Int) (b4 : Bool) (a4 : Option Addr) (n4 c4 : Nat) (r : Int) : Prop where
  below : Below w.heap.size w W
  X : VI W i b1 a1 n1 c1 x
  Y : VI W j b2 a2 n2 c2 y
  Q : VI W k b3 a3 n3 c3 q
  R : VI W l b4 a4 n4 c4 r
section
variable {w W W' : World} {i j k l : Nat} {b1 : Bool} {a1 : Option Addr} {n1 c1 : Nat} {x : Int} {b2 : Bool} {a2 : Option Addr} {n2 c2 : Nat} {y : Int} {b3 : Bool} {a3 : Option Addr} {n3 c3 : Nat} {q : Int} {b4 : Bool} {a4 : Option Addr} {n4 c4 : Nat} {r : Int}
theorem T4.later (h : T4 w W i j k l b1 a1 n1 c1 x b2 a2 n2 c2 y b3 a3 n3 c3 q b4 a4 n4 c4 r) (hb : Below W.heap.size W W') : T4 w W' i j k l b1 a1 n1 c1 x b2 a2 n2 c2 y b3 a3 n3 c3 q b4 a4 n4 c4 r :=
  ⟨h.below.trans (hb.mono h.below.size), h.X.below hb, h.Y.below hb, h.Q.below hb, h.R.below hb⟩
theorem T4.drew (h : T4 w W i j k l b1 a1 n1 c1 x b2 a2 n2 c2 y b3 a3 n3 c3 q b4 a4 n4 c4 r) : T4 w W.drew i j k l b1 a1 n1 c1 x b2 a2 n2 c2 y b3 a3 n3 c3 q b4 a4 n4 c4 r := h.later (Below.refl _ _).drew
theorem T4.hs (h : T4 w W i j k l b1 a1 n1 c1 x b2 a2 n2 c2 y b3 a3 n3 c3 q b4 a4 n4 c4 r) : W.cell? ⟨i, 0, none⟩ = some (.bool b1) ∧ W.cell? ⟨i, 1, none⟩ = some (.slice a1 n1 c1) ∧ W.cell? ⟨j, 0, none⟩ = some (.bool b2) ∧ W.cell? ⟨j, 1, none⟩ = some (.slice a2 n2 c2) ∧ W.cell? ⟨k, 0, none⟩ = some (.bool b3) ∧ W.cell? ⟨k, 1, none⟩ = some (.slice a3 n3 c3) ∧ W.cell? ⟨l, 0, none⟩ = some (.bool b4) ∧ W.cell? ⟨l, 1, none⟩ = some (.slice a4 n4 c4) :=
  ⟨h.X.k0, h.X.k1, h.Y.k0, h.Y.k1, h.Q.k0, h.Q.k1, h.R.k0, h.R.k1⟩
end
theorem vi_two {w : World} {b1 : Bool} {a1 : Option Addr} {n1 c1 : Nat} {x : Int} {b2 : Bool} {a2 : Option Addr} {n2 c2 : Nat} {y : Int} (h : Num w b1 a1 n1 c1 x) (h' : Num w b2 a2 n2 c2 y) (t : TypeId) :
    VI ((w.alloc (.cells #[.bool b1, .slice a1 n1 c1] t)).alloc (.cells #[.bool b2, .slice a2 n2 c2] t)) w.heap.size b1 a1 n1 c1 x ∧
    VI ((w.alloc (.cells #[.bool b1, .slice a1 n1 c1] t)).alloc (.cells #[.bool b2, .slice a2 n2 c2] t)) (w.heap.size + 1) b2 a2 n2 c2 y ∧
    Below w.heap.size w ((w.alloc (.cells #[.bool b1, .slice a1 n1 c1] t)).alloc (.cells #[.bool b2, .slice a2 n2 c2] t)) := by
  have e : (w.alloc (.cells #[.bool b1, .slice a1 n1 c1] t)).heap.size = w.heap.size + 1 := by simp
  have B1 := below_new w (.cells #[.bool b1, .slice a1 n1 c1] t)
  have V2 := vi_new t (h'.below B1)
  rw [e] at V2
  exact ⟨(vi_new t h).below (below_new _ _), V2, ((Below.refl w.heap.size w).alloc (Nat.le_refl _) _).alloc (by simp) _⟩
theorem quo_sign {x y q r : Int} (h : IsQuo x y q r) (hy : y ≠ 0) : sgnI r = 0 ∨ (sgnI r ≠ 0 ∧ sgnI r = sgnI y) := by
  obtain ⟨_, h1, h2⟩ := h
  rcases sgn_val r with ⟨e, f⟩ | ⟨e, f⟩ | ⟨e, f⟩ <;> rcases sgn_val y with ⟨e', f'⟩ | ⟨e', f'⟩ | ⟨e', f'⟩ <;> rw [e, e'] <;> omega
theorem quo_near {x y q r : Int} (h : IsQuo x y q r) (hy : y ≠ 0) : sgnI (r - y) = -sgnI y := by
  obtain ⟨_, h1, h2⟩ := h
  rcases sgn_val (r - y) with ⟨e, f⟩ | ⟨e, f⟩ | ⟨e, f⟩ <;> rcases sgn_val y with ⟨e', f'⟩ | ⟨e', f'⟩ | ⟨e', f'⟩ <;> rw [e, e'] <;> omega
theorem quo_same {x y p s : Int} (h : IsQuo (x * y) y p s) (hy : y ≠ 0) : p = x ∧ s = 0 := by
  obtain ⟨h0, h1, h2⟩ := h
  have hd : s = (x - p) * y := by rw [Int.sub_mul]; omega
  have key : x - p = 0 := by
    rcases Int.lt_trichotomy (x - p) 0 with g | g | g
    · rcases Int.lt_or_gt_of_ne hy with gy | gy
      · have := Int.mul_le_mul_of_nonpos_right (show x - p ≤ -1 by omega) (Int.le_of_lt gy)
        have := h2 gy; omega
      · have := Int.mul_le_mul_of_nonneg_right (show x - p ≤ -1 by omega) (Int.le_of_lt gy)
        have := h1 gy; omega
    · exact g
    · rcases Int.lt_or_gt_of_ne hy with gy | gy
      · have := Int.mul_le_mul_of_nonpos_right (show 1 ≤ x - p by omega) (Int.le_of_lt gy)
        have := h2 gy; omega
      · have := Int.mul_le_mul_of_nonneg_right (show 1 ≤ x - p by omega) (Int.le_of_lt gy)
        have := h1 gy; omega
  rw [key, Int.zero_mul] at hd
  exact ⟨by omega, hd⟩
theorem quo_bnd {x y q r : Int} {m n : Nat} (h : IsQuo x y q r) (hy : y ≠ 0) (hx : x.natAbs < BB ^ m) (hyb : y.natAbs < BB ^ n) : q.natAbs < BB ^ (m + n + 1) := by
  obtain ⟨h0, h1, h2⟩ := h
  have e : q * y = x + (-r) := by omega
  have hr : (-r).natAbs < BB ^ n := by
    have : r.natAbs < y.natAbs := by
      rcases Int.lt_or_gt_of_ne hy with g | g
      · have := h2 g; omega
      · have := h1 g; omega
    rw [Int.natAbs_neg]; omega
  have hb := bnd_add hx hr
  rw [← e, Int.natAbs_mul] at hb
  exact Nat.lt_of_le_of_lt (Nat.le_mul_of_pos_right _ (by omega)) hb
theorem quo_left {x y q r : Int} {n : Nat} (h : IsQuo x y q r) (hy : y ≠ 0) (hyb : y.natAbs < BB ^ n) : r.natAbs < BB ^ n := by
  obtain ⟨_, h1, h2⟩ := h
  have : r.natAbs < y.natAbs := by
    rcases Int.lt_or_gt_of_ne hy with g | g
    · have := h2 g; omega
    · have := h1 g; omega
  omega
end Go.Proofs.YtpacbipencmjnaaDoor

/- The document's numbers: what digits make. -/
namespace Go.Proofs.YtpacbipencmjnaaDoor
open Go.RowKit

theorem tmod_succ (N i : Nat) : N % 10 ^ (i + 1) = N % 10 ^ i + 10 ^ i * dig N i := Nat.mod_pow_succ
theorem tcmp_len_lt {n m A B : Nat} (ha : Fit10 n A) (hb : Fit10 m B) (h : n < m) : cmpN A B = -1 := by
  have : A < B := by
    rcases hb.2 with h0 | h0
    · omega
    · have h1 : 10 ^ n ≤ 10 ^ (m - 1) := Nat.pow_le_pow_right (by decide : 0 < 10) (by omega)
      have := ha.1
      omega
  simp [cmpN, this]
theorem tcmp_len_gt {n m A B : Nat} (ha : Fit10 n A) (hb : Fit10 m B) (h : m < n) : cmpN A B = 1 := by
  have : B < A := by
    rcases ha.2 with h0 | h0
    · omega
    · have h1 : 10 ^ m ≤ 10 ^ (n - 1) := Nat.pow_le_pow_right (by decide : 0 < 10) (by omega)
      have := hb.1
      omega
  have h2 : ¬ A < B := by omega
  simp [cmpN, this, h2]
theorem tup_split (N k : Nat) : N / 10 ^ k = dig N k + 10 * (N / 10 ^ (k + 1)) := by
  unfold dig
  rw [Nat.pow_succ, ← Nat.div_div_eq_div_mul]
  exact (Nat.mod_add_div _ _).symm
theorem tcmp_up {A B k : Nat} (h : A / 10 ^ (k + 1) = B / 10 ^ (k + 1)) :
    (dig A k < dig B k → cmpN A B = -1) ∧ (dig B k < dig A k → cmpN A B = 1) ∧ (dig A k = dig B k → A / 10 ^ k = B / 10 ^ k) := by
  have ha := tup_split A k
  have hb := tup_split B k
  rw [h] at ha
  refine ⟨fun hl => ?_, fun hl => ?_, fun he => by rw [ha, hb, he]⟩
  · have h1 : A / 10 ^ k < B / 10 ^ k := by omega
    have h2 : A < B := Nat.lt_of_not_le fun hc => by have := Nat.div_le_div_right (c := 10 ^ k) hc; omega
    simp [cmpN, h2]
  · have h1 : B / 10 ^ k < A / 10 ^ k := by omega
    have h2 : B < A := Nat.lt_of_not_le fun hc => by have := Nat.div_le_div_right (c := 10 ^ k) hc; omega
    have h3 : ¬ A < B := by omega
    simp [cmpN, h2, h3]
theorem tcmp_all {A B : Nat} (h : A / 10 ^ 0 = B / 10 ^ 0) : cmpN A B = 0 := by
  simp at h; subst h; simp [cmpN]

/-- What a sum carries into its i-th part. -/
def tcy (A B i : Nat) : Nat := (A % 10 ^ i + B % 10 ^ i) / 10 ^ i
theorem tcy_zero (A B : Nat) : tcy A B 0 = 0 := by simp [tcy, Nat.mod_one]
theorem tcy_le (A B i : Nat) : tcy A B i ≤ 1 := by
  unfold tcy
  have h1 := Nat.mod_lt A (p10 i)
  have h2 := Nat.mod_lt B (p10 i)
  exact Nat.le_of_lt_succ (Nat.div_lt_of_lt_mul (by omega))
theorem tcy_step (A B i : Nat) : (tcy A B i + dig A i + dig B i) % 10 = dig (A + B) i ∧ (tcy A B i + dig A i + dig B i) / 10 = tcy A B (i + 1) := by
  have hP := p10 i
  have e1 : (A + B) / 10 ^ i = A / 10 ^ i + B / 10 ^ i + tcy A B i := by
    unfold tcy
    have ha := Nat.div_add_mod A (10 ^ i)
    have hb := Nat.div_add_mod B (10 ^ i)
    have hs : A + B = (A % 10 ^ i + B % 10 ^ i) + 10 ^ i * (A / 10 ^ i + B / 10 ^ i) := by rw [Nat.mul_add]; omega
    rw [hs, Nat.add_mul_div_left _ _ hP]; omega
  have e2 : (A % 10 ^ (i + 1) + B % 10 ^ (i + 1)) / 10 ^ i = tcy A B i + dig A i + dig B i := by
    rw [tmod_succ, tmod_succ]
    have hs : A % 10 ^ i + 10 ^ i * dig A i + (B % 10 ^ i + 10 ^ i * dig B i) = (A % 10 ^ i + B % 10 ^ i) + 10 ^ i * (dig A i + dig B i) := by rw [Nat.mul_add]; omega
    rw [hs, Nat.add_mul_div_left _ _ hP]; unfold tcy; omega
  constructor
  · show _ % 10 = _
    conv => rhs; unfold dig
    rw [e1]
    have ha : A / 10 ^ i % 10 = dig A i := rfl
    have hb : B / 10 ^ i % 10 = dig B i := rfl
    rw [← ha, ← hb]
    omega
  · show _ / 10 = _
    rw [← e2, Nat.div_div_eq_div_mul]; rfl
theorem tlmb_zero {B m i : Nat} (h : B < 10 ^ m) (hi : m ≤ i) : dig B i = 0 := by
  unfold dig
  rw [Nat.div_eq_of_lt (Nat.lt_of_lt_of_le h (Nat.pow_le_pow_right (by decide : 0 < 10) hi))]
theorem tcy_end {A B n : Nat} (ha : A < 10 ^ n) (hb : B < 10 ^ n) : tcy A B n = dig (A + B) n ∧ A + B < 10 ^ (n + 1) := by
  constructor
  · unfold tcy dig
    rw [Nat.mod_eq_of_lt ha, Nat.mod_eq_of_lt hb]
    refine (Nat.mod_eq_of_lt ?_).symm
    exact Nat.lt_of_le_of_lt (Nat.le_of_lt_succ (Nat.div_lt_of_lt_mul (by omega : A + B < 10 ^ n * 2))) (by decide)
  · rw [Nat.pow_succ]
    have : 10 ^ n * 2 ≤ 10 ^ n * 10 := Nat.mul_le_mul_left _ (by decide)
    omega
theorem tfit_mono {m n B : Nat} (h : B < 10 ^ m) (hm : m ≤ n) : B < 10 ^ n := Nat.lt_of_lt_of_le h (Nat.pow_le_pow_right (by decide : 0 < 10) hm)

/-- What a difference borrows from its i-th part. -/
def tbw (A B i : Nat) : Nat := if A % 10 ^ i < B % 10 ^ i then 1 else 0
theorem tbw_zero (A B : Nat) : tbw A B 0 = 0 := by simp [tbw, Nat.mod_one]
theorem tbw_le (A B i : Nat) : tbw A B i ≤ 1 := by unfold tbw; split <;> omega
theorem tbw_next (A B i : Nat) : tbw A B (i + 1) = if dig A i < tbw A B i + dig B i then 1 else 0 := by
  have h1 := Nat.mod_lt A (p10 i)
  have h2 := Nat.mod_lt B (p10 i)
  have key : A % 10 ^ (i + 1) < B % 10 ^ (i + 1) ↔ dig A i < tbw A B i + dig B i := by
    rw [tmod_succ, tmod_succ]
    unfold tbw
    generalize dig A i = a
    generalize dig B i = b
    generalize hP : 10 ^ i = P at *
    generalize A % P = x at *
    generalize B % P = y at *
    rcases Nat.lt_trichotomy a b with h | h | h
    · have := Nat.mul_le_mul_left P (show a + 1 ≤ b from h)
      rw [Nat.mul_add] at this
      split <;> omega
    · subst h; split <;> omega
    · have := Nat.mul_le_mul_left P (show b + 1 ≤ a from h)
      rw [Nat.mul_add] at this
      split <;> omega
  unfold tbw at key ⊢
  simp only [key]
theorem tbw_part {A B : Nat} (h : B ≤ A) (i : Nat) : dig (A - B) i = (dig A i + 20 - (tbw A B i + dig B i)) % 10 := by
  have h1 := Nat.mod_lt A (p10 i)
  have h2 := Nat.mod_lt B (p10 i)
  have ha := Nat.div_add_mod A (10 ^ i)
  have hb := Nat.div_add_mod B (10 ^ i)
  have hd : (A - B) / 10 ^ i = A / 10 ^ i - B / 10 ^ i - tbw A B i ∧ B / 10 ^ i + tbw A B i ≤ A / 10 ^ i := by
    have hle : B / 10 ^ i ≤ A / 10 ^ i := Nat.div_le_div_right h
    unfold tbw
    generalize hP : 10 ^ i = P at *
    generalize A % P = x at *
    generalize B % P = y at *
    generalize A / P = qa at *
    generalize B / P = qb at *
    obtain ⟨d, rfl⟩ := Nat.exists_eq_add_of_le hle
    rw [Nat.mul_add] at ha
    by_cases hxy : x < y
    · simp only [hxy, if_true]
      have hd : 1 ≤ d := by
        refine Nat.one_le_iff_ne_zero.2 fun h0 => ?_
        subst h0; simp at ha; omega
      obtain ⟨d', rfl⟩ := Nat.exists_eq_add_of_le hd
      rw [Nat.mul_add] at ha
      refine ⟨?_, by omega⟩
      rw [show A - B = (P + x - y) + P * d' from by omega, Nat.add_mul_div_left _ _ (by omega), Nat.div_eq_of_lt (by omega)]
      omega
    · simp only [hxy, if_false]
      refine ⟨?_, by omega⟩
      rw [show A - B = (x - y) + P * d from by omega, Nat.add_mul_div_left _ _ (by omega), Nat.div_eq_of_lt (by omega)]
      omega
  have hbw := tbw_le A B i
  unfold dig
  rw [hd.1]
  have := hd.2
  omega

end Go.Proofs.YtpacbipencmjnaaDoor

/- The document's numbers: the walks of size, plus, less. -/
namespace Go.Proofs.YtpacbipencmjnaaDoor
open Go.RowKit

set_option maxHeartbeats 800000 in
theorem rsize_any (a b : Option Addr) (n c m d A B : Nat) (w : World) (ha : Lie .i64 w a n c (dig A)) (hb : Lie .i64 w b m d (dig B)) (fa : Fit10 n A) (fb : Fit10 m B) :
    Calls Tryd.prog 43 #[.slice a n c, .slice b m d] w (PVal (.int .i64 (cmpN A B)) w) := by
  have hcm := ha.capm
  have hnc := ha.cap
  have hdm := hb.capm
  have hmd := hb.cap
  unfold maxLen at hcm hdm
  rcases Nat.lt_trichotomy n m with hlt | heq | hgt
  · have hR := Lib.hid (tcmp_len_lt fa fb hlt)
    clear fa fb ha hb
    go_enter Tryd.func43, Tryd.ntmps43
    go_wp2
    go_ret
    exact ⟨ret_int hR.out.symm, Below.refl _ _⟩
  · subst heq
    go_enter Tryd.func43, Tryd.ntmps43
    have HA := Lib.hid fa
    have HB := Lib.hid fb
    clear fa fb
    go_wp2
    go_loopw [5] (fun i wr => ∃ k : Nat, k ≤ n ∧ i = .int .i64 ((k : Int) - 1) ∧ A / 10 ^ k = B / 10 ^ k ∧ Below w.heap.size w wr) (fun i _ => (intOf i + 1).toNat)
    case atStart => exact ⟨n, Nat.le_refl _, rfl, by rw [Nat.div_eq_of_lt HA.out.1, Nat.div_eq_of_lt HB.out.1], Below.refl _ _⟩
    case round =>
      obtain ⟨k, hk, rfl, hup, hbl⟩ := hrel
      have HU := Lib.hid hup
      clear hup
      by_cases hp : 0 < k
      · obtain ⟨j, rfl⟩ : ∃ j, k = j + 1 := ⟨k - 1, by omega⟩
        obtain ⟨b1, o1, rfl, hb1⟩ := ha.some_of_pos (by omega)
        obtain ⟨b2, o2, rfl, hb2⟩ := hb.some_of_pos (by omega)
        have c1 := (ha.below hbl).at j (by omega)
        have c2 := (hb.below hbl).at j (by omega)
        rcases Nat.lt_trichotomy (dig A j) (dig B j) with hlt | heq | hgt
        · have hR := Lib.hid ((tcmp_up HU.out).1 hlt)
          clear ha hb
          go_wp2
          go_quiet (fail)
          go_wp2
          go_ret
          exact ⟨ret_int hR.out.symm, below_drewN hbl _⟩
        · have hR := Lib.hid ((tcmp_up HU.out).2.2 heq)
          have h1 : ¬ dig A j < dig B j := by omega
          have h2 : ¬ dig B j < dig A j := by omega
          have HE := Lib.hid heq
          clear ha hb heq
          go_wp2
          go_quiet (fail)
          go_wp2
          go_quiet (fail)
          go_wp2
          go_roundw
          case rel => exact ⟨j, by omega, by go_num, hR.out, below_drewN hbl _⟩
          case measure => simp [intOf]
        · have hR := Lib.hid ((tcmp_up HU.out).2.1 hgt)
          have h1 : ¬ dig A j < dig B j := by omega
          clear ha hb
          go_wp2
          go_quiet (fail)
          go_wp2
          go_quiet (fail)
          go_wp2
          go_ret
          exact ⟨ret_int hR.out.symm, below_drewN (below_drewN hbl _) _⟩
      · obtain rfl : k = 0 := by omega
        have hR := Lib.hid (tcmp_all HU.out)
        clear ha hb
        go_wp2
        go_ret
        exact ⟨ret_int hR.out.symm, hbl⟩
  · have hR := Lib.hid (tcmp_len_gt fa fb hgt)
    clear fa fb ha hb
    go_enter Tryd.func43, Tryd.ntmps43
    go_wp2
    go_ret
    exact ⟨ret_int hR.out.symm, Below.refl _ _⟩

end Go.Proofs.YtpacbipencmjnaaDoor

/- The document's numbers: the walks of plus, less. -/
namespace Go.Proofs.YtpacbipencmjnaaDoor
open Go.RowKit

theorem Tryd.ru26 : Tryd.prog.underlying 26 = some (.slice 3) := by kernel_rfl
theorem Tryd.rinfo3 : (Tryd.prog.info? 3).map (fun i => (i.zero, i.size, i.bytes)) = some (some (.int .i64 0), 1, 8) := by kernel_rfl
/-- Digits of a number are handed back, in new memory. -/
def PDig (R : Nat) (w : World) (e : Ending) (w' : World) : Prop :=
  ∃ (a : Option Addr) (m c : Nat), e = .returned (.slice a m c) ∧ Lie .i64 w' a m c (dig R) ∧ R < 10 ^ m ∧ (∀ p, a = some p → w.heap.size ≤ p.block) ∧ Below w.heap.size w w'
theorem owned_fresh {k : IntKind} {w : World} {base : Nat} {e : TypeId} {v : Value} {n : Nat} {f : Nat → Nat} (h : w.ownsRow base e 1 v n (vals k f n)) :
    ∃ (a : Option Addr) (c : Nat), v = .slice a n c ∧ Lie k w a n c f ∧ ∀ p, a = some p → base ≤ p.block := by
  obtain ⟨a, c, h1, h2⟩ := lie_owned h
  refine ⟨a, c, h1, h2, fun p hp => ?_⟩
  subst h1
  exact (h.lt p.block (by rw [hp]; rfl)).1
theorem tcy_past {A B M k : Nat} (hA : A < 10 ^ M) (hB : B < 10 ^ M) (hk : M < k) : tcy A B k = 0 := by
  unfold tcy
  have h1 : 10 ^ (M + 1) ≤ 10 ^ k := Nat.pow_le_pow_right (by decide) hk
  rw [Nat.pow_succ] at h1
  have h2 := Nat.mod_le A (10 ^ k)
  have h3 := Nat.mod_le B (10 ^ k)
  exact Nat.div_eq_of_lt (by omega)
theorem tcy_done {A B n m k : Nat} (hA : A < 10 ^ n) (hB : B < 10 ^ m) (hn : n ≤ k) (hm : m ≤ k) (h : tcy A B k = 0) : A + B < 10 ^ k := by
  have h1 := tfit_mono hA hn
  have h2 := tfit_mono hB hm
  unfold tcy at h
  rw [Nat.mod_eq_of_lt h1, Nat.mod_eq_of_lt h2] at h
  rcases Nat.div_eq_zero_iff.1 h with h | h
  · have := p10 k; omega
  · exact h

set_option maxHeartbeats 3200000 in
theorem rplus_any (a b : Option Addr) (n c m d A B : Nat) (w : World) (ha : Lie .i64 w a n c (dig A)) (hb : Lie .i64 w b m d (dig B)) (hA : A < 10 ^ n) (hB : B < 10 ^ m) (hn : n ≤ 1000000000) (hm : m ≤ 1000000000) :
    Calls Tryd.prog 67 #[.slice a n c, .slice b m d] w (PDig (A + B) w) := by
  obtain ⟨i0, hi0, hz0, hzz1, hzz2⟩ := info_parts Tryd.rinfo3
  have HI := Lib.hid (And.intro hi0 (And.intro hz0 (And.intro hzz1 hzz2)))
  have HA := Lib.hid hA
  have HB := Lib.hid hB
  clear hi0 hz0 hzz1 hzz2 hA hB
  go_enter Tryd.func67, Tryd.ntmps67
  go_wp2
  go_loopw [5, 6, 7] (fun dv ov iv wr => ∃ k : Nat, k ≤ n + m + 1 ∧ iv = .int .i64 k ∧ ov = .int .i64 (tcy A B k : Nat) ∧ wr.ownsRow w.heap.size 3 1 dv k (vals .i64 (dig (A + B)) k) ∧ Below w.heap.size w wr) (fun _ _ iv _ => n + m + 2 - (intOf iv).toNat)
  case atStart => exact ⟨0, Nat.zero_le _, rfl, by rw [tcy_zero]; rfl, World.ownsRow_nil _ _ _ _, Below.refl _ _⟩
  case round =>
    obtain ⟨k, hk, rfl, rfl, how, hbl⟩ := hrel
    obtain ⟨s1, s2⟩ := tcy_step A B k
    have hcy := tcy_le A B k
    obtain ⟨C, hC⟩ : ∃ C : Int, C = ((tcy A B k : Nat) : Int) := ⟨_, rfl⟩
    have hC0 : 0 ≤ C := by omega
    have hC1 : C ≤ 1 := by omega
    have dA := dig_lt A k
    have dB := dig_lt B k
    obtain ⟨X, hX⟩ : ∃ X : Int, X = ((dig A k : Nat) : Int) := ⟨_, rfl⟩
    obtain ⟨Y, hY⟩ : ∃ Y : Int, Y = ((dig B k : Nat) : Int) := ⟨_, rfl⟩
    have hX0 : 0 ≤ X := by omega
    have hX1 : X ≤ 9 := by omega
    have hY0 : 0 ≤ Y := by omega
    have hY1 : Y ≤ 9 := by omega
    have HE : Hid ((C + X + Y) % 10 = ((dig (A + B) k : Nat) : Int) ∧ (C + X + Y) / 10 = ((tcy A B (k + 1) : Nat) : Int)) := by show _ ∧ _; omega
    have HK : Hid (0 < tcy A B k → k ≤ n + m) := fun h => by
      rcases Nat.lt_or_ge (n + m) k with h1 | h1
      · have := tcy_past (tfit_mono HA.out (show n ≤ n + m by omega)) (tfit_mono HB.out (show m ≤ n + m by omega)) h1; omega
      · exact h1
    have HCT : Hid (C = ((tcy A B k : Nat) : Int)) := hC
    have HXA : Hid (n ≤ k → X = 0) := fun h => by rw [hX, dig_zero HA.out h]; rfl
    have HYB : Hid (m ≤ k → Y = 0) := fun h => by rw [hY, dig_zero HB.out h]; rfl
    rw [← hC]
    clear s1 s2 hcy dA dB hC
    by_cases hlA : k < n
    · by_cases hlB : k < m
      · have hA2 : decide ((k : Int) < (n : Int)) = true := decide_eq_true (by omega)
        have hB2 : decide ((k : Int) < (m : Int)) = true := decide_eq_true (by omega)
        obtain ⟨b1, o1, rfl, hb1⟩ := ha.some_of_pos (by omega)
        have c1 := (ha.below hbl).at k hlA
        rw [← hX] at c1
        obtain ⟨b2, o2, rfl, hb2⟩ := hb.some_of_pos (by omega)
        have c2 := (hb.below hbl).at k hlB
        rw [← hY] at c2
        have HF : Hid ((C + X + Y) % 10 = ((dig (A + B) k : Nat) : Int) ∧ (C + X + Y) / 10 = ((tcy A B (k + 1) : Nat) : Int)) := by
          have h := HE.out
          exact h
        clear HE hX hY
        have hk2 : k ≤ n + m := by omega
        go_wp2_with (first
          | (at_builtin; refine wpList_append_own _ rfl _ _ 26 rfl w.heap.size 3 i0 (.int .i64 0) 1 8 Tryd.ru26 HI.out.1 HI.out.2.1 HI.out.2.2.1 HI.out.2.2.2 rfl (by decide) _ _ _ rfl (how.alloc _) ⟨wr.heap.size, 0, none⟩ 1 1 [.int .i64 ((C + X + Y) % 10)] rfl rfl ?ac1 ?ac2 ?ac3 ?ac4 ?ac5 ?_)
          | fail)
        (try case ac1 => exact cell_one_new _ _ _)
        case ac2 => first | rfl | (intro u hu; simp at hu; subst hu; rfl)
        case ac3 => unfold maxLen; omega
        case ac4 => omega
        case ac5 => have := hbl.size; simp; omega
        intro v' w3 hown' hgrow _
        have hb3 : Below w.heap.size w w3 := (hbl.alloc hbl.size _).grown hgrow (by have := hbl.size; simp; omega) (fun q hq => (how.lt q hq).1)
        clear hgrow how
        rw [HF.out.1] at hown'
        have hown2 : w3.ownsRow w.heap.size 3 1 v' (k + 1) (vals .i64 (dig (A + B)) (k + 1)) := by rw [← vals_succ]; exact hown'
        go_wp2
        go_roundw
        case rel => exact ⟨k + 1, by omega, by go_num, by rw [HF.out.2], hown2, hb3⟩
        case measure => simp [intOf]; omega
      · have hA2 : decide ((k : Int) < (n : Int)) = true := decide_eq_true (by omega)
        have hB2 : decide ((k : Int) < (m : Int)) = false := decide_eq_false (by omega)
        obtain ⟨b1, o1, rfl, hb1⟩ := ha.some_of_pos (by omega)
        have c1 := (ha.below hbl).at k hlA
        rw [← hX] at c1
        have HF : Hid ((C + X) % 10 = ((dig (A + B) k : Nat) : Int) ∧ (C + X) / 10 = ((tcy A B (k + 1) : Nat) : Int)) := by
          have h := HE.out
          rw [HYB.out (by omega)] at h
          simp only [Int.add_zero] at h
          exact h
        clear HE hX hY
        have hk2 : k ≤ n + m := by omega
        go_wp2_with (first
          | (at_builtin; refine wpList_append_own _ rfl _ _ 26 rfl w.heap.size 3 i0 (.int .i64 0) 1 8 Tryd.ru26 HI.out.1 HI.out.2.1 HI.out.2.2.1 HI.out.2.2.2 rfl (by decide) _ _ _ rfl (how.alloc _) ⟨wr.heap.size, 0, none⟩ 1 1 [.int .i64 ((C + X) % 10)] rfl rfl ?bc1 ?bc2 ?bc3 ?bc4 ?bc5 ?_)
          | fail)
        (try case bc1 => exact cell_one_new _ _ _)
        case bc2 => first | rfl | (intro u hu; simp at hu; subst hu; rfl)
        case bc3 => unfold maxLen; omega
        case bc4 => omega
        case bc5 => have := hbl.size; simp; omega
        intro v' w3 hown' hgrow _
        have hb3 : Below w.heap.size w w3 := (hbl.alloc hbl.size _).grown hgrow (by have := hbl.size; simp; omega) (fun q hq => (how.lt q hq).1)
        clear hgrow how
        rw [HF.out.1] at hown'
        have hown2 : w3.ownsRow w.heap.size 3 1 v' (k + 1) (vals .i64 (dig (A + B)) (k + 1)) := by rw [← vals_succ]; exact hown'
        go_wp2
        go_roundw
        case rel => exact ⟨k + 1, by omega, by go_num, by rw [HF.out.2], hown2, hb3⟩
        case measure => simp [intOf]; omega
    · by_cases hlB : k < m
      · have hA2 : decide ((k : Int) < (n : Int)) = false := decide_eq_false (by omega)
        have hB2 : decide ((k : Int) < (m : Int)) = true := decide_eq_true (by omega)
        obtain ⟨b2, o2, rfl, hb2⟩ := hb.some_of_pos (by omega)
        have c2 := (hb.below hbl).at k hlB
        rw [← hY] at c2
        have HF : Hid ((C + Y) % 10 = ((dig (A + B) k : Nat) : Int) ∧ (C + Y) / 10 = ((tcy A B (k + 1) : Nat) : Int)) := by
          have h := HE.out
          rw [HXA.out (by omega)] at h
          simp only [Int.add_zero] at h
          exact h
        clear HE hX hY
        have hk2 : k ≤ n + m := by omega
        go_wp2_with (first
          | (at_builtin; refine wpList_append_own _ rfl _ _ 26 rfl w.heap.size 3 i0 (.int .i64 0) 1 8 Tryd.ru26 HI.out.1 HI.out.2.1 HI.out.2.2.1 HI.out.2.2.2 rfl (by decide) _ _ _ rfl (how.alloc _) ⟨wr.heap.size, 0, none⟩ 1 1 [.int .i64 ((C + Y) % 10)] rfl rfl ?cc1 ?cc2 ?cc3 ?cc4 ?cc5 ?_)
          | fail)
        (try case cc1 => exact cell_one_new _ _ _)
        case cc2 => first | rfl | (intro u hu; simp at hu; subst hu; rfl)
        case cc3 => unfold maxLen; omega
        case cc4 => omega
        case cc5 => have := hbl.size; simp; omega
        intro v' w3 hown' hgrow _
        have hb3 : Below w.heap.size w w3 := (hbl.alloc hbl.size _).grown hgrow (by have := hbl.size; simp; omega) (fun q hq => (how.lt q hq).1)
        clear hgrow how
        rw [HF.out.1] at hown'
        have hown2 : w3.ownsRow w.heap.size 3 1 v' (k + 1) (vals .i64 (dig (A + B)) (k + 1)) := by rw [← vals_succ]; exact hown'
        go_wp2
        go_roundw
        case rel => exact ⟨k + 1, by omega, by go_num, by rw [HF.out.2], hown2, hb3⟩
        case measure => simp [intOf]; omega
      · have hA2 : decide ((k : Int) < (n : Int)) = false := decide_eq_false (by omega)
        have hB2 : decide ((k : Int) < (m : Int)) = false := decide_eq_false (by omega)
        by_cases hc : 0 < C
        · have hc2 : decide (0 < C) = true := decide_eq_true hc
          have HF : Hid ((C) % 10 = ((dig (A + B) k : Nat) : Int) ∧ (C) / 10 = ((tcy A B (k + 1) : Nat) : Int)) := by
            have h := HE.out
            rw [HXA.out (by omega)] at h
            rw [HYB.out (by omega)] at h
            simp only [Int.add_zero] at h
            exact h
          clear HE hX hY
          have hk2 : k ≤ n + m := HK.out (by have := HCT.out; omega)
          go_wp2_with (first
            | (at_builtin; refine wpList_append_own _ rfl _ _ 26 rfl w.heap.size 3 i0 (.int .i64 0) 1 8 Tryd.ru26 HI.out.1 HI.out.2.1 HI.out.2.2.1 HI.out.2.2.2 rfl (by decide) _ _ _ rfl (how.alloc _) ⟨wr.heap.size, 0, none⟩ 1 1 [.int .i64 ((C) % 10)] rfl rfl ?dc1 ?dc2 ?dc3 ?dc4 ?dc5 ?_)
            | fail)
          (try case dc1 => exact cell_one_new _ _ _)
          case dc2 => first | rfl | (intro u hu; simp at hu; subst hu; rfl)
          case dc3 => unfold maxLen; omega
          case dc4 => omega
          case dc5 => have := hbl.size; simp; omega
          intro v' w3 hown' hgrow _
          have hb3 : Below w.heap.size w w3 := (hbl.alloc hbl.size _).grown hgrow (by have := hbl.size; simp; omega) (fun q hq => (how.lt q hq).1)
          clear hgrow how
          rw [HF.out.1] at hown'
          have hown2 : w3.ownsRow w.heap.size 3 1 v' (k + 1) (vals .i64 (dig (A + B)) (k + 1)) := by rw [← vals_succ]; exact hown'
          go_wp2
          go_roundw
          case rel => exact ⟨k + 1, by omega, by go_num, by rw [HF.out.2], hown2, hb3⟩
          case measure => simp [intOf]; omega
        · obtain rfl : C = 0 := by omega
          have HD : Hid (A + B < 10 ^ k) := tcy_done HA.out HB.out (by omega) (by omega) (by have := HCT.out; omega)
          obtain ⟨a4, c4, rfl, hlie, hfr⟩ := owned_fresh how
          clear how HE hX hY hc
          go_wp2
          go_ret
          exact ⟨a4, k, c4, rfl, hlie, HD.out, hfr, hbl⟩

set_option maxHeartbeats 3200000 in
theorem rless_any (a b : Option Addr) (n c m d A B : Nat) (w : World) (ha : Lie .i64 w a n c (dig A)) (hb : Lie .i64 w b m d (dig B)) (hA : A < 10 ^ n) (hB : B < 10 ^ m) (hBA : B ≤ A) (hn : n ≤ 1000000000) (hm : m ≤ 1000000000) :
    Calls Tryd.prog 65 #[.slice a n c, .slice b m d] w (PDig (A - B) w) := by
  obtain ⟨i0, hi0, hz0, hzz1, hzz2⟩ := info_parts Tryd.rinfo3
  have HI := Lib.hid (And.intro hi0 (And.intro hz0 (And.intro hzz1 hzz2)))
  have HA := Lib.hid hA
  have HB := Lib.hid hB
  have HBA := Lib.hid hBA
  clear hi0 hz0 hzz1 hzz2 hA hB hBA
  go_enter Tryd.func65, Tryd.ntmps65
  go_wp2
  go_loopw [5, 6, 7] (fun dv ov iv wr => ∃ k : Nat, k ≤ n ∧ iv = .int .i64 k ∧ ov = .int .i64 (tbw A B k : Nat) ∧ wr.ownsRow w.heap.size 3 1 dv k (vals .i64 (dig (A - B)) k) ∧ Below w.heap.size w wr) (fun _ _ iv _ => n - (intOf iv).toNat)
  case atStart => exact ⟨0, Nat.zero_le _, rfl, by rw [tbw_zero]; rfl, World.ownsRow_nil _ _ _ _, Below.refl _ _⟩
  case round =>
    obtain ⟨k, hk, rfl, rfl, how, hbl⟩ := hrel
    have s1 := tbw_part HBA.out k
    have s2 := tbw_next A B k
    have hcy := tbw_le A B k
    obtain ⟨C, hC⟩ : ∃ C : Int, C = ((tbw A B k : Nat) : Int) := ⟨_, rfl⟩
    have hC0 : 0 ≤ C := by omega
    have hC1 : C ≤ 1 := by omega
    have dA := dig_lt A k
    have dB := dig_lt B k
    obtain ⟨X, hX⟩ : ∃ X : Int, X = ((dig A k : Nat) : Int) := ⟨_, rfl⟩
    obtain ⟨Y, hY⟩ : ∃ Y : Int, Y = ((dig B k : Nat) : Int) := ⟨_, rfl⟩
    have hX0 : 0 ≤ X := by omega
    have hX1 : X ≤ 9 := by omega
    have hY0 : 0 ≤ Y := by omega
    have hY1 : Y ≤ 9 := by omega
    have HE : Hid ((X - C - Y < 0 → X - C - Y + 10 = ((dig (A - B) k : Nat) : Int) ∧ (1 : Int) = ((tbw A B (k + 1) : Nat) : Int)) ∧ (¬ X - C - Y < 0 → X - C - Y = ((dig (A - B) k : Nat) : Int) ∧ (0 : Int) = ((tbw A B (k + 1) : Nat) : Int))) := by
      show _ ∧ _
      rw [s2]
      constructor
      · intro h
        rw [if_pos (by omega)]; omega
      · intro h
        rw [if_neg (by omega)]; omega
    have HYB : Hid (m ≤ k → Y = 0) := fun h => by rw [hY, dig_zero HB.out h]; rfl
    rw [← hC]
    clear s1 s2 hcy dA dB hC
    by_cases hlA : k < n
    · obtain ⟨b1, o1, rfl, hb1⟩ := ha.some_of_pos (by omega)
      have c1 := (ha.below hbl).at k hlA
      rw [← hX] at c1
      by_cases hlB : k < m
      · by_cases hs : X - C - Y < 0
        · have hs2 : decide (X - C - Y < 0) = true := decide_eq_true hs
          obtain ⟨b2, o2, rfl, hb2⟩ := hb.some_of_pos (by omega)
          have c2 := (hb.below hbl).at k hlB
          rw [← hY] at c2
          have HF : Hid (X - C - Y + 10 = ((dig (A - B) k : Nat) : Int) ∧ (1 : Int) = ((tbw A B (k + 1) : Nat) : Int)) := by
            have h := HE.out.1
            exact h hs
          clear HE hX hY
          go_wp2_with (first
            | (at_builtin; refine wpList_append_own _ rfl _ _ 26 rfl w.heap.size 3 i0 (.int .i64 0) 1 8 Tryd.ru26 HI.out.1 HI.out.2.1 HI.out.2.2.1 HI.out.2.2.2 rfl (by decide) _ _ _ rfl (how.alloc _) ⟨wr.heap.size, 0, none⟩ 1 1 [.int .i64 (X - C - Y + 10)] rfl rfl ?pc1 ?pc2 ?pc3 ?pc4 ?pc5 ?_)
            | fail)
          (try case pc1 => exact cell_one_new _ _ _)
          case pc2 => first | rfl | (intro u hu; simp at hu; subst hu; rfl)
          case pc3 => unfold maxLen; omega
          case pc4 => omega
          case pc5 => have := hbl.size; simp; omega
          intro v' w3 hown' hgrow _
          have hb3 : Below w.heap.size w w3 := (hbl.alloc hbl.size _).grown hgrow (by have := hbl.size; simp; omega) (fun q hq => (how.lt q hq).1)
          clear hgrow how
          rw [HF.out.1] at hown'
          have hown2 : w3.ownsRow w.heap.size 3 1 v' (k + 1) (vals .i64 (dig (A - B)) (k + 1)) := by rw [← vals_succ]; exact hown'
          go_wp2
          go_roundw
          case rel => exact ⟨k + 1, by omega, by go_num, by rw [← HF.out.2], hown2, hb3⟩
          case measure => simp [intOf]; omega
        · have hs2 : decide (X - C - Y < 0) = false := decide_eq_false hs
          obtain ⟨b2, o2, rfl, hb2⟩ := hb.some_of_pos (by omega)
          have c2 := (hb.below hbl).at k hlB
          rw [← hY] at c2
          have HF : Hid (X - C - Y = ((dig (A - B) k : Nat) : Int) ∧ (0 : Int) = ((tbw A B (k + 1) : Nat) : Int)) := by
            have h := HE.out.2
            exact h hs
          clear HE hX hY
          go_wp2_with (first
            | (at_builtin; refine wpList_append_own _ rfl _ _ 26 rfl w.heap.size 3 i0 (.int .i64 0) 1 8 Tryd.ru26 HI.out.1 HI.out.2.1 HI.out.2.2.1 HI.out.2.2.2 rfl (by decide) _ _ _ rfl (how.alloc _) ⟨wr.heap.size, 0, none⟩ 1 1 [.int .i64 (X - C - Y)] rfl rfl ?qc1 ?qc2 ?qc3 ?qc4 ?qc5 ?_)
            | fail)
          (try case qc1 => exact cell_one_new _ _ _)
          case qc2 => first | rfl | (intro u hu; simp at hu; subst hu; rfl)
          case qc3 => unfold maxLen; omega
          case qc4 => omega
          case qc5 => have := hbl.size; simp; omega
          intro v' w3 hown' hgrow _
          have hb3 : Below w.heap.size w w3 := (hbl.alloc hbl.size _).grown hgrow (by have := hbl.size; simp; omega) (fun q hq => (how.lt q hq).1)
          clear hgrow how
          rw [HF.out.1] at hown'
          have hown2 : w3.ownsRow w.heap.size 3 1 v' (k + 1) (vals .i64 (dig (A - B)) (k + 1)) := by rw [← vals_succ]; exact hown'
          go_wp2
          go_roundw
          case rel => exact ⟨k + 1, by omega, by go_num, by rw [← HF.out.2], hown2, hb3⟩
          case measure => simp [intOf]; omega
      · have hY9 := HYB.out (by omega)
        by_cases hs' : X - C < 0
        · have hs2 : decide (X - C < 0) = true := decide_eq_true hs'
          have hs : X - C - 0 < 0 := by omega
          clear hY9
          have HF : Hid (X - C + 10 = ((dig (A - B) k : Nat) : Int) ∧ (1 : Int) = ((tbw A B (k + 1) : Nat) : Int)) := by
            have h := HE.out.1
            rw [HYB.out (by omega)] at h
            simp only [Int.sub_zero] at h
            exact h hs'
          clear HE hX hY
          go_wp2_with (first
            | (at_builtin; refine wpList_append_own _ rfl _ _ 26 rfl w.heap.size 3 i0 (.int .i64 0) 1 8 Tryd.ru26 HI.out.1 HI.out.2.1 HI.out.2.2.1 HI.out.2.2.2 rfl (by decide) _ _ _ rfl (how.alloc _) ⟨wr.heap.size, 0, none⟩ 1 1 [.int .i64 (X - C + 10)] rfl rfl ?rc1 ?rc2 ?rc3 ?rc4 ?rc5 ?_)
            | fail)
          (try case rc1 => exact cell_one_new _ _ _)
          case rc2 => first | rfl | (intro u hu; simp at hu; subst hu; rfl)
          case rc3 => unfold maxLen; omega
          case rc4 => omega
          case rc5 => have := hbl.size; simp; omega
          intro v' w3 hown' hgrow _
          have hb3 : Below w.heap.size w w3 := (hbl.alloc hbl.size _).grown hgrow (by have := hbl.size; simp; omega) (fun q hq => (how.lt q hq).1)
          clear hgrow how
          rw [HF.out.1] at hown'
          have hown2 : w3.ownsRow w.heap.size 3 1 v' (k + 1) (vals .i64 (dig (A - B)) (k + 1)) := by rw [← vals_succ]; exact hown'
          go_wp2
          go_roundw
          case rel => exact ⟨k + 1, by omega, by go_num, by rw [← HF.out.2], hown2, hb3⟩
          case measure => simp [intOf]; omega
        · have hs2 : decide (X - C < 0) = false := decide_eq_false hs'
          clear hY9
          have HF : Hid (X - C = ((dig (A - B) k : Nat) : Int) ∧ (0 : Int) = ((tbw A B (k + 1) : Nat) : Int)) := by
            have h := HE.out.2
            rw [HYB.out (by omega)] at h
            simp only [Int.sub_zero] at h
            exact h hs'
          clear HE hX hY
          go_wp2_with (first
            | (at_builtin; refine wpList_append_own _ rfl _ _ 26 rfl w.heap.size 3 i0 (.int .i64 0) 1 8 Tryd.ru26 HI.out.1 HI.out.2.1 HI.out.2.2.1 HI.out.2.2.2 rfl (by decide) _ _ _ rfl (how.alloc _) ⟨wr.heap.size, 0, none⟩ 1 1 [.int .i64 (X - C)] rfl rfl ?sc1 ?sc2 ?sc3 ?sc4 ?sc5 ?_)
            | fail)
          (try case sc1 => exact cell_one_new _ _ _)
          case sc2 => first | rfl | (intro u hu; simp at hu; subst hu; rfl)
          case sc3 => unfold maxLen; omega
          case sc4 => omega
          case sc5 => have := hbl.size; simp; omega
          intro v' w3 hown' hgrow _
          have hb3 : Below w.heap.size w w3 := (hbl.alloc hbl.size _).grown hgrow (by have := hbl.size; simp; omega) (fun q hq => (how.lt q hq).1)
          clear hgrow how
          rw [HF.out.1] at hown'
          have hown2 : w3.ownsRow w.heap.size 3 1 v' (k + 1) (vals .i64 (dig (A - B)) (k + 1)) := by rw [← vals_succ]; exact hown'
          go_wp2
          go_roundw
          case rel => exact ⟨k + 1, by omega, by go_num, by rw [← HF.out.2], hown2, hb3⟩
          case measure => simp [intOf]; omega
    · obtain rfl : k = n := by omega
      have HD : Hid (A - B < 10 ^ k) := Nat.lt_of_le_of_lt (Nat.sub_le _ _) HA.out
      obtain ⟨a4, c4, rfl, hlie, hfr⟩ := owned_fresh how
      clear how HE hX hY
      go_wp2
      go_ret
      exact ⟨a4, k, c4, rfl, hlie, HD.out, hfr, hbl⟩
end Go.Proofs.YtpacbipencmjnaaDoor
