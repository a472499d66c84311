/- Four numbers in variables; what a quotient and a rest are. -/
import Derived.Test.YtpacbipencmjnaaDoorLring
namespace Go.Proofs.YtpacbipencmjnaaDoor
open Go.RowKit

/-- Blocks hold the numbers x, y, q, r. -/
structure T4 (w W : World) (i j k l : Nat) (b1 : Bool) (a1 : Option Addr) (n1 c1 : Nat) (x : Int) (b2 : Bool) (a2 : Option Addr) (n2 c2 : Nat) (y : Int) (b3 : Bool) (a3 : Option Addr) (n3 c3 : Nat) (q : Int) (b4 : Bool) (a4 : Option Addr) (n4 c4 : Nat) (r : Int) : Prop where
  below : Below w.heap.size w W
  X : VI W i b1 a1 n1 c1 x
  Y : VI W j b2 a2 n2 c2 y
  Q : VI W k b3 a3 n3 c3 q
  R : VI W l b4 a4 n4 c4 r
section
variable {w W W' : World} {i j k l : Nat} {b1 : Bool} {a1 : Option Addr} {n1 c1 : Nat} {x : Int} {b2 : Bool} {a2 : Option Addr} {n2 c2 : Nat} {y : Int} {b3 : Bool} {a3 : Option Addr} {n3 c3 : Nat} {q : Int} {b4 : Bool} {a4 : Option Addr} {n4 c4 : Nat} {r : Int}
theorem T4.later (h : T4 w W i j k l b1 a1 n1 c1 x b2 a2 n2 c2 y b3 a3 n3 c3 q b4 a4 n4 c4 r) (hb : Below W.heap.size W W') : T4 w W' i j k l b1 a1 n1 c1 x b2 a2 n2 c2 y b3 a3 n3 c3 q b4 a4 n4 c4 r :=
  ⟨h.below.trans (hb.mono h.below.size), h.X.below hb, h.Y.below hb, h.Q.below hb, h.R.below hb⟩
theorem T4.drew (h : T4 w W i j k l b1 a1 n1 c1 x b2 a2 n2 c2 y b3 a3 n3 c3 q b4 a4 n4 c4 r) : T4 w W.drew i j k l b1 a1 n1 c1 x b2 a2 n2 c2 y b3 a3 n3 c3 q b4 a4 n4 c4 r := h.later (Below.refl _ _).drew
theorem T4.hs (h : T4 w W i j k l b1 a1 n1 c1 x b2 a2 n2 c2 y b3 a3 n3 c3 q b4 a4 n4 c4 r) : W.cell? ⟨i, 0, none⟩ = some (.bool b1) ∧ W.cell? ⟨i, 1, none⟩ = some (.slice a1 n1 c1) ∧ W.cell? ⟨j, 0, none⟩ = some (.bool b2) ∧ W.cell? ⟨j, 1, none⟩ = some (.slice a2 n2 c2) ∧ W.cell? ⟨k, 0, none⟩ = some (.bool b3) ∧ W.cell? ⟨k, 1, none⟩ = some (.slice a3 n3 c3) ∧ W.cell? ⟨l, 0, none⟩ = some (.bool b4) ∧ W.cell? ⟨l, 1, none⟩ = some (.slice a4 n4 c4) :=
  ⟨h.X.k0, h.X.k1, h.Y.k0, h.Y.k1, h.Q.k0, h.Q.k1, h.R.k0, h.R.k1⟩
end
theorem vi_two {w : World} {b1 : Bool} {a1 : Option Addr} {n1 c1 : Nat} {x : Int} {b2 : Bool} {a2 : Option Addr} {n2 c2 : Nat} {y : Int} (h : Num w b1 a1 n1 c1 x) (h' : Num w b2 a2 n2 c2 y) (t : TypeId) :
    VI ((w.alloc (.cells #[.bool b1, .slice a1 n1 c1] t)).alloc (.cells #[.bool b2, .slice a2 n2 c2] t)) w.heap.size b1 a1 n1 c1 x ∧
    VI ((w.alloc (.cells #[.bool b1, .slice a1 n1 c1] t)).alloc (.cells #[.bool b2, .slice a2 n2 c2] t)) (w.heap.size + 1) b2 a2 n2 c2 y ∧
    Below w.heap.size w ((w.alloc (.cells #[.bool b1, .slice a1 n1 c1] t)).alloc (.cells #[.bool b2, .slice a2 n2 c2] t)) := by
  have e : (w.alloc (.cells #[.bool b1, .slice a1 n1 c1] t)).heap.size = w.heap.size + 1 := by simp
  have B1 := below_new w (.cells #[.bool b1, .slice a1 n1 c1] t)
  have V2 := vi_new t (h'.below B1)
  rw [e] at V2
  exact ⟨(vi_new t h).below (below_new _ _), V2, ((Below.refl w.heap.size w).alloc (Nat.le_refl _) _).alloc (by simp) _⟩
theorem quo_sign {x y q r : Int} (h : IsQuo x y q r) (hy : y ≠ 0) : sgnI r = 0 ∨ (sgnI r ≠ 0 ∧ sgnI r = sgnI y) := by
  obtain ⟨_, h1, h2⟩ := h
  rcases sgn_val r with ⟨e, f⟩ | ⟨e, f⟩ | ⟨e, f⟩ <;> rcases sgn_val y with ⟨e', f'⟩ | ⟨e', f'⟩ | ⟨e', f'⟩ <;> rw [e, e'] <;> omega
theorem quo_near {x y q r : Int} (h : IsQuo x y q r) (hy : y ≠ 0) : sgnI (r - y) = -sgnI y := by
  obtain ⟨_, h1, h2⟩ := h
  rcases sgn_val (r - y) with ⟨e, f⟩ | ⟨e, f⟩ | ⟨e, f⟩ <;> rcases sgn_val y with ⟨e', f'⟩ | ⟨e', f'⟩ | ⟨e', f'⟩ <;> rw [e, e'] <;> omega
theorem quo_same {x y p s : Int} (h : IsQuo (x * y) y p s) (hy : y ≠ 0) : p = x ∧ s = 0 := by
  obtain ⟨h0, h1, h2⟩ := h
  have hd : s = (x - p) * y := by rw [Int.sub_mul]; omega
  have key : x - p = 0 := by
    rcases Int.lt_trichotomy (x - p) 0 with g | g | g
    · rcases Int.lt_or_gt_of_ne hy with gy | gy
      · have := Int.mul_le_mul_of_nonpos_right (show x - p ≤ -1 by omega) (Int.le_of_lt gy)
        have := h2 gy; omega
      · have := Int.mul_le_mul_of_nonneg_right (show x - p ≤ -1 by omega) (Int.le_of_lt gy)
        have := h1 gy; omega
    · exact g
    · rcases Int.lt_or_gt_of_ne hy with gy | gy
      · have := Int.mul_le_mul_of_nonpos_right (show 1 ≤ x - p by omega) (Int.le_of_lt gy)
        have := h2 gy; omega
      · have := Int.mul_le_mul_of_nonneg_right (show 1 ≤ x - p by omega) (Int.le_of_lt gy)
        have := h1 gy; omega
  rw [key, Int.zero_mul] at hd
  exact ⟨by omega, hd⟩
theorem quo_bnd {x y q r : Int} {m n : Nat} (h : IsQuo x y q r) (hy : y ≠ 0) (hx : x.natAbs < BB ^ m) (hyb : y.natAbs < BB ^ n) : q.natAbs < BB ^ (m + n + 1) := by
  obtain ⟨h0, h1, h2⟩ := h
  have e : q * y = x + (-r) := by omega
  have hr : (-r).natAbs < BB ^ n := by
    have : r.natAbs < y.natAbs := by
      rcases Int.lt_or_gt_of_ne hy with g | g
      · have := h2 g; omega
      · have := h1 g; omega
    rw [Int.natAbs_neg]; omega
  have hb := bnd_add hx hr
  rw [← e, Int.natAbs_mul] at hb
  exact Nat.lt_of_le_of_lt (Nat.le_mul_of_pos_right _ (by omega)) hb
theorem quo_left {x y q r : Int} {n : Nat} (h : IsQuo x y q r) (hy : y ≠ 0) (hyb : y.natAbs < BB ^ n) : r.natAbs < BB ^ n := by
  obtain ⟨_, h1, h2⟩ := h
  have : r.natAbs < y.natAbs := by
    rcases Int.lt_or_gt_of_ne hy with g | g
    · have := h2 g; omega
    · have := h1 g; omega
  omega
end Go.Proofs.YtpacbipencmjnaaDoor
