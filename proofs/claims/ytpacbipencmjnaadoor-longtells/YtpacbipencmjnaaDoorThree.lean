/- Three numbers in variables. -/
import Derived.Test.YtpacbipencmjnaaDoorTwo
import Derived.Test.YtpacbipencmjnaaDoorLsmall
namespace Go.Proofs.YtpacbipencmjnaaDoor
open Go.RowKit

/-- Blocks i, j, k hold the numbers x, y, z. -/
structure T3 (w W : World) (i j k : Nat) (b1 : Bool) (a1 : Option Addr) (n1 c1 : Nat) (x : Int) (b2 : Bool) (a2 : Option Addr) (n2 c2 : Nat) (y : Int) (b3 : Bool) (a3 : Option Addr) (n3 c3 : Nat) (z : Int) : Prop where
  below : Below w.heap.size w W
  X : VI W i b1 a1 n1 c1 x
  Y : VI W j b2 a2 n2 c2 y
  Z : VI W k b3 a3 n3 c3 z
section
variable {w W W' : World} {i j k : Nat} {b1 : Bool} {a1 : Option Addr} {n1 c1 : Nat} {x : Int} {b2 : Bool} {a2 : Option Addr} {n2 c2 : Nat} {y : Int} {b3 : Bool} {a3 : Option Addr} {n3 c3 : Nat} {z : Int}
theorem T3.later (h : T3 w W i j k b1 a1 n1 c1 x b2 a2 n2 c2 y b3 a3 n3 c3 z) (hb : Below W.heap.size W W') : T3 w W' i j k b1 a1 n1 c1 x b2 a2 n2 c2 y b3 a3 n3 c3 z :=
  ⟨h.below.trans (hb.mono h.below.size), h.X.below hb, h.Y.below hb, h.Z.below hb⟩
theorem T3.drew (h : T3 w W i j k b1 a1 n1 c1 x b2 a2 n2 c2 y b3 a3 n3 c3 z) : T3 w W.drew i j k b1 a1 n1 c1 x b2 a2 n2 c2 y b3 a3 n3 c3 z := h.later (Below.refl _ _).drew
theorem T3.hs (h : T3 w W i j k b1 a1 n1 c1 x b2 a2 n2 c2 y b3 a3 n3 c3 z) : W.cell? ⟨i, 0, none⟩ = some (.bool b1) ∧ W.cell? ⟨i, 1, none⟩ = some (.slice a1 n1 c1) ∧ W.cell? ⟨j, 0, none⟩ = some (.bool b2) ∧ W.cell? ⟨j, 1, none⟩ = some (.slice a2 n2 c2) ∧ W.cell? ⟨k, 0, none⟩ = some (.bool b3) ∧ W.cell? ⟨k, 1, none⟩ = some (.slice a3 n3 c3) :=
  ⟨h.X.k0, h.X.k1, h.Y.k0, h.Y.k1, h.Z.k0, h.Z.k1⟩
end
theorem pz_len {w : World} {s : ByteArray} {b : Bool} {a : Option Addr} {n c : Nat} (h : Num w b a n c (pZ s)) (hp : parsesB s.data.toList = true ∧ pZ s = zval s.data.toList ∧ s.size ≤ 150) : n ≤ 150 := by
  rw [hp.2.1] at h
  have := fit_le h.fit (zval_bb hp.1)
  rw [size_list] at this
  omega
theorem cmp_val (x y : Int) : (cmpI x y = -1 ∧ x < y) ∨ (cmpI x y = 0 ∧ x = y) ∨ (cmpI x y = 1 ∧ y < x) := by
  unfold cmpI; split <;> (try split) <;> omega
theorem vi_four {w : World} {b1 : Bool} {a1 : Option Addr} {n1 c1 : Nat} {x : Int} {b2 : Bool} {a2 : Option Addr} {n2 c2 : Nat} {y : Int} (h : Num w b1 a1 n1 c1 x) (h' : Num w b2 a2 n2 c2 y) (t t' : TypeId) (o o' : Obj) :
    VI ((((w.alloc (.cells #[.bool b1, .slice a1 n1 c1] t)).alloc (.cells #[.bool b2, .slice a2 n2 c2] t)).alloc o).alloc o') w.heap.size b1 a1 n1 c1 x ∧
    VI ((((w.alloc (.cells #[.bool b1, .slice a1 n1 c1] t)).alloc (.cells #[.bool b2, .slice a2 n2 c2] t)).alloc o).alloc o') (w.heap.size + 1) b2 a2 n2 c2 y ∧
    Below w.heap.size w ((((w.alloc (.cells #[.bool b1, .slice a1 n1 c1] t)).alloc (.cells #[.bool b2, .slice a2 n2 c2] t)).alloc o).alloc o') := by
  have e : (w.alloc (.cells #[.bool b1, .slice a1 n1 c1] t)).heap.size = w.heap.size + 1 := by simp
  have B1 := below_new w (.cells #[.bool b1, .slice a1 n1 c1] t)
  have V2 := vi_new t (h'.below B1)
  rw [e] at V2
  have V1 := (vi_new t h).below (below_new _ (.cells #[.bool b2, .slice a2 n2 c2] t))
  refine ⟨(V1.below (below_new _ o)).below (below_new _ o'), (V2.below (below_new _ o)).below (below_new _ o'), ?_⟩
  exact (((Below.refl w.heap.size w).alloc (Nat.le_refl _) _).alloc (by simp) _).alloc (by simp; omega) _ |>.alloc (by simp; omega) _
theorem bytes_of {P Q : ByteArray} (h : P.toList = Q.toList) : P = Q := by
  rw [Lib.toList_data, Lib.toList_data] at h
  have h1 : P.data = Q.data := Array.toList_inj.1 h
  cases P; cases Q; cases h1; rfl
theorem cmp_back (x y : Int) : cmpI y x = -cmpI x y := by unfold cmpI; split <;> split <;> (try split) <;> omega
theorem cmp_add (x y z : Int) : cmpI (x + z) (y + z) = cmpI x y := by unfold cmpI; split <;> split <;> (try split) <;> (try split) <;> omega
theorem sgn_val (z : Int) : (sgnI z = -1 ∧ z < 0) ∨ (sgnI z = 0 ∧ z = 0) ∨ (sgnI z = 1 ∧ 0 < z) := by unfold sgnI; split <;> (try split) <;> omega
theorem cmp_lt' {x y : Int} (h : x < y) : cmpI x y = -1 := by unfold cmpI; rw [if_pos h]
theorem cmp_gt' {x y : Int} (h : y < x) : cmpI x y = 1 := by unfold cmpI; rw [if_neg (by omega), if_pos h]
theorem cmp_mul (x y z : Int) : cmpI (x * z) (y * z) = cmpI x y * sgnI z := by
  rcases sgn_val z with ⟨h1, h2⟩ | ⟨h1, h2⟩ | ⟨h1, h2⟩ <;> rw [h1]
  · rcases cmp_val x y with ⟨h3, h4⟩ | ⟨h3, h4⟩ | ⟨h3, h4⟩ <;> rw [h3]
    · exact cmp_gt' (Int.mul_lt_mul_of_neg_right h4 h2)
    · rw [h4, cmp_self]; rfl
    · exact cmp_lt' (Int.mul_lt_mul_of_neg_right h4 h2)
  · rw [h2, Int.mul_zero, Int.mul_zero, Int.mul_zero, cmp_self]
  · rcases cmp_val x y with ⟨h3, h4⟩ | ⟨h3, h4⟩ | ⟨h3, h4⟩ <;> rw [h3]
    · exact cmp_lt' (Int.mul_lt_mul_of_pos_right h4 h2)
    · rw [h4, cmp_self]; rfl
    · exact cmp_gt' (Int.mul_lt_mul_of_pos_right h4 h2)
end Go.Proofs.YtpacbipencmjnaaDoor
