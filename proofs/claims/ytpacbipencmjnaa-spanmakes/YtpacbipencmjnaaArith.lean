/- The walks of Mul, Add, Sub. -/
import Derived.Test.YtpacbipencmjnaaInts
namespace Go.Proofs.Ytpacbipencmjnaa
open Go.RowKit

/-- Two numbers in boxes of their own, and a place for the result, behind what was there. -/
structure Boxed (w w1 : World) (bl : Bool) (a : Option Addr) (n c : Nat) (bl' : Bool) (a' : Option Addr) (n' c' : Nat) : Prop where
  below : Below w.heap.size w w1
  k0 : w1.cell? ⟨w.heap.size, 0, none⟩ = some (.bool bl)
  k1 : w1.cell? ⟨w.heap.size, 1, none⟩ = some (.slice a n c)
  l0 : w1.cell? ⟨w.heap.size + 1, 0, none⟩ = some (.bool bl')
  l1 : w1.cell? ⟨w.heap.size + 1, 1, none⟩ = some (.slice a' n' c')
  r0 : w1.cell? ⟨w.heap.size + 2, 0, none⟩ = some (.bool false)
  r1 : w1.cell? ⟨w.heap.size + 2, 1, none⟩ = some (.slice none 0 0)
  f0 : w1.frozen? ⟨w.heap.size + 2, 0, none⟩ = false
  f1 : w1.frozen? ⟨w.heap.size + 2, 1, none⟩ = false
  sz : w.heap.size + 2 < w1.heap.size

theorem boxed_mk (w : World) (t : TypeId) (bl : Bool) (a : Option Addr) (n c : Nat) (bl' : Bool) (a' : Option Addr) (n' c' : Nat) :
    Boxed w (((w.alloc (.cells #[.bool bl, .slice a n c] t)).alloc (.cells #[.bool bl', .slice a' n' c'] t)).alloc (.cells #[.bool false, .slice none 0 0] t)) bl a n c bl' a' n' c' :=
  ⟨(((Below.refl w.heap.size w).alloc (Nat.le_refl _) _).alloc (by simp) _).alloc (by simp; omega) _, by simp [go_sem], by simp [go_sem], by simp [go_sem], by simp [go_sem], by simp [go_sem], by simp [go_sem], by simp [go_sem], by simp [go_sem], by simp⟩
theorem Boxed.later {w w1 w2 : World} {bl : Bool} {a : Option Addr} {n c : Nat} {bl' : Bool} {a' : Option Addr} {n' c' : Nat} (h : Boxed w w1 bl a n c bl' a' n' c') (hb : Below w1.heap.size w1 w2) : Boxed w w2 bl a n c bl' a' n' c' := by
  have hs := h.sz
  exact ⟨h.below.trans (hb.mono h.below.size), (hb.cell (p := ⟨w.heap.size, 0, none⟩) (by show w.heap.size < _; omega)).trans h.k0, (hb.cell (p := ⟨w.heap.size, 1, none⟩) (by show w.heap.size < _; omega)).trans h.k1,
    (hb.cell (p := ⟨w.heap.size + 1, 0, none⟩) (by show w.heap.size + 1 < _; omega)).trans h.l0, (hb.cell (p := ⟨w.heap.size + 1, 1, none⟩) (by show w.heap.size + 1 < _; omega)).trans h.l1,
    (hb.cell (p := ⟨w.heap.size + 2, 0, none⟩) hs).trans h.r0, (hb.cell (p := ⟨w.heap.size + 2, 1, none⟩) hs).trans h.r1, (hb.frozen (p := ⟨w.heap.size + 2, 0, none⟩) hs).trans h.f0, (hb.frozen (p := ⟨w.heap.size + 2, 1, none⟩) hs).trans h.f1,
    Nat.lt_of_lt_of_le hs hb.size⟩
theorem below_undrew {B : Nat} {w w' : World} (h : Below B w.drew w') : Below B w w' := ⟨h.os, h.tape, h.output, h.size, h.block⟩
theorem Boxed.drew {w w1 : World} {bl : Bool} {a : Option Addr} {n c : Nat} {bl' : Bool} {a' : Option Addr} {n' c' : Nat} (h : Boxed w w1 bl a n c bl' a' n' c') : Boxed w w1.drew bl a n c bl' a' n' c' := h.later (Below.refl _ _).drew
/-- What the loads of a region read, in a world of its run. -/
def HS (w : World) (bl : Bool) (a : Option Addr) (n c : Nat) (bl' : Bool) (a' : Option Addr) (n' c' : Nat) (w' : World) : Prop :=
  w'.cell? ⟨w.heap.size, 0, none⟩ = some (.bool bl) ∧ w'.cell? ⟨w.heap.size, 1, none⟩ = some (.slice a n c) ∧ w'.cell? ⟨w.heap.size + 1, 0, none⟩ = some (.bool bl') ∧ w'.cell? ⟨w.heap.size + 1, 1, none⟩ = some (.slice a' n' c')
theorem Boxed.hs {w w1 : World} {bl : Bool} {a : Option Addr} {n c : Nat} {bl' : Bool} {a' : Option Addr} {n' c' : Nat} (h : Boxed w w1 bl a n c bl' a' n' c') : HS w bl a n c bl' a' n' c' w1 := ⟨h.k0, h.k1, h.l0, h.l1⟩
theorem Boxed.hs2 {w w1 : World} {bl : Bool} {a : Option Addr} {n c : Nat} {bl' : Bool} {a' : Option Addr} {n' c' : Nat} (h : Boxed w w1 bl a n c bl' a' n' c') (u v : Value) : HS w bl a n c bl' a' n' c' ((w1.setCell ⟨w.heap.size + 2, 0, none⟩ u).setCell ⟨w.heap.size + 2, 1, none⟩ v) :=
  ⟨far2 h.k0 (by omega), far2 h.k1 (by omega), far2 h.l0 (by omega), far2 h.l1 (by omega)⟩
theorem sg_mul {bl bl' : Bool} {x y : Int} (h : bl = decide (x < 0)) (h' : bl' = decide (y < 0)) : sg (!(bl == bl')) (x.natAbs * y.natAbs) = x * y := by
  rw [← Int.natAbs_mul]
  unfold sg
  have e : (x * y).natAbs = x.natAbs * y.natAbs := Int.natAbs_mul x y
  by_cases hx : x < 0 <;> by_cases hy : y < 0
  · have : 0 ≤ x * y := Int.mul_nonneg_of_nonpos_of_nonpos (by omega) (by omega)
    simp [h, h', hx, hy]; omega
  · have : x * y ≤ 0 := Int.mul_nonpos_of_nonpos_of_nonneg (by omega) (by omega)
    simp [h, h', hx, hy]; omega
  · have : x * y ≤ 0 := Int.mul_nonpos_of_nonneg_of_nonpos (by omega) (by omega)
    simp [h, h', hx, hy]; omega
  · have : 0 ≤ x * y := Int.mul_nonneg (by omega) (by omega)
    simp [h, h', hx, hy]; omega

theorem sg_add1 {bl bl' : Bool} {x y : Int} (h : bl = decide (x < 0)) (h' : bl' = decide (y < 0)) (hb : (bl == bl') = true) : sg bl (x.natAbs + y.natAbs) = x + y := by
  by_cases hx : x < 0 <;> by_cases hy : y < 0 <;> simp [h, h', hx, hy] at hb <;> simp [sg, h, hx] <;> omega
theorem sg_add2 {bl bl' : Bool} {x y : Int} (h : bl = decide (x < 0)) (h' : bl' = decide (y < 0)) (hb : (bl == bl') = false) (hc : x.natAbs < y.natAbs) : sg bl' (y.natAbs - x.natAbs) = x + y := by
  by_cases hx : x < 0 <;> by_cases hy : y < 0 <;> simp [h, h', hx, hy] at hb <;> simp [sg, h', hy] <;> omega
theorem sg_add3 {bl bl' : Bool} {x y : Int} (h : bl = decide (x < 0)) (h' : bl' = decide (y < 0)) (hb : (bl == bl') = false) (hc : ¬ x.natAbs < y.natAbs) : sg bl (x.natAbs - y.natAbs) = x + y := by
  by_cases hx : x < 0 <;> by_cases hy : y < 0 <;> simp [h, h', hx, hy] at hb <;> simp [sg, h, hx] <;> omega
theorem cmp_lt {A B : Nat} : decide (cmpN A B < 0) = decide (A < B) := by
  unfold cmpN
  by_cases h : A < B
  · rw [if_pos h]; simp [h]
  · rw [if_neg h]; by_cases h2 : B < A
    · rw [if_pos h2]; simp; omega
    · rw [if_neg h2]; simp; omega

end Go.Proofs.Ytpacbipencmjnaa
