/- Parts of the proof. -/
import Derived.Test.YtdochhhepmlapaaGb7
import Derived.Deep.LoopGhost
import Derived.Test.YtdochhhepmlapaaProg
import Derived.Test.YtdochhhepmlapaaGb2
import Derived.KernelRfl
/- The walks of package long's methods Sign, Cmp, Bits, Neg, Add, Mul. -/
namespace Go.Proofs.Ytdochhhepmlapaa
open Go.RowKit
theorem Num.zero_iff {w : World} {bl : Bool} {a : Option Addr} {n c : Nat} {z : Int} (h : Num w bl a n c z) : n = 0 ↔ z = 0 := by
 rw [fit_pos h.fit]; omega
/-- How two numbers stand to one another: -1, 0, 1. -/
def cmpI (x y : Int) : Int := if x < y then -1 else if y < x then 1 else 0
theorem only2 (w : World) (b : Nat) (u v : Value) : Only b w ((w.setCell ⟨b, 0, none⟩ u).setCell ⟨b, 1, none⟩ v) := (Only.setCell w b 0 u).trans (Only.setCell _ b 1 v)
theorem far2 {w : World} {b b' o : Nat} {u v x : Value} (h : w.cell? ⟨b, o, none⟩ = some x) (hne : b ≠ b') : ((w.setCell ⟨b', 0, none⟩ u).setCell ⟨b', 1, none⟩ v).cell? ⟨b, o, none⟩ = some x :=
 (World.cell?_of_block (w := w) (a := ⟨b, o, none⟩) ((only2 w b' u v).block b hne)).trans h
theorem Num.only {w w' : World} {bl : Bool} {a : Option Addr} {n c g : Nat} {z : Int} (h : Num w bl a n c z) (ho : Only g w w') (hg : ∀ p, a = some p → p.block ≠ g) : Num w' bl a n c z := ⟨h.lie.only ho hg, h.fit, h.sgn⟩
theorem sg_not {bl : Bool} {z : Int} (h : bl = decide (z < 0)) : sg (!bl) z.natAbs = -z := by
 subst h
 by_cases hz : z < 0
 ·
  simp [sg, hz]; omega
 ·
  simp [sg, hz]; omega
end Go.Proofs.Ytdochhhepmlapaa

/- The walks of Mul, Add, Sub. -/
namespace Go.Proofs.Ytdochhhepmlapaa
open Go.RowKit
/-- Two numbers in boxes of their own, and a place for the result, behind what was there. -/
structure Boxed (w w1 : World) (bl : Bool) (a : Option Addr) (n c : Nat) (bl' : Bool) (a' : Option Addr) (n' c' : Nat) : Prop where
 below : Below w.heap.size w w1
 k0 : w1.cell? ⟨w.heap.size, 0, none⟩ = some (.bool bl)
 k1 : w1.cell? ⟨w.heap.size, 1, none⟩ = some (.slice a n c)
 l0 : w1.cell? ⟨w.heap.size + 1, 0, none⟩ = some (.bool bl')
 l1 : w1.cell? ⟨w.heap.size + 1, 1, none⟩ = some (.slice a' n' c')
 r0 : w1.cell? ⟨w.heap.size + 2, 0, none⟩ = some (.bool false)
 r1 : w1.cell? ⟨w.heap.size + 2, 1, none⟩ = some (.slice none 0 0)
 f0 : w1.frozen? ⟨w.heap.size + 2, 0, none⟩ = false
 f1 : w1.frozen? ⟨w.heap.size + 2, 1, none⟩ = false
 sz : w.heap.size + 2 < w1.heap.size
theorem boxed_mk (w : World) (t : TypeId) (bl : Bool) (a : Option Addr) (n c : Nat) (bl' : Bool) (a' : Option Addr) (n' c' : Nat) :
  Boxed w (((w.alloc (.cells #[.bool bl, .slice a n c] t)).alloc (.cells #[.bool bl', .slice a' n' c'] t)).alloc (.cells #[.bool false, .slice none 0 0] t)) bl a n c bl' a' n' c' :=
 ⟨(((Below.refl w.heap.size w).alloc (Nat.le_refl _) _).alloc (by simp) _).alloc (by simp; omega) _, by simp [go_sem], by simp [go_sem], by simp [go_sem], by simp [go_sem], by simp [go_sem], by simp [go_sem], by simp [go_sem], by simp [go_sem], by simp⟩
theorem Boxed.later {w w1 w2 : World} {bl : Bool} {a : Option Addr} {n c : Nat} {bl' : Bool} {a' : Option Addr} {n' c' : Nat} (h : Boxed w w1 bl a n c bl' a' n' c') (hb : Below w1.heap.size w1 w2) : Boxed w w2 bl a n c bl' a' n' c' := by
 have hs := h.sz
 exact ⟨h.below.trans (hb.mono h.below.size), (hb.cell (p := ⟨w.heap.size, 0, none⟩) (by show w.heap.size < _; omega)).trans h.k0, (hb.cell (p := ⟨w.heap.size, 1, none⟩) (by show w.heap.size < _; omega)).trans h.k1,
  (hb.cell (p := ⟨w.heap.size + 1, 0, none⟩) (by show w.heap.size + 1 < _; omega)).trans h.l0, (hb.cell (p := ⟨w.heap.size + 1, 1, none⟩) (by show w.heap.size + 1 < _; omega)).trans h.l1,
  (hb.cell (p := ⟨w.heap.size + 2, 0, none⟩) hs).trans h.r0, (hb.cell (p := ⟨w.heap.size + 2, 1, none⟩) hs).trans h.r1, (hb.frozen (p := ⟨w.heap.size + 2, 0, none⟩) hs).trans h.f0, (hb.frozen (p := ⟨w.heap.size + 2, 1, none⟩) hs).trans h.f1,
  Nat.lt_of_lt_of_le hs hb.size⟩
theorem below_undrew {B : Nat} {w w' : World} (h : Below B w.drew w') : Below B w w' := ⟨h.os, h.tape, h.output, h.size, h.block⟩
theorem Boxed.drew {w w1 : World} {bl : Bool} {a : Option Addr} {n c : Nat} {bl' : Bool} {a' : Option Addr} {n' c' : Nat} (h : Boxed w w1 bl a n c bl' a' n' c') : Boxed w w1.drew bl a n c bl' a' n' c' := h.later (Below.refl _ _).drew
/-- What the loads of a region read, in a world of its run. -/
def HS (w : World) (bl : Bool) (a : Option Addr) (n c : Nat) (bl' : Bool) (a' : Option Addr) (n' c' : Nat) (w' : World) : Prop :=
 w'.cell? ⟨w.heap.size, 0, none⟩ = some (.bool bl) ∧ w'.cell? ⟨w.heap.size, 1, none⟩ = some (.slice a n c) ∧ w'.cell? ⟨w.heap.size + 1, 0, none⟩ = some (.bool bl') ∧ w'.cell? ⟨w.heap.size + 1, 1, none⟩ = some (.slice a' n' c')
theorem Boxed.hs {w w1 : World} {bl : Bool} {a : Option Addr} {n c : Nat} {bl' : Bool} {a' : Option Addr} {n' c' : Nat} (h : Boxed w w1 bl a n c bl' a' n' c') : HS w bl a n c bl' a' n' c' w1 := ⟨h.k0, h.k1, h.l0, h.l1⟩
theorem Boxed.hs2 {w w1 : World} {bl : Bool} {a : Option Addr} {n c : Nat} {bl' : Bool} {a' : Option Addr} {n' c' : Nat} (h : Boxed w w1 bl a n c bl' a' n' c') (u v : Value) : HS w bl a n c bl' a' n' c' ((w1.setCell ⟨w.heap.size + 2, 0, none⟩ u).setCell ⟨w.heap.size + 2, 1, none⟩ v) :=
 ⟨far2 h.k0 (by omega), far2 h.k1 (by omega), far2 h.l0 (by omega), far2 h.l1 (by omega)⟩
theorem sg_mul {bl bl' : Bool} {x y : Int} (h : bl = decide (x < 0)) (h' : bl' = decide (y < 0)) : sg (!(bl == bl')) (x.natAbs * y.natAbs) = x * y := by
 rw [← Int.natAbs_mul]
 unfold sg
 have e : (x * y).natAbs = x.natAbs * y.natAbs := Int.natAbs_mul x y
 by_cases hx : x < 0 <;> by_cases hy : y < 0
 ·
  have : 0 ≤ x * y := Int.mul_nonneg_of_nonpos_of_nonpos (by omega) (by omega)
  simp [h, h', hx, hy]; omega
 ·
  have : x * y ≤ 0 := Int.mul_nonpos_of_nonpos_of_nonneg (by omega) (by omega)
  simp [h, h', hx, hy]; omega
 ·
  have : x * y ≤ 0 := Int.mul_nonpos_of_nonneg_of_nonpos (by omega) (by omega)
  simp [h, h', hx, hy]; omega
 ·
  have : 0 ≤ x * y := Int.mul_nonneg (by omega) (by omega)
  simp [h, h', hx, hy]; omega
theorem sg_add1 {bl bl' : Bool} {x y : Int} (h : bl = decide (x < 0)) (h' : bl' = decide (y < 0)) (hb : (bl == bl') = true) : sg bl (x.natAbs + y.natAbs) = x + y := by
 by_cases hx : x < 0 <;> by_cases hy : y < 0 <;> simp [h, h', hx, hy] at hb <;> simp [sg, h, hx] <;> omega
theorem sg_add2 {bl bl' : Bool} {x y : Int} (h : bl = decide (x < 0)) (h' : bl' = decide (y < 0)) (hb : (bl == bl') = false) (hc : x.natAbs < y.natAbs) : sg bl' (y.natAbs - x.natAbs) = x + y := by
 by_cases hx : x < 0 <;> by_cases hy : y < 0 <;> simp [h, h', hx, hy] at hb <;> simp [sg, h', hy] <;> omega
theorem sg_add3 {bl bl' : Bool} {x y : Int} (h : bl = decide (x < 0)) (h' : bl' = decide (y < 0)) (hb : (bl == bl') = false) (hc : ¬ x.natAbs < y.natAbs) : sg bl (x.natAbs - y.natAbs) = x + y := by
 by_cases hx : x < 0 <;> by_cases hy : y < 0 <;> simp [h, h', hx, hy] at hb <;> simp [sg, h, hx] <;> omega
end Go.Proofs.Ytdochhhepmlapaa

/- The walks of Of, Root, Quo, Small. -/
namespace Go.Proofs.Ytdochhhepmlapaa
open Go.RowKit
/-- A place for a number that is a result, behind what was there. -/
structure ResAt (w w1 : World) (r : Nat) : Prop where
 below : Below w.heap.size w w1
 r0 : w1.cell? ⟨r, 0, none⟩ = some (.bool false)
 r1 : w1.cell? ⟨r, 1, none⟩ = some (.slice none 0 0)
 f0 : w1.frozen? ⟨r, 0, none⟩ = false
 f1 : w1.frozen? ⟨r, 1, none⟩ = false
 lo : w.heap.size ≤ r
 sz : r < w1.heap.size
theorem ResAt.later {w w1 w2 : World} {r : Nat} (h : ResAt w w1 r) (hb : Below w1.heap.size w1 w2) : ResAt w w2 r :=
 ⟨h.below.trans (hb.mono h.below.size), (hb.cell (p := ⟨r, 0, none⟩) h.sz).trans h.r0, (hb.cell (p := ⟨r, 1, none⟩) h.sz).trans h.r1, (hb.frozen (p := ⟨r, 0, none⟩) h.sz).trans h.f0, (hb.frozen (p := ⟨r, 1, none⟩) h.sz).trans h.f1, h.lo, Nat.lt_of_lt_of_le h.sz hb.size⟩
end Go.Proofs.Ytdochhhepmlapaa

/- The walk of Root. -/
namespace Go.Proofs.Ytdochhhepmlapaa
open Go.RowKit
theorem box_res (w : World) (t : TypeId) (o : Obj) : ResAt w ((w.alloc o).alloc (.cells #[.bool false, .slice none 0 0] t)) (w.heap.size + 1) :=
 ⟨((Below.refl w.heap.size w).alloc (Nat.le_refl _) _).alloc (by simp) _, by simp [go_sem], by simp [go_sem], by simp [go_sem], by simp [go_sem], by omega, by simp⟩
end Go.Proofs.Ytdochhhepmlapaa

/- The walk of Quo. -/
namespace Go.Proofs.Ytdochhhepmlapaa
open Go.RowKit
/-- Two numbers in boxes of their own, and places for two results that hold what is said, behind what was there. -/
structure QBox (w w1 : World) (bl : Bool) (a : Option Addr) (n c : Nat) (bl' : Bool) (a' : Option Addr) (n' c' : Nat) (qb : Bool) (qa : Option Addr) (qn qc : Nat) (rb : Bool) (ra : Option Addr) (rn rc : Nat) : Prop where
  below : Below w.heap.size w w1
  k0 : w1.cell? ⟨w.heap.size, 0, none⟩ = some (.bool bl)
  k1 : w1.cell? ⟨w.heap.size, 1, none⟩ = some (.slice a n c)
  l0 : w1.cell? ⟨w.heap.size + 1, 0, none⟩ = some (.bool bl')
  l1 : w1.cell? ⟨w.heap.size + 1, 1, none⟩ = some (.slice a' n' c')
  q0 : w1.cell? ⟨w.heap.size + 2, 0, none⟩ = some (.bool qb)
  q1 : w1.cell? ⟨w.heap.size + 2, 1, none⟩ = some (.slice qa qn qc)
  r0 : w1.cell? ⟨w.heap.size + 3, 0, none⟩ = some (.bool rb)
  r1 : w1.cell? ⟨w.heap.size + 3, 1, none⟩ = some (.slice ra rn rc)
  f0 : w1.frozen? ⟨w.heap.size + 2, 0, none⟩ = false
  f1 : w1.frozen? ⟨w.heap.size + 2, 1, none⟩ = false
  g0 : w1.frozen? ⟨w.heap.size + 3, 0, none⟩ = false
  g1 : w1.frozen? ⟨w.heap.size + 3, 1, none⟩ = false
  sz : w.heap.size + 3 < w1.heap.size
section
variable {w w1 w2 : World} {bl : Bool} {a : Option Addr} {n c : Nat} {bl' : Bool} {a' : Option Addr} {n' c' : Nat} {qb : Bool} {qa : Option Addr} {qn qc : Nat} {rb : Bool} {ra : Option Addr} {rn rc : Nat}
theorem QBox.later (h : QBox w w1 bl a n c bl' a' n' c' qb qa qn qc rb ra rn rc) (hb : Below w1.heap.size w1 w2) : QBox w w2 bl a n c bl' a' n' c' qb qa qn qc rb ra rn rc := by
  have hs := h.sz
  exact ⟨h.below.trans (hb.mono h.below.size), (hb.cell (p := ⟨w.heap.size, 0, none⟩) (by show w.heap.size < _; omega)).trans h.k0, (hb.cell (p := ⟨w.heap.size, 1, none⟩) (by show w.heap.size < _; omega)).trans h.k1,
    (hb.cell (p := ⟨w.heap.size + 1, 0, none⟩) (by show w.heap.size + 1 < _; omega)).trans h.l0, (hb.cell (p := ⟨w.heap.size + 1, 1, none⟩) (by show w.heap.size + 1 < _; omega)).trans h.l1,
    (hb.cell (p := ⟨w.heap.size + 2, 0, none⟩) (by show w.heap.size + 2 < _; omega)).trans h.q0, (hb.cell (p := ⟨w.heap.size + 2, 1, none⟩) (by show w.heap.size + 2 < _; omega)).trans h.q1,
    (hb.cell (p := ⟨w.heap.size + 3, 0, none⟩) hs).trans h.r0, (hb.cell (p := ⟨w.heap.size + 3, 1, none⟩) hs).trans h.r1,
    (hb.frozen (p := ⟨w.heap.size + 2, 0, none⟩) (by show w.heap.size + 2 < _; omega)).trans h.f0, (hb.frozen (p := ⟨w.heap.size + 2, 1, none⟩) (by show w.heap.size + 2 < _; omega)).trans h.f1,
    (hb.frozen (p := ⟨w.heap.size + 3, 0, none⟩) hs).trans h.g0, (hb.frozen (p := ⟨w.heap.size + 3, 1, none⟩) hs).trans h.g1, Nat.lt_of_lt_of_le hs hb.size⟩
theorem QBox.drew (h : QBox w w1 bl a n c bl' a' n' c' qb qa qn qc rb ra rn rc) : QBox w w1.drew bl a n c bl' a' n' c' qb qa qn qc rb ra rn rc := h.later (Below.refl _ _).drew
end
/-- q and r are the quotient and the rest of x and y. -/
def IsQuo (x y q r : Int) : Prop := x = q * y + r ∧ (0 < y → 0 ≤ r ∧ r < y) ∧ (y < 0 → y < r ∧ r ≤ 0)
theorem quo_parts {x y : Int} (hy : y ≠ 0) : ∃ P : Int, P = ((x.natAbs / y.natAbs : Nat) : Int) * (y.natAbs : Int) ∧ P + ((x.natAbs % y.natAbs : Nat) : Int) = (x.natAbs : Int) ∧ x.natAbs % y.natAbs < y.natAbs := by
  refine ⟨_, rfl, ?_, Nat.mod_lt _ (by omega)⟩
  have := Nat.div_add_mod x.natAbs y.natAbs
  rw [← Int.natCast_mul, Nat.mul_comm]
  omega
theorem quo_plain {x y : Int} {bl bl' : Bool} (h : bl = decide (x < 0)) (h' : bl' = decide (y < 0)) (hy : y ≠ 0) (hc : x.natAbs % y.natAbs = 0 ∨ (bl == bl') = true) :
    IsQuo x y (sg (!(bl == bl')) (x.natAbs / y.natAbs)) (sg bl (x.natAbs % y.natAbs)) := by
  obtain ⟨P, hP, h1, h2⟩ := quo_parts (x := x) hy
  generalize x.natAbs / y.natAbs = Q at *
  generalize x.natAbs % y.natAbs = R at *
  by_cases hx : x < 0 <;> by_cases hyn : y < 0
  · have e : y = -(y.natAbs : Int) := by omega
    have e2 : sg (!(bl == bl')) Q * y = -P := by rw [e, hP]; simp [h, h', hx, hyn, sg, Int.mul_neg]
    refine ⟨?_, ?_, ?_⟩ <;> (try rw [e2]) <;> simp [sg, h, hx] <;> omega
  · have e : y = (y.natAbs : Int) := by omega
    have e2 : sg (!(bl == bl')) Q * y = -P := by rw [hP]; conv => lhs; rw [e]
                                                 simp [h, h', hx, hyn, sg, Int.neg_mul]
    simp [h, h', hx, hyn] at hc
    refine ⟨?_, ?_, ?_⟩ <;> (try rw [e2]) <;> simp [sg, h, hx] <;> omega
  · have e : y = -(y.natAbs : Int) := by omega
    have e2 : sg (!(bl == bl')) Q * y = P := by rw [e, hP]; simp [h, h', hx, hyn, sg, Int.neg_mul_neg]
    simp [h, h', hx, hyn] at hc
    refine ⟨?_, ?_, ?_⟩ <;> (try rw [e2]) <;> simp [sg, h, hx] <;> omega
  · have e : y = (y.natAbs : Int) := by omega
    have e2 : sg (!(bl == bl')) Q * y = P := by rw [hP]; conv => lhs; rw [e]
                                                simp [h, h', hx, hyn, sg]
    refine ⟨?_, ?_, ?_⟩ <;> (try rw [e2]) <;> simp [sg, h, hx] <;> omega
theorem quo_fixed {x y : Int} {bl bl' : Bool} (h : bl = decide (x < 0)) (h' : bl' = decide (y < 0)) (hy : y ≠ 0) (hr : x.natAbs % y.natAbs ≠ 0) (hc : (bl == bl') = false) :
    IsQuo x y (sg (!(bl == bl')) (x.natAbs / y.natAbs) - 1) (sg bl (x.natAbs % y.natAbs) + y) := by
  obtain ⟨P, hP, h1, h2⟩ := quo_parts (x := x) hy
  generalize x.natAbs / y.natAbs = Q at *
  generalize x.natAbs % y.natAbs = R at *
  by_cases hx : x < 0 <;> by_cases hyn : y < 0
  · simp [h, h', hx, hyn] at hc
  · have e : y = (y.natAbs : Int) := by omega
    have e2 : sg (!(bl == bl')) Q * y = -P := by rw [hP]; conv => lhs; rw [e]
                                                 simp [h, h', hx, hyn, sg, Int.neg_mul]
    refine ⟨?_, ?_, ?_⟩ <;> (try rw [Int.sub_mul, e2]) <;> simp [sg, h, hx] <;> omega
  · have e : y = -(y.natAbs : Int) := by omega
    have e2 : sg (!(bl == bl')) Q * y = P := by rw [e, hP]; simp [h, h', hx, hyn, sg, Int.neg_mul_neg]
    refine ⟨?_, ?_, ?_⟩ <;> (try rw [Int.sub_mul, e2]) <;> simp [sg, h, hx] <;> omega
  · simp [h, h', hx, hyn] at hc
theorem sg_zero {bl : Bool} {N : Nat} : sg bl N = 0 ↔ N = 0 := by unfold sg; cases bl <;> simp
end Go.Proofs.Ytdochhhepmlapaa

/- The walk of Small. -/
namespace Go.Proofs.Ytdochhhepmlapaa
open Go.RowKit
/-- A number as an int64, and whether it is one. -/
def smallV (z : Int) : Int := if -9223372036854775808 ≤ z ∧ z ≤ 9223372036854775807 then z else 0
def smallB (z : Int) : Bool := decide (-9223372036854775808 ≤ z ∧ z ≤ 9223372036854775807)
theorem ret2 {k : IntKind} {a b : Int} {c d : Bool} (h : a = b) (h' : c = d) : Ending.returned (.tuple #[.int k a, .bool c]) = .returned (.tuple #[.int k b, .bool d]) := by rw [h, h']
end Go.Proofs.Ytdochhhepmlapaa
