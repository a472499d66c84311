/- Parts of the proof. -/
import Derived.Test.YtolpfibihialkaaGreatDoorGq10
/- The walk of Quo. -/
namespace Go.Proofs.YtolpfibihialkaaGreatDoor
open Go.RowKit
/-- Two numbers in boxes of their own, and places for two results that hold what is said, behind what was there. -/
structure QBox (w w1 : World) (bl : Bool) (a : Option Addr) (n c : Nat) (bl' : Bool) (a' : Option Addr) (n' c' : Nat) (qb : Bool) (qa : Option Addr) (qn qc : Nat) (rb : Bool) (ra : Option Addr) (rn rc : Nat) : Prop where
  below : Below w.heap.size w w1
  k0 : w1.cell? ⟨w.heap.size, 0, none⟩ = some (.bool bl)
  k1 : w1.cell? ⟨w.heap.size, 1, none⟩ = some (.slice a n c)
  l0 : w1.cell? ⟨w.heap.size + 1, 0, none⟩ = some (.bool bl')
  l1 : w1.cell? ⟨w.heap.size + 1, 1, none⟩ = some (.slice a' n' c')
  q0 : w1.cell? ⟨w.heap.size + 2, 0, none⟩ = some (.bool qb)
  q1 : w1.cell? ⟨w.heap.size + 2, 1, none⟩ = some (.slice qa qn qc)
  r0 : w1.cell? ⟨w.heap.size + 3, 0, none⟩ = some (.bool rb)
  r1 : w1.cell? ⟨w.heap.size + 3, 1, none⟩ = some (.slice ra rn rc)
  f0 : w1.frozen? ⟨w.heap.size + 2, 0, none⟩ = false
  f1 : w1.frozen? ⟨w.heap.size + 2, 1, none⟩ = false
  g0 : w1.frozen? ⟨w.heap.size + 3, 0, none⟩ = false
  g1 : w1.frozen? ⟨w.heap.size + 3, 1, none⟩ = false
  sz : w.heap.size + 3 < w1.heap.size
theorem qbox_mk (w : World) (t : TypeId) (bl : Bool) (a : Option Addr) (n c : Nat) (bl' : Bool) (a' : Option Addr) (n' c' : Nat) :
    QBox w ((((w.alloc (.cells #[.bool bl, .slice a n c] t)).alloc (.cells #[.bool bl', .slice a' n' c'] t)).alloc (.cells #[.bool false, .slice none 0 0] t)).alloc (.cells #[.bool false, .slice none 0 0] t)) bl a n c bl' a' n' c' false none 0 0 false none 0 0 :=
  ⟨((((Below.refl w.heap.size w).alloc (Nat.le_refl _) _).alloc (by simp) _).alloc (by simp; omega) _).alloc (by simp; omega) _, by simp [go_sem], by simp [go_sem], by simp [go_sem], by simp [go_sem], by simp [go_sem], by simp [go_sem], by simp [go_sem], by simp [go_sem], by simp [go_sem], by simp [go_sem], by simp [go_sem], by simp [go_sem], by simp⟩
section
variable {w w1 w2 : World} {bl : Bool} {a : Option Addr} {n c : Nat} {bl' : Bool} {a' : Option Addr} {n' c' : Nat} {qb : Bool} {qa : Option Addr} {qn qc : Nat} {rb : Bool} {ra : Option Addr} {rn rc : Nat}
theorem QBox.later (h : QBox w w1 bl a n c bl' a' n' c' qb qa qn qc rb ra rn rc) (hb : Below w1.heap.size w1 w2) : QBox w w2 bl a n c bl' a' n' c' qb qa qn qc rb ra rn rc := by
  have hs := h.sz
  exact ⟨h.below.trans (hb.mono h.below.size), (hb.cell (p := ⟨w.heap.size, 0, none⟩) (by show w.heap.size < _; omega)).trans h.k0, (hb.cell (p := ⟨w.heap.size, 1, none⟩) (by show w.heap.size < _; omega)).trans h.k1,
    (hb.cell (p := ⟨w.heap.size + 1, 0, none⟩) (by show w.heap.size + 1 < _; omega)).trans h.l0, (hb.cell (p := ⟨w.heap.size + 1, 1, none⟩) (by show w.heap.size + 1 < _; omega)).trans h.l1,
    (hb.cell (p := ⟨w.heap.size + 2, 0, none⟩) (by show w.heap.size + 2 < _; omega)).trans h.q0, (hb.cell (p := ⟨w.heap.size + 2, 1, none⟩) (by show w.heap.size + 2 < _; omega)).trans h.q1,
    (hb.cell (p := ⟨w.heap.size + 3, 0, none⟩) hs).trans h.r0, (hb.cell (p := ⟨w.heap.size + 3, 1, none⟩) hs).trans h.r1,
    (hb.frozen (p := ⟨w.heap.size + 2, 0, none⟩) (by show w.heap.size + 2 < _; omega)).trans h.f0, (hb.frozen (p := ⟨w.heap.size + 2, 1, none⟩) (by show w.heap.size + 2 < _; omega)).trans h.f1,
    (hb.frozen (p := ⟨w.heap.size + 3, 0, none⟩) hs).trans h.g0, (hb.frozen (p := ⟨w.heap.size + 3, 1, none⟩) hs).trans h.g1, Nat.lt_of_lt_of_le hs hb.size⟩
theorem QBox.drew (h : QBox w w1 bl a n c bl' a' n' c' qb qa qn qc rb ra rn rc) : QBox w w1.drew bl a n c bl' a' n' c' qb qa qn qc rb ra rn rc := h.later (Below.refl _ _).drew
theorem near2 {W : World} {b : Nat} {u v x y : Value} (h0 : W.cell? ⟨b, 0, none⟩ = some x) (h1 : W.cell? ⟨b, 1, none⟩ = some y) :
    ((W.setCell ⟨b, 0, none⟩ u).setCell ⟨b, 1, none⟩ v).cell? ⟨b, 0, none⟩ = some u ∧ ((W.setCell ⟨b, 0, none⟩ u).setCell ⟨b, 1, none⟩ v).cell? ⟨b, 1, none⟩ = some v := by
  have e1 : (W.setCell ⟨b, 0, none⟩ u).cell? ⟨b, 1, none⟩ = some y := by rw [World.cell?_setCell_other (h := by intro e; cases e)]; exact h1
  refine ⟨?_, World.cell?_setCell_same (h := e1) ..⟩
  rw [World.cell?_setCell_other (h := by intro e; cases e)]
  exact World.cell?_setCell_same (h := h0) ..
theorem QBox.setQ (h : QBox w w1 bl a n c bl' a' n' c' qb qa qn qc rb ra rn rc) (b : Bool) (x : Option Addr) (i j : Nat) :
    QBox w ((w1.setCell ⟨w.heap.size + 2, 0, none⟩ (.bool b)).setCell ⟨w.heap.size + 2, 1, none⟩ (.slice x i j)) bl a n c bl' a' n' c' b x i j rb ra rn rc :=
  ⟨h.below.trans ((only2 _ _ _ _).below (by omega)), far2 h.k0 (by omega), far2 h.k1 (by omega), far2 h.l0 (by omega), far2 h.l1 (by omega), (near2 h.q0 h.q1).1, (near2 h.q0 h.q1).2, far2 h.r0 (by omega), far2 h.r1 (by omega),
    by simp [h.f0], by simp [h.f1], by simp [h.g0], by simp [h.g1], by rw [(only2 _ _ _ _).size]; exact h.sz⟩
theorem QBox.setR (h : QBox w w1 bl a n c bl' a' n' c' qb qa qn qc rb ra rn rc) (b : Bool) (x : Option Addr) (i j : Nat) :
    QBox w ((w1.setCell ⟨w.heap.size + 3, 0, none⟩ (.bool b)).setCell ⟨w.heap.size + 3, 1, none⟩ (.slice x i j)) bl a n c bl' a' n' c' qb qa qn qc b x i j :=
  ⟨h.below.trans ((only2 _ _ _ _).below (by omega)), far2 h.k0 (by omega), far2 h.k1 (by omega), far2 h.l0 (by omega), far2 h.l1 (by omega), far2 h.q0 (by omega), far2 h.q1 (by omega), (near2 h.r0 h.r1).1, (near2 h.r0 h.r1).2,
    by simp [h.f0], by simp [h.f1], by simp [h.g0], by simp [h.g1], by rw [(only2 _ _ _ _).size]; exact h.sz⟩
end
/-- A quotient and what is left are handed back, in new memory, and an error's number. -/
def PQ (q r er : Int) (w : World) (e : Ending) (w' : World) : Prop :=
  ∃ (b1 : Bool) (a1 : Option Addr) (n1 c1 : Nat) (b2 : Bool) (a2 : Option Addr) (n2 c2 : Nat), e = .returned (.tuple #[.agg #[.bool b1, .slice a1 n1 c1], .agg #[.bool b2, .slice a2 n2 c2], .int .i64 er]) ∧
    Num w' b1 a1 n1 c1 q ∧ Num w' b2 a2 n2 c2 r ∧ (∀ p, a1 = some p → w.heap.size ≤ p.block) ∧ (∀ p, a2 = some p → w.heap.size ≤ p.block) ∧ Below w.heap.size w w'
/-- q and r are the quotient and the rest of x and y. -/
def IsQuo (x y q r : Int) : Prop := x = q * y + r ∧ (0 < y → 0 ≤ r ∧ r < y) ∧ (y < 0 → y < r ∧ r ≤ 0)
def PQuoI (x y : Int) (w : World) (e : Ending) (w' : World) : Prop := ∃ q r : Int, IsQuo x y q r ∧ PQ q r 0 w e w'
theorem quo_parts {x y : Int} (hy : y ≠ 0) : ∃ P : Int, P = ((x.natAbs / y.natAbs : Nat) : Int) * (y.natAbs : Int) ∧ P + ((x.natAbs % y.natAbs : Nat) : Int) = (x.natAbs : Int) ∧ x.natAbs % y.natAbs < y.natAbs := by
  refine ⟨_, rfl, ?_, Nat.mod_lt _ (by omega)⟩
  have := Nat.div_add_mod x.natAbs y.natAbs
  rw [← Int.natCast_mul, Nat.mul_comm]
  omega
theorem quo_plain {x y : Int} {bl bl' : Bool} (h : bl = decide (x < 0)) (h' : bl' = decide (y < 0)) (hy : y ≠ 0) (hc : x.natAbs % y.natAbs = 0 ∨ (bl == bl') = true) :
    IsQuo x y (sg (!(bl == bl')) (x.natAbs / y.natAbs)) (sg bl (x.natAbs % y.natAbs)) := by
  obtain ⟨P, hP, h1, h2⟩ := quo_parts (x := x) hy
  generalize x.natAbs / y.natAbs = Q at *
  generalize x.natAbs % y.natAbs = R at *
  by_cases hx : x < 0 <;> by_cases hyn : y < 0
  · have e : y = -(y.natAbs : Int) := by omega
    have e2 : sg (!(bl == bl')) Q * y = -P := by rw [e, hP]; simp [h, h', hx, hyn, sg, Int.mul_neg]
    refine ⟨?_, ?_, ?_⟩ <;> (try rw [e2]) <;> simp [sg, h, hx] <;> omega
  · have e : y = (y.natAbs : Int) := by omega
    have e2 : sg (!(bl == bl')) Q * y = -P := by rw [hP]; conv => lhs; rw [e]
                                                 simp [h, h', hx, hyn, sg, Int.neg_mul]
    simp [h, h', hx, hyn] at hc
    refine ⟨?_, ?_, ?_⟩ <;> (try rw [e2]) <;> simp [sg, h, hx] <;> omega
  · have e : y = -(y.natAbs : Int) := by omega
    have e2 : sg (!(bl == bl')) Q * y = P := by rw [e, hP]; simp [h, h', hx, hyn, sg, Int.neg_mul_neg]
    simp [h, h', hx, hyn] at hc
    refine ⟨?_, ?_, ?_⟩ <;> (try rw [e2]) <;> simp [sg, h, hx] <;> omega
  · have e : y = (y.natAbs : Int) := by omega
    have e2 : sg (!(bl == bl')) Q * y = P := by rw [hP]; conv => lhs; rw [e]
                                                simp [h, h', hx, hyn, sg]
    refine ⟨?_, ?_, ?_⟩ <;> (try rw [e2]) <;> simp [sg, h, hx] <;> omega
theorem quo_fixed {x y : Int} {bl bl' : Bool} (h : bl = decide (x < 0)) (h' : bl' = decide (y < 0)) (hy : y ≠ 0) (hr : x.natAbs % y.natAbs ≠ 0) (hc : (bl == bl') = false) :
    IsQuo x y (sg (!(bl == bl')) (x.natAbs / y.natAbs) - 1) (sg bl (x.natAbs % y.natAbs) + y) := by
  obtain ⟨P, hP, h1, h2⟩ := quo_parts (x := x) hy
  generalize x.natAbs / y.natAbs = Q at *
  generalize x.natAbs % y.natAbs = R at *
  by_cases hx : x < 0 <;> by_cases hyn : y < 0
  · simp [h, h', hx, hyn] at hc
  · have e : y = (y.natAbs : Int) := by omega
    have e2 : sg (!(bl == bl')) Q * y = -P := by rw [hP]; conv => lhs; rw [e]
                                                 simp [h, h', hx, hyn, sg, Int.neg_mul]
    refine ⟨?_, ?_, ?_⟩ <;> (try rw [Int.sub_mul, e2]) <;> simp [sg, h, hx] <;> omega
  · have e : y = -(y.natAbs : Int) := by omega
    have e2 : sg (!(bl == bl')) Q * y = P := by rw [e, hP]; simp [h, h', hx, hyn, sg, Int.neg_mul_neg]
    refine ⟨?_, ?_, ?_⟩ <;> (try rw [Int.sub_mul, e2]) <;> simp [sg, h, hx] <;> omega
  · simp [h, h', hx, hyn] at hc
theorem sgn_ne {z : Int} : (sgnI z != 0) = !(decide (z = 0)) := by
  unfold sgnI
  by_cases h1 : z < 0
  · rw [if_pos h1]; simp; omega
  · rw [if_neg h1]; by_cases h2 : z = 0
    · rw [if_pos h2]; simp [h2]
    · rw [if_neg h2]; simp [h2]
theorem sg_zero {bl : Bool} {N : Nat} : sg bl N = 0 ↔ N = 0 := by unfold sg; cases bl <;> simp
theorem pq_end {w w8 : World} {bl : Bool} {a : Option Addr} {n c : Nat} {bl' : Bool} {a' : Option Addr} {n' c' : Nat} {qb : Bool} {qa : Option Addr} {qn qc : Nat} {rb : Bool} {ra : Option Addr} {rn rc : Nat} {q r : Int}
    (hX : QBox w w8 bl a n c bl' a' n' c' qb qa qn qc rb ra rn rc) (hq : Num w8 qb qa qn qc q) (hr : Num w8 rb ra rn rc r) (hQ : ∀ p, qa = some p → w.heap.size + 3 < p.block) (hR : ∀ p, ra = some p → w.heap.size + 3 < p.block) :
    PQ q r 0 w (.returned (.tuple #[.agg #[.bool qb, .slice qa qn qc], .agg #[.bool rb, .slice ra rn rc], .int .i64 0]))
      (((((w8.setCell ⟨w.heap.size + 2, 0, none⟩ (.bool qb)).setCell ⟨w.heap.size + 2, 1, none⟩ (.slice qa qn qc)).setCell ⟨w.heap.size + 3, 0, none⟩ (.bool rb)).setCell ⟨w.heap.size + 3, 1, none⟩ (.slice ra rn rc)).drew) := by
  have o1 := only2 w8 (w.heap.size + 2) (.bool qb) (.slice qa qn qc)
  have o2 := only2 ((w8.setCell ⟨w.heap.size + 2, 0, none⟩ (.bool qb)).setCell ⟨w.heap.size + 2, 1, none⟩ (.slice qa qn qc)) (w.heap.size + 3) (.bool rb) (.slice ra rn rc)
  have hd : ∀ W : World, Below W.heap.size W W.drew := fun W => (Below.refl _ _).drew
  refine ⟨qb, qa, qn, qc, rb, ra, rn, rc, rfl, ((hq.only o1 ?_).only o2 ?_).below (hd _), ((hr.only o1 ?_).only o2 ?_).below (hd _), ?_, ?_, (hX.below.trans ((o1.below (by omega)).trans (o2.below (by omega)))).drew⟩
  · intro p hp; have := hQ p hp; omega
  · intro p hp; have := hQ p hp; omega
  · intro p hp; have := hR p hp; omega
  · intro p hp; have := hR p hp; omega
  · intro p hp; have := hQ p hp; omega
  · intro p hp; have := hR p hp; omega
set_option maxRecDepth 100000 in
set_option maxHeartbeats 3200000 in
theorem Quo_any (bl : Bool) (a : Option Addr) (n c : Nat) (x : Int) (bl' : Bool) (a' : Option Addr) (n' c' : Nat) (y : Int) (w : World) (h : Num w bl a n c x) (h' : Num w bl' a' n' c' y) (hn : n ≤ 9000000) (hn' : n' ≤ 9000000) (hy : y ≠ 0) :
    Calls Tryz.prog 78 #[.agg #[.bool bl, .slice a n c], .agg #[.bool bl', .slice a' n' c']] w (PQuoI x y w) := by
  have H := Lib.hid h
  have H' := Lib.hid h'
  have HY := Lib.hid hy
  have hsy : (sgnI y == 0) = false := by unfold sgnI; (repeat' split) <;> simp_all
  clear h h' hy
  go_enter Tryz.func78, Tryz.ntmps78
  go_wp2_with fail
  have hX1 := qbox_mk w 46 bl a n c bl' a' n' c'
  generalize (((w.alloc (.cells #[.bool bl, .slice a n c] 46)).alloc (.cells #[.bool bl', .slice a' n' c'] 46)).alloc (.cells #[.bool false, .slice none 0 0] 46)).alloc (.cells #[.bool false, .slice none 0 0] 46) = w1 at *
  refine (Sign_any bl' a' n' c' y _ (H'.out.below hX1.below)).mono ?_
  rintro e w2 ⟨rfl, hb2⟩
  have hX2 := hX1.later hb2
  have hs2 := hX2.sz
  clear hX1 hb2
  have k0 := hX2.k0
  have k1 := hX2.k1
  have l0 := hX2.l0
  have l1 := hX2.l1
  go_wp2_with fail
  refine (quotient_any a a' n c n' c' x.natAbs y.natAbs _ (H.out.lie.below hX2.below) (H'.out.lie.below hX2.below) H.out.fit H'.out.fit (by omega) (by have := HY.out; omega)).mono ?_
  rintro e w3 ⟨a3, n3, c3, a4, n4, c4, rfl, ⟨hl3, hf3, hfr3⟩, ⟨hl4, hf4, hfr4⟩, hb3⟩
  have hX3 := hX2.later hb3
  clear k0 k1 l0 l1 hX2
  have k0 := hX3.k0
  have l0 := hX3.l0
  have k1 := hX3.k1
  have l1 := hX3.l1
  have F3 := Lib.hid hf3
  have F4 := Lib.hid hf4
  have R3 := Lib.hid hfr3
  have R4 := Lib.hid hfr4
  clear hf3 hf4 hfr3 hfr4
  go_wp2_with fail
  refine (made_any _ a3 n3 c3 _ _ hl3 F3.out.1).mono ?_
  rintro e w4 ⟨qb, qa, qn, qc, rfl, hq4, hqa, hb4⟩
  have hX4 := hX3.later hb4
  have hl4' := hl4.below hb4
  have hqfr : ∀ p, qa = some p → w.heap.size + 3 < p.block := fun p hp => by
    rcases hqa with h | h
    · rw [h] at hp; cases hp
    · rw [h] at hp; have := R3.out p hp; omega
  have QFR := Lib.hid hqfr
  clear k0 l0 k1 l1 hX3 hl3 hl4 hqa hqfr hb4
  have q0 := hX4.q0
  have q1 := hX4.q1
  have f0 := hX4.f0
  have f1 := hX4.f1
  have k0 := hX4.k0
  go_wp2_with fail
  have hX5 := hX4.setQ qb qa qn qc
  have hO5 := only2 w4 (w.heap.size + 2) (.bool qb) (.slice qa qn qc)
  have hq5 := hq4.only hO5 (fun p hp => by have := QFR.out p hp; omega)
  have hl5 := hl4'.only hO5 (fun p hp => by have := R4.out p hp; omega)
  have hz5 : w.heap.size + 3 < w4.heap.size := hX4.sz
  clear q0 q1 f0 f1 k0 hX4 hq4 hl4'
  generalize (w4.setCell ⟨w.heap.size + 2, 0, none⟩ (.bool qb)).setCell ⟨w.heap.size + 2, 1, none⟩ (.slice qa qn qc) = w5 at *
  refine (made_any bl a4 n4 c4 _ _ hl5 F4.out.1).mono ?_
  rintro e w6 ⟨rb, ra, rn, rc, rfl, hr6, hra, hb6⟩
  have hX6 := hX5.later hb6
  have hq6 := hq5.below hb6
  have hrfr : ∀ p, ra = some p → w.heap.size + 3 < p.block := fun p hp => by
    rcases hra with h | h
    · rw [h] at hp; cases hp
    · rw [h] at hp; have := R4.out p hp; omega
  have RFR := Lib.hid hrfr
  clear hX5 hq5 hl5 hra hrfr hb6 hO5
  have r0 := hX6.r0
  have r1 := hX6.r1
  have g0 := hX6.g0
  have g1 := hX6.g1
  go_wp2_with fail
  have hX7 := hX6.setR rb ra rn rc
  have hO7 := only2 w6 (w.heap.size + 3) (.bool rb) (.slice ra rn rc)
  have hq7 := hq6.only hO7 (fun p hp => by have := QFR.out p hp; omega)
  have hr7 := hr6.only hO7 (fun p hp => by have := RFR.out p hp; omega)
  clear r0 r1 g0 g1 hX6 hq6 hr6
  generalize (w6.setCell ⟨w.heap.size + 3, 0, none⟩ (.bool rb)).setCell ⟨w.heap.size + 3, 1, none⟩ (.slice ra rn rc) = w7 at *
  refine (Sign_any rb ra rn rc _ _ hr7).mono ?_
  rintro e w8 ⟨rfl, hb8⟩
  have hX8 := hX7.later hb8
  have hq8 := hq7.below hb8
  have hr8 := hr7.below hb8
  have hne := sgn_ne (z := sg bl (x.natAbs % y.natAbs))
  clear hX7 hq7 hr7 hb8 hO7
  have k0 := hX8.k0
  have l0 := hX8.l0
  have k1 := hX8.k1
  have l1 := hX8.l1
  have q0 := hX8.q0
  have q1 := hX8.q1
  have r0 := hX8.r0
  have r1 := hX8.r1
  have f0 := hX8.f0
  have f1 := hX8.f1
  have g0 := hX8.g0
  have g1 := hX8.g1
  by_cases hR0 : x.natAbs % y.natAbs = 0
  · have hd : (sgnI (sg bl (x.natAbs % y.natAbs)) != 0) = false := by rw [hne, decide_eq_true (sg_zero.2 hR0)]; rfl
    have HQ := Lib.hid (quo_plain H.out.sgn H'.out.sgn HY.out (.inl hR0))
    clear hne hR0
    generalize hsq : sg (!(bl == bl')) (x.natAbs / y.natAbs) = q at *
    generalize hsr : sg bl (x.natAbs % y.natAbs) = r at *
    clear hsq hsr
    generalize hcc : sgnI r = cc at *
    clear hcc
    go_wp2
    go_region
    all_goals go_wp2
    refine bodyPost_ret (v := .tuple #[.agg #[.bool qb, .slice qa qn qc], .agg #[.bool rb, .slice ra rn rc], .int .i64 0]) (by simp [results, Tryz.results78, go_sem, q0, q1, r0, r1]) rfl ?_
    exact ⟨q, r, HQ.out, pq_end hX8 hq8 hr8 QFR.out RFR.out⟩
  · have hd : (sgnI (sg bl (x.natAbs % y.natAbs)) != 0) = true := by rw [hne, decide_eq_false (fun h => hR0 (sg_zero.1 h))]; rfl
    by_cases hbb : (bl == bl') = true
    · have HQ := Lib.hid (quo_plain H.out.sgn H'.out.sgn HY.out (.inr hbb))
      clear hne hR0
      generalize hsq : sg (!(bl == bl')) (x.natAbs / y.natAbs) = q at *
      generalize hsr : sg bl (x.natAbs % y.natAbs) = r at *
      clear hsq hsr
      generalize hcc : sgnI r = cc at *
      clear hcc
      go_wp2
      go_region
      all_goals go_wp2
      refine bodyPost_ret (v := .tuple #[.agg #[.bool qb, .slice qa qn qc], .agg #[.bool rb, .slice ra rn rc], .int .i64 0]) (by simp [results, Tryz.results78, go_sem, q0, q1, r0, r1]) rfl ?_
      exact ⟨q, r, HQ.out, pq_end hX8 hq8 hr8 QFR.out RFR.out⟩
    · have hbb' : (bl == bl') = false := by simpa using hbb
      have HQ := Lib.hid (quo_fixed H.out.sgn H'.out.sgn HY.out hR0 hbb')
      have hqn : qn ≤ n := by
        have := hq8.fit
        rw [sg_abs] at this
        exact fit_le this (Nat.lt_of_le_of_lt (Nat.div_le_self _ _) H.out.fit.1)
      have hrn : rn ≤ n' := by
        have := hr8.fit
        rw [sg_abs] at this
        exact fit_le this (Nat.lt_trans (Nat.mod_lt _ (by have := HY.out; omega)) H'.out.fit.1)
      clear hne hR0 hbb
      generalize hsq : sg (!(bl == bl')) (x.natAbs / y.natAbs) = q at *
      generalize hsr : sg bl (x.natAbs % y.natAbs) = r at *
      clear hsq hsr
      generalize hcc : sgnI r = cc at *
      clear hcc
      go_wp2
      go_region_with (first
          | (go_at_call 47; refine (Of_any 1 _ (by omega) (by omega)).mono ?_; rintro e w9 ⟨b9, a9, n9, c9, rfl, hN9, hfr9, hb9⟩; have hX9 := hX8.later (below_undrew hb9); have hq9 := hq8.below (below_undrew hb9); have hr9 := hr8.below (below_undrew hb9); have q09 := hX9.q0; have q19 := hX9.q1; have hn9 : n9 ≤ 10000000 := Nat.le_trans (fit_le hN9.fit (m := 1) (by decide)) (by omega))
          | (go_at_call 119; refine (Sub_any qb qa qn qc q b9 a9 n9 c9 1 _ hq9 hN9 (by omega) hn9).mono ?_; rintro e wA ⟨bA, aA, nA, cA, rfl, hNA, hfrA, hbA⟩; have hXA := hX9.later hbA; have hrA := hr9.below hbA; have f0A := hXA.f0; have f1A := hXA.f1; have q0A := hXA.q0; have q1A := hXA.q1))
      all_goals
        have hXB := hXA.setQ bA aA nA cA
        have hOB := only2 wA (w.heap.size + 2) (.bool bA) (.slice aA nA cA)
        have hfrA' : ∀ p, aA = some p → w.heap.size + 3 < p.block := fun p hp => by have h1 := hfrA p hp; have h2 := hX9.sz; omega
        have hqB := hNA.only hOB (fun p hp => by have := hfrA' p hp; omega)
        have hrB := hrA.only hOB (fun p hp => by have := RFR.out p hp; omega)
        have HFA := Lib.hid hfrA'
        clear q09 q19 f0A f1A q0A q1A k0 l0 k1 l1 q0 q1 r0 r1 f0 f1 g0 g1 hXA hX9 hq9 hr9 hNA hrA hfrA hfrA' hX8 hq8 hr8 hOB QFR
        generalize (wA.setCell ⟨w.heap.size + 2, 0, none⟩ (.bool bA)).setCell ⟨w.heap.size + 2, 1, none⟩ (.slice aA nA cA) = wB at *
        have l0 := hXB.l0
        have l1 := hXB.l1
        have r0 := hXB.r0
        have r1 := hXB.r1
        go_wp2_with fail
        refine (Add_any rb ra rn rc r bl' a' n' c' y _ hrB (H'.out.below hXB.below) (by omega) (by omega)).mono ?_
        rintro e wC ⟨bC, aC, nC, cC, rfl, hNC, hfrC, hbC⟩
        have hXC := hXB.later hbC
        have hqC := hqB.below hbC
        have hfrC' : ∀ p, aC = some p → w.heap.size + 3 < p.block := fun p hp => by have h1 := hfrC p hp; have h2 := hXB.sz; omega
        have HFC := Lib.hid hfrC'
        clear l0 l1 r0 r1 hXB hqB hrB hbC hfrC hfrC'
        have r0 := hXC.r0
        have r1 := hXC.r1
        have g0 := hXC.g0
        have g1 := hXC.g1
        go_wp2_with fail
        have hXD := hXC.setR bC aC nC cC
        have hOD := only2 wC (w.heap.size + 3) (.bool bC) (.slice aC nC cC)
        have hqD := hqC.only hOD (fun p hp => by have := HFA.out p hp; omega)
        have hrD := hNC.only hOD (fun p hp => by have := HFC.out p hp; omega)
        clear r0 r1 g0 g1 hXC hqC hNC hOD
        generalize (wC.setCell ⟨w.heap.size + 3, 0, none⟩ (.bool bC)).setCell ⟨w.heap.size + 3, 1, none⟩ (.slice aC nC cC) = wD at *
        have q0 := hXD.q0
        have q1 := hXD.q1
        have r0 := hXD.r0
        have r1 := hXD.r1
        have f0 := hXD.f0
        have f1 := hXD.f1
        have g0 := hXD.g0
        have g1 := hXD.g1
        go_region
        all_goals go_wp2
        refine bodyPost_ret (v := .tuple #[.agg #[.bool bA, .slice aA nA cA], .agg #[.bool bC, .slice aC nC cC], .int .i64 0]) (by simp [results, Tryz.results78, go_sem, q0, q1, r0, r1]) rfl ?_
        exact ⟨q - 1, r + y, HQ.out, pq_end hXD hqD hrD HFA.out HFC.out⟩
end Go.Proofs.YtolpfibihialkaaGreatDoor

/- The walk of Small. -/
namespace Go.Proofs.YtolpfibihialkaaGreatDoor
open Go.RowKit
/-- A number as an int64, and whether it is one. -/
def smallV (z : Int) : Int := if -9223372036854775808 ≤ z ∧ z ≤ 9223372036854775807 then z else 0
def smallB (z : Int) : Bool := decide (-9223372036854775808 ≤ z ∧ z ≤ 9223372036854775807)
theorem ret2 {k : IntKind} {a b : Int} {c d : Bool} (h : a = b) (h' : c = d) : Ending.returned (.tuple #[.int k a, .bool c]) = .returned (.tuple #[.int k b, .bool d]) := by rw [h, h']
theorem or_first (x : Nat) (h : x < 4294967296) : bits .or .u64 0 (x : Int) = (x : Int) := by
 have := u64_or_nat 0 x (by omega) (by omega)
 simpa using this
theorem or_second {x y : Nat} (h : x < 4294967296) (h' : y < 4294967296) : bits .or .u64 (x : Int) ((y : Int) * 4294967296) = ((x + 4294967296 * y : Nat) : Int) := by
 have e : ((y * 4294967296 : Nat) : Int) = (y : Int) * 4294967296 := by omega
 rw [← e, u64_or_nat x (y * 4294967296) (by omega) (by omega)]
 have h2 := Nat.two_pow_add_eq_or_of_lt (b := x) (i := 32) (by omega) y
 rw [show (2 : Nat) ^ 32 = 4294967296 from rfl] at h2
 rw [Nat.mul_comm y, Nat.or_comm, ← h2]
 omega
set_option maxRecDepth 100000 in
set_option maxHeartbeats 800000 in
theorem Small_long (bl : Bool) (a : Option Addr) (n c : Nat) (w : World) (hn : 2 < n) (hn' : n ≤ 10000000) :
  Calls Tryz.prog 67 #[.agg #[.bool bl, .slice a n c]] w (PVal2 (.int .i64 0) (.bool false) w) := by
 go_enter Tryz.func67, Tryz.ntmps67
 go_wp2
 go_ret2
 exact ⟨rfl, (Below.refl w.heap.size w).alloc (Nat.le_refl _) _⟩
set_option maxRecDepth 100000 in
set_option maxHeartbeats 1600000 in
theorem Small_short (bl : Bool) (a : Option Addr) (n c : Nat) (z : Int) (w : World) (h : Num w bl a n c z) (hn : n ≤ 2) :
  Calls Tryz.prog 67 #[.agg #[.bool bl, .slice a n c]] w (PVal2 (.int .i64 (smallV z)) (.bool (smallB z)) w) := by
 have hB := (Below.refl w.heap.size w).alloc (Nat.le_refl _) (.cells #[.bool bl, .slice a n c] 46)
 have hl := h.lie.below hB
 have hN : z.natAbs < BB ^ n := h.fit.1
 have hN2 : z.natAbs < BB ^ 2 := fit_mono hN hn
 have hs := h.sgn
 have HN := Lib.hid hN
 have HN2 := Lib.hid hN2
 have HS := Lib.hid hs
 clear h hN hN2 hs
 go_enter Tryz.func67, Tryz.ntmps67
 go_wp2
 go_loop [4, 15] (fun sv iv => ∃ k : Nat, k ≤ n ∧ iv = .int .i64 k ∧ sv = .int .u64 ((z.natAbs % BB ^ k : Nat) : Int)) (fun _ iv => n - (intOf iv).toNat)
 case atStart => exact ⟨0, Nat.zero_le _, rfl, by simp [Nat.mod_one]⟩
 case round =>
  obtain ⟨k, hk, rfl, rfl⟩ := hrel
  by_cases hlt : k < n
  ·
   obtain ⟨b1, o1, rfl, hb1⟩ := hl.some_of_pos (by omega)
   have c1 := hl.at k hlt
   have hla := lmb_lt z.natAbs k
   have hk2 : k = 0 ∨ k = 1 := by omega
   rcases hk2 with rfl | rfl
   ·
    have ho := or_first _ hla
    have HM : Hid (z.natAbs % BB ^ 1 = lmb z.natAbs 0) := by show _ = _; rw [mod_succ]; simp [Nat.mod_one]
    simp only [Nat.pow_zero, Nat.mod_one]
    rw [Nat.add_zero] at c1
    clear hl
    go_wp2
    go_round
    case rel => exact ⟨1, by omega, by go_num, by rw [HM.out]⟩
    case measure => simp [intOf]; omega
   ·
    have HM : Hid (z.natAbs % BB ^ 1 = lmb z.natAbs 0) := by show _ = _; rw [mod_succ]; simp [Nat.mod_one]
    have hl0 := lmb_lt z.natAbs 0
    have ho := or_second hl0 hla
    have HM2 : Hid (z.natAbs % BB ^ 2 = lmb z.natAbs 0 + 4294967296 * lmb z.natAbs 1) := by show _ = _; rw [mod_succ, HM.out, Nat.pow_one]; rfl
    rw [HM.out]
    rw [← HM2.out] at ho
    clear hl
    go_wp2
    go_round
    case rel => exact ⟨2, by omega, rfl, by rw [Int.natCast_emod, Int.natCast_pow]⟩
    case measure => simp [intOf]; omega
  ·
   obtain rfl : k = n := by omega
   rw [Nat.mod_eq_of_lt HN.out]
   have hNb : z.natAbs < 18446744073709551616 := HN2.out
   obtain ⟨N, hNe⟩ : ∃ N, N = z.natAbs := ⟨_, rfl⟩
   rw [← hNe] at hNb ⊢
   have HNE := Lib.hid hNe
   clear hNe hl
   cases bl
   ·
    by_cases hc : N ≤ 9223372036854775807
    ·
     have hd : decide ((9223372036854775807 : Int) < (N : Int)) = false := by simp; omega
     have HR : Hid ((N : Int) = smallV z ∧ smallB z = true) := by
      have h1 := HNE.out; have h2 := HS.out; simp at h2; show _ ∧ _; unfold smallV smallB; rw [if_pos (by omega)]; simp; omega
     have hNI : (N : Int) ≤ 9223372036854775807 := by omega
     clear hc
     go_wp2
     go_ret2
     exact ⟨by rw [← HR.out.1, HR.out.2]; rfl, hB⟩
    ·
     have hd : decide ((9223372036854775807 : Int) < (N : Int)) = true := by simp; omega
     have HR : Hid (smallV z = 0 ∧ smallB z = false) := by
      have h1 := HNE.out; have h2 := HS.out; simp at h2; show _ ∧ _; unfold smallV smallB; rw [if_neg (by omega)]; simp; omega
     clear hc
     go_wp2
     go_ret2
     exact ⟨by rw [HR.out.1, HR.out.2]; rfl, hB⟩
   ·
    by_cases hc : N ≤ 9223372036854775808
    ·
     have hd : decide ((9223372036854775808 : Int) < (N : Int)) = false := by simp; omega
     have HR : Hid (-(N : Int) = smallV z ∧ smallB z = true) := by
      have h1 := HNE.out; have h2 := HS.out; simp at h2; show _ ∧ _; unfold smallV smallB; rw [if_pos (by omega)]; simp; omega
     have hNI : (N : Int) ≤ 9223372036854775808 := by omega
     clear hc
     have HW : Hid (wrap64 (IntKind.u64.wrap (-(N : Int))) = -(N : Int)) := by show _ = _; rw [IntKind.wrap_u64]; unfold wrap64; omega
     go_wp2
     go_ret2
     exact ⟨ret2 (HW.out.trans HR.out.1) HR.out.2.symm, hB⟩
    ·
     have hd : decide ((9223372036854775808 : Int) < (N : Int)) = true := by simp; omega
     have HR : Hid (smallV z = 0 ∧ smallB z = false) := by
      have h1 := HNE.out; have h2 := HS.out; simp at h2; show _ ∧ _; unfold smallV smallB; rw [if_neg (by omega)]; simp; omega
     clear hc
     go_wp2
     go_ret2
     exact ⟨by rw [HR.out.1, HR.out.2]; rfl, hB⟩
theorem Small_any (bl : Bool) (a : Option Addr) (n c : Nat) (z : Int) (w : World) (h : Num w bl a n c z) (hn : n ≤ 10000000) :
  Calls Tryz.prog 67 #[.agg #[.bool bl, .slice a n c]] w (PVal2 (.int .i64 (smallV z)) (.bool (smallB z)) w) := by
 by_cases h2 : n ≤ 2
 ·
  exact Small_short bl a n c z w h h2
 ·
  have h3 : BB ^ 2 ≤ z.natAbs := by
   rcases h.fit.2 with h0 | h0
   ·
    omega
   ·
    exact Nat.le_trans (Nat.pow_le_pow_right BB_pos (by omega)) h0
  have h4 : (18446744073709551616 : Nat) ≤ z.natAbs := h3
  have e1 : smallV z = 0 := by unfold smallV; rw [if_neg (by omega)]
  have e2 : smallB z = false := by unfold smallB; simp; omega
  rw [e1, e2]
  exact Small_long bl a n c w (by omega) hn
end Go.Proofs.YtolpfibihialkaaGreatDoor
