/- Parts of the proof. -/
import Derived.Test.YtolpfibihialkaaGreatGr16
import Derived.Test.YtolpfibihialkaaGreatGr9
/- Spans: what comes of them, as numbers (no walk). -/
namespace Go.Proofs.YtolpfibihialkaaGreat
open Go.RowKit
/-- A span, by its fields. -/
structure Sp where
 lo : Int
 hi : Int
 all : Bool
/-- The whole line. -/
def lineS : Sp := ⟨0, 0, true⟩
/-- May a span be, and is it not the whole line? -/
def okB (x : Sp) : Bool := decide (-2147483647 ≤ x.lo) && decide (x.lo ≤ x.hi) && decide (x.hi ≤ 2147483647) && !x.all
theorem ok_of {x : Sp} (h : okB x = true) : -2147483647 ≤ x.lo ∧ x.lo ≤ x.hi ∧ x.hi ≤ 2147483647 ∧ x.all = false := by
 unfold okB at h
 simp only [Bool.and_eq_true, decide_eq_true_eq, Bool.not_eq_true'] at h
 exact ⟨h.1.1.1, h.1.1.2, h.1.2, h.2⟩
theorem ok_mk {x : Sp} (h1 : -2147483647 ≤ x.lo) (h2 : x.lo ≤ x.hi) (h3 : x.hi ≤ 2147483647) (h4 : x.all = false) : okB x = true := by
 unfold okB
 simp only [Bool.and_eq_true, decide_eq_true_eq, Bool.not_eq_true']
 exact ⟨⟨⟨h1, h2⟩, h3⟩, h4⟩
/-- A span as all calls take it. -/
def mkS (x : Sp) : Sp := if okB x then x else lineS
theorem mkS_ok {x : Sp} (h : okB x = true) : mkS x = x := if_pos h
theorem mkS_no {x : Sp} (h : okB x = false) : mkS x = lineS := by unfold mkS; rw [h]; rfl
theorem okB_mk (x : Sp) : okB (mkS x) = okB x := by
 cases h : okB x
 ·
  rw [mkS_no h]; rfl
 ·
  rw [mkS_ok h, h]
def ofS (a b : Int) : Sp := mkS ⟨min a b, max a b, false⟩
theorem ofS_le {a b : Int} (h : a ≤ b) : ofS a b = mkS ⟨a, b, false⟩ := by
 unfold ofS
 rw [Int.min_eq_left h, Int.max_eq_right h]
theorem ofS_ge {a b : Int} (h : b ≤ a) : ofS a b = mkS ⟨b, a, false⟩ := by
 unfold ofS
 rw [Int.min_eq_right h, Int.max_eq_left h]
def hasB (x : Sp) (n : Int) : Bool := !okB x || (decide (x.lo ≤ n) && decide (n ≤ x.hi))
def inB (x y : Sp) : Bool := !okB y || (okB x && decide (y.lo ≤ x.lo) && decide (x.hi ≤ y.hi))
def joinS (x y : Sp) : Sp := if okB x && okB y then ⟨min x.lo y.lo, max x.hi y.hi, false⟩ else lineS
def midS (x : Sp) : Int := if okB x then (x.lo + x.hi) / 2 else 0
def radS (x : Sp) : Int := if okB x then x.hi - (x.lo + x.hi) / 2 else 2147483647
def negS (x : Sp) : Sp := if okB x then ⟨-x.hi, -x.lo, false⟩ else lineS
def min4 (x y : Sp) : Int := min (min (min (x.lo * y.lo) (x.lo * y.hi)) (x.hi * y.lo)) (x.hi * y.hi)
def max4 (x y : Sp) : Int := max (max (max (x.lo * y.lo) (x.lo * y.hi)) (x.hi * y.lo)) (x.hi * y.hi)
/-- What comes of two spans by a rule, from their ends. -/
def endsS (R : Int → Int → Sp) (x y : Sp) : Sp := if okB x && okB y then joinS (joinS (joinS (joinS (R x.lo y.lo) (R x.lo y.lo)) (R x.lo y.hi)) (R x.hi y.lo)) (R x.hi y.hi) else lineS
/-- The span of a sum; of a product; of a quotient. -/
def addR (a b : Int) : Sp := mkS ⟨a + b, a + b, false⟩
def mulR (a b : Int) : Sp := mkS ⟨a * b / 1048576, -(-(a * b) / 1048576), false⟩
def addS (x y : Sp) : Sp := endsS addR x y
def subS (x y : Sp) : Sp := addS x (negS y)
def mulS (x y : Sp) : Sp := endsS mulR x y
def sqrS (x : Sp) : Sp := if okB x then (if x.lo ≤ 0 ∧ 0 ≤ x.hi then joinS (joinS (mulR x.lo x.lo) (mulR x.hi x.hi)) ⟨0, 0, false⟩ else joinS (mulR x.lo x.lo) (mulR x.hi x.hi)) else lineS
theorem okB_join {x y : Sp} : okB (joinS x y) = (okB x && okB y) := by
 unfold joinS
 cases hx : okB x
 ·
  rfl
 ·
  cases hy : okB y
  ·
   rfl
  ·
   obtain ⟨a1, a2, a3, _⟩ := ok_of hx
   obtain ⟨b1, b2, b3, _⟩ := ok_of hy
   refine ok_mk ?_ ?_ ?_ rfl
   ·
    show _ ≤ min x.lo y.lo; omega
   ·
    show min x.lo y.lo ≤ max x.hi y.hi; omega
   ·
    show max x.hi y.hi ≤ _; omega
theorem join_ok {x y : Sp} (hx : okB x = true) (hy : okB y = true) : joinS x y = ⟨min x.lo y.lo, max x.hi y.hi, false⟩ := by unfold joinS; rw [hx, hy]; rfl
theorem join_no {x y : Sp} (h : (okB x && okB y) = false) : joinS x y = lineS := by unfold joinS; rw [h]; rfl
/-- Four spans of ends, joined: the whole line, or the least and the greatest. -/
theorem ends_ok {R : Int → Int → Sp} {x y : Sp} (hx : okB x = true) (hy : okB y = true) (h1 : okB (R x.lo y.lo) = true) (h2 : okB (R x.lo y.hi) = true) (h3 : okB (R x.hi y.lo) = true) (h4 : okB (R x.hi y.hi) = true) :
  endsS R x y = ⟨min (min (min (R x.lo y.lo).lo (R x.lo y.hi).lo) (R x.hi y.lo).lo) (R x.hi y.hi).lo, max (max (max (R x.lo y.lo).hi (R x.lo y.hi).hi) (R x.hi y.lo).hi) (R x.hi y.hi).hi, false⟩ := by
 unfold endsS
 rw [hx, hy]
 have e1 : okB (joinS (R x.lo y.lo) (R x.lo y.lo)) = true := by rw [okB_join, h1]; rfl
 have e2 : okB (joinS (joinS (R x.lo y.lo) (R x.lo y.lo)) (R x.lo y.hi)) = true := by rw [okB_join, e1, h2]; rfl
 have e3 : okB (joinS (joinS (joinS (R x.lo y.lo) (R x.lo y.lo)) (R x.lo y.hi)) (R x.hi y.lo)) = true := by rw [okB_join, e2, h3]; rfl
 show joinS _ _ = _
 rw [join_ok e3 h4, join_ok e2 h3, join_ok e1 h2, join_ok h1 h1]
 show Sp.mk (min (min (min (min _ _) _) _) _) (max (max (max (max _ _) _) _) _) _ = _
 rw [Int.min_self, Int.max_self]
theorem ends_no {R : Int → Int → Sp} {x y : Sp} (h : (okB x && okB y && okB (R x.lo y.lo) && okB (R x.lo y.hi) && okB (R x.hi y.lo) && okB (R x.hi y.hi)) = false) : endsS R x y = lineS := by
 unfold endsS
 cases hx : okB x
 ·
  rfl
 ·
  cases hy : okB y
  ·
   rfl
  ·
   show joinS _ _ = _
   refine join_no ?_
   rw [okB_join, okB_join, okB_join]
   rw [hx, hy] at h
   revert h
   cases okB (R x.lo y.lo) <;> cases okB (R x.lo y.hi) <;> cases okB (R x.hi y.lo) <;> cases okB (R x.hi y.hi) <;> simp
theorem ends_cases (R : Int → Int → Sp) (x y : Sp) : endsS R x y = lineS ∨ (okB (endsS R x y) = true ∧ okB x = true ∧ okB y = true ∧ okB (R x.lo y.lo) = true ∧ okB (R x.lo y.hi) = true ∧ okB (R x.hi y.lo) = true ∧ okB (R x.hi y.hi) = true ∧
  endsS R x y = ⟨min (min (min (R x.lo y.lo).lo (R x.lo y.hi).lo) (R x.hi y.lo).lo) (R x.hi y.hi).lo, max (max (max (R x.lo y.lo).hi (R x.lo y.hi).hi) (R x.hi y.lo).hi) (R x.hi y.hi).hi, false⟩) := by
 cases h0 : (okB x && okB y && okB (R x.lo y.lo) && okB (R x.lo y.hi) && okB (R x.hi y.lo) && okB (R x.hi y.hi))
 ·
  exact .inl (ends_no h0)
 ·
  simp only [Bool.and_eq_true] at h0
  have e := ends_ok h0.1.1.1.1.1 h0.1.1.1.1.2 h0.1.1.1.2 h0.1.1.2 h0.1.2 h0.2
  refine .inr ⟨?_, h0.1.1.1.1.1, h0.1.1.1.1.2, h0.1.1.1.2, h0.1.1.2, h0.1.2, h0.2, e⟩
  rw [e]
  obtain ⟨a1, a2, a3, _⟩ := ok_of h0.1.1.1.2
  obtain ⟨b1, b2, b3, _⟩ := ok_of h0.1.1.2
  obtain ⟨c1, c2, c3, _⟩ := ok_of h0.1.2
  obtain ⟨d1, d2, d3, _⟩ := ok_of h0.2
  refine ok_mk ?_ ?_ ?_ rfl
  ·
   show _ ≤ min (min (min _ _) _) _; omega
  ·
   show min (min (min _ _) _) _ ≤ max (max (max _ _) _) _; omega
  ·
   show max (max (max _ _) _) _ ≤ _; omega
/-- Products of what lies between ends lie between those of the ends. -/
theorem mul_ends {a lo hi b : Int} (h1 : lo ≤ a) (h2 : a ≤ hi) : min (lo * b) (hi * b) ≤ a * b ∧ a * b ≤ max (lo * b) (hi * b) := by
 rcases Int.le_total 0 b with h | h
 ·
  have e1 := Int.mul_le_mul_of_nonneg_right h1 h
  have e2 := Int.mul_le_mul_of_nonneg_right h2 h
  omega
 ·
  have e1 := Int.mul_le_mul_of_nonpos_right h1 h
  have e2 := Int.mul_le_mul_of_nonpos_right h2 h
  omega
theorem bil {x y : Sp} {a b : Int} (h1 : x.lo ≤ a) (h2 : a ≤ x.hi) (h3 : y.lo ≤ b) (h4 : b ≤ y.hi) : min4 x y ≤ a * b ∧ a * b ≤ max4 x y := by
 have e1 := mul_ends (b := b) h1 h2
 have e2 := mul_ends (b := x.lo) h3 h4
 have e3 := mul_ends (b := x.hi) h3 h4
 rw [Int.mul_comm y.lo, Int.mul_comm y.hi, Int.mul_comm b] at e2 e3
 unfold min4 max4
 omega
theorem mulR_of {a b : Int} (h : okB (mulR a b) = true) : mulR a b = ⟨a * b / 1048576, -(-(a * b) / 1048576), false⟩ := by
 unfold mulR at h ⊢
 rw [okB_mk] at h
 exact mkS_ok h
theorem addR_of {a b : Int} (h : okB (addR a b) = true) : addR a b = ⟨a + b, a + b, false⟩ := by
 unfold addR at h ⊢
 rw [okB_mk] at h
 exact mkS_ok h
theorem add_cases (x y : Sp) : addS x y = lineS ∨ (okB (addS x y) = true ∧ okB x = true ∧ okB y = true ∧ addS x y = ⟨x.lo + y.lo, x.hi + y.hi, false⟩) := by
 unfold addS
 rcases ends_cases addR x y with h | ⟨h, hx, hy, h1, h2, h3, h4, e⟩
 ·
  exact .inl h
 ·
  refine .inr ⟨h, hx, hy, ?_⟩
  have := ok_of hx
  have := ok_of hy
  rw [e, addR_of h1, addR_of h2, addR_of h3, addR_of h4]
  congr 1
  ·
   show min (min (min (_ + _) (_ + _)) (_ + _)) (_ + _) = _; omega
  ·
   show max (max (max (_ + _) (_ + _)) (_ + _)) (_ + _) = _; omega
theorem mul_cases (x y : Sp) : mulS x y = lineS ∨ (okB (mulS x y) = true ∧ okB x = true ∧ okB y = true ∧ mulS x y = ⟨min4 x y / 1048576, -(-max4 x y / 1048576), false⟩) := by
 unfold mulS
 rcases ends_cases mulR x y with h | ⟨h, hx, hy, h1, h2, h3, h4, e⟩
 ·
  exact .inl h
 ·
  refine .inr ⟨h, hx, hy, ?_⟩
  rw [e, mulR_of h1, mulR_of h2, mulR_of h3, mulR_of h4]
  unfold min4 max4
  generalize x.lo * y.lo = p
  generalize x.lo * y.hi = q
  generalize x.hi * y.lo = r
  generalize x.hi * y.hi = s
  congr 1
  ·
   show min (min (min (_ / _) (_ / _)) (_ / _)) (_ / _) = _; omega
  ·
   show max (max (max (-(_ / _)) (-(_ / _))) (-(_ / _))) (-(_ / _)) = _; omega
theorem in_ok {x D : Sp} (hD : okB D = true) : inB x D = true ↔ okB x = true ∧ D.lo ≤ x.lo ∧ x.hi ≤ D.hi := by
 unfold inB
 rw [hD]
 simp only [Bool.not_true, Bool.false_or, Bool.and_eq_true, decide_eq_true_eq, and_assoc]
theorem flo_pos {a b : Int} (h : 0 < b) : flo a b = a / b := if_pos h
end Go.Proofs.YtolpfibihialkaaGreat
