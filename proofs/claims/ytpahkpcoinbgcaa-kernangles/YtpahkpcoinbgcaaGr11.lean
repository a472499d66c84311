/- Spans: what comes of them, as numbers (no walk). -/
import Derived.Test.YtpahkpcoinbgcaaGr10
import Derived.Test.YtpahkpcoinbgcaaGr1
import Derived.Laws.StructEq
import Derived.Test.YtpahkpcoinbgcaaGr2
namespace Go.Proofs.Ytpahkpcoinbgcaa
open Go.RowKit

/-- A span, by its fields. -/
structure Sp where
  lo : Int
  hi : Int
  all : Bool
/-- The whole line. -/
def lineS : Sp := ⟨0, 0, true⟩
/-- May a span be, and is it not the whole line? -/
def okB (x : Sp) : Bool := decide (-2147483647 ≤ x.lo) && decide (x.lo ≤ x.hi) && decide (x.hi ≤ 2147483647) && !x.all
theorem ok_of {x : Sp} (h : okB x = true) : -2147483647 ≤ x.lo ∧ x.lo ≤ x.hi ∧ x.hi ≤ 2147483647 ∧ x.all = false := by
  unfold okB at h
  simp only [Bool.and_eq_true, decide_eq_true_eq, Bool.not_eq_true'] at h
  exact ⟨h.1.1.1, h.1.1.2, h.1.2, h.2⟩
theorem ok_mk {x : Sp} (h1 : -2147483647 ≤ x.lo) (h2 : x.lo ≤ x.hi) (h3 : x.hi ≤ 2147483647) (h4 : x.all = false) : okB x = true := by
  unfold okB
  simp only [Bool.and_eq_true, decide_eq_true_eq, Bool.not_eq_true']
  exact ⟨⟨⟨h1, h2⟩, h3⟩, h4⟩
theorem ok_not {x : Sp} (h : okB x = false) : ¬ (-2147483647 ≤ x.lo ∧ x.lo ≤ x.hi ∧ x.hi ≤ 2147483647 ∧ x.all = false) := by
  intro ⟨h1, h2, h3, h4⟩
  rw [ok_mk h1 h2 h3 h4] at h
  cases h
theorem ok_line : okB lineS = false := rfl
/-- A span as all calls take it. -/
def mkS (x : Sp) : Sp := if okB x then x else lineS
theorem mkS_ok {x : Sp} (h : okB x = true) : mkS x = x := if_pos h
theorem mkS_no {x : Sp} (h : okB x = false) : mkS x = lineS := by unfold mkS; rw [h]; rfl
theorem mkS_mk (x : Sp) : mkS (mkS x) = mkS x := by
  cases h : okB x
  · rw [mkS_no h]; rfl
  · rw [mkS_ok h, mkS_ok h]
theorem okB_mk (x : Sp) : okB (mkS x) = okB x := by
  cases h : okB x
  · rw [mkS_no h]; rfl
  · rw [mkS_ok h, h]
def ofS (a b : Int) : Sp := mkS ⟨min a b, max a b, false⟩
theorem ofS_le {a b : Int} (h : a ≤ b) : ofS a b = mkS ⟨a, b, false⟩ := by
  unfold ofS
  rw [Int.min_eq_left h, Int.max_eq_right h]
theorem ofS_ge {a b : Int} (h : b ≤ a) : ofS a b = mkS ⟨b, a, false⟩ := by
  unfold ofS
  rw [Int.min_eq_right h, Int.max_eq_left h]
def hasB (x : Sp) (n : Int) : Bool := !okB x || (decide (x.lo ≤ n) && decide (n ≤ x.hi))
def inB (x y : Sp) : Bool := !okB y || (okB x && decide (y.lo ≤ x.lo) && decide (x.hi ≤ y.hi))
def joinS (x y : Sp) : Sp := if okB x && okB y then ⟨min x.lo y.lo, max x.hi y.hi, false⟩ else lineS
def meetS (x y : Sp) : Sp := if okB x then (if okB y then (if max x.lo y.lo ≤ min x.hi y.hi then ⟨max x.lo y.lo, min x.hi y.hi, false⟩ else ⟨0, 0, false⟩) else x) else mkS y
def meetB (x y : Sp) : Bool := !okB x || !okB y || decide (max x.lo y.lo ≤ min x.hi y.hi)
def midS (x : Sp) : Int := if okB x then (x.lo + x.hi) / 2 else 0
def radS (x : Sp) : Int := if okB x then x.hi - (x.lo + x.hi) / 2 else 2147483647
def negS (x : Sp) : Sp := if okB x then ⟨-x.hi, -x.lo, false⟩ else lineS
def min4 (x y : Sp) : Int := min (min (min (x.lo * y.lo) (x.lo * y.hi)) (x.hi * y.lo)) (x.hi * y.hi)
def max4 (x y : Sp) : Int := max (max (max (x.lo * y.lo) (x.lo * y.hi)) (x.hi * y.lo)) (x.hi * y.hi)
/-- What comes of two spans by a rule, from their ends. -/
def endsS (R : Int → Int → Sp) (x y : Sp) : Sp := if okB x && okB y then joinS (joinS (joinS (joinS (R x.lo y.lo) (R x.lo y.lo)) (R x.lo y.hi)) (R x.hi y.lo)) (R x.hi y.hi) else lineS
/-- The span of a sum; of a product; of a quotient. -/
def addR (a b : Int) : Sp := mkS ⟨a + b, a + b, false⟩
def mulR (a b : Int) : Sp := mkS ⟨a * b / 1048576, -(-(a * b) / 1048576), false⟩
def divR (a b : Int) : Sp := mkS ⟨flo (a * 1048576) b, -flo (-(a * 1048576)) b, false⟩
def addS (x y : Sp) : Sp := endsS addR x y
def subS (x y : Sp) : Sp := addS x (negS y)
def mulS (x y : Sp) : Sp := endsS mulR x y
def divS (x y : Sp) : Sp := if hasB y 0 then lineS else endsS divR x y
def sqrS (x : Sp) : Sp := if okB x then (if x.lo ≤ 0 ∧ 0 ≤ x.hi then joinS (joinS (mulR x.lo x.lo) (mulR x.hi x.hi)) ⟨0, 0, false⟩ else joinS (mulR x.lo x.lo) (mulR x.hi x.hi)) else lineS
theorem okB_join {x y : Sp} : okB (joinS x y) = (okB x && okB y) := by
  unfold joinS
  cases hx : okB x
  · rfl
  · cases hy : okB y
    · rfl
    · obtain ⟨a1, a2, a3, _⟩ := ok_of hx
      obtain ⟨b1, b2, b3, _⟩ := ok_of hy
      refine ok_mk ?_ ?_ ?_ rfl
      · show _ ≤ min x.lo y.lo; omega
      · show min x.lo y.lo ≤ max x.hi y.hi; omega
      · show max x.hi y.hi ≤ _; omega
theorem join_ok {x y : Sp} (hx : okB x = true) (hy : okB y = true) : joinS x y = ⟨min x.lo y.lo, max x.hi y.hi, false⟩ := by unfold joinS; rw [hx, hy]; rfl
theorem join_no {x y : Sp} (h : (okB x && okB y) = false) : joinS x y = lineS := by unfold joinS; rw [h]; rfl
/-- Four spans of ends, joined: the whole line, or the least and the greatest. -/
theorem ends_ok {R : Int → Int → Sp} {x y : Sp} (hx : okB x = true) (hy : okB y = true) (h1 : okB (R x.lo y.lo) = true) (h2 : okB (R x.lo y.hi) = true) (h3 : okB (R x.hi y.lo) = true) (h4 : okB (R x.hi y.hi) = true) :
    endsS R x y = ⟨min (min (min (R x.lo y.lo).lo (R x.lo y.hi).lo) (R x.hi y.lo).lo) (R x.hi y.hi).lo, max (max (max (R x.lo y.lo).hi (R x.lo y.hi).hi) (R x.hi y.lo).hi) (R x.hi y.hi).hi, false⟩ := by
  unfold endsS
  rw [hx, hy]
  have e1 : okB (joinS (R x.lo y.lo) (R x.lo y.lo)) = true := by rw [okB_join, h1]; rfl
  have e2 : okB (joinS (joinS (R x.lo y.lo) (R x.lo y.lo)) (R x.lo y.hi)) = true := by rw [okB_join, e1, h2]; rfl
  have e3 : okB (joinS (joinS (joinS (R x.lo y.lo) (R x.lo y.lo)) (R x.lo y.hi)) (R x.hi y.lo)) = true := by rw [okB_join, e2, h3]; rfl
  show joinS _ _ = _
  rw [join_ok e3 h4, join_ok e2 h3, join_ok e1 h2, join_ok h1 h1]
  show Sp.mk (min (min (min (min _ _) _) _) _) (max (max (max (max _ _) _) _) _) _ = _
  rw [Int.min_self, Int.max_self]
theorem ends_no {R : Int → Int → Sp} {x y : Sp} (h : (okB x && okB y && okB (R x.lo y.lo) && okB (R x.lo y.hi) && okB (R x.hi y.lo) && okB (R x.hi y.hi)) = false) : endsS R x y = lineS := by
  unfold endsS
  cases hx : okB x
  · rfl
  · cases hy : okB y
    · rfl
    · show joinS _ _ = _
      refine join_no ?_
      rw [okB_join, okB_join, okB_join]
      rw [hx, hy] at h
      revert h
      cases okB (R x.lo y.lo) <;> cases okB (R x.lo y.hi) <;> cases okB (R x.hi y.lo) <;> cases okB (R x.hi y.hi) <;> simp
/-- What is known of what comes of the ends, if it is not the whole line. -/
theorem ends_of {R : Int → Int → Sp} {x y : Sp} (h : okB (endsS R x y) = true) : okB x = true ∧ okB y = true ∧ okB (R x.lo y.lo) = true ∧ okB (R x.lo y.hi) = true ∧ okB (R x.hi y.lo) = true ∧ okB (R x.hi y.hi) = true := by
  cases h0 : (okB x && okB y && okB (R x.lo y.lo) && okB (R x.lo y.hi) && okB (R x.hi y.lo) && okB (R x.hi y.hi))
  · rw [ends_no h0] at h; cases h
  · simp only [Bool.and_eq_true] at h0
    exact ⟨h0.1.1.1.1.1, h0.1.1.1.1.2, h0.1.1.1.2, h0.1.1.2, h0.1.2, h0.2⟩
theorem ends_cases (R : Int → Int → Sp) (x y : Sp) : endsS R x y = lineS ∨ (okB (endsS R x y) = true ∧ okB x = true ∧ okB y = true ∧ okB (R x.lo y.lo) = true ∧ okB (R x.lo y.hi) = true ∧ okB (R x.hi y.lo) = true ∧ okB (R x.hi y.hi) = true ∧
    endsS R x y = ⟨min (min (min (R x.lo y.lo).lo (R x.lo y.hi).lo) (R x.hi y.lo).lo) (R x.hi y.hi).lo, max (max (max (R x.lo y.lo).hi (R x.lo y.hi).hi) (R x.hi y.lo).hi) (R x.hi y.hi).hi, false⟩) := by
  cases h0 : (okB x && okB y && okB (R x.lo y.lo) && okB (R x.lo y.hi) && okB (R x.hi y.lo) && okB (R x.hi y.hi))
  · exact .inl (ends_no h0)
  · simp only [Bool.and_eq_true] at h0
    have e := ends_ok h0.1.1.1.1.1 h0.1.1.1.1.2 h0.1.1.1.2 h0.1.1.2 h0.1.2 h0.2
    refine .inr ⟨?_, h0.1.1.1.1.1, h0.1.1.1.1.2, h0.1.1.1.2, h0.1.1.2, h0.1.2, h0.2, e⟩
    rw [e]
    obtain ⟨a1, a2, a3, _⟩ := ok_of h0.1.1.1.2
    obtain ⟨b1, b2, b3, _⟩ := ok_of h0.1.1.2
    obtain ⟨c1, c2, c3, _⟩ := ok_of h0.1.2
    obtain ⟨d1, d2, d3, _⟩ := ok_of h0.2
    refine ok_mk ?_ ?_ ?_ rfl
    · show _ ≤ min (min (min _ _) _) _; omega
    · show min (min (min _ _) _) _ ≤ max (max (max _ _) _) _; omega
    · show max (max (max _ _) _) _ ≤ _; omega

/-- Products of what lies between ends lie between those of the ends. -/
theorem mul_ends {a lo hi b : Int} (h1 : lo ≤ a) (h2 : a ≤ hi) : min (lo * b) (hi * b) ≤ a * b ∧ a * b ≤ max (lo * b) (hi * b) := by
  rcases Int.le_total 0 b with h | h
  · have e1 := Int.mul_le_mul_of_nonneg_right h1 h
    have e2 := Int.mul_le_mul_of_nonneg_right h2 h
    omega
  · have e1 := Int.mul_le_mul_of_nonpos_right h1 h
    have e2 := Int.mul_le_mul_of_nonpos_right h2 h
    omega
theorem bil {x y : Sp} {a b : Int} (h1 : x.lo ≤ a) (h2 : a ≤ x.hi) (h3 : y.lo ≤ b) (h4 : b ≤ y.hi) : min4 x y ≤ a * b ∧ a * b ≤ max4 x y := by
  have e1 := mul_ends (b := b) h1 h2
  have e2 := mul_ends (b := x.lo) h3 h4
  have e3 := mul_ends (b := x.hi) h3 h4
  rw [Int.mul_comm y.lo, Int.mul_comm y.hi, Int.mul_comm b] at e2 e3
  unfold min4 max4
  omega
theorem mulR_of {a b : Int} (h : okB (mulR a b) = true) : mulR a b = ⟨a * b / 1048576, -(-(a * b) / 1048576), false⟩ := by
  unfold mulR at h ⊢
  rw [okB_mk] at h
  exact mkS_ok h
theorem addR_of {a b : Int} (h : okB (addR a b) = true) : addR a b = ⟨a + b, a + b, false⟩ := by
  unfold addR at h ⊢
  rw [okB_mk] at h
  exact mkS_ok h
theorem divR_of {a b : Int} (h : okB (divR a b) = true) : divR a b = ⟨flo (a * 1048576) b, -flo (-(a * 1048576)) b, false⟩ := by
  unfold divR at h ⊢
  rw [okB_mk] at h
  exact mkS_ok h
theorem add_cases (x y : Sp) : addS x y = lineS ∨ (okB (addS x y) = true ∧ okB x = true ∧ okB y = true ∧ addS x y = ⟨x.lo + y.lo, x.hi + y.hi, false⟩) := by
  unfold addS
  rcases ends_cases addR x y with h | ⟨h, hx, hy, h1, h2, h3, h4, e⟩
  · exact .inl h
  · refine .inr ⟨h, hx, hy, ?_⟩
    have := ok_of hx
    have := ok_of hy
    rw [e, addR_of h1, addR_of h2, addR_of h3, addR_of h4]
    congr 1
    · show min (min (min (_ + _) (_ + _)) (_ + _)) (_ + _) = _; omega
    · show max (max (max (_ + _) (_ + _)) (_ + _)) (_ + _) = _; omega
theorem mul_cases (x y : Sp) : mulS x y = lineS ∨ (okB (mulS x y) = true ∧ okB x = true ∧ okB y = true ∧ mulS x y = ⟨min4 x y / 1048576, -(-max4 x y / 1048576), false⟩) := by
  unfold mulS
  rcases ends_cases mulR x y with h | ⟨h, hx, hy, h1, h2, h3, h4, e⟩
  · exact .inl h
  · refine .inr ⟨h, hx, hy, ?_⟩
    rw [e, mulR_of h1, mulR_of h2, mulR_of h3, mulR_of h4]
    unfold min4 max4
    generalize x.lo * y.lo = p
    generalize x.lo * y.hi = q
    generalize x.hi * y.lo = r
    generalize x.hi * y.hi = s
    congr 1
    · show min (min (min (_ / _) (_ / _)) (_ / _)) (_ / _) = _; omega
    · show max (max (max (-(_ / _)) (-(_ / _))) (-(_ / _))) (-(_ / _)) = _; omega
theorem in_ok {x D : Sp} (hD : okB D = true) : inB x D = true ↔ okB x = true ∧ D.lo ≤ x.lo ∧ x.hi ≤ D.hi := by
  unfold inB
  rw [hD]
  simp only [Bool.not_true, Bool.false_or, Bool.and_eq_true, decide_eq_true_eq, and_assoc]
theorem in_line (x : Sp) : inB x lineS = true := rfl
theorem in_join {x y D : Sp} (hD : okB D = true) (hx : inB x D = true) (hy : inB y D = true) : inB (joinS x y) D = true := by
  rw [in_ok hD] at hx hy ⊢
  rw [okB_join, hx.1, hy.1, join_ok hx.1 hy.1]
  refine ⟨rfl, ?_, ?_⟩
  · show _ ≤ min x.lo y.lo; omega
  · show max x.hi y.hi ≤ _; omega
theorem in_mk {D : Sp} {l h : Int} (hD : okB D = true) (h1 : D.lo ≤ l) (h2 : l ≤ h) (h3 : h ≤ D.hi) : inB (mkS ⟨l, h, false⟩) D = true := by
  have := ok_of hD
  have hk : okB ⟨l, h, false⟩ = true := ok_mk (by show _ ≤ l; omega) h2 (by show h ≤ _; omega) rfl
  rw [in_ok hD, mkS_ok hk]
  exact ⟨hk, h1, h3⟩
theorem ends_in {R : Int → Int → Sp} {x y D : Sp} (hD : okB D = true) (hx : okB x = true) (hy : okB y = true) (h : ∀ a b, x.lo ≤ a → a ≤ x.hi → y.lo ≤ b → b ≤ y.hi → inB (R a b) D = true) : inB (endsS R x y) D = true := by
  have kx := ok_of hx
  have ky := ok_of hy
  unfold endsS
  rw [hx, hy]
  show inB (joinS _ _) D = true
  exact in_join hD (in_join hD (in_join hD (in_join hD (h _ _ (by omega) (by omega) (by omega) (by omega)) (h _ _ (by omega) (by omega) (by omega) (by omega))) (h _ _ (by omega) (by omega) (by omega) (by omega))) (h _ _ (by omega) (by omega) (by omega) (by omega))) (h _ _ (by omega) (by omega) (by omega) (by omega))
theorem add_in {x y u v : Sp} (h1 : inB x u = true) (h2 : inB y v = true) : inB (addS x y) (addS u v) = true := by
  rcases add_cases u v with h | ⟨h, hu, hv, e⟩
  · rw [h]; exact in_line _
  · obtain ⟨hx, p1, p2⟩ := (in_ok hu).1 h1
    obtain ⟨hy, q1, q2⟩ := (in_ok hv).1 h2
    refine ends_in h hx hy (fun a b a1 a2 b1 b2 => ?_)
    refine in_mk h ?_ (Int.le_refl _) ?_
    · rw [e]; show u.lo + v.lo ≤ _; omega
    · rw [e]; show _ ≤ u.hi + v.hi; omega
theorem neg_in {x u : Sp} (h1 : inB x u = true) : inB (negS x) (negS u) = true := by
  cases hu : okB u
  · unfold negS; rw [hu]; exact in_line _
  · obtain ⟨hx, p1, p2⟩ := (in_ok hu).1 h1
    have kx := ok_of hx
    have ku := ok_of hu
    unfold negS
    rw [hu, hx]
    show inB ⟨-x.hi, -x.lo, false⟩ ⟨-u.hi, -u.lo, false⟩ = true
    rw [in_ok (ok_mk (by show _ ≤ -u.hi; omega) (by show -u.hi ≤ -u.lo; omega) (by show -u.lo ≤ _; omega) rfl)]
    exact ⟨ok_mk (by show _ ≤ -x.hi; omega) (by show -x.hi ≤ -x.lo; omega) (by show -x.lo ≤ _; omega) rfl, by show -u.hi ≤ -x.hi; omega, by show -x.lo ≤ -u.lo; omega⟩
theorem sub_in {x y u v : Sp} (h1 : inB x u = true) (h2 : inB y v = true) : inB (subS x y) (subS u v) = true := add_in h1 (neg_in h2)
theorem mul_in {x y u v : Sp} (h1 : inB x u = true) (h2 : inB y v = true) : inB (mulS x y) (mulS u v) = true := by
  rcases mul_cases u v with h | ⟨h, hu, hv, e⟩
  · rw [h]; exact in_line _
  · obtain ⟨hx, p1, p2⟩ := (in_ok hu).1 h1
    obtain ⟨hy, q1, q2⟩ := (in_ok hv).1 h2
    refine ends_in h hx hy (fun a b a1 a2 b1 b2 => ?_)
    have hb := bil (x := u) (y := v) (a := a) (b := b) (by omega) (by omega) (by omega) (by omega)
    refine in_mk h ?_ ?_ ?_
    · rw [e]; show min4 u v / 1048576 ≤ _; omega
    · omega
    · rw [e]; show _ ≤ -(-max4 u v / 1048576); omega
theorem join_in {x y u v : Sp} (h1 : inB x u = true) (h2 : inB y v = true) : inB (joinS x y) (joinS u v) = true := by
  cases hu : okB u
  · rw [join_no (x := u) (y := v) (by rw [hu]; rfl)]; exact in_line _
  cases hv : okB v
  · rw [join_no (x := u) (y := v) (by rw [hu, hv]; rfl)]; exact in_line _
  obtain ⟨hx, p1, p2⟩ := (in_ok hu).1 h1
  obtain ⟨hy, q1, q2⟩ := (in_ok hv).1 h2
  have hD : okB (joinS u v) = true := by rw [okB_join, hu, hv]; rfl
  refine in_join hD ?_ ?_
  · rw [in_ok hD, join_ok hu hv]
    exact ⟨hx, by show min u.lo v.lo ≤ _; omega, by show _ ≤ max u.hi v.hi; omega⟩
  · rw [in_ok hD, join_ok hu hv]
    exact ⟨hy, by show min u.lo v.lo ≤ _; omega, by show _ ≤ max u.hi v.hi; omega⟩
/-- Quotients. -/
theorem qlo {L A p q b m : Int} (h : L ≤ A) (hp : 0 < p) (h1 : p ≤ b) (h2 : b ≤ q) (m1 : m ≤ L / p) (m2 : m ≤ L / q) : m * b ≤ A := by
  rcases Int.lt_or_le L 0 with hL | hL
  · have e1 : L / p * p ≤ L := Int.ediv_mul_le L (by omega)
    have e2 : L / p ≤ 0 := by
      have := Int.ediv_neg_of_neg_of_pos hL hp
      omega
    have e3 : L / p * b ≤ L / p * p := Int.mul_le_mul_of_nonpos_left e2 h1
    have e4 : m * b ≤ L / p * b := Int.mul_le_mul_of_nonneg_right m1 (by omega)
    omega
  · have e1 : L / q * q ≤ L := Int.ediv_mul_le L (by omega)
    have e2 : 0 ≤ L / q := Int.ediv_nonneg hL (by omega)
    have e3 : L / q * b ≤ L / q * q := Int.mul_le_mul_of_nonneg_left h2 e2
    have e4 : m * b ≤ L / q * b := Int.mul_le_mul_of_nonneg_right m2 (by omega)
    omega
theorem le_flo {d a b : Int} (hp : 0 < b → d * b ≤ a) (hn : b < 0 → a ≤ d * b) (hb : b ≠ 0) : d ≤ flo a b := by
  unfold flo
  split
  · next h => exact (Int.le_ediv_iff_mul_le h).2 (hp h)
  · next h =>
    refine (Int.le_ediv_iff_mul_le (by omega)).2 ?_
    have := hn (by omega)
    rw [Int.mul_neg]
    omega
theorem flo_pos {a b : Int} (h : 0 < b) : flo a b = a / b := if_pos h
theorem flo_neg {a b : Int} (h : b < 0) : flo a b = -a / -b := if_neg (by omega)
theorem div_cases (x y : Sp) : divS x y = lineS ∨ (okB (divS x y) = true ∧ okB x = true ∧ okB y = true ∧ (0 < y.lo ∨ y.hi < 0) ∧ divS x y = endsS divR x y ∧ okB (divR x.lo y.lo) = true ∧ okB (divR x.lo y.hi) = true ∧ okB (divR x.hi y.lo) = true ∧ okB (divR x.hi y.hi) = true ∧
    divS x y = ⟨min (min (min (flo (x.lo * 1048576) y.lo) (flo (x.lo * 1048576) y.hi)) (flo (x.hi * 1048576) y.lo)) (flo (x.hi * 1048576) y.hi), max (max (max (-flo (-(x.lo * 1048576)) y.lo) (-flo (-(x.lo * 1048576)) y.hi)) (-flo (-(x.hi * 1048576)) y.lo)) (-flo (-(x.hi * 1048576)) y.hi), false⟩) := by
  cases h0 : hasB y 0
  · have e0 : divS x y = endsS divR x y := by unfold divS; rw [h0]; rfl
    rw [e0]
    rcases ends_cases divR x y with h | ⟨h, hx, hy, h1, h2, h3, h4, e⟩
    · exact .inl h
    · refine .inr ⟨h, hx, hy, ?_, rfl, h1, h2, h3, h4, ?_⟩
      · unfold hasB at h0
        rw [hy] at h0
        simp only [Bool.not_true, Bool.false_or, Bool.and_eq_false_iff, decide_eq_false_iff_not] at h0
        omega
      · rw [e, divR_of h1, divR_of h2, divR_of h3, divR_of h4]
  · exact .inl (by unfold divS; rw [h0]; rfl)
theorem div_holds {x y : Sp} {a b : Int} (h : okB (divS x y) = true) (a1 : x.lo ≤ a) (a2 : a ≤ x.hi) (b1 : y.lo ≤ b) (b2 : b ≤ y.hi) :
    (0 < b → (divS x y).lo * b ≤ a * 1048576 ∧ a * 1048576 ≤ (divS x y).hi * b) ∧ (b < 0 → a * 1048576 ≤ (divS x y).lo * b ∧ (divS x y).hi * b ≤ a * 1048576) ∧ b ≠ 0 := by
  rcases div_cases x y with h0 | ⟨_, hx, hy, hs, _, _, _, _, _, e⟩
  · rw [h0] at h; cases h
  · have ky := ok_of hy
    rw [e]
    refine ⟨fun hb => ?_, fun hb => ?_, by omega⟩
    · have hl : 0 < y.lo := by omega
      have hh : 0 < y.hi := by omega
      rw [flo_pos hl, flo_pos hh, flo_pos hl, flo_pos hh, flo_pos hl, flo_pos hh, flo_pos hl, flo_pos hh]
      refine ⟨qlo (L := x.lo * 1048576) (p := y.lo) (q := y.hi) (by omega) hl b1 b2 ?_ ?_, ?_⟩
      · show min (min (min _ _) _) _ ≤ _; omega
      · show min (min (min _ _) _) _ ≤ _; omega
      · have := qlo (L := -(x.hi * 1048576)) (A := -(a * 1048576)) (p := y.lo) (q := y.hi) (b := b) (m := -(max (max (max (-(-(x.lo * 1048576) / y.lo)) (-(-(x.lo * 1048576) / y.hi))) (-(-(x.hi * 1048576) / y.lo))) (-(-(x.hi * 1048576) / y.hi)))) (by omega) hl b1 b2 (by omega) (by omega)
        rw [Int.neg_mul] at this
        show _ ≤ (max (max (max _ _) _) _) * b
        omega
    · have hl : y.lo < 0 := by omega
      have hh : y.hi < 0 := by omega
      rw [flo_neg hl, flo_neg hh, flo_neg hl, flo_neg hh, flo_neg hl, flo_neg hh, flo_neg hl, flo_neg hh]
      simp only [Int.neg_neg]
      constructor
      · have := qlo (L := -(x.hi * 1048576)) (A := -(a * 1048576)) (p := -y.hi) (q := -y.lo) (b := -b) (m := min (min (min (-(x.lo * 1048576) / -y.lo) (-(x.lo * 1048576) / -y.hi)) (-(x.hi * 1048576) / -y.lo)) (-(x.hi * 1048576) / -y.hi)) (by omega) (by omega) (by omega) (by omega) (by omega) (by omega)
        rw [Int.mul_neg] at this
        show _ ≤ (min (min (min _ _) _) _) * b
        omega
      · have := qlo (L := x.lo * 1048576) (A := a * 1048576) (p := -y.hi) (q := -y.lo) (b := -b) (m := -(max (max (max (-(x.lo * 1048576 / -y.lo)) (-(x.lo * 1048576 / -y.hi))) (-(x.hi * 1048576 / -y.lo))) (-(x.hi * 1048576 / -y.hi)))) (by omega) (by omega) (by omega) (by omega) (by omega) (by omega)
        rw [Int.neg_mul_neg] at this
        show (max (max (max _ _) _) _) * b ≤ _
        omega
theorem div_in {x y u v : Sp} (h1 : inB x u = true) (h2 : inB y v = true) : inB (divS x y) (divS u v) = true := by
  rcases div_cases u v with h | ⟨h, hu, hv, hs, _⟩
  · rw [h]; exact in_line _
  · obtain ⟨hx, p1, p2⟩ := (in_ok hu).1 h1
    obtain ⟨hy, q1, q2⟩ := (in_ok hv).1 h2
    have ky := ok_of hy
    have e : divS x y = endsS divR x y := by
      unfold divS
      rw [if_neg]
      unfold hasB
      rw [hy]
      simp only [Bool.not_true, Bool.false_or, Bool.and_eq_true, decide_eq_true_eq]
      omega
    rw [e]
    refine ends_in h hx hy (fun a b a1 a2 b1 b2 => ?_)
    obtain ⟨k1, k2, k3⟩ := div_holds (a := a) (b := b) h (by omega) (by omega) (by omega) (by omega)
    have e1 : (divS u v).lo ≤ flo (a * 1048576) b := le_flo (fun hb => (k1 hb).1) (fun hb => (k2 hb).1) k3
    have e2 : -(divS u v).hi ≤ flo (-(a * 1048576)) b := le_flo (fun hb => by have := (k1 hb).2; rw [Int.neg_mul]; omega) (fun hb => by have := (k2 hb).2; rw [Int.neg_mul]; omega) k3
    refine in_mk h e1 ?_ (by omega)
    have e3 : flo (a * 1048576) b + flo (-(a * 1048576)) b ≤ 0 := by
      unfold flo
      split
      · next hb =>
        have w1 := Int.ediv_mul_le (a * 1048576) (b := b) (by omega)
        have w2 := Int.ediv_mul_le (-(a * 1048576)) (b := b) (by omega)
        refine Int.le_of_not_gt fun hc => ?_
        have := Int.mul_le_mul_of_nonneg_right (show 1 ≤ a * 1048576 / b + -(a * 1048576) / b from hc) (Int.le_of_lt hb)
        rw [Int.add_mul] at this
        omega
      · next hb =>
        have w1 := Int.ediv_mul_le (-(a * 1048576)) (b := -b) (by omega)
        have w2 := Int.ediv_mul_le (- -(a * 1048576)) (b := -b) (by omega)
        refine Int.le_of_not_gt fun hc => ?_
        have := Int.mul_le_mul_of_nonneg_right (show 1 ≤ -(a * 1048576) / -b + - -(a * 1048576) / -b from hc) (show 0 ≤ -b by omega)
        rw [Int.add_mul] at this
        omega
    omega
theorem mulR_in {D : Sp} {a b : Int} (hD : okB D = true) (h1 : D.lo * 1048576 ≤ a * b) (h2 : a * b ≤ D.hi * 1048576) : inB (mulR a b) D = true :=
  in_mk hD (by omega) (by omega) (by omega)
theorem sqr_hold1 {a l h : Int} (h1 : l ≤ a) (h2 : a ≤ h) : a * a ≤ max (l * l) (h * h) := by
  rcases Int.le_total 0 a with h0 | h0
  · have := Int.mul_le_mul h2 h2 h0 (by omega)
    omega
  · have := Int.mul_le_mul (a := -a) (b := -a) (c := -l) (d := -l) (by omega) (by omega) (by omega) (by omega)
    rw [Int.neg_mul_neg, Int.neg_mul_neg] at this
    omega
theorem sqr_hold2 {a l h : Int} (h1 : l ≤ a) (h2 : a ≤ h) (h3 : 0 < l ∨ h < 0) : min (l * l) (h * h) ≤ a * a := by
  rcases h3 with h0 | h0
  · have := Int.mul_le_mul h1 h1 (by omega) (by omega)
    omega
  · have := Int.mul_le_mul (a := -h) (b := -h) (c := -a) (d := -a) (by omega) (by omega) (by omega) (by omega)
    rw [Int.neg_mul_neg, Int.neg_mul_neg] at this
    omega
theorem sq_pos (a : Int) : 0 ≤ a * a := by
  rcases Int.le_total 0 a with h0 | h0
  · exact Int.mul_nonneg h0 h0
  · have := Int.mul_nonneg (a := -a) (b := -a) (by omega) (by omega)
    rw [Int.neg_mul_neg] at this
    exact this
theorem sqr_cases (x : Sp) : sqrS x = lineS ∨ (okB (sqrS x) = true ∧ okB x = true ∧ okB (mulR x.lo x.lo) = true ∧ okB (mulR x.hi x.hi) = true) := by
  unfold sqrS
  cases hx : okB x
  · exact .inl rfl
  · simp only [if_true]
    have kz : okB ⟨0, 0, false⟩ = true := rfl
    cases h1 : okB (mulR x.lo x.lo) <;> cases h2 : okB (mulR x.hi x.hi)
    · left; split
      · exact join_no (by rw [okB_join, h1, h2]; rfl)
      · exact join_no (by rw [h1, h2]; rfl)
    · left; split
      · exact join_no (by rw [okB_join, h1, h2]; rfl)
      · exact join_no (by rw [h1, h2]; rfl)
    · left; split
      · exact join_no (by rw [okB_join, h1, h2]; rfl)
      · exact join_no (by rw [h1, h2]; rfl)
    · right
      refine ⟨?_, trivial, rfl, rfl⟩
      split
      · rw [okB_join, okB_join, h1, h2, kz]; rfl
      · rw [okB_join, h1, h2]; rfl
theorem sqr_holds {x : Sp} {a : Int} (h : okB (sqrS x) = true) (a1 : x.lo ≤ a) (a2 : a ≤ x.hi) : (sqrS x).lo * 1048576 ≤ a * a ∧ a * a ≤ (sqrS x).hi * 1048576 := by
  rcases sqr_cases x with h0 | ⟨_, hx, h1, h2⟩
  · rw [h0] at h; cases h
  · have kz : okB ⟨0, 0, false⟩ = true := rfl
    have e1 := mulR_of h1
    have e2 := mulR_of h2
    have hj : okB (joinS (mulR x.lo x.lo) (mulR x.hi x.hi)) = true := by rw [okB_join, h1, h2]; rfl
    have u := sqr_hold1 a1 a2
    have z := sq_pos a
    have zl := sq_pos x.lo
    have zh := sq_pos x.hi
    by_cases hz : x.lo ≤ 0 ∧ 0 ≤ x.hi
    · have e : sqrS x = ⟨min (min (x.lo * x.lo / 1048576) (x.hi * x.hi / 1048576)) 0, max (max (-(-(x.lo * x.lo) / 1048576)) (-(-(x.hi * x.hi) / 1048576))) 0, false⟩ := by
        unfold sqrS
        rw [if_pos hx, if_pos hz, join_ok hj kz, join_ok h1 h2, e1, e2]
      rw [e]
      show min (min _ _) 0 * _ ≤ _ ∧ _ ≤ max (max _ _) 0 * _
      omega
    · have e : sqrS x = ⟨min (x.lo * x.lo / 1048576) (x.hi * x.hi / 1048576), max (-(-(x.lo * x.lo) / 1048576)) (-(-(x.hi * x.hi) / 1048576)), false⟩ := by
        unfold sqrS
        rw [if_pos hx, if_neg hz, join_ok h1 h2, e1, e2]
      have l := sqr_hold2 a1 a2 (by omega)
      rw [e]
      show min _ _ * _ ≤ _ ∧ _ ≤ max _ _ * _
      omega
theorem sqr_in {x u : Sp} (h1 : inB x u = true) : inB (sqrS x) (sqrS u) = true := by
  rcases sqr_cases u with h | ⟨h, hu, _⟩
  · rw [h]; exact in_line _
  · obtain ⟨hx, p1, p2⟩ := (in_ok hu).1 h1
    have kx := ok_of hx
    have q1 := sqr_holds (a := x.lo) h (by omega) (by omega)
    have q2 := sqr_holds (a := x.hi) h (by omega) (by omega)
    have j := in_join h (mulR_in h q1.1 q1.2) (mulR_in h q2.1 q2.2)
    have e : sqrS x = if x.lo ≤ 0 ∧ 0 ≤ x.hi then joinS (joinS (mulR x.lo x.lo) (mulR x.hi x.hi)) ⟨0, 0, false⟩ else joinS (mulR x.lo x.lo) (mulR x.hi x.hi) := by unfold sqrS; rw [if_pos hx]
    rw [e]
    split
    · next hz =>
      have q3 := sqr_holds (a := 0) h (by omega) (by omega)
      exact in_join h j ((in_ok h).2 ⟨rfl, by show _ ≤ (0 : Int); omega, by show (0 : Int) ≤ _; omega⟩)
    · exact j
theorem mul_holds {x y : Sp} {a b : Int} (h : okB (mulS x y) = true) (a1 : x.lo ≤ a) (a2 : a ≤ x.hi) (b1 : y.lo ≤ b) (b2 : b ≤ y.hi) : (mulS x y).lo * 1048576 ≤ a * b ∧ a * b ≤ (mulS x y).hi * 1048576 := by
  rcases mul_cases x y with h0 | ⟨_, hx, hy, e⟩
  · rw [h0] at h; cases h
  · have hb := bil a1 a2 b1 b2
    rw [e]
    show _ / _ * _ ≤ _ ∧ _ ≤ -(_ / _) * _
    omega
/-- The root: the greatest number whose square is not above. -/
def isq : Nat → Nat
  | 0 => 0
  | n + 1 => if (isq n + 1) * (isq n + 1) ≤ n + 1 then isq n + 1 else isq n
theorem isq_spec (N : Nat) : isq N * isq N ≤ N ∧ N < (isq N + 1) * (isq N + 1) := by
  induction N with
  | zero => exact ⟨Nat.le_refl _, by decide⟩
  | succ n ih =>
    unfold isq
    generalize isq n = r at *
    have e1 : (r + 1 + 1) * (r + 1 + 1) = (r + 1) * (r + 1) + 2 * r + 3 := by rw [Nat.add_mul (r + 1) 1, Nat.mul_add (r + 1) (r + 1)]; omega
    split
    · next h => exact ⟨h, by omega⟩
    · next h => exact ⟨by omega, by omega⟩
theorem isq_uniq {N R : Nat} (h1 : R * R ≤ N) (h2 : N < (R + 1) * (R + 1)) : R = isq N := by
  obtain ⟨k1, k2⟩ := isq_spec N
  have key : ∀ a b : Nat, a * a ≤ N → N < (b + 1) * (b + 1) → a ≤ b := by
    intro a b ha hb
    refine Nat.le_of_not_lt fun hc => ?_
    have := Nat.mul_le_mul (show b + 1 ≤ a from hc) (show b + 1 ≤ a from hc)
    omega
  have := key R _ h1 k2
  have := key _ R k1 h2
  omega
/-- The root of a fixed number not below 0, rounded down, and up. -/
def rtN (a : Int) : Nat := isq (a * 1048576).natAbs
def rootS (a : Int) : Sp := if ((rtN a : Nat) : Int) * ((rtN a : Nat) : Int) = a * 1048576 then mkS ⟨rtN a, rtN a, false⟩ else mkS ⟨rtN a, rtN a + 1, false⟩
def sqrtS (x : Sp) : Sp := if okB x && decide (0 ≤ x.hi) then joinS (rootS (max x.lo 0)) (rootS x.hi) else lineS
theorem rt_of {a : Int} (h : 0 ≤ a) : ((rtN a : Nat) : Int) * ((rtN a : Nat) : Int) ≤ a * 1048576 ∧ a * 1048576 < (((rtN a : Nat) : Int) + 1) * (((rtN a : Nat) : Int) + 1) := by
  obtain ⟨k1, k2⟩ := isq_spec (a * 1048576).natAbs
  unfold rtN
  generalize isq (a * 1048576).natAbs = r at *
  have e1 : ((r : Int) + 1) * ((r : Int) + 1) = (((r + 1) * (r + 1) : Nat) : Int) := by rw [Int.natCast_mul]; rfl
  rw [← Int.natCast_mul, e1]
  omega
theorem rt_le {a : Int} (h : 0 ≤ a) (h2 : a ≤ 2147483647) : rtN a ≤ 47453132 := by
  obtain ⟨k1, _⟩ := isq_spec (a * 1048576).natAbs
  refine Nat.le_of_not_lt fun hlt => ?_
  have := Nat.mul_le_mul (show 47453133 ≤ rtN a from hlt) (show 47453133 ≤ rtN a from hlt)
  unfold rtN at this
  omega
theorem root_of {a : Int} (h : 0 ≤ a) (h2 : a ≤ 2147483647) : okB (rootS a) = true ∧ 0 ≤ (rootS a).lo ∧ (rootS a).lo * (rootS a).lo ≤ a * 1048576 ∧ 0 ≤ (rootS a).hi ∧ a * 1048576 ≤ (rootS a).hi * (rootS a).hi := by
  have hl := rt_le h h2
  have hr := rt_of h
  unfold rootS
  generalize rtN a = r at *
  split
  · next he =>
    have hk : okB ⟨(r : Int), r, false⟩ = true := ok_mk (by show _ ≤ (r : Int); omega) (Int.le_refl _) (by show (r : Int) ≤ _; omega) rfl
    rw [mkS_ok hk]
    exact ⟨hk, by show 0 ≤ (r : Int); omega, hr.1, by show 0 ≤ (r : Int); omega, by show _ ≤ (r : Int) * r; omega⟩
  · next he =>
    have hk : okB ⟨(r : Int), (r : Int) + 1, false⟩ = true := ok_mk (by show _ ≤ (r : Int); omega) (by show (r : Int) ≤ (r : Int) + 1; omega) (by show (r : Int) + 1 ≤ _; omega) rfl
    rw [mkS_ok hk]
    exact ⟨hk, by show 0 ≤ (r : Int); omega, hr.1, by show 0 ≤ (r : Int) + 1; omega, by show _ ≤ ((r : Int) + 1) * ((r : Int) + 1); omega⟩
theorem sqrt_holds {x : Sp} {a : Int} (h : okB (sqrtS x) = true) (a1 : x.lo ≤ a) (a2 : a ≤ x.hi) (h0 : 0 ≤ a) : (sqrtS x).lo * (sqrtS x).lo ≤ a * 1048576 ∧ a * 1048576 ≤ (sqrtS x).hi * (sqrtS x).hi := by
  cases hx : okB x
  · unfold sqrtS at h; rw [hx] at h; cases h
  · have kx := ok_of hx
    have e : sqrtS x = joinS (rootS (max x.lo 0)) (rootS x.hi) := by
      unfold sqrtS
      rw [if_pos]
      rw [hx]
      simp only [Bool.true_and, decide_eq_true_eq]
      omega
    obtain ⟨p1, p2, p3, p4, p5⟩ := root_of (a := max x.lo 0) (by omega) (by omega)
    obtain ⟨q1, q2, q3, q4, q5⟩ := root_of (a := x.hi) (by omega) (by omega)
    rw [e, join_ok p1 q1]
    show min _ _ * min _ _ ≤ _ ∧ _ ≤ max _ _ * max _ _
    constructor
    · have := Int.mul_le_mul (a := min (rootS (max x.lo 0)).lo (rootS x.hi).lo) (b := min (rootS (max x.lo 0)).lo (rootS x.hi).lo) (c := (rootS (max x.lo 0)).lo) (d := (rootS (max x.lo 0)).lo) (by omega) (by omega) (by omega) (by omega)
      omega
    · have := Int.mul_le_mul (a := (rootS x.hi).hi) (b := (rootS x.hi).hi) (c := max (rootS (max x.lo 0)).hi (rootS x.hi).hi) (d := max (rootS (max x.lo 0)).hi (rootS x.hi).hi) (by omega) (by omega) (by omega) (by omega)
      omega
end Go.Proofs.Ytpahkpcoinbgcaa

/- Spans in memory: boxes of three cells, one behind the other. -/
namespace Go.Proofs.Ytpahkpcoinbgcaa
open Go.RowKit

/-- A span's box. -/
def B3 (w : World) (k : Nat) (x : Sp) : Prop := w.heap[k]? = some (.cells #[.int .i64 x.lo, .int .i64 x.hi, .bool x.all] 23 (0, 0))
theorem B3.below {w w' : World} {k : Nat} {x : Sp} (h : B3 w k x) (hb : Below w.heap.size w w') : B3 w' k x := by
  unfold B3 at h ⊢
  rw [hb.block k (Array.getElem?_eq_some_iff.1 h).1, h]
theorem B3.cells {w : World} {k : Nat} {x : Sp} (h : B3 w k x) : w.cell? ⟨k, 0, none⟩ = some (.int .i64 x.lo) ∧ w.cell? ⟨k, 1, none⟩ = some (.int .i64 x.hi) ∧ w.cell? ⟨k, 2, none⟩ = some (.bool x.all) ∧ w.frozen? ⟨k, 0, none⟩ = false ∧ w.frozen? ⟨k, 1, none⟩ = false ∧ w.frozen? ⟨k, 2, none⟩ = false := by
  unfold B3 at h
  simp [World.cell?, World.frozen?, h]
theorem heap_new (w : World) (o : Obj) : (w.alloc o).heap[w.heap.size]? = some o := by rw [heap_alloc_new]
theorem b3_new (w : World) (x : Sp) : B3 (w.alloc (.cells #[.int .i64 x.lo, .int .i64 x.hi, .bool x.all] 23)) w.heap.size x := heap_new w _
theorem heap_set3 {w : World} {k : Nat} {u v x a b c : Value} {t : TypeId} (h : w.heap[k]? = some (.cells #[u, v, x] t (0, 0))) :
    (((w.setCell ⟨k, 0, none⟩ a).setCell ⟨k, 1, none⟩ b).setCell ⟨k, 2, none⟩ c).heap[k]? = some (.cells #[a, b, c] t (0, 0)) := by
  simp only [World.setCell, Array.getElem?_modify, if_true, h, Option.map_some]
  rfl
theorem heap_set_ne (w : World) {k k' o : Nat} (v : Value) (h : k ≠ k') : (w.setCell ⟨k', o, none⟩ v).heap[k]? = w.heap[k]? := by
  simp only [World.setCell, Array.getElem?_modify]
  rw [if_neg (fun e => h e.symm)]
theorem B3.self {w : World} {k : Nat} {x : Sp} (h : B3 w k x) (y : Sp) : B3 (((w.setCell ⟨k, 0, none⟩ (.int .i64 y.lo)).setCell ⟨k, 1, none⟩ (.int .i64 y.hi)).setCell ⟨k, 2, none⟩ (.bool y.all)) k y := heap_set3 h
theorem B3.other {w : World} {k k' : Nat} {x : Sp} (h : B3 w k x) (hne : k ≠ k') (a b c : Value) : B3 (((w.setCell ⟨k', 0, none⟩ a).setCell ⟨k', 1, none⟩ b).setCell ⟨k', 2, none⟩ c) k x := by
  unfold B3 at h ⊢
  rw [heap_set_ne _ _ hne, heap_set_ne _ _ hne, heap_set_ne _ _ hne, h]
/-- Boxes one behind the other, behind what was there. -/
structure Bs (w W : World) (xs : List Sp) : Prop where
  below : Below w.heap.size w W
  at' : ∀ i x, xs[i]? = some x → B3 W (w.heap.size + i) x
theorem Bs.later {w W W' : World} {xs : List Sp} (h : Bs w W xs) (hb : Below W.heap.size W W') : Bs w W' xs := ⟨h.below.trans (hb.mono h.below.size), fun i x hx => (h.at' i x hx).below hb⟩
theorem Bs.drew {w W : World} {xs : List Sp} (h : Bs w W xs) : Bs w W.drew xs := ⟨h.below.drew, h.at'⟩
theorem bs_nil (w : World) : Bs w w [] := ⟨Below.refl _ _, nofun⟩
theorem Bs.put {w W : World} {xs : List Sp} (h : Bs w W xs) (i : Nat) (hi : i < xs.length) (y : Sp) :
    Bs w (((W.setCell ⟨w.heap.size + i, 0, none⟩ (.int .i64 y.lo)).setCell ⟨w.heap.size + i, 1, none⟩ (.int .i64 y.hi)).setCell ⟨w.heap.size + i, 2, none⟩ (.bool y.all)) (xs.set i y) := by
  refine ⟨((h.below.setCell (p := ⟨w.heap.size + i, 0, none⟩) (Nat.le_add_right _ _) _).setCell (p := ⟨w.heap.size + i, 1, none⟩) (Nat.le_add_right _ _) _).setCell (p := ⟨w.heap.size + i, 2, none⟩) (Nat.le_add_right _ _) _, fun j x hj => ?_⟩
  by_cases h0 : i = j
  · subst h0
    rw [List.getElem?_set_self hi] at hj
    cases hj
    exact (h.at' i _ (List.getElem?_eq_getElem hi)).self y
  · rw [List.getElem?_set_ne h0] at hj
    exact (h.at' j x hj).other (by omega) _ _ _
/-- What has been made, in one block more. -/
theorem Bs.more {w W : World} {xs : List Sp} (h : Bs w W xs) (hs : W.heap.size = w.heap.size + xs.length) (x : Sp) : Bs w (W.alloc (.cells #[.int .i64 x.lo, .int .i64 x.hi, .bool x.all] 23)) (xs ++ [x]) := by
  refine ⟨h.below.alloc h.below.size _, fun j y hj => ?_⟩
  by_cases h0 : j < xs.length
  · rw [List.getElem?_append_left h0] at hj
    exact (h.at' j y hj).below ((Below.refl _ _).alloc (Nat.le_refl _) _)
  · rw [List.getElem?_append_right (by omega)] at hj
    have e : j = xs.length := by
      have := (List.getElem?_eq_some_iff.1 hj).1
      simp at this
      omega
    subst e
    rw [Nat.sub_self] at hj
    cases hj
    rw [← hs]
    exact b3_new W x
theorem bs1 (w : World) (a b : Int) (c : Bool) : Bs w (w.alloc (.cells #[.int .i64 a, .int .i64 b, .bool c] 23)) [⟨a, b, c⟩] := (bs_nil w).more rfl ⟨a, b, c⟩
theorem bs2 (w : World) (a b : Int) (c : Bool) (a' b' : Int) (c' : Bool) : Bs w ((w.alloc (.cells #[.int .i64 a, .int .i64 b, .bool c] 23)).alloc (.cells #[.int .i64 a', .int .i64 b', .bool c'] 23)) [⟨a, b, c⟩, ⟨a', b', c'⟩] := (bs1 w a b c).more (by simp) ⟨a', b', c'⟩
theorem bs3 (w : World) (a b : Int) (c : Bool) (a' b' : Int) (c' : Bool) (a2 b2 : Int) (c2 : Bool) : Bs w (((w.alloc (.cells #[.int .i64 a, .int .i64 b, .bool c] 23)).alloc (.cells #[.int .i64 a', .int .i64 b', .bool c'] 23)).alloc (.cells #[.int .i64 a2, .int .i64 b2, .bool c2] 23)) [⟨a, b, c⟩, ⟨a', b', c'⟩, ⟨a2, b2, c2⟩] := (bs2 w a b c a' b' c').more (by simp) ⟨a2, b2, c2⟩
theorem Bs.c0 {w W : World} {x : Sp} {xs : List Sp} (h : Bs w W (x :: xs)) : W.cell? ⟨w.heap.size, 0, none⟩ = some (.int .i64 x.lo) ∧ W.cell? ⟨w.heap.size, 1, none⟩ = some (.int .i64 x.hi) ∧ W.cell? ⟨w.heap.size, 2, none⟩ = some (.bool x.all) ∧ W.frozen? ⟨w.heap.size, 0, none⟩ = false ∧ W.frozen? ⟨w.heap.size, 1, none⟩ = false ∧ W.frozen? ⟨w.heap.size, 2, none⟩ = false := (h.at' 0 x rfl).cells
theorem Bs.c1 {w W : World} {y x : Sp} {xs : List Sp} (h : Bs w W (y :: x :: xs)) : W.cell? ⟨w.heap.size + 1, 0, none⟩ = some (.int .i64 x.lo) ∧ W.cell? ⟨w.heap.size + 1, 1, none⟩ = some (.int .i64 x.hi) ∧ W.cell? ⟨w.heap.size + 1, 2, none⟩ = some (.bool x.all) ∧ W.frozen? ⟨w.heap.size + 1, 0, none⟩ = false ∧ W.frozen? ⟨w.heap.size + 1, 1, none⟩ = false ∧ W.frozen? ⟨w.heap.size + 1, 2, none⟩ = false := (h.at' 1 x rfl).cells
theorem Bs.c2 {w W : World} {y z x : Sp} {xs : List Sp} (h : Bs w W (y :: z :: x :: xs)) : W.cell? ⟨w.heap.size + 2, 0, none⟩ = some (.int .i64 x.lo) ∧ W.cell? ⟨w.heap.size + 2, 1, none⟩ = some (.int .i64 x.hi) ∧ W.cell? ⟨w.heap.size + 2, 2, none⟩ = some (.bool x.all) ∧ W.frozen? ⟨w.heap.size + 2, 0, none⟩ = false ∧ W.frozen? ⟨w.heap.size + 2, 1, none⟩ = false ∧ W.frozen? ⟨w.heap.size + 2, 2, none⟩ = false := (h.at' 2 x rfl).cells
/-- A span is handed back, and nothing that was there has turned. -/
def PSp (x : Sp) (w : World) (e : Ending) (w' : World) : Prop := e = .returned (.agg #[.int .i64 x.lo, .int .i64 x.hi, .bool x.all]) ∧ Below w.heap.size w w'
/-- Are two spans' fields the same? -/
def eqS (a b : Int) (c : Bool) (a' b' : Int) (c' : Bool) : Bool := a == a' && (b == b' && c == c')
theorem run_eqS (a b : Int) (c : Bool) (a' b' : Int) (c' : Bool) (w : World) : (Op.equalIn 10000 23 (.agg #[.int .i64 a, .int .i64 b, .bool c]) (.agg #[.int .i64 a', .int .i64 b', .bool c'])).run Try.prog w = .ok (eqS a b c a' b' c') w := by
  have ht : Try.prog.underlying 23 = some (.struct (Try.prog.fieldsOf 23)) := by kernel_rfl
  have hp : Try.prog.stoodInHeld 23 = false := by kernel_rfl
  have u1 := Try.underlying2
  have u2 := Try.underlying4
  have a1 := Try.isAgg2
  have a2 := Try.isAgg4
  have z1 := Try.sizeOf2
  have z2 := Try.sizeOf4
  rw [show (10000 : Nat) = 9999 + 1 from rfl, run_equalIn_struct w 9999 23 _ _ ht hp]
  simp only [Program.fieldsOf, Try.underlying23]
  unfold eqS
  go_simp
  by_cases h1 : a = a' <;> by_cases h2 : b = b' <;> cases c <;> cases c' <;> simp [h1, h2]
theorem run_eqlS (a b : Int) (c : Bool) (a' b' : Int) (c' : Bool) (w : World) : (binOp .eql 23 (.agg #[.int .i64 a, .int .i64 b, .bool c]) (.agg #[.int .i64 a', .int .i64 b', .bool c'])).run Try.prog w = .ok (.bool (eqS a b c a' b' c')) w := by
  rw [run_eql_struct, run_eqS]
  rfl
theorem run_neqS (a b : Int) (c : Bool) (a' b' : Int) (c' : Bool) (w : World) : (binOp .neq 23 (.agg #[.int .i64 a, .int .i64 b, .bool c]) (.agg #[.int .i64 a', .int .i64 b', .bool c'])).run Try.prog w = .ok (.bool (!eqS a b c a' b' c')) w := by
  rw [run_neq_struct, run_eqS]
  rfl
end Go.Proofs.Ytpahkpcoinbgcaa

/- Variables of spans, wherever they lie. No statement of the seat is proved here. -/
namespace Go.Proofs.Ytpahkpcoinbgcaa
open Go Go.RowKit

section
variable {P : Program}
def OpZ (P : Program) (Q : Exit → Act → World → Prop) (o : Oper) (ops : Array Oper) (A : Act) (VP : Nat → Value → World → Prop) (J : World → Prop) (n i : Nat) (u : Nat → Value) (W : World) : Prop :=
  (Region.wanted o (yielded ops A.tmps) = false ∧ VP i undef W) ∨
  (Region.wanted o (yielded ops A.tmps) = true ∧ ∀ K' : Act → World → Prop, (∀ v W', J W' → VP i v W' → (∀ j, j < n → VP j (u j) W → VP j (u j) W') → K' (A.put o.dst v) W') → Oper.wp P o A W K' Q)
theorem wp_region_z {Q : Exit → Act → World → Prop} {id : Nat} {a : Act} {w : World} {l : List Oper} (n : Nat) (ds : List (Option Tmp)) (VP : Nat → Value → World → Prop) (J : World → Prop) (hm : P.follows .mixedOrders = true) (hB : tailsB2 .any l.toArray n = true) (hds : ds = (l.take n).map (·.dst)) (hs : slotsB ds = true)
    (hz : ds.all (fun d => match d with | some t => decide (t < a.tmps.size) | none => true) = true)
    (h0 : J w.drew)
    (step : ∀ i (hi : i < l.length), i < n → ∀ (u : Nat → Value) (W : World) (A : Act), J W → (∀ j, j < n → Region.waitsFor .any l.toArray i j = true → VP j (u j) W) →
      (∀ t, some t ∉ ds → A.tmps[t]? = a.tmps[t]?) → (∀ j d, ds[j]? = some (some d) → A.tmps[d]? = some (u j)) → OpZ P Q l[i] l.toArray A VP J n i u W)
    (fin : ∀ (u : Nat → Value) (W : World), J W → (∀ j, j < n → VP j (u j) W) → wpList P l.toArray Q (l.drop n) (layS a ds u 0) W) : (Code.region id l.toArray true).wp P Q a w := by
  have hl : n ≤ l.length := by
    have hB' := hB
    unfold tailsB2 at hB'
    simp only [Bool.and_eq_true, decide_eq_true_eq] at hB'
    simpa using hB'.1.1.1
  have hlen : ds.length = n := by rw [hds]; simp; omega
  refine wp_region_inv2 n (fun L a' W => ∃ u : Nat → Value, J W ∧ (∀ j, j < n → L j = true → VP j (u j) W) ∧ a' = layS a ds u 0) hm hB ⟨fun k => ((ds.getD k none).map fun t => a.tmps.getD t undef).getD undef, h0, nofun, ?_⟩ ?_ ?_
  · refine (layS_self a ds _ 0 (fun j d hj => ?_)).symm
    have : ds.getD (0 + j) none = d := by rw [Nat.zero_add, List.getD_eq_getElem?_getD, hj]; rfl
    rw [this]
  · rintro L a' W i hi ⟨u, hJ, hu, rfl⟩ _ hw
    have hil : i < l.length := Nat.lt_of_lt_of_le hi hl
    have hid : ds[i]? = some l[i].dst := by
      rw [hds]
      simp [List.getElem?_take, hi, hil]
    have hinn : ∀ j d, ds[j]? = some (some d) → (layS a ds u 0).tmps[d]? = some (u j) := by
      intro j d hj
      have hd' : d < a.tmps.size := by
        have := List.all_eq_true.1 hz _ (List.mem_of_getElem? hj)
        simpa using this
      have h1 := layS_in ds a u 0 j d hs hj hd'
      rwa [Nat.zero_add] at h1
    refine wpOp_step (o := l[i]) (by simp [hil]) (fun K' hK => ?_)
    have key : ∀ W' v, J W' → VP i v W' → (∀ j, j < n → VP j (u j) W → VP j (u j) W') → K' ((layS a ds u 0).put l[i].dst v) W' := by
      intro W' v hj hv hb
      rw [layS_put hs hid]
      refine hK _ _ ⟨updV u i v, hj, fun j hjn hLj => ?_, rfl⟩
      unfold updV
      by_cases h : j = i
      · rw [if_pos h, h]; exact hv
      · rw [if_neg h]
        rw [upd_ne h] at hLj
        exact hb j hjn (hu j hjn hLj)
    rcases step i hil hi u W _ hJ (fun j hjn hj => hu j hjn (hw j hj)) (fun t ht => layS_out _ _ _ _ _ ht) hinn with ⟨h1, h2⟩ | ⟨h1, h2⟩
    · rw [if_neg (by rw [h1]; decide)]
      exact key W undef hJ h2 (fun _ _ h => h)
    · rw [if_pos h1]
      exact h2 K' (fun v W' hj hv hb => key W' v hj hv hb)
  · rintro a' W ⟨L, hL, u, hJ, hu, rfl⟩
    exact fin u W hJ (fun j hj => hu j hj (hL j hj))
end
/-- What an operation gives, when values are known, or are new variables, or nothing. -/
inductive VK where
  | eq (v : Value)
  | box
  | any

structure Bl (w W : World) (l : List (Nat × Sp)) : Prop where
  below : Below w.heap.size w W
  at' : ∀ p, p ∈ l → B3 W p.1 p.2
theorem bl_nil (w : World) : Bl w w [] := ⟨Below.refl _ _, nofun⟩
theorem Bl.later {w W W' : World} {l : List (Nat × Sp)} (h : Bl w W l) (hb : Below W.heap.size W W') : Bl w W' l := ⟨h.below.trans (hb.mono h.below.size), fun p hp => (h.at' p hp).below hb⟩
theorem Bl.drew {w W : World} {l : List (Nat × Sp)} (h : Bl w W l) : Bl w W.drew l := ⟨h.below.drew, h.at'⟩
theorem Bl.new {w W : World} {l : List (Nat × Sp)} (h : Bl w W l) (x : Sp) : Bl w (W.alloc (.cells #[.int .i64 x.lo, .int .i64 x.hi, .bool x.all] 23)) ((W.heap.size, x) :: l) := by
  have hb : Below W.heap.size W (W.alloc (.cells #[.int .i64 x.lo, .int .i64 x.hi, .bool x.all] 23)) := (Below.refl _ _).alloc (Nat.le_refl _) _
  refine ⟨(h.later hb).below, fun p hp => ?_⟩
  rcases List.mem_cons.1 hp with rfl | hp
  · exact b3_new W x
  · exact (h.later hb).at' p hp
theorem Bl.lt {w W : World} {l : List (Nat × Sp)} (h : Bl w W l) : ∀ p, p ∈ l → p.1 < W.heap.size := fun p hp => (Array.getElem?_eq_some_iff.1 (h.at' p hp)).1
/-- In a region: the variables, all of them ahead of m. -/
structure Bm (w : World) (m : Nat) (l : List (Nat × Sp)) (W : World) : Prop where
  bl : Bl w W l
  le : m ≤ W.heap.size
  lt : ∀ p, p ∈ l → p.1 < m
  ge : w.heap.size ≤ m
theorem Bl.bm {w W : World} {l : List (Nat × Sp)} (h : Bl w W l) : Bm w W.heap.size l W.drew := ⟨h.drew, Nat.le_refl _, h.lt, h.below.size⟩
theorem Bm.later {w W W' : World} {m : Nat} {l : List (Nat × Sp)} (h : Bm w m l W) (hb : Below W.heap.size W W') : Bm w m l W' := ⟨h.bl.later hb, Nat.le_trans h.le hb.size, h.lt, h.ge⟩
theorem Bm.far {w W : World} {m b : Nat} {l : List (Nat × Sp)} (h : Bm w m l W) (hb : m ≤ b) (x y z : Value) : Bm w m l (((W.setCell ⟨b, 0, none⟩ x).setCell ⟨b, 1, none⟩ y).setCell ⟨b, 2, none⟩ z) := by
  have h1 := h.le
  have h2 := h.ge
  refine ⟨⟨((h.bl.below.setCell (p := ⟨b, 0, none⟩) (by show w.heap.size ≤ b; omega) _).setCell (p := ⟨b, 1, none⟩) (by show w.heap.size ≤ b; omega) _).setCell (p := ⟨b, 2, none⟩) (by show w.heap.size ≤ b; omega) _, fun p hp => (h.bl.at' p hp).other (by have := h.lt p hp; omega) _ _ _⟩, ?_, h.lt, h.ge⟩
  rw [World.size_setCell, World.size_setCell, World.size_setCell]
  exact h1
/-- A value is a new variable's place. -/
def Pbox (m : Nat) (v : Value) (W : World) : Prop := ∃ (b : Nat) (x : Sp), v = .pointer (some ⟨b, 0, none⟩) ∧ m ≤ b ∧ B3 W b x
theorem Pbox.later {m : Nat} {v : Value} {W W' : World} (h : Pbox m v W) (hb : Below W.heap.size W W') : Pbox m v W' := by
  obtain ⟨b, x, e, h1, h2⟩ := h
  exact ⟨b, x, e, h1, h2.below hb⟩
theorem pbox_new {m : Nat} {W : World} (h : m ≤ W.heap.size) : Pbox m (.pointer (some ⟨W.heap.size, 0, none⟩)) (W.alloc (.cells #[.int .i64 0, .int .i64 0, .bool false] 23)) := ⟨_, ⟨0, 0, false⟩, rfl, h, b3_new W ⟨0, 0, false⟩⟩
/-- What is known of an operation's value, by its kind. -/
def vkP (m : Nat) : VK → Value → World → Prop
  | .eq c, v, _ => v = c
  | .box, v, W => Pbox m v W
  | .any, _, _ => True
def vkL (m : Nat) (ks : List VK) (j : Nat) : Value → World → Prop := vkP m (ks.getD j .any)
theorem vk_later {m : Nat} {k : VK} {v : Value} {W W' : World} (h : vkP m k v W) (hb : Below W.heap.size W W') : vkP m k v W' := by
  cases k with
  | eq c => exact h
  | box => exact Pbox.later h hb
  | any => trivial
theorem vkL_later {m n : Nat} {ks : List VK} {u : Nat → Value} {W W' : World} (hb : Below W.heap.size W W') : ∀ j, j < n → vkL m ks j (u j) W → vkL m ks j (u j) W' := fun _ _ h => vk_later h hb
theorem vkL_same {m n : Nat} {ks : List VK} {u : Nat → Value} {W : World} : ∀ j, j < n → vkL m ks j (u j) W → vkL m ks j (u j) W := fun _ _ h => h
theorem B3.any {W : World} {k b : Nat} {x y : Sp} (h : B3 W k x) (h' : B3 W b y) (z : Sp) : ∃ x', B3 (((W.setCell ⟨b, 0, none⟩ (.int .i64 z.lo)).setCell ⟨b, 1, none⟩ (.int .i64 z.hi)).setCell ⟨b, 2, none⟩ (.bool z.all)) k x' := by
  by_cases e : k = b
  · subst e; exact ⟨z, h.self z⟩
  · exact ⟨x, h.other e _ _ _⟩
theorem vkL_store {m n b : Nat} {ks : List VK} {u : Nat → Value} {W : World} {y : Sp} (hb : B3 W b y) (z : Sp) : ∀ j, j < n → vkL m ks j (u j) W → vkL m ks j (u j) (((W.setCell ⟨b, 0, none⟩ (.int .i64 z.lo)).setCell ⟨b, 1, none⟩ (.int .i64 z.hi)).setCell ⟨b, 2, none⟩ (.bool z.all)) := by
  intro j _ h
  unfold vkL at *
  generalize ks.getD j .any = k at *
  cases k with
  | eq c => exact h
  | box =>
    obtain ⟨k, x, e, h1, h2⟩ := h
    obtain ⟨x', h3⟩ := h2.any hb z
    exact ⟨k, x', e, h1, h3⟩
  | any => trivial
theorem bl_put {w W : World} {m b : Nat} {l : List (Nat × Sp)} (h : Bm w m l W) (hb : m ≤ b) {y : Sp} (hB : B3 W b y) (z : Sp) : Bl w (((W.setCell ⟨b, 0, none⟩ (.int .i64 z.lo)).setCell ⟨b, 1, none⟩ (.int .i64 z.hi)).setCell ⟨b, 2, none⟩ (.bool z.all)) ((b, z) :: l) := by
  have h1 := (h.far hb (.int .i64 z.lo) (.int .i64 z.hi) (.bool z.all)).bl
  refine ⟨h1.below, fun p hp => ?_⟩
  rcases List.mem_cons.1 hp with rfl | hp
  · exact hB.self z
  · exact h1.at' p hp
end Go.Proofs.Ytpahkpcoinbgcaa
