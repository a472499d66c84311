/- Parts of the proof. -/
import Derived.Test.YtpahkpcoinbgcaaGa3
import Derived.Test.YtpahkpcoinbgcaaGa9
import Derived.Test.YtpahkpcoinbgcaaGa1
import Derived.IntWalk
import Derived.Test.YtpahkpcoinbgcaaGa2
import Derived.Test.YtpahkpcoinbgcaaGa4
import Derived.Test.YtpahkpcoinbgcaaGa8
import Derived.LoopN
/- Spans that hold fractions; what is enclosed holds the sum of 13 terms. No statement of the seat is proved here. -/
namespace Go.Proofs.Ytpahkpcoinbgcaa
open Go.RowKit
/-- The sums over any measure q of the number p. -/
def mQ (q : Nat) (c k : Nat) : Nat := q * grN (c + 2 * k) 2
def hV (q : Nat) (c : Nat) (p : Int) : Nat → Int
 | 0 => 1
 | k + 1 => hV q c p k * (mQ q c k : Nat) + (-p) ^ (k + 1)
theorem pw_nonneg {m : Int} (h : 0 ≤ m) : ∀ j : Nat, 0 ≤ m ^ j
 | 0 => by rw [Int.pow_zero]; decide
 | j + 1 => by rw [Int.pow_succ]; exact Int.mul_nonneg (pw_nonneg h j) h
theorem dd {m n : Int} (h0 : 0 ≤ m) (h : m ≤ n) : ∀ j : Nat, 0 ≤ n ^ j - m ^ j ∧ (n - m) * m ^ j ≤ n ^ (j + 1) - m ^ (j + 1)
 | 0 => by simp [Int.pow_succ]
 | j + 1 => by
  obtain ⟨h1, h2⟩ := dd h0 h j
  have h3 : 0 ≤ (n - m) * m ^ j := Int.mul_nonneg (by omega) (pw_nonneg h0 j)
  refine ⟨by omega, ?_⟩
  have e : n ^ (j + 1 + 1) - m ^ (j + 1 + 1) = (n - m) * m ^ (j + 1) + n * (n ^ (j + 1) - m ^ (j + 1)) := by
   rw [Int.pow_succ n (j + 1), Int.pow_succ m (j + 1), Int.sub_mul, Int.mul_sub, Int.mul_comm (n ^ (j + 1)) n, Int.mul_comm (m ^ (j + 1)) m]
   omega
  have h4 : 0 ≤ n * (n ^ (j + 1) - m ^ (j + 1)) := Int.mul_nonneg (by omega) (by omega)
  omega
theorem le_of_mul {a b u : Int} (h : a * u ≤ b * u) (hu : 0 < u) : a ≤ b := Int.le_of_mul_le_mul_right h hu
/-- A fraction is in a span. -/
def Rin (x : Sp) (N U : Int) : Prop := x.lo * U ≤ N ∧ N ≤ x.hi * U
theorem rin_add {x y : Sp} {N M U : Int} (h : okB (addS x y) = true) (hx : Rin x N U) (hy : Rin y M U) : Rin (addS x y) (N + M) U := by
 rcases add_cases x y with e | ⟨_, _, _, e⟩
 ·
  rw [e] at h; cases h
 ·
  rw [e]
  obtain ⟨a, b⟩ := hx
  obtain ⟨c, d⟩ := hy
  constructor
  ·
   show (x.lo + y.lo) * U ≤ _
   rw [Int.add_mul]; omega
  ·
   show _ ≤ (x.hi + y.hi) * U
   rw [Int.add_mul]; omega
theorem rin_neg {x : Sp} {N U : Int} (hk : okB x = true) (hx : Rin x N U) : Rin (negS x) (-N) U := by
 have e : negS x = ⟨-x.hi, -x.lo, false⟩ := by unfold negS; rw [hk]; rfl
 rw [e]
 obtain ⟨a, b⟩ := hx
 constructor
 ·
  show -x.hi * U ≤ _
  rw [Int.neg_mul]; omega
 ·
  show _ ≤ -x.lo * U
  rw [Int.neg_mul]; omega
theorem neg_ok {x : Sp} (hk : okB x = true) : okB (negS x) = true := by
 have e : negS x = ⟨-x.hi, -x.lo, false⟩ := by unfold negS; rw [hk]; rfl
 have k := ok_of hk
 rw [e]
 exact ok_mk (by show _ ≤ -x.hi; omega) (by show -x.hi ≤ -x.lo; omega) (by show -x.lo ≤ _; omega) rfl
theorem rin_sub {x y : Sp} {N M U : Int} (h : okB (subS x y) = true) (hx : Rin x N U) (hy : Rin y M U) : Rin (subS x y) (N - M) U := by
 have hk : okB y = true := by
  rcases add_cases x (negS y) with e | ⟨_, _, h2, _⟩
  ·
   unfold subS at h; rw [e] at h; cases h
  ·
   cases hy : okB y
   ·
    unfold negS at h2; rw [hy] at h2; cases h2
   ·
    rfl
 have := rin_add h hx (rin_neg hk hy)
 rwa [← Int.sub_eq_add_neg] at this
theorem rin_sqr {x : Sp} {N U : Int} (h : okB (sqrS x) = true) (hU : 0 < U) (hx : Rin x N U) : Rin (sqrS x) (N * N) (U * U * 1048576) := by
 have hk : okB x = true := by
  rcases sqr_cases x with e | ⟨_, h2, _⟩
  ·
   rw [e] at h; cases h
  ·
   exact h2
 have k := (ok_of hk).2.1
 have s1 := sqr_holds h (Int.le_refl x.lo) k
 have s2 := sqr_holds h k (Int.le_refl x.hi)
 have hUU : 0 ≤ U * U := Int.mul_nonneg (by omega) (by omega)
 have g1 := Int.mul_le_mul_of_nonneg_right s1.1 hUU
 have g2 := Int.mul_le_mul_of_nonneg_right s1.2 hUU
 have g3 := Int.mul_le_mul_of_nonneg_right s2.1 hUU
 have g4 := Int.mul_le_mul_of_nonneg_right s2.2 hUU
 have e1 : x.lo * U * (x.lo * U) = x.lo * x.lo * (U * U) := by ac_rfl
 have e2 : x.hi * U * (x.hi * U) = x.hi * x.hi * (U * U) := by ac_rfl
 have e3 : (sqrS x).lo * (U * U * 1048576) = (sqrS x).lo * 1048576 * (U * U) := by ac_rfl
 have e4 : (sqrS x).hi * (U * U * 1048576) = (sqrS x).hi * 1048576 * (U * U) := by ac_rfl
 have t1 := sqr_hold1 hx.1 hx.2
 rw [e1, e2] at t1
 constructor
 ·
  rw [e3]
  by_cases h0 : x.lo ≤ 0 ∧ 0 ≤ x.hi
  ·
   have s3 := (sqr_holds h h0.1 h0.2).1
   have g5 := Int.mul_le_mul_of_nonneg_right s3 hUU
   have := sq_pos N
   simp only [Int.mul_zero, Int.zero_mul] at g5
   omega
  ·
   have t2 := sqr_hold2 hx.1 hx.2 (by
    rcases Int.lt_or_le 0 x.lo with q | q
    ·
     exact .inl (Int.mul_pos q hU)
    ·
     refine .inr ?_
     have : x.hi < 0 := by omega
     exact Int.mul_neg_of_neg_of_pos this hU)
   rw [e1, e2] at t2
   omega
 ·
  rw [e4]
  omega
theorem rin_mulS {x y : Sp} {N M U V : Int} (h : okB (mulS x y) = true) (hU : 0 < U) (hV : 0 < V) (hx : Rin x N U) (hy : Rin y M V) : Rin (mulS x y) (N * M) (U * V * 1048576) := by
 obtain ⟨kx, ky⟩ : okB x = true ∧ okB y = true := by
  rcases mul_cases x y with e | ⟨_, h1, h2, _⟩
  ·
   rw [e] at h; cases h
  ·
   exact ⟨h1, h2⟩
 have k1 := (ok_of kx).2.1
 have k2 := (ok_of ky).2.1
 have hUV : 0 ≤ U * V := Int.mul_nonneg (by omega) (by omega)
 have B := bil (x := ⟨x.lo * U, x.hi * U, false⟩) (y := ⟨y.lo * V, y.hi * V, false⟩) hx.1 hx.2 hy.1 hy.2
 have c : ∀ a b : Int, a * U * (b * V) = a * b * (U * V) := fun a b => by ac_rfl
 unfold min4 max4 at B
 simp only [c] at B
 have m1 := mul_holds h (Int.le_refl x.lo) k1 (Int.le_refl y.lo) k2
 have m2 := mul_holds h (Int.le_refl x.lo) k1 k2 (Int.le_refl y.hi)
 have m3 := mul_holds h k1 (Int.le_refl x.hi) (Int.le_refl y.lo) k2
 have m4 := mul_holds h k1 (Int.le_refl x.hi) k2 (Int.le_refl y.hi)
 have q : ∀ {a b : Int}, a ≤ b → a * (U * V) ≤ b * (U * V) := fun h => Int.mul_le_mul_of_nonneg_right h hUV
 have a1 := q m1.1
 have a2 := q m2.1
 have a3 := q m3.1
 have a4 := q m4.1
 have b1 := q m1.2
 have b2 := q m2.2
 have b3 := q m3.2
 have b4 := q m4.2
 have e3 : (mulS x y).lo * (U * V * 1048576) = (mulS x y).lo * 1048576 * (U * V) := by ac_rfl
 have e4 : (mulS x y).hi * (U * V * 1048576) = (mulS x y).hi * 1048576 * (U * V) := by ac_rfl
 constructor
 ·
  rw [e3]; omega
 ·
  rw [e4]; omega
end Go.Proofs.Ytpahkpcoinbgcaa

/- The document's numbers by their names: contracts; variables of two numbers. No statement of the seat is proved here. -/
namespace Go.Proofs.Ytpahkpcoinbgcaa
open Go Go.RowKit
theorem NR.below {p : NR} {W W' : World} (h : p.is W) (hb : Below W.heap.size W W') : p.is W' := RNum.below h hb
/-- A variable of two numbers. -/
def F4 (W : World) (T : TypeId) (k : Nat) (p q : NR) : Prop := W.heap[k]? = some (.cells #[.bool p.b, .slice p.a p.n p.c, .bool q.b, .slice q.a q.n q.c] T (0, 0))
theorem F4.below {W W' : World} {T : TypeId} {k : Nat} {p q : NR} (h : F4 W T k p q) (hb : Below W.heap.size W W') : F4 W' T k p q := by
 unfold F4 at h ⊢
 rw [hb.block _ (Array.getElem?_eq_some_iff.1 h).1]
 exact h
theorem F4.cells {W : World} {T : TypeId} {k : Nat} {p q : NR} (h : F4 W T k p q) : W.cell? ⟨k, 0, none⟩ = some (.bool p.b) ∧ W.cell? ⟨k, 1, none⟩ = some (.slice p.a p.n p.c) ∧ W.cell? ⟨k, 2, none⟩ = some (.bool q.b) ∧ W.cell? ⟨k, 3, none⟩ = some (.slice q.a q.n q.c) ∧ W.frozen? ⟨k, 0, none⟩ = false ∧ W.frozen? ⟨k, 1, none⟩ = false ∧ W.frozen? ⟨k, 2, none⟩ = false ∧ W.frozen? ⟨k, 3, none⟩ = false := by
 unfold F4 at h
 refine ⟨?_, ?_, ?_, ?_, ?_, ?_, ?_, ?_⟩ <;> simp [World.cell?, World.frozen?, h]
theorem F4.far {W : World} {T : TypeId} {k j o o' : Nat} {p q : NR} (h : F4 W T k p q) (hne : k ≠ j) (x y : Value) : F4 ((W.setCell ⟨j, o, none⟩ x).setCell ⟨j, o', none⟩ y) T k p q := by
 unfold F4 at h ⊢
 rw [heap_set_ne _ _ hne, heap_set_ne _ _ hne]
 exact h
end Go.Proofs.Ytpahkpcoinbgcaa

/- The document's spans: the walk of tight. No statement of the seat is proved here. -/
namespace Go.Proofs.Ytpahkpcoinbgcaa
open Go Go.RowKit
/-- The tightest span of all from x / k to y / k. -/
def tightS (x y k : Int) : Sp := if x / k < -2147483647 ∨ -y / k < -2147483647 ∨ 2147483647 < x / k ∨ 2147483647 < -y / k then lineS else ⟨x / k, -(-y / k), false⟩
theorem Cs.box {w W : World} {l : List (Nat × Array Value × TypeId)} {ns : List NR} (h : Cs w W l ns) {k : Nat} {x y : Value} {T : TypeId} (hb : Bx W T k x y) : Cs w W ((k, #[x, y], T) :: l) ns := ⟨h.below, fun p hp => by
 rcases List.mem_cons.1 hp with rfl | hp
 ·
  exact hb
 ·
  exact h.at' p hp, h.num⟩
end Go.Proofs.Ytpahkpcoinbgcaa

/- The document's spans: the walks of Neg, Add, Sub. No statement of the seat is proved here. -/
namespace Go.Proofs.Ytpahkpcoinbgcaa
open Go Go.RowKit
theorem add_tight {x y : Sp} (hx : okB x = true) (hy : okB y = true) : addS x y = tightS (x.lo + y.lo) (x.hi + y.hi) 1 := by
 have kx := ok_of hx
 have ky := ok_of hy
 unfold tightS
 rw [Int.ediv_one, Int.ediv_one, Int.neg_neg]
 rcases add_cases x y with e | ⟨h, _, _, e⟩
 ·
  rw [e]
  by_cases g : x.lo + y.lo < -2147483647 ∨ -(x.hi + y.hi) < -2147483647 ∨ 2147483647 < x.lo + y.lo ∨ 2147483647 < -(x.hi + y.hi)
  ·
   rw [if_pos g]
  ·
   exfalso
   have c : ∀ a b : Int, -2147483647 ≤ a + b → a + b ≤ 2147483647 → okB (addR a b) = true := by
    intro a b q1 q2
    unfold addR
    rw [okB_mk]
    exact ok_mk q1 (Int.le_refl _) q2 rfl
   have := ends_ok (R := addR) hx hy (c _ _ (by omega) (by omega)) (c _ _ (by omega) (by omega)) (c _ _ (by omega) (by omega)) (c _ _ (by omega) (by omega))
   rw [show endsS addR x y = lineS from e] at this
   cases congrArg Sp.all this
 ·
  have k := ok_of h
  rw [e] at k
  replace k : -2147483647 ≤ x.lo + y.lo ∧ x.lo + y.lo ≤ x.hi + y.hi ∧ x.hi + y.hi ≤ 2147483647 := ⟨k.1, k.2.1, k.2.2.1⟩
  rw [e, if_neg (by omega)]
end Go.Proofs.Ytpahkpcoinbgcaa

/- The document's spans: the walk of four. No statement of the seat is proved here. -/
namespace Go.Proofs.Ytpahkpcoinbgcaa
open Go Go.RowKit
/-- The variables of four: the row, the least, the greatest, the results'. -/
structure FJ (w W : World) (kr : Nat) (n0 n1 n2 n3 p q : NR) : Prop where
 cs : Cs w W [(kr + 2, #[.bool q.b, .slice q.a q.n q.c], 71), (kr + 1, #[.bool p.b, .slice p.a p.n p.c], 71), (kr, #[.bool n0.b, .slice n0.a n0.n n0.c, .bool n1.b, .slice n1.a n1.n n1.c, .bool n2.b, .slice n2.a n2.n n2.c, .bool n3.b, .slice n3.a n3.n n3.c], 71), (w.heap.size + 3, #[.bool false, .slice none 0 0], 71), (w.heap.size + 2, #[.bool false, .slice none 0 0], 71)] [q, p, n0, n1, n2, n3]
 ge : w.heap.size + 3 < kr
theorem FJ.later {w W W' : World} {kr : Nat} {n0 n1 n2 n3 p q : NR} (h : FJ w W kr n0 n1 n2 n3 p q) (hb : Below W.heap.size W W') : FJ w W' kr n0 n1 n2 n3 p q := ⟨h.cs.later hb, h.ge⟩
end Go.Proofs.Ytpahkpcoinbgcaa

/- The document's spans: the walk of Mul. No statement of the seat is proved here. -/
namespace Go.Proofs.Ytpahkpcoinbgcaa
open Go Go.RowKit
theorem mul_tight {x y : Sp} (hx : okB x = true) (hy : okB y = true) : mulS x y = tightS (min4 x y) (max4 x y) 1048576 := by
 have corner : ∀ a b : Int, min4 x y ≤ a * b → a * b ≤ max4 x y → ¬ (min4 x y / 1048576 < -2147483647 ∨ -max4 x y / 1048576 < -2147483647 ∨ 2147483647 < min4 x y / 1048576 ∨ 2147483647 < -max4 x y / 1048576) → okB (mulR a b) = true := by
  intro a b h1 h2 h3
  unfold mulR
  rw [okB_mk]
  generalize a * b = P at *
  generalize min4 x y = m at *
  generalize max4 x y = M at *
  exact ok_mk (by show _ ≤ P / 1048576; omega) (by show P / 1048576 ≤ -(-P / 1048576); omega) (by show -(-P / 1048576) ≤ _; omega) rfl
 unfold tightS
 rcases mul_cases x y with e | ⟨h, _, _, e⟩
 ·
  rw [e]
  by_cases g : min4 x y / 1048576 < -2147483647 ∨ -max4 x y / 1048576 < -2147483647 ∨ 2147483647 < min4 x y / 1048576 ∨ 2147483647 < -max4 x y / 1048576
  ·
   rw [if_pos g]
  ·
   exfalso
   have c : ∀ a b : Int, min4 x y ≤ a * b ∧ a * b ≤ max4 x y → okB (mulR a b) = true := fun a b h => corner a b h.1 h.2 g
   have k1 := (ok_of hx).2.1
   have k2 := (ok_of hy).2.1
   have := ends_ok (R := mulR) hx hy (c _ _ (bil (Int.le_refl _) k1 (Int.le_refl _) k2)) (c _ _ (bil (Int.le_refl _) k1 k2 (Int.le_refl _))) (c _ _ (bil k1 (Int.le_refl _) (Int.le_refl _) k2)) (c _ _ (bil k1 (Int.le_refl _) k2 (Int.le_refl _)))
   rw [show endsS mulR x y = lineS from e] at this
   cases congrArg Sp.all this
 ·
  have k := ok_of h
  rw [e] at k
  replace k : -2147483647 ≤ min4 x y / 1048576 ∧ min4 x y / 1048576 ≤ -(-max4 x y / 1048576) ∧ -(-max4 x y / 1048576) ≤ 2147483647 := ⟨k.1, k.2.1, k.2.2.1⟩
  rw [e, if_neg (by omega)]
end Go.Proofs.Ytpahkpcoinbgcaa

/- Vectors of three spans, as numbers (no walk). No statement of the seat is proved here. -/
namespace Go.Proofs.Ytpahkpcoinbgcaa
open Go.RowKit
/-- A vector, by its parts. -/
structure Vc where
 x : Sp
 y : Sp
 z : Sp
def addV (v w : Vc) : Vc := ⟨addS v.x w.x, addS v.y w.y, addS v.z w.z⟩
def subV (v w : Vc) : Vc := ⟨subS v.x w.x, subS v.y w.y, subS v.z w.z⟩
def sumV (v : Vc) : Sp := addS (addS v.x v.y) v.z
def mulV (v w : Vc) : Vc := ⟨mulS v.x w.x, mulS v.y w.y, mulS v.z w.z⟩
def dotV (v w : Vc) : Sp := sumV (mulV v w)
def crossV (v w : Vc) : Vc := ⟨subS (mulS v.y w.z) (mulS v.z w.y), subS (mulS v.z w.x) (mulS v.x w.z), subS (mulS v.x w.y) (mulS v.y w.x)⟩
def sqrV (v : Vc) : Vc := ⟨sqrS v.x, sqrS v.y, sqrS v.z⟩
def normV (v : Vc) : Sp := sumV (sqrV v)
def inV (v w : Vc) : Bool := inB v.x w.x && (inB v.y w.y && inB v.z w.z)
def radV (v : Vc) : Int := max (max (radS v.x) (radS v.y)) (radS v.z)
def ofV (a b c : Int) : Vc := ⟨ofS a a, ofS b b, ofS c c⟩
/-- A fraction is in a span, or it is the whole line. -/
def Rw (x : Sp) (N U : Int) : Prop := okB x = true → Rin x N U
theorem add_oks {x y : Sp} (h : okB (addS x y) = true) : okB x = true ∧ okB y = true := by
 rcases add_cases x y with e | ⟨_, h1, h2, _⟩
 ·
  rw [e] at h; cases h
 ·
  exact ⟨h1, h2⟩
theorem neg_oks {x : Sp} (h : okB (negS x) = true) : okB x = true := by
 cases hx : okB x
 ·
  unfold negS at h; rw [hx] at h; cases h
 ·
  rfl
theorem sub_oks {x y : Sp} (h : okB (subS x y) = true) : okB x = true ∧ okB y = true := ⟨(add_oks h).1, neg_oks (add_oks h).2⟩
theorem mul_oks {x y : Sp} (h : okB (mulS x y) = true) : okB x = true ∧ okB y = true := by
 rcases mul_cases x y with e | ⟨_, h1, h2, _⟩
 ·
  rw [e] at h; cases h
 ·
  exact ⟨h1, h2⟩
theorem sqr_oks {x : Sp} (h : okB (sqrS x) = true) : okB x = true := by
 rcases sqr_cases x with e | ⟨_, h2, _⟩
 ·
  rw [e] at h; cases h
 ·
  exact h2
theorem rw_add {x y : Sp} {N M U : Int} (hx : Rw x N U) (hy : Rw y M U) : Rw (addS x y) (N + M) U := fun h => rin_add h (hx (add_oks h).1) (hy (add_oks h).2)
theorem rw_sub {x y : Sp} {N M U : Int} (hx : Rw x N U) (hy : Rw y M U) : Rw (subS x y) (N - M) U := fun h => rin_sub h (hx (sub_oks h).1) (hy (sub_oks h).2)
theorem rw_mul {x y : Sp} {N M U V : Int} (hU : 0 < U) (hV : 0 < V) (hx : Rw x N U) (hy : Rw y M V) : Rw (mulS x y) (N * M) (U * V * 1048576) := fun h => rin_mulS h hU hV (hx (mul_oks h).1) (hy (mul_oks h).2)
theorem rw_sqr {x : Sp} {N U : Int} (hU : 0 < U) (hx : Rw x N U) : Rw (sqrS x) (N * N) (U * U * 1048576) := fun h => rin_sqr h hU (hx (sqr_oks h))
theorem rw_has {x : Sp} {a : Int} (h : hasB x a = true) : Rw x a 1 := by
 intro hk
 unfold hasB at h
 rw [hk] at h
 simp only [Bool.not_true, Bool.false_or, Bool.and_eq_true, decide_eq_true_eq] at h
 exact ⟨by omega, by omega⟩
theorem rw_pt (x : Sp) : Rw x x.lo 1 := by
 intro hk
 have := ok_of hk
 exact ⟨by omega, by omega⟩
theorem has_rw {x : Sp} {U : Int} (hU : 0 < U) (h : Rw x 0 U) : hasB x 0 = true := by
 unfold hasB
 cases hk : okB x
 ·
  rfl
 ·
  obtain ⟨h1, h2⟩ := h hk
  simp only [Bool.not_true, Bool.false_or, Bool.and_eq_true, decide_eq_true_eq]
  constructor
  ·
   refine Int.le_of_not_gt fun hc => ?_
   have := Int.mul_pos hc hU
   omega
  ·
   refine Int.le_of_not_gt fun hc => ?_
   have := Int.mul_neg_of_neg_of_pos hc hU
   omega
theorem meet_rw {x y : Sp} {N U : Int} (hU : 0 < U) (hx : Rw x N U) (hy : Rw y N U) : meetB x y = true := by
 unfold meetB
 cases kx : okB x
 ·
  rfl
 cases ky : okB y
 ·
  rfl
 obtain ⟨a1, a2⟩ := hx kx
 obtain ⟨b1, b2⟩ := hy ky
 have k1 := (ok_of kx).2.1
 have k2 := (ok_of ky).2.1
 have h1 : x.lo ≤ y.hi := le_of_mul (by omega : x.lo * U ≤ y.hi * U) hU
 have h2 : y.lo ≤ x.hi := le_of_mul (by omega : y.lo * U ≤ x.hi * U) hU
 simp only [Bool.not_true, Bool.false_or, decide_eq_true_eq]
 omega
/-- What comes of spans is one that may be, or the whole line. -/
theorem add_can (x y : Sp) : okB (addS x y) = true ∨ addS x y = lineS := by
 rcases add_cases x y with e | ⟨h, _⟩
 ·
  exact .inr e
 ·
  exact .inl h
def insB (x : Sp) (n by_ : Int) : Bool := x.all || (decide (x.lo * by_ ≤ n) && decide (n ≤ x.hi * by_))
theorem ins_rw {x : Sp} {N : Int} (hc : okB x = true ∨ x = lineS) (h : Rw x N 1048576) : insB x N 1048576 = true := by
 rcases hc with hk | e
 ·
  obtain ⟨h1, h2⟩ := h hk
  unfold insB
  rw [(ok_of hk).2.2.2]
  simp only [Bool.false_or, Bool.and_eq_true, decide_eq_true_eq]
  exact ⟨h1, h2⟩
 ·
  rw [e]; rfl
theorem rw_dot {v w : Vc} {a0 a1 a2 b0 b1 b2 U V : Int} (hU : 0 < U) (hV : 0 < V) (h0 : Rw v.x a0 U) (h1 : Rw v.y a1 U) (h2 : Rw v.z a2 U) (g0 : Rw w.x b0 V) (g1 : Rw w.y b1 V) (g2 : Rw w.z b2 V) : Rw (dotV v w) (a0 * b0 + a1 * b1 + a2 * b2) (U * V * 1048576) :=
 rw_add (rw_add (rw_mul hU hV h0 g0) (rw_mul hU hV h1 g1)) (rw_mul hU hV h2 g2)
theorem rw_norm {v : Vc} {a0 a1 a2 U : Int} (hU : 0 < U) (h0 : Rw v.x a0 U) (h1 : Rw v.y a1 U) (h2 : Rw v.z a2 U) : Rw (normV v) (a0 * a0 + a1 * a1 + a2 * a2) (U * U * 1048576) :=
 rw_add (rw_add (rw_sqr hU h0) (rw_sqr hU h1)) (rw_sqr hU h2)
theorem rw_cross {v w : Vc} {a0 a1 a2 b0 b1 b2 U V : Int} (hU : 0 < U) (hV : 0 < V) (h0 : Rw v.x a0 U) (h1 : Rw v.y a1 U) (h2 : Rw v.z a2 U) (g0 : Rw w.x b0 V) (g1 : Rw w.y b1 V) (g2 : Rw w.z b2 V) :
  Rw (crossV v w).x (a1 * b2 - a2 * b1) (U * V * 1048576) ∧ Rw (crossV v w).y (a2 * b0 - a0 * b2) (U * V * 1048576) ∧ Rw (crossV v w).z (a0 * b1 - a1 * b0) (U * V * 1048576) :=
 ⟨rw_sub (rw_mul hU hV h1 g2) (rw_mul hU hV h2 g1), rw_sub (rw_mul hU hV h2 g0) (rw_mul hU hV h0 g2), rw_sub (rw_mul hU hV h0 g1) (rw_mul hU hV h1 g0)⟩
/-- VecHolds, as numbers. -/
theorem holds_dot {v w : Vc} {a0 a1 a2 b0 b1 b2 : Int} (h0 : hasB v.x a0 = true) (h1 : hasB v.y a1 = true) (h2 : hasB v.z a2 = true) (g0 : hasB w.x b0 = true) (g1 : hasB w.y b1 = true) (g2 : hasB w.z b2 = true) : insB (dotV v w) (a0 * b0 + a1 * b1 + a2 * b2) 1048576 = true :=
 ins_rw (add_can _ _) (by have := rw_dot (by decide) (by decide) (rw_has h0) (rw_has h1) (rw_has h2) (rw_has g0) (rw_has g1) (rw_has g2); exact this)
theorem holds_norm {v : Vc} {a0 a1 a2 : Int} (h0 : hasB v.x a0 = true) (h1 : hasB v.y a1 = true) (h2 : hasB v.z a2 = true) : insB (normV v) (a0 * a0 + a1 * a1 + a2 * a2) 1048576 = true :=
 ins_rw (add_can _ _) (by have := rw_norm (by decide) (rw_has h0) (rw_has h1) (rw_has h2); exact this)
theorem holds_cross {v w : Vc} {a0 a1 a2 b0 b1 b2 : Int} (h0 : hasB v.x a0 = true) (h1 : hasB v.y a1 = true) (h2 : hasB v.z a2 = true) (g0 : hasB w.x b0 = true) (g1 : hasB w.y b1 = true) (g2 : hasB w.z b2 = true) :
  insB (crossV v w).x (a1 * b2 - a2 * b1) 1048576 = true ∧ insB (crossV v w).y (a2 * b0 - a0 * b2) 1048576 = true ∧ insB (crossV v w).z (a0 * b1 - a1 * b0) 1048576 = true := by
 obtain ⟨r0, r1, r2⟩ := rw_cross (v := v) (w := w) (U := 1) (V := 1) (by decide) (by decide) (rw_has h0) (rw_has h1) (rw_has h2) (rw_has g0) (rw_has g1) (rw_has g2)
 exact ⟨ins_rw (add_can _ _) r0, ins_rw (add_can _ _) r1, ins_rw (add_can _ _) r2⟩
/-- VecTurns, as numbers. -/
theorem turns_x (v w : Vc) : hasB (dotV v (crossV v w)) 0 = true := by
 obtain ⟨r0, r1, r2⟩ := rw_cross (v := v) (w := w) (U := 1) (V := 1) (by decide) (by decide) (rw_pt v.x) (rw_pt v.y) (rw_pt v.z) (rw_pt w.x) (rw_pt w.y) (rw_pt w.z)
 have h := rw_dot (by decide) (by decide) (rw_pt v.x) (rw_pt v.y) (rw_pt v.z) r0 r1 r2
 refine has_rw (U := 1 * (1 * 1 * 1048576) * 1048576) (by decide) ?_
 rwa [show v.x.lo * (v.y.lo * w.z.lo - v.z.lo * w.y.lo) + v.y.lo * (v.z.lo * w.x.lo - v.x.lo * w.z.lo) + v.z.lo * (v.x.lo * w.y.lo - v.y.lo * w.x.lo) = 0 by grind] at h
theorem turns_y (v w : Vc) : hasB (dotV w (crossV v w)) 0 = true := by
 obtain ⟨r0, r1, r2⟩ := rw_cross (v := v) (w := w) (U := 1) (V := 1) (by decide) (by decide) (rw_pt v.x) (rw_pt v.y) (rw_pt v.z) (rw_pt w.x) (rw_pt w.y) (rw_pt w.z)
 have h := rw_dot (by decide) (by decide) (rw_pt w.x) (rw_pt w.y) (rw_pt w.z) r0 r1 r2
 refine has_rw (U := 1 * (1 * 1 * 1048576) * 1048576) (by decide) ?_
 rwa [show w.x.lo * (v.y.lo * w.z.lo - v.z.lo * w.y.lo) + w.y.lo * (v.z.lo * w.x.lo - v.x.lo * w.z.lo) + w.z.lo * (v.x.lo * w.y.lo - v.y.lo * w.x.lo) = 0 by grind] at h
theorem turns_m (v w : Vc) : meetB (mulS (normV v) (normV w)) (addS (sqrS (dotV v w)) (normV (crossV v w))) = true := by
 obtain ⟨r0, r1, r2⟩ := rw_cross (v := v) (w := w) (U := 1) (V := 1) (by decide) (by decide) (rw_pt v.x) (rw_pt v.y) (rw_pt v.z) (rw_pt w.x) (rw_pt w.y) (rw_pt w.z)
 have d := rw_dot (v := v) (w := w) (U := 1) (V := 1) (by decide) (by decide) (rw_pt v.x) (rw_pt v.y) (rw_pt v.z) (rw_pt w.x) (rw_pt w.y) (rw_pt w.z)
 have n1 := rw_norm (v := v) (U := 1) (by decide) (rw_pt v.x) (rw_pt v.y) (rw_pt v.z)
 have n2 := rw_norm (v := w) (U := 1) (by decide) (rw_pt w.x) (rw_pt w.y) (rw_pt w.z)
 have l := rw_mul (by decide) (by decide) n1 n2
 have r := rw_add (rw_sqr (by decide) d) (rw_norm (v := crossV v w) (by decide) r0 r1 r2)
 refine meet_rw (by decide) l ?_
 rwa [show (v.x.lo * v.x.lo + v.y.lo * v.y.lo + v.z.lo * v.z.lo) * (w.x.lo * w.x.lo + w.y.lo * w.y.lo + w.z.lo * w.z.lo) = (v.x.lo * w.x.lo + v.y.lo * w.y.lo + v.z.lo * w.z.lo) * (v.x.lo * w.x.lo + v.y.lo * w.y.lo + v.z.lo * w.z.lo) + ((v.y.lo * w.z.lo - v.z.lo * w.y.lo) * (v.y.lo * w.z.lo - v.z.lo * w.y.lo) + (v.z.lo * w.x.lo - v.x.lo * w.z.lo) * (v.z.lo * w.x.lo - v.x.lo * w.z.lo) + (v.x.lo * w.y.lo - v.y.lo * w.x.lo) * (v.x.lo * w.y.lo - v.y.lo * w.x.lo)) by grind]
theorem add_if (x y : Sp) : addS x y = if okB x = true ∧ okB y = true ∧ -2147483647 ≤ x.lo + y.lo ∧ x.hi + y.hi ≤ 2147483647 then ⟨x.lo + y.lo, x.hi + y.hi, false⟩ else lineS := by
 cases hx : okB x
 ·
  rw [if_neg (by simp)]
  exact ends_no (by rw [hx]; rfl)
 cases hy : okB y
 ·
  rw [if_neg (by simp)]
  exact ends_no (by rw [hx, hy]; rfl)
 rw [add_tight hx hy]
 have := ok_of hx
 have := ok_of hy
 unfold tightS
 simp only [Int.ediv_one, Int.neg_neg]
 split
 ·
  rw [if_neg (by omega)]
 ·
  rw [if_pos (by refine ⟨by trivial, by trivial, ?_, ?_⟩ <;> omega)]
theorem mulS_comm (x y : Sp) : mulS x y = mulS y x := by
 cases hx : okB x
 ·
  rw [show mulS x y = lineS from ends_no (by rw [hx]; rfl), show mulS y x = lineS from ends_no (by rw [hx, Bool.and_false]; rfl)]
 cases hy : okB y
 ·
  rw [show mulS x y = lineS from ends_no (by rw [hx, hy]; rfl), show mulS y x = lineS from ends_no (by rw [hy]; rfl)]
 rw [mul_tight hx hy, mul_tight hy hx]
 have e1 : min4 x y = min4 y x := by
  unfold min4
  rw [Int.mul_comm y.lo x.lo, Int.mul_comm y.lo x.hi, Int.mul_comm y.hi x.lo, Int.mul_comm y.hi x.hi]
  omega
 have e2 : max4 x y = max4 y x := by
  unfold max4
  rw [Int.mul_comm y.lo x.lo, Int.mul_comm y.lo x.hi, Int.mul_comm y.hi x.lo, Int.mul_comm y.hi x.hi]
  omega
 rw [e1, e2]
theorem neg_if (x : Sp) : negS x = if okB x = true then ⟨-x.hi, -x.lo, false⟩ else lineS := rfl
theorem sub_if (x y : Sp) : subS x y = if okB x = true ∧ okB y = true ∧ -2147483647 ≤ x.lo - y.hi ∧ x.hi - y.lo ≤ 2147483647 then ⟨x.lo - y.hi, x.hi - y.lo, false⟩ else lineS := by
 unfold subS
 cases hy : okB y
 ·
  rw [neg_if, hy, if_neg (by simp), if_neg (by simp)]
  exact ends_no (by rw [ok_line, Bool.and_false]; rfl)
 ·
  have k := ok_of hy
  have e : negS y = ⟨-y.hi, -y.lo, false⟩ := by rw [neg_if, hy]; rfl
  have ko : okB (negS y) = true := neg_ok hy
  rw [add_if, ko, e]
  simp only [true_and, ← Int.sub_eq_add_neg]
theorem sub_turn (x y : Sp) : subS ⟨0, 0, false⟩ (subS x y) = subS y x := by
 rw [sub_if x y, sub_if y x]
 by_cases h : okB x = true ∧ okB y = true ∧ -2147483647 ≤ x.lo - y.hi ∧ x.hi - y.lo ≤ 2147483647
 ·
  have k1 := ok_of h.1
  have k2 := ok_of h.2.1
  have hk : okB ⟨x.lo - y.hi, x.hi - y.lo, false⟩ = true := ok_mk h.2.2.1 (by show x.lo - y.hi ≤ x.hi - y.lo; omega) h.2.2.2 rfl
  rw [if_pos h, if_pos ⟨h.2.1, h.1, by omega, by omega⟩, sub_if, if_pos ⟨rfl, hk, by show -2147483647 ≤ 0 - (x.hi - y.lo); omega, by show 0 - (x.lo - y.hi) ≤ 2147483647; omega⟩]
  show Sp.mk (0 - (x.hi - y.lo)) (0 - (x.lo - y.hi)) false = _
  congr 1 <;> omega
 ·
  rw [if_neg h, if_neg (fun g => h ⟨g.2.1, g.1, by omega, by omega⟩), sub_if, if_neg (by rw [ok_line]; simp)]
theorem turns_d (v w : Vc) : subV ⟨⟨0, 0, false⟩, ⟨0, 0, false⟩, ⟨0, 0, false⟩⟩ (crossV w v) = crossV v w := by
 unfold subV crossV
 simp only [sub_turn]
 rw [mulS_comm w.z v.y, mulS_comm w.y v.z, mulS_comm w.x v.z, mulS_comm w.z v.x, mulS_comm w.y v.x, mulS_comm w.x v.y]
/-- VecNarrow, as numbers. -/
theorem inV_of {v w : Vc} (h : inV v w = true) : inB v.x w.x = true ∧ inB v.y w.y = true ∧ inB v.z w.z = true := by
 unfold inV at h
 simp only [Bool.and_eq_true] at h
 exact h
theorem inV_mk {v w : Vc} (h1 : inB v.x w.x = true) (h2 : inB v.y w.y = true) (h3 : inB v.z w.z = true) : inV v w = true := by unfold inV; rw [h1, h2, h3]; rfl
theorem sum_in {v w : Vc} (h : inV v w = true) : inB (sumV v) (sumV w) = true := add_in (add_in (inV_of h).1 (inV_of h).2.1) (inV_of h).2.2
theorem mulV_in {v w x y : Vc} (h : inV v x = true) (g : inV w y = true) : inV (mulV v w) (mulV x y) = true := inV_mk (mul_in (inV_of h).1 (inV_of g).1) (mul_in (inV_of h).2.1 (inV_of g).2.1) (mul_in (inV_of h).2.2 (inV_of g).2.2)
theorem narrow_dot {v w x y : Vc} (h : inV v x = true) (g : inV w y = true) : inB (dotV v w) (dotV x y) = true := sum_in (mulV_in h g)
theorem narrow_cross {v w x y : Vc} (h : inV v x = true) (g : inV w y = true) : inV (crossV v w) (crossV x y) = true := by
 obtain ⟨h0, h1, h2⟩ := inV_of h
 obtain ⟨g0, g1, g2⟩ := inV_of g
 exact inV_mk (sub_in (mul_in h1 g2) (mul_in h2 g1)) (sub_in (mul_in h2 g0) (mul_in h0 g2)) (sub_in (mul_in h0 g1) (mul_in h1 g0))
theorem narrow_norm {v x : Vc} (h : inV v x = true) : inB (normV v) (normV x) = true := by
 obtain ⟨h0, h1, h2⟩ := inV_of h
 exact sum_in (inV_mk (sqr_in h0) (sqr_in h1) (sqr_in h2))
theorem narrow_add {v w x y : Vc} (h : inV v x = true) (g : inV w y = true) : inV (addV v w) (addV x y) = true := inV_mk (add_in (inV_of h).1 (inV_of g).1) (add_in (inV_of h).2.1 (inV_of g).2.1) (add_in (inV_of h).2.2 (inV_of g).2.2)
theorem narrow_sub {v w x y : Vc} (h : inV v x = true) (g : inV w y = true) : inV (subV v w) (subV x y) = true := inV_mk (sub_in (inV_of h).1 (inV_of g).1) (sub_in (inV_of h).2.1 (inV_of g).2.1) (sub_in (inV_of h).2.2 (inV_of g).2.2)
end Go.Proofs.Ytpahkpcoinbgcaa

/- Package vec: the walks of both, each, sum, from. No statement of the seat is proved here. -/
namespace Go.Proofs.Ytpahkpcoinbgcaa
open Go Go.RowKit
theorem run_vix0 (a0 b0 : Int) (c0 : Bool) (a1 b1 : Int) (c1 : Bool) (a2 b2 : Int) (c2 : Bool) (W : World) : Sem.run Try.prog (Instr.index 34 (.agg #[.int .i64 a0, .int .i64 b0, .bool c0, .int .i64 a1, .int .i64 b1, .bool c1, .int .i64 a2, .int .i64 b2, .bool c2]) (.int .i64 0)) W = .ok (.agg #[.int .i64 a0, .int .i64 b0, .bool c0]) W := by kernel_rfl
theorem run_vix1 (a0 b0 : Int) (c0 : Bool) (a1 b1 : Int) (c1 : Bool) (a2 b2 : Int) (c2 : Bool) (W : World) : Sem.run Try.prog (Instr.index 34 (.agg #[.int .i64 a0, .int .i64 b0, .bool c0, .int .i64 a1, .int .i64 b1, .bool c1, .int .i64 a2, .int .i64 b2, .bool c2]) (.int .i64 1)) W = .ok (.agg #[.int .i64 a1, .int .i64 b1, .bool c1]) W := by kernel_rfl
theorem run_vix2 (a0 b0 : Int) (c0 : Bool) (a1 b1 : Int) (c1 : Bool) (a2 b2 : Int) (c2 : Bool) (W : World) : Sem.run Try.prog (Instr.index 34 (.agg #[.int .i64 a0, .int .i64 b0, .bool c0, .int .i64 a1, .int .i64 b1, .bool c1, .int .i64 a2, .int .i64 b2, .bool c2]) (.int .i64 2)) W = .ok (.agg #[.int .i64 a2, .int .i64 b2, .bool c2]) W := by kernel_rfl
attribute [local go_sem] run_vix0 run_vix1 run_vix2
theorem run_vbuild (a0 b0 : Int) (c0 : Bool) (a1 b1 : Int) (c1 : Bool) (a2 b2 : Int) (c2 : Bool) (W : World) : Sem.run Try.prog (Instr.build 34 #[(0, .agg #[.int .i64 a0, .int .i64 b0, .bool c0]), (1, .agg #[.int .i64 a1, .int .i64 b1, .bool c1]), (2, .agg #[.int .i64 a2, .int .i64 b2, .bool c2])]) W = .ok (.agg #[.int .i64 a0, .int .i64 b0, .bool c0, .int .i64 a1, .int .i64 b1, .bool c1, .int .i64 a2, .int .i64 b2, .bool c2]) W := by kernel_rfl
theorem run_dbuild (a0 b0 : Int) (c0 : Bool) (a1 b1 : Int) (c1 : Bool) (a2 b2 : Int) (c2 : Bool) (W : World) : Sem.run Try.prog (Instr.build 36 #[(0, .agg #[.int .i64 a0, .int .i64 b0, .bool c0]), (1, .agg #[.int .i64 a1, .int .i64 b1, .bool c1]), (2, .agg #[.int .i64 a2, .int .i64 b2, .bool c2])]) W = .ok (.agg #[.int .i64 a0, .int .i64 b0, .bool c0, .int .i64 a1, .int .i64 b1, .bool c1, .int .i64 a2, .int .i64 b2, .bool c2]) W := by kernel_rfl
attribute [local go_sem ↓] run_vbuild run_dbuild
end Go.Proofs.Ytpahkpcoinbgcaa
