/- Parts of the proof. -/
import Derived.Test.YtdochhhepmlapaaGd22
import Derived.Test.YtdochhhepmlapaaGd26
import Derived.LoopN
/- The document's spans: the walks of Neg, Add, Sub. No statement of the seat is proved here. -/
namespace Go.Proofs.Ytdochhhepmlapaa
open Go Go.RowKit
theorem add_tight {x y : Sp} (hx : okB x = true) (hy : okB y = true) : addS x y = tightS (x.lo + y.lo) (x.hi + y.hi) 1 := by
 have kx := ok_of hx
 have ky := ok_of hy
 unfold tightS
 rw [Int.ediv_one, Int.ediv_one, Int.neg_neg]
 rcases add_cases x y with e | ⟨h, _, _, e⟩
 ·
  rw [e]
  by_cases g : x.lo + y.lo < -2147483647 ∨ -(x.hi + y.hi) < -2147483647 ∨ 2147483647 < x.lo + y.lo ∨ 2147483647 < -(x.hi + y.hi)
  ·
   rw [if_pos g]
  ·
   exfalso
   have c : ∀ a b : Int, -2147483647 ≤ a + b → a + b ≤ 2147483647 → okB (addR a b) = true := by
    intro a b q1 q2
    unfold addR
    rw [okB_mk]
    exact ok_mk q1 (Int.le_refl _) q2 rfl
   have := ends_ok (R := addR) hx hy (c _ _ (by omega) (by omega)) (c _ _ (by omega) (by omega)) (c _ _ (by omega) (by omega)) (c _ _ (by omega) (by omega))
   rw [show endsS addR x y = lineS from e] at this
   cases congrArg Sp.all this
 ·
  have k := ok_of h
  rw [e] at k
  replace k : -2147483647 ≤ x.lo + y.lo ∧ x.lo + y.lo ≤ x.hi + y.hi ∧ x.hi + y.hi ≤ 2147483647 := ⟨k.1, k.2.1, k.2.2.1⟩
  rw [e, if_neg (by omega)]
end Go.Proofs.Ytdochhhepmlapaa

/- The document's spans: the walk of Mul. No statement of the seat is proved here. -/
namespace Go.Proofs.Ytdochhhepmlapaa
open Go Go.RowKit
theorem mul_tight {x y : Sp} (hx : okB x = true) (hy : okB y = true) : mulS x y = tightS (min4 x y) (max4 x y) 1048576 := by
 have corner : ∀ a b : Int, min4 x y ≤ a * b → a * b ≤ max4 x y → ¬ (min4 x y / 1048576 < -2147483647 ∨ -max4 x y / 1048576 < -2147483647 ∨ 2147483647 < min4 x y / 1048576 ∨ 2147483647 < -max4 x y / 1048576) → okB (mulR a b) = true := by
  intro a b h1 h2 h3
  unfold mulR
  rw [okB_mk]
  generalize a * b = P at *
  generalize min4 x y = m at *
  generalize max4 x y = M at *
  exact ok_mk (by show _ ≤ P / 1048576; omega) (by show P / 1048576 ≤ -(-P / 1048576); omega) (by show -(-P / 1048576) ≤ _; omega) rfl
 unfold tightS
 rcases mul_cases x y with e | ⟨h, _, _, e⟩
 ·
  rw [e]
  by_cases g : min4 x y / 1048576 < -2147483647 ∨ -max4 x y / 1048576 < -2147483647 ∨ 2147483647 < min4 x y / 1048576 ∨ 2147483647 < -max4 x y / 1048576
  ·
   rw [if_pos g]
  ·
   exfalso
   have c : ∀ a b : Int, min4 x y ≤ a * b ∧ a * b ≤ max4 x y → okB (mulR a b) = true := fun a b h => corner a b h.1 h.2 g
   have k1 := (ok_of hx).2.1
   have k2 := (ok_of hy).2.1
   have := ends_ok (R := mulR) hx hy (c _ _ (bil (Int.le_refl _) k1 (Int.le_refl _) k2)) (c _ _ (bil (Int.le_refl _) k1 k2 (Int.le_refl _))) (c _ _ (bil k1 (Int.le_refl _) (Int.le_refl _) k2)) (c _ _ (bil k1 (Int.le_refl _) k2 (Int.le_refl _)))
   rw [show endsS mulR x y = lineS from e] at this
   cases congrArg Sp.all this
 ·
  have k := ok_of h
  rw [e] at k
  replace k : -2147483647 ≤ min4 x y / 1048576 ∧ min4 x y / 1048576 ≤ -(-max4 x y / 1048576) ∧ -(-max4 x y / 1048576) ≤ 2147483647 := ⟨k.1, k.2.1, k.2.2.1⟩
  rw [e, if_neg (by omega)]
end Go.Proofs.Ytdochhhepmlapaa

/- Vectors of three spans, as numbers (no walk). No statement of the seat is proved here. -/
namespace Go.Proofs.Ytdochhhepmlapaa
open Go.RowKit
/-- A vector, by its parts. -/
structure Vc where
 x : Sp
 y : Sp
 z : Sp
def subV (v w : Vc) : Vc := ⟨subS v.x w.x, subS v.y w.y, subS v.z w.z⟩
def sumV (v : Vc) : Sp := addS (addS v.x v.y) v.z
def mulV (v w : Vc) : Vc := ⟨mulS v.x w.x, mulS v.y w.y, mulS v.z w.z⟩
def dotV (v w : Vc) : Sp := sumV (mulV v w)
def crossV (v w : Vc) : Vc := ⟨subS (mulS v.y w.z) (mulS v.z w.y), subS (mulS v.z w.x) (mulS v.x w.z), subS (mulS v.x w.y) (mulS v.y w.x)⟩
def sqrV (v : Vc) : Vc := ⟨sqrS v.x, sqrS v.y, sqrS v.z⟩
def normV (v : Vc) : Sp := sumV (sqrV v)
def inV (v w : Vc) : Bool := inB v.x w.x && (inB v.y w.y && inB v.z w.z)
def ofV (a b c : Int) : Vc := ⟨ofS a a, ofS b b, ofS c c⟩
/-- A fraction is in a span, or it is the whole line. -/
def Rw (x : Sp) (N U : Int) : Prop := okB x = true → Rin x N U
theorem add_oks {x y : Sp} (h : okB (addS x y) = true) : okB x = true ∧ okB y = true := by
 rcases add_cases x y with e | ⟨_, h1, h2, _⟩
 ·
  rw [e] at h; cases h
 ·
  exact ⟨h1, h2⟩
theorem neg_oks {x : Sp} (h : okB (negS x) = true) : okB x = true := by
 cases hx : okB x
 ·
  unfold negS at h; rw [hx] at h; cases h
 ·
  rfl
theorem sub_oks {x y : Sp} (h : okB (subS x y) = true) : okB x = true ∧ okB y = true := ⟨(add_oks h).1, neg_oks (add_oks h).2⟩
theorem mul_oks {x y : Sp} (h : okB (mulS x y) = true) : okB x = true ∧ okB y = true := by
 rcases mul_cases x y with e | ⟨_, h1, h2, _⟩
 ·
  rw [e] at h; cases h
 ·
  exact ⟨h1, h2⟩
theorem sqr_oks {x : Sp} (h : okB (sqrS x) = true) : okB x = true := by
 rcases sqr_cases x with e | ⟨_, h2, _⟩
 ·
  rw [e] at h; cases h
 ·
  exact h2
theorem rw_add {x y : Sp} {N M U : Int} (hx : Rw x N U) (hy : Rw y M U) : Rw (addS x y) (N + M) U := fun h => rin_add h (hx (add_oks h).1) (hy (add_oks h).2)
theorem rw_sub {x y : Sp} {N M U : Int} (hx : Rw x N U) (hy : Rw y M U) : Rw (subS x y) (N - M) U := fun h => rin_sub h (hx (sub_oks h).1) (hy (sub_oks h).2)
theorem rw_mul {x y : Sp} {N M U V : Int} (hU : 0 < U) (hV : 0 < V) (hx : Rw x N U) (hy : Rw y M V) : Rw (mulS x y) (N * M) (U * V * 1048576) := fun h => rin_mulS h hU hV (hx (mul_oks h).1) (hy (mul_oks h).2)
theorem rw_sqr {x : Sp} {N U : Int} (hU : 0 < U) (hx : Rw x N U) : Rw (sqrS x) (N * N) (U * U * 1048576) := fun h => rin_sqr h hU (hx (sqr_oks h))
theorem rw_pt (x : Sp) : Rw x x.lo 1 := by
 intro hk
 have := ok_of hk
 exact ⟨by omega, by omega⟩
theorem meet_rw {x y : Sp} {N U : Int} (hU : 0 < U) (hx : Rw x N U) (hy : Rw y N U) : meetB x y = true := by
 unfold meetB
 cases kx : okB x
 ·
  rfl
 cases ky : okB y
 ·
  rfl
 obtain ⟨a1, a2⟩ := hx kx
 obtain ⟨b1, b2⟩ := hy ky
 have k1 := (ok_of kx).2.1
 have k2 := (ok_of ky).2.1
 have h1 : x.lo ≤ y.hi := le_of_mul (by omega : x.lo * U ≤ y.hi * U) hU
 have h2 : y.lo ≤ x.hi := le_of_mul (by omega : y.lo * U ≤ x.hi * U) hU
 simp only [Bool.not_true, Bool.false_or, decide_eq_true_eq]
 omega
theorem rw_dot {v w : Vc} {a0 a1 a2 b0 b1 b2 U V : Int} (hU : 0 < U) (hV : 0 < V) (h0 : Rw v.x a0 U) (h1 : Rw v.y a1 U) (h2 : Rw v.z a2 U) (g0 : Rw w.x b0 V) (g1 : Rw w.y b1 V) (g2 : Rw w.z b2 V) : Rw (dotV v w) (a0 * b0 + a1 * b1 + a2 * b2) (U * V * 1048576) :=
 rw_add (rw_add (rw_mul hU hV h0 g0) (rw_mul hU hV h1 g1)) (rw_mul hU hV h2 g2)
theorem rw_norm {v : Vc} {a0 a1 a2 U : Int} (hU : 0 < U) (h0 : Rw v.x a0 U) (h1 : Rw v.y a1 U) (h2 : Rw v.z a2 U) : Rw (normV v) (a0 * a0 + a1 * a1 + a2 * a2) (U * U * 1048576) :=
 rw_add (rw_add (rw_sqr hU h0) (rw_sqr hU h1)) (rw_sqr hU h2)
theorem rw_cross {v w : Vc} {a0 a1 a2 b0 b1 b2 U V : Int} (hU : 0 < U) (hV : 0 < V) (h0 : Rw v.x a0 U) (h1 : Rw v.y a1 U) (h2 : Rw v.z a2 U) (g0 : Rw w.x b0 V) (g1 : Rw w.y b1 V) (g2 : Rw w.z b2 V) :
  Rw (crossV v w).x (a1 * b2 - a2 * b1) (U * V * 1048576) ∧ Rw (crossV v w).y (a2 * b0 - a0 * b2) (U * V * 1048576) ∧ Rw (crossV v w).z (a0 * b1 - a1 * b0) (U * V * 1048576) :=
 ⟨rw_sub (rw_mul hU hV h1 g2) (rw_mul hU hV h2 g1), rw_sub (rw_mul hU hV h2 g0) (rw_mul hU hV h0 g2), rw_sub (rw_mul hU hV h0 g1) (rw_mul hU hV h1 g0)⟩
theorem add_if (x y : Sp) : addS x y = if okB x = true ∧ okB y = true ∧ -2147483647 ≤ x.lo + y.lo ∧ x.hi + y.hi ≤ 2147483647 then ⟨x.lo + y.lo, x.hi + y.hi, false⟩ else lineS := by
 cases hx : okB x
 ·
  rw [if_neg (by simp)]
  exact ends_no (by rw [hx]; rfl)
 cases hy : okB y
 ·
  rw [if_neg (by simp)]
  exact ends_no (by rw [hx, hy]; rfl)
 rw [add_tight hx hy]
 have := ok_of hx
 have := ok_of hy
 unfold tightS
 simp only [Int.ediv_one, Int.neg_neg]
 split
 ·
  rw [if_neg (by omega)]
 ·
  rw [if_pos (by refine ⟨by trivial, by trivial, ?_, ?_⟩ <;> omega)]
theorem addS_comm (x y : Sp) : addS x y = addS y x := by
 rw [add_if, add_if y x, Int.add_comm x.lo, Int.add_comm x.hi]
 by_cases h : okB x = true ∧ okB y = true ∧ -2147483647 ≤ y.lo + x.lo ∧ y.hi + x.hi ≤ 2147483647
 ·
  rw [if_pos h, if_pos ⟨h.2.1, h.1, h.2.2⟩]
 ·
  rw [if_neg h, if_neg (fun g => h ⟨g.2.1, g.1, g.2.2⟩)]
theorem mulS_comm (x y : Sp) : mulS x y = mulS y x := by
 cases hx : okB x
 ·
  rw [show mulS x y = lineS from ends_no (by rw [hx]; rfl), show mulS y x = lineS from ends_no (by rw [hx, Bool.and_false]; rfl)]
 cases hy : okB y
 ·
  rw [show mulS x y = lineS from ends_no (by rw [hx, hy]; rfl), show mulS y x = lineS from ends_no (by rw [hy]; rfl)]
 rw [mul_tight hx hy, mul_tight hy hx]
 have e1 : min4 x y = min4 y x := by
  unfold min4
  rw [Int.mul_comm y.lo x.lo, Int.mul_comm y.lo x.hi, Int.mul_comm y.hi x.lo, Int.mul_comm y.hi x.hi]
  omega
 have e2 : max4 x y = max4 y x := by
  unfold max4
  rw [Int.mul_comm y.lo x.lo, Int.mul_comm y.lo x.hi, Int.mul_comm y.hi x.lo, Int.mul_comm y.hi x.hi]
  omega
 rw [e1, e2]
theorem inV_mk {v w : Vc} (h1 : inB v.x w.x = true) (h2 : inB v.y w.y = true) (h3 : inB v.z w.z = true) : inV v w = true := by unfold inV; rw [h1, h2, h3]; rfl
def oneS : Sp := ⟨1048576, 1048576, false⟩
theorem mul_one (x : Sp) : mulS x oneS = mkS x := by
 cases hx : okB x
 ·
  rw [mkS_no hx]; exact ends_no (by rw [hx]; rfl)
 ·
  have k := ok_of hx
  rw [mkS_ok hx, mul_tight hx rfl]
  unfold tightS min4 max4 oneS
  have e : ∀ a b : Int, min a a = a ∧ max a a = a := fun a b => by omega
  rw [if_neg (by dsimp only; omega)]
  obtain ⟨l, h, a⟩ := x
  dsimp only at *
  rw [k.2.2.2]
  congr 1 <;> omega
end Go.Proofs.Ytdochhhepmlapaa

/- Turns, as numbers (no walk): the true turn is in what is enclosed. No statement of the seat is proved here. -/
namespace Go.Proofs.Ytdochhhepmlapaa
open Go.RowKit
/-- A turn, by its rows. -/
structure Tu where
 a : Vc
 b : Vc
 c : Vc
def idT : Tu := ⟨⟨ofS 1048576 1048576, ofS 0 0, ofS 0 0⟩, ⟨ofS 0 0, ofS 1048576 1048576, ofS 0 0⟩, ⟨ofS 0 0, ofS 0 0, ofS 1048576 1048576⟩⟩
def turnT (r : Tu) : Tu := ⟨⟨r.a.x, r.b.x, r.c.x⟩, ⟨r.a.y, r.b.y, r.c.y⟩, ⟨r.a.z, r.b.z, r.c.z⟩⟩
def appT (r : Tu) (v : Vc) : Vc := ⟨dotV r.a v, dotV r.b v, dotV r.c v⟩
def mulT (r q : Tu) : Tu := ⟨⟨dotV r.a (turnT q).a, dotV r.a (turnT q).b, dotV r.a (turnT q).c⟩, ⟨dotV r.b (turnT q).a, dotV r.b (turnT q).b, dotV r.b (turnT q).c⟩, ⟨dotV r.c (turnT q).a, dotV r.c (turnT q).b, dotV r.c (turnT q).c⟩⟩
def detT (r : Tu) : Sp := dotV r.a (crossV r.b r.c)
def inT (r q : Tu) : Bool := inV r.a q.a && (inV r.b q.b && inV r.c q.c)
def acrT (w : Vc) : Tu := ⟨⟨ofS 0 0, negS w.z, w.y⟩, ⟨w.z, ofS 0 0, negS w.x⟩, ⟨negS w.y, w.x, ofS 0 0⟩⟩
def twiT (w : Vc) : Tu := ⟨⟨negS (addS (sqrS w.y) (sqrS w.z)), mulS w.x w.y, mulS w.x w.z⟩, ⟨mulS w.x w.y, negS (addS (sqrS w.x) (sqrS w.z)), mulS w.y w.z⟩, ⟨mulS w.x w.z, mulS w.y w.z, negS (addS (sqrS w.x) (sqrS w.y))⟩⟩
def plcS (i a k b l : Sp) : Sp := addS (addS i (mulS a k)) (mulS b l)
def plcV (i : Vc) (a : Sp) (k : Vc) (b : Sp) (l : Vc) : Vc := ⟨plcS i.x a k.x b l.x, plcS i.y a k.y b l.y, plcS i.z a k.z b l.z⟩
def plcT (i : Tu) (a : Sp) (k : Tu) (b : Sp) (l : Tu) : Tu := ⟨plcV i.a a k.a b l.a, plcV i.b a k.b b l.b, plcV i.c a k.c b l.c⟩
def expT (w : Vc) : Tu := plcT idT (encS 1 (normV w)) (acrT w) (encS 2 (normV w)) (twiT w)
/-- Numbers at the places. -/
structure V3 where
 x : Int
 y : Int
 z : Int
structure M3 where
 a : V3
 b : V3
 c : V3
def dot3 (v u : V3) : Int := v.x * u.x + v.y * u.y + v.z * u.z
def turn3 (m : M3) : M3 := ⟨⟨m.a.x, m.b.x, m.c.x⟩, ⟨m.a.y, m.b.y, m.c.y⟩, ⟨m.a.z, m.b.z, m.c.z⟩⟩
def mul3 (m n : M3) : M3 := ⟨⟨dot3 m.a (turn3 n).a, dot3 m.a (turn3 n).b, dot3 m.a (turn3 n).c⟩, ⟨dot3 m.b (turn3 n).a, dot3 m.b (turn3 n).b, dot3 m.b (turn3 n).c⟩, ⟨dot3 m.c (turn3 n).a, dot3 m.c (turn3 n).b, dot3 m.c (turn3 n).c⟩⟩
def app3 (m : M3) (v : V3) : V3 := ⟨dot3 m.a v, dot3 m.b v, dot3 m.c v⟩
def RwV (v : Vc) (n : V3) (U : Int) : Prop := Rw v.x n.x U ∧ Rw v.y n.y U ∧ Rw v.z n.z U
def RwT (r : Tu) (m : M3) (U : Int) : Prop := RwV r.a m.a U ∧ RwV r.b m.b U ∧ RwV r.c m.c U
theorem rwV_dot {v u : Vc} {n m : V3} {U V : Int} (hU : 0 < U) (hV : 0 < V) (h : RwV v n U) (g : RwV u m V) : Rw (dotV v u) (dot3 n m) (U * V * 1048576) := rw_dot hU hV h.1 h.2.1 h.2.2 g.1 g.2.1 g.2.2
theorem rwT_turn {r : Tu} {m : M3} {U : Int} (h : RwT r m U) : RwT (turnT r) (turn3 m) U := ⟨⟨h.1.1, h.2.1.1, h.2.2.1⟩, ⟨h.1.2.1, h.2.1.2.1, h.2.2.2.1⟩, ⟨h.1.2.2, h.2.1.2.2, h.2.2.2.2⟩⟩
theorem rwT_app {r : Tu} {m : M3} {v : Vc} {n : V3} {U V : Int} (hU : 0 < U) (hV : 0 < V) (h : RwT r m U) (g : RwV v n V) : RwV (appT r v) (app3 m n) (U * V * 1048576) := ⟨rwV_dot hU hV h.1 g, rwV_dot hU hV h.2.1 g, rwV_dot hU hV h.2.2 g⟩
theorem rwT_mul {r q : Tu} {m n : M3} {U V : Int} (hU : 0 < U) (hV : 0 < V) (h : RwT r m U) (g : RwT q n V) : RwT (mulT r q) (mul3 m n) (U * V * 1048576) :=
 have t := rwT_turn g
 ⟨⟨rwV_dot hU hV h.1 t.1, rwV_dot hU hV h.1 t.2.1, rwV_dot hU hV h.1 t.2.2⟩, ⟨rwV_dot hU hV h.2.1 t.1, rwV_dot hU hV h.2.1 t.2.1, rwV_dot hU hV h.2.1 t.2.2⟩, ⟨rwV_dot hU hV h.2.2 t.1, rwV_dot hU hV h.2.2 t.2.1, rwV_dot hU hV h.2.2 t.2.2⟩⟩
def cross3 (v u : V3) : V3 := ⟨v.y * u.z - v.z * u.y, v.z * u.x - v.x * u.z, v.x * u.y - v.y * u.x⟩
theorem rwT_det {r : Tu} {m : M3} {U : Int} (hU : 0 < U) (h : RwT r m U) : Rw (detT r) (dot3 m.a (cross3 m.b m.c)) (U * (U * U * 1048576) * 1048576) :=
 rwV_dot hU (Int.mul_pos (Int.mul_pos hU hU) (by decide)) h.1 (rw_cross hU hU h.2.1.1 h.2.1.2.1 h.2.1.2.2 h.2.2.1 h.2.2.2.1 h.2.2.2.2)
def lo3 (v : Vc) : V3 := ⟨v.x.lo, v.y.lo, v.z.lo⟩
def loM (r : Tu) : M3 := ⟨lo3 r.a, lo3 r.b, lo3 r.c⟩
theorem rwV_pt (v : Vc) : RwV v (lo3 v) 1 := ⟨rw_pt _, rw_pt _, rw_pt _⟩
theorem rwT_pt (r : Tu) : RwT r (loM r) 1 := ⟨rwV_pt _, rwV_pt _, rwV_pt _⟩
theorem rw_neg {x : Sp} {N U : Int} (h : Rw x N U) : Rw (negS x) (-N) U := fun hk => rin_neg (neg_oks hk) (h (neg_oks hk))
/-- Over another measure. -/
theorem rw_to {x : Sp} {N U M V : Int} (hU : 0 < U) (hV : 0 < V) (e : N * V = M * U) (h : Rw x N U) : Rw x M V := by
 intro hk
 obtain ⟨h1, h2⟩ := h hk
 have g1 := Int.mul_le_mul_of_nonneg_right h1 (Int.le_of_lt hV)
 have g2 := Int.mul_le_mul_of_nonneg_right h2 (Int.le_of_lt hV)
 rw [e] at g1 g2
 exact ⟨Int.le_of_mul_le_mul_right (by rw [Int.mul_assoc, Int.mul_comm V U, ← Int.mul_assoc]; exact g1) hU, Int.le_of_mul_le_mul_right (by rw [Int.mul_assoc, Int.mul_comm V U, ← Int.mul_assoc]; exact g2) hU⟩
/-- RotChain, as numbers. -/
def meetT (r q : Tu) : Prop := (meetB r.a.x q.a.x = true ∧ meetB r.a.y q.a.y = true ∧ meetB r.a.z q.a.z = true) ∧ (meetB r.b.x q.b.x = true ∧ meetB r.b.y q.b.y = true ∧ meetB r.b.z q.b.z = true) ∧ (meetB r.c.x q.c.x = true ∧ meetB r.c.y q.c.y = true ∧ meetB r.c.z q.c.z = true)
theorem meet_T {r q : Tu} {m : M3} {U : Int} (hU : 0 < U) (h : RwT r m U) (g : RwT q m U) : meetT r q :=
 ⟨⟨meet_rw hU h.1.1 g.1.1, meet_rw hU h.1.2.1 g.1.2.1, meet_rw hU h.1.2.2 g.1.2.2⟩, ⟨meet_rw hU h.2.1.1 g.2.1.1, meet_rw hU h.2.1.2.1 g.2.1.2.1, meet_rw hU h.2.1.2.2 g.2.1.2.2⟩, ⟨meet_rw hU h.2.2.1 g.2.2.1, meet_rw hU h.2.2.2.1 g.2.2.2.1, meet_rw hU h.2.2.2.2 g.2.2.2.2⟩⟩
theorem mul3_assoc (m n k : M3) : mul3 (mul3 m n) k = mul3 m (mul3 n k) := by
 unfold mul3 turn3 dot3
 dsimp only
 congr 2 <;> grind
theorem app3_mul (m n : M3) (v : V3) : app3 m (app3 n v) = app3 (mul3 m n) v := by
 unfold mul3 app3 turn3 dot3
 dsimp only
 congr 1 <;> grind
theorem chain_mul (r q s : Tu) : meetT (mulT (mulT r q) s) (mulT r (mulT q s)) := by
 have h1 := rwT_mul (by decide) (by decide) (rwT_mul (by decide) (by decide) (rwT_pt r) (rwT_pt q)) (rwT_pt s)
 have h2 := rwT_mul (by decide) (by decide) (rwT_pt r) (rwT_mul (by decide) (by decide) (rwT_pt q) (rwT_pt s))
 rw [mul3_assoc] at h1
 exact meet_T (by decide) h1 h2
theorem chain_app (r q : Tu) (v : Vc) : meetB (appT r (appT q v)).x (appT (mulT r q) v).x = true ∧ meetB (appT r (appT q v)).y (appT (mulT r q) v).y = true ∧ meetB (appT r (appT q v)).z (appT (mulT r q) v).z = true := by
 have h1 := rwT_app (by decide) (by decide) (rwT_pt r) (rwT_app (by decide) (by decide) (rwT_pt q) (rwV_pt v))
 have h2 := rwT_app (by decide) (by decide) (rwT_mul (by decide) (by decide) (rwT_pt r) (rwT_pt q)) (rwV_pt v)
 rw [app3_mul] at h1
 exact ⟨meet_rw (by decide) h1.1 h2.1, meet_rw (by decide) h1.2.1 h2.2.1, meet_rw (by decide) h1.2.2 h2.2.2⟩
theorem one_mul' (x : Sp) : mulS (ofS 1048576 1048576) x = mkS x := by rw [mulS_comm]; exact mul_one x
theorem nul_mul {x : Sp} (hx : okB x = true) : mulS (ofS 0 0) x = ⟨0, 0, false⟩ := by
 rw [mul_tight (x := ofS 0 0) rfl hx]
 unfold tightS min4 max4
 have e1 : (ofS 0 0).lo = 0 := rfl
 have e2 : (ofS 0 0).hi = 0 := rfl
 simp [e1, e2]
theorem add_nul {x : Sp} (hx : okB x = true) : addS x ⟨0, 0, false⟩ = x ∧ addS ⟨0, 0, false⟩ x = x := by
 have k := ok_of hx
 have e : addS x ⟨0, 0, false⟩ = x := by
  rw [add_if, if_pos ⟨hx, rfl, by show _ ≤ x.lo + 0; omega, by show x.hi + 0 ≤ _; omega⟩]
  obtain ⟨l, h, a⟩ := x
  simp only at k
  simp [k.2.2.2]
 exact ⟨e, by rw [addS_comm]; exact e⟩
theorem in_self (x : Sp) : inB x x = true := by
 cases hx : okB x
 ·
  unfold inB; rw [hx]; rfl
 ·
  exact (in_ok hx).2 ⟨hx, Int.le_refl _, Int.le_refl _⟩
theorem in_not {x y : Sp} (h : okB y = false) : inB x y = true := by unfold inB; rw [h]; rfl
theorem own_x (x y z : Sp) : inB x (addS (addS (mulS (ofS 1048576 1048576) x) (mulS (ofS 0 0) y)) (mulS (ofS 0 0) z)) = true := by
 cases h : okB (addS (addS (mulS (ofS 1048576 1048576) x) (mulS (ofS 0 0) y)) (mulS (ofS 0 0) z))
 ·
  exact in_not h
 ·
  obtain ⟨h1, h2⟩ := add_oks h
  obtain ⟨h3, h4⟩ := add_oks h1
  rw [nul_mul (mul_oks h2).2, nul_mul (mul_oks h4).2, one_mul', mkS_ok (mul_oks h3).2, (add_nul (mul_oks h3).2).1, (add_nul (mul_oks h3).2).1]
  exact in_self x
theorem own_y (x y z : Sp) : inB y (addS (addS (mulS (ofS 0 0) x) (mulS (ofS 1048576 1048576) y)) (mulS (ofS 0 0) z)) = true := by
 rw [addS_comm (mulS (ofS 0 0) x)]
 exact own_x y x z
theorem own_z (x y z : Sp) : inB z (addS (addS (mulS (ofS 0 0) x) (mulS (ofS 0 0) y)) (mulS (ofS 1048576 1048576) z)) = true := by
 cases h : okB (addS (addS (mulS (ofS 0 0) x) (mulS (ofS 0 0) y)) (mulS (ofS 1048576 1048576) z))
 ·
  exact in_not h
 ·
  obtain ⟨h1, h2⟩ := add_oks h
  obtain ⟨h3, h4⟩ := add_oks h1
  rw [nul_mul (mul_oks h3).2, nul_mul (mul_oks h4).2, one_mul', mkS_ok (mul_oks h2).2, (add_nul (x := ⟨0, 0, false⟩) rfl).1, (add_nul (mul_oks h2).2).2]
  exact in_self z
theorem inT_mk {r q : Tu} (h1 : inV r.a q.a = true) (h2 : inV r.b q.b = true) (h3 : inV r.c q.c = true) : inT r q = true := by unfold inT; rw [h1, h2, h3]; rfl
theorem chain_own (r : Tu) : inT r (mulT idT r) = true :=
 inT_mk (inV_mk (own_x _ _ _) (own_x _ _ _) (own_x _ _ _)) (inV_mk (own_y _ _ _) (own_y _ _ _) (own_y _ _ _)) (inV_mk (own_z _ _ _) (own_z _ _ _) (own_z _ _ _))
end Go.Proofs.Ytdochhhepmlapaa

/- Turns in memory: cells told by names. No statement of the seat is proved here. -/
namespace Go.Proofs.Ytdochhhepmlapaa
open Go Go.RowKit
def cS (x : Sp) : Array Value := #[.int .i64 x.lo, .int .i64 x.hi, .bool x.all]
def cV (v : Vc) : Array Value := #[.int .i64 v.x.lo, .int .i64 v.x.hi, .bool v.x.all, .int .i64 v.y.lo, .int .i64 v.y.hi, .bool v.y.all, .int .i64 v.z.lo, .int .i64 v.z.hi, .bool v.z.all]
def cT (r : Tu) : Array Value := #[.int .i64 r.a.x.lo, .int .i64 r.a.x.hi, .bool r.a.x.all, .int .i64 r.a.y.lo, .int .i64 r.a.y.hi, .bool r.a.y.all, .int .i64 r.a.z.lo, .int .i64 r.a.z.hi, .bool r.a.z.all,
 .int .i64 r.b.x.lo, .int .i64 r.b.x.hi, .bool r.b.x.all, .int .i64 r.b.y.lo, .int .i64 r.b.y.hi, .bool r.b.y.all, .int .i64 r.b.z.lo, .int .i64 r.b.z.hi, .bool r.b.z.all,
 .int .i64 r.c.x.lo, .int .i64 r.c.x.hi, .bool r.c.x.all, .int .i64 r.c.y.lo, .int .i64 r.c.y.hi, .bool r.c.y.all, .int .i64 r.c.z.lo, .int .i64 r.c.z.hi, .bool r.c.z.all]
def zS : Sp := ⟨0, 0, false⟩
def zV : Vc := ⟨zS, zS, zS⟩
def zT : Tu := ⟨zV, zV, zV⟩
def atV (v : Vc) : Nat → Sp
 | 0 => v.x
 | 1 => v.y
 | _ => v.z
def rowT (r : Tu) : Nat → Vc
 | 0 => r.a
 | 1 => r.b
 | _ => r.c
def atT (r : Tu) (i j : Nat) : Sp := atV (rowT r i) j
theorem cT_row (r : Tu) {i : Nat} (hi : i < 3) : (cT r).extract (i * 9) (i * 9 + 9) = cV (rowT r i) := by
 rcases (by omega : i = 0 ∨ i = 1 ∨ i = 2) with rfl | rfl | rfl <;> kernel_rfl
theorem cT_at (r : Tu) {i j : Nat} (hi : i < 3) (hj : j < 3) : (cT r).extract (i * 9 + j * 3) (i * 9 + j * 3 + 3) = cS (atT r i j) := by
 rcases (by omega : i = 0 ∨ i = 1 ∨ i = 2) with rfl | rfl | rfl <;> rcases (by omega : j = 0 ∨ j = 1 ∨ j = 2) with rfl | rfl | rfl <;> kernel_rfl
theorem cT_le (r : Tu) {i j : Nat} (hi : i < 3) (hj : j < 3) : i * 9 + j * 3 + 3 ≤ (cT r).size := by show _ ≤ 27; omega
theorem cT_le9 (r : Tu) {i : Nat} (hi : i < 3) : i * 9 + 9 ≤ (cT r).size := by show _ ≤ 27; omega
theorem run_ixT (b : Nat) {i : Nat} (hi : i < 3) (W : World) : (Instr.indexAt 50 (.pointer (some ⟨b, 0, none⟩)) (.int .i64 (i : Int))).run Try.prog W = .ok (.pointer (some ⟨b, i * 9, none⟩)) W := by
 rcases (by omega : i = 0 ∨ i = 1 ∨ i = 2) with rfl | rfl | rfl <;> kernel_rfl
theorem run_ixV (b off : Nat) {j : Nat} (hj : j < 3) (W : World) : (Instr.indexAt 25 (.pointer (some ⟨b, off, none⟩)) (.int .i64 (j : Int))).run Try.prog W = .ok (.pointer (some ⟨b, off + j * 3, none⟩)) W := by
 rcases (by omega : j = 0 ∨ j = 1 ∨ j = 2) with rfl | rfl | rfl <;> kernel_rfl
theorem zv50 (W : World) : (zeroValue 50).run Try.prog W = .ok (.agg (cT zT)) W := by kernel_rfl
theorem sz50 (W : World) : (sizeOf 50).run Try.prog W = .ok 27 W := by kernel_rfl
theorem ag50 (W : World) : (isAgg 50).run Try.prog W = .ok true W := by kernel_rfl
theorem ag25 (W : World) : (isAgg 25).run Try.prog W = .ok true W := by kernel_rfl
theorem ag23 (W : World) : (isAgg 23).run Try.prog W = .ok true W := by kernel_rfl
theorem ag4 (W : World) : (isAgg 4).run Try.prog W = .ok false W := by kernel_rfl
end Go.Proofs.Ytdochhhepmlapaa
