/- Parts of the proof. -/
import Derived.Test.YtdochhhepmlapaaGe22
import Derived.Test.YtdochhhepmlapaaGe26
import Derived.LoopN
/- The document's spans: the walk of Mul. No statement of the seat is proved here. -/
namespace Go.Proofs.Ytdochhhepmlapaa
open Go Go.RowKit
theorem mul_tight {x y : Sp} (hx : okB x = true) (hy : okB y = true) : mulS x y = tightS (min4 x y) (max4 x y) 1048576 := by
 have corner : ∀ a b : Int, min4 x y ≤ a * b → a * b ≤ max4 x y → ¬ (min4 x y / 1048576 < -2147483647 ∨ -max4 x y / 1048576 < -2147483647 ∨ 2147483647 < min4 x y / 1048576 ∨ 2147483647 < -max4 x y / 1048576) → okB (mulR a b) = true := by
  intro a b h1 h2 h3
  unfold mulR
  rw [okB_mk]
  generalize a * b = P at *
  generalize min4 x y = m at *
  generalize max4 x y = M at *
  exact ok_mk (by show _ ≤ P / 1048576; omega) (by show P / 1048576 ≤ -(-P / 1048576); omega) (by show -(-P / 1048576) ≤ _; omega) rfl
 unfold tightS
 rcases mul_cases x y with e | ⟨h, _, _, e⟩
 ·
  rw [e]
  by_cases g : min4 x y / 1048576 < -2147483647 ∨ -max4 x y / 1048576 < -2147483647 ∨ 2147483647 < min4 x y / 1048576 ∨ 2147483647 < -max4 x y / 1048576
  ·
   rw [if_pos g]
  ·
   exfalso
   have c : ∀ a b : Int, min4 x y ≤ a * b ∧ a * b ≤ max4 x y → okB (mulR a b) = true := fun a b h => corner a b h.1 h.2 g
   have k1 := (ok_of hx).2.1
   have k2 := (ok_of hy).2.1
   have := ends_ok (R := mulR) hx hy (c _ _ (bil (Int.le_refl _) k1 (Int.le_refl _) k2)) (c _ _ (bil (Int.le_refl _) k1 k2 (Int.le_refl _))) (c _ _ (bil k1 (Int.le_refl _) (Int.le_refl _) k2)) (c _ _ (bil k1 (Int.le_refl _) k2 (Int.le_refl _)))
   rw [show endsS mulR x y = lineS from e] at this
   cases congrArg Sp.all this
 ·
  have k := ok_of h
  rw [e] at k
  replace k : -2147483647 ≤ min4 x y / 1048576 ∧ min4 x y / 1048576 ≤ -(-max4 x y / 1048576) ∧ -(-max4 x y / 1048576) ≤ 2147483647 := ⟨k.1, k.2.1, k.2.2.1⟩
  rw [e, if_neg (by omega)]
end Go.Proofs.Ytdochhhepmlapaa

/- Vectors of three spans, as numbers (no walk). No statement of the seat is proved here. -/
namespace Go.Proofs.Ytdochhhepmlapaa
open Go.RowKit
/-- A vector, by its parts. -/
structure Vc where
 x : Sp
 y : Sp
 z : Sp
def sumV (v : Vc) : Sp := addS (addS v.x v.y) v.z
def mulV (v w : Vc) : Vc := ⟨mulS v.x w.x, mulS v.y w.y, mulS v.z w.z⟩
def dotV (v w : Vc) : Sp := sumV (mulV v w)
def sqrV (v : Vc) : Vc := ⟨sqrS v.x, sqrS v.y, sqrS v.z⟩
def normV (v : Vc) : Sp := sumV (sqrV v)
def ofV (a b c : Int) : Vc := ⟨ofS a a, ofS b b, ofS c c⟩
/-- A fraction is in a span, or it is the whole line. -/
def Rw (x : Sp) (N U : Int) : Prop := okB x = true → Rin x N U
theorem add_oks {x y : Sp} (h : okB (addS x y) = true) : okB x = true ∧ okB y = true := by
 rcases add_cases x y with e | ⟨_, h1, h2, _⟩
 ·
  rw [e] at h; cases h
 ·
  exact ⟨h1, h2⟩
theorem neg_oks {x : Sp} (h : okB (negS x) = true) : okB x = true := by
 cases hx : okB x
 ·
  unfold negS at h; rw [hx] at h; cases h
 ·
  rfl
theorem mul_oks {x y : Sp} (h : okB (mulS x y) = true) : okB x = true ∧ okB y = true := by
 rcases mul_cases x y with e | ⟨_, h1, h2, _⟩
 ·
  rw [e] at h; cases h
 ·
  exact ⟨h1, h2⟩
theorem sqr_oks {x : Sp} (h : okB (sqrS x) = true) : okB x = true := by
 rcases sqr_cases x with e | ⟨_, h2, _⟩
 ·
  rw [e] at h; cases h
 ·
  exact h2
theorem rw_add {x y : Sp} {N M U : Int} (hx : Rw x N U) (hy : Rw y M U) : Rw (addS x y) (N + M) U := fun h => rin_add h (hx (add_oks h).1) (hy (add_oks h).2)
theorem rw_mul {x y : Sp} {N M U V : Int} (hU : 0 < U) (hV : 0 < V) (hx : Rw x N U) (hy : Rw y M V) : Rw (mulS x y) (N * M) (U * V * 1048576) := fun h => rin_mulS h hU hV (hx (mul_oks h).1) (hy (mul_oks h).2)
theorem rw_sqr {x : Sp} {N U : Int} (hU : 0 < U) (hx : Rw x N U) : Rw (sqrS x) (N * N) (U * U * 1048576) := fun h => rin_sqr h hU (hx (sqr_oks h))
theorem rw_dot {v w : Vc} {a0 a1 a2 b0 b1 b2 U V : Int} (hU : 0 < U) (hV : 0 < V) (h0 : Rw v.x a0 U) (h1 : Rw v.y a1 U) (h2 : Rw v.z a2 U) (g0 : Rw w.x b0 V) (g1 : Rw w.y b1 V) (g2 : Rw w.z b2 V) : Rw (dotV v w) (a0 * b0 + a1 * b1 + a2 * b2) (U * V * 1048576) :=
 rw_add (rw_add (rw_mul hU hV h0 g0) (rw_mul hU hV h1 g1)) (rw_mul hU hV h2 g2)
theorem rw_norm {v : Vc} {a0 a1 a2 U : Int} (hU : 0 < U) (h0 : Rw v.x a0 U) (h1 : Rw v.y a1 U) (h2 : Rw v.z a2 U) : Rw (normV v) (a0 * a0 + a1 * a1 + a2 * a2) (U * U * 1048576) :=
 rw_add (rw_add (rw_sqr hU h0) (rw_sqr hU h1)) (rw_sqr hU h2)
def oneS : Sp := ⟨1048576, 1048576, false⟩
theorem mul_one (x : Sp) : mulS x oneS = mkS x := by
 cases hx : okB x
 ·
  rw [mkS_no hx]; exact ends_no (by rw [hx]; rfl)
 ·
  have k := ok_of hx
  rw [mkS_ok hx, mul_tight hx rfl]
  unfold tightS min4 max4 oneS
  have e : ∀ a b : Int, min a a = a ∧ max a a = a := fun a b => by omega
  rw [if_neg (by dsimp only; omega)]
  obtain ⟨l, h, a⟩ := x
  dsimp only at *
  rw [k.2.2.2]
  congr 1 <;> omega
end Go.Proofs.Ytdochhhepmlapaa

/- Turns, as numbers (no walk): the true turn is in what is enclosed. No statement of the seat is proved here. -/
namespace Go.Proofs.Ytdochhhepmlapaa
open Go.RowKit
/-- A turn, by its rows. -/
structure Tu where
 a : Vc
 b : Vc
 c : Vc
def idT : Tu := ⟨⟨ofS 1048576 1048576, ofS 0 0, ofS 0 0⟩, ⟨ofS 0 0, ofS 1048576 1048576, ofS 0 0⟩, ⟨ofS 0 0, ofS 0 0, ofS 1048576 1048576⟩⟩
def turnT (r : Tu) : Tu := ⟨⟨r.a.x, r.b.x, r.c.x⟩, ⟨r.a.y, r.b.y, r.c.y⟩, ⟨r.a.z, r.b.z, r.c.z⟩⟩
def mulT (r q : Tu) : Tu := ⟨⟨dotV r.a (turnT q).a, dotV r.a (turnT q).b, dotV r.a (turnT q).c⟩, ⟨dotV r.b (turnT q).a, dotV r.b (turnT q).b, dotV r.b (turnT q).c⟩, ⟨dotV r.c (turnT q).a, dotV r.c (turnT q).b, dotV r.c (turnT q).c⟩⟩
def acrT (w : Vc) : Tu := ⟨⟨ofS 0 0, negS w.z, w.y⟩, ⟨w.z, ofS 0 0, negS w.x⟩, ⟨negS w.y, w.x, ofS 0 0⟩⟩
def twiT (w : Vc) : Tu := ⟨⟨negS (addS (sqrS w.y) (sqrS w.z)), mulS w.x w.y, mulS w.x w.z⟩, ⟨mulS w.x w.y, negS (addS (sqrS w.x) (sqrS w.z)), mulS w.y w.z⟩, ⟨mulS w.x w.z, mulS w.y w.z, negS (addS (sqrS w.x) (sqrS w.y))⟩⟩
def plcS (i a k b l : Sp) : Sp := addS (addS i (mulS a k)) (mulS b l)
def plcV (i : Vc) (a : Sp) (k : Vc) (b : Sp) (l : Vc) : Vc := ⟨plcS i.x a k.x b l.x, plcS i.y a k.y b l.y, plcS i.z a k.z b l.z⟩
def plcT (i : Tu) (a : Sp) (k : Tu) (b : Sp) (l : Tu) : Tu := ⟨plcV i.a a k.a b l.a, plcV i.b a k.b b l.b, plcV i.c a k.c b l.c⟩
def expT (w : Vc) : Tu := plcT idT (encS 1 (normV w)) (acrT w) (encS 2 (normV w)) (twiT w)
/-- Numbers at the places. -/
structure V3 where
 x : Int
 y : Int
 z : Int
structure M3 where
 a : V3
 b : V3
 c : V3
def dot3 (v u : V3) : Int := v.x * u.x + v.y * u.y + v.z * u.z
def turn3 (m : M3) : M3 := ⟨⟨m.a.x, m.b.x, m.c.x⟩, ⟨m.a.y, m.b.y, m.c.y⟩, ⟨m.a.z, m.b.z, m.c.z⟩⟩
def mul3 (m n : M3) : M3 := ⟨⟨dot3 m.a (turn3 n).a, dot3 m.a (turn3 n).b, dot3 m.a (turn3 n).c⟩, ⟨dot3 m.b (turn3 n).a, dot3 m.b (turn3 n).b, dot3 m.b (turn3 n).c⟩, ⟨dot3 m.c (turn3 n).a, dot3 m.c (turn3 n).b, dot3 m.c (turn3 n).c⟩⟩
def RwV (v : Vc) (n : V3) (U : Int) : Prop := Rw v.x n.x U ∧ Rw v.y n.y U ∧ Rw v.z n.z U
def RwT (r : Tu) (m : M3) (U : Int) : Prop := RwV r.a m.a U ∧ RwV r.b m.b U ∧ RwV r.c m.c U
theorem rwV_dot {v u : Vc} {n m : V3} {U V : Int} (hU : 0 < U) (hV : 0 < V) (h : RwV v n U) (g : RwV u m V) : Rw (dotV v u) (dot3 n m) (U * V * 1048576) := rw_dot hU hV h.1 h.2.1 h.2.2 g.1 g.2.1 g.2.2
theorem rwT_turn {r : Tu} {m : M3} {U : Int} (h : RwT r m U) : RwT (turnT r) (turn3 m) U := ⟨⟨h.1.1, h.2.1.1, h.2.2.1⟩, ⟨h.1.2.1, h.2.1.2.1, h.2.2.2.1⟩, ⟨h.1.2.2, h.2.1.2.2, h.2.2.2.2⟩⟩
theorem rwT_mul {r q : Tu} {m n : M3} {U V : Int} (hU : 0 < U) (hV : 0 < V) (h : RwT r m U) (g : RwT q n V) : RwT (mulT r q) (mul3 m n) (U * V * 1048576) :=
 have t := rwT_turn g
 ⟨⟨rwV_dot hU hV h.1 t.1, rwV_dot hU hV h.1 t.2.1, rwV_dot hU hV h.1 t.2.2⟩, ⟨rwV_dot hU hV h.2.1 t.1, rwV_dot hU hV h.2.1 t.2.1, rwV_dot hU hV h.2.1 t.2.2⟩, ⟨rwV_dot hU hV h.2.2 t.1, rwV_dot hU hV h.2.2 t.2.1, rwV_dot hU hV h.2.2 t.2.2⟩⟩
theorem rw_neg {x : Sp} {N U : Int} (h : Rw x N U) : Rw (negS x) (-N) U := fun hk => rin_neg (neg_oks hk) (h (neg_oks hk))
/-- Over another measure. -/
theorem rw_to {x : Sp} {N U M V : Int} (hU : 0 < U) (hV : 0 < V) (e : N * V = M * U) (h : Rw x N U) : Rw x M V := by
 intro hk
 obtain ⟨h1, h2⟩ := h hk
 have g1 := Int.mul_le_mul_of_nonneg_right h1 (Int.le_of_lt hV)
 have g2 := Int.mul_le_mul_of_nonneg_right h2 (Int.le_of_lt hV)
 rw [e] at g1 g2
 exact ⟨Int.le_of_mul_le_mul_right (by rw [Int.mul_assoc, Int.mul_comm V U, ← Int.mul_assoc]; exact g1) hU, Int.le_of_mul_le_mul_right (by rw [Int.mul_assoc, Int.mul_comm V U, ← Int.mul_assoc]; exact g2) hU⟩
/-- RotChain, as numbers. -/
def meetT (r q : Tu) : Prop := (meetB r.a.x q.a.x = true ∧ meetB r.a.y q.a.y = true ∧ meetB r.a.z q.a.z = true) ∧ (meetB r.b.x q.b.x = true ∧ meetB r.b.y q.b.y = true ∧ meetB r.b.z q.b.z = true) ∧ (meetB r.c.x q.c.x = true ∧ meetB r.c.y q.c.y = true ∧ meetB r.c.z q.c.z = true)
end Go.Proofs.Ytdochhhepmlapaa

/- Turns in memory: cells told by names. No statement of the seat is proved here. -/
namespace Go.Proofs.Ytdochhhepmlapaa
open Go Go.RowKit
def cS (x : Sp) : Array Value := #[.int .i64 x.lo, .int .i64 x.hi, .bool x.all]
def cV (v : Vc) : Array Value := #[.int .i64 v.x.lo, .int .i64 v.x.hi, .bool v.x.all, .int .i64 v.y.lo, .int .i64 v.y.hi, .bool v.y.all, .int .i64 v.z.lo, .int .i64 v.z.hi, .bool v.z.all]
def cT (r : Tu) : Array Value := #[.int .i64 r.a.x.lo, .int .i64 r.a.x.hi, .bool r.a.x.all, .int .i64 r.a.y.lo, .int .i64 r.a.y.hi, .bool r.a.y.all, .int .i64 r.a.z.lo, .int .i64 r.a.z.hi, .bool r.a.z.all,
 .int .i64 r.b.x.lo, .int .i64 r.b.x.hi, .bool r.b.x.all, .int .i64 r.b.y.lo, .int .i64 r.b.y.hi, .bool r.b.y.all, .int .i64 r.b.z.lo, .int .i64 r.b.z.hi, .bool r.b.z.all,
 .int .i64 r.c.x.lo, .int .i64 r.c.x.hi, .bool r.c.x.all, .int .i64 r.c.y.lo, .int .i64 r.c.y.hi, .bool r.c.y.all, .int .i64 r.c.z.lo, .int .i64 r.c.z.hi, .bool r.c.z.all]
def zS : Sp := ⟨0, 0, false⟩
def zV : Vc := ⟨zS, zS, zS⟩
def zT : Tu := ⟨zV, zV, zV⟩
def atV (v : Vc) : Nat → Sp
 | 0 => v.x
 | 1 => v.y
 | _ => v.z
def rowT (r : Tu) : Nat → Vc
 | 0 => r.a
 | 1 => r.b
 | _ => r.c
def atT (r : Tu) (i j : Nat) : Sp := atV (rowT r i) j
theorem cT_row (r : Tu) {i : Nat} (hi : i < 3) : (cT r).extract (i * 9) (i * 9 + 9) = cV (rowT r i) := by
 rcases (by omega : i = 0 ∨ i = 1 ∨ i = 2) with rfl | rfl | rfl <;> kernel_rfl
theorem cT_at (r : Tu) {i j : Nat} (hi : i < 3) (hj : j < 3) : (cT r).extract (i * 9 + j * 3) (i * 9 + j * 3 + 3) = cS (atT r i j) := by
 rcases (by omega : i = 0 ∨ i = 1 ∨ i = 2) with rfl | rfl | rfl <;> rcases (by omega : j = 0 ∨ j = 1 ∨ j = 2) with rfl | rfl | rfl <;> kernel_rfl
theorem cT_le (r : Tu) {i j : Nat} (hi : i < 3) (hj : j < 3) : i * 9 + j * 3 + 3 ≤ (cT r).size := by show _ ≤ 27; omega
theorem cT_le9 (r : Tu) {i : Nat} (hi : i < 3) : i * 9 + 9 ≤ (cT r).size := by show _ ≤ 27; omega
theorem run_ixT (b : Nat) {i : Nat} (hi : i < 3) (W : World) : (Instr.indexAt 50 (.pointer (some ⟨b, 0, none⟩)) (.int .i64 (i : Int))).run Try.prog W = .ok (.pointer (some ⟨b, i * 9, none⟩)) W := by
 rcases (by omega : i = 0 ∨ i = 1 ∨ i = 2) with rfl | rfl | rfl <;> kernel_rfl
theorem run_ixV (b off : Nat) {j : Nat} (hj : j < 3) (W : World) : (Instr.indexAt 25 (.pointer (some ⟨b, off, none⟩)) (.int .i64 (j : Int))).run Try.prog W = .ok (.pointer (some ⟨b, off + j * 3, none⟩)) W := by
 rcases (by omega : j = 0 ∨ j = 1 ∨ j = 2) with rfl | rfl | rfl <;> kernel_rfl
theorem zv50 (W : World) : (zeroValue 50).run Try.prog W = .ok (.agg (cT zT)) W := by kernel_rfl
theorem sz50 (W : World) : (sizeOf 50).run Try.prog W = .ok 27 W := by kernel_rfl
theorem ag50 (W : World) : (isAgg 50).run Try.prog W = .ok true W := by kernel_rfl
theorem ag25 (W : World) : (isAgg 25).run Try.prog W = .ok true W := by kernel_rfl
theorem ag23 (W : World) : (isAgg 23).run Try.prog W = .ok true W := by kernel_rfl
theorem ag4 (W : World) : (isAgg 4).run Try.prog W = .ok false W := by kernel_rfl
end Go.Proofs.Ytdochhhepmlapaa

/- Package rot: the walk of made. No statement of the seat is proved here. -/
namespace Go.Proofs.Ytdochhhepmlapaa
open Go Go.RowKit
set_option maxRecDepth 100000 in
set_option maxHeartbeats 12800000 in
theorem mkT_any (k : FuncId) (caps : Array Value) (va : Int → Int → Array Value) (r : Tu) (hva : ∀ i j : Int, #[.int .i64 i, .int .i64 j] ++ caps = va i j) (hk : ∀ (args : Array Value) (W : World), (callFunc k args).run Try.prog W = .ok (.enter k args) W)  (w : World) (h : ∀ i j : Nat, i < 3 → j < 3 → ∀ W : World, Below w.heap.size w W → Calls Try.prog k (va i j) W (PVal (.agg (cS (atT r i j))) W))  : Calls Try.prog 70 #[.func (.func k) #[] caps] w (PVal (.agg (cT r)) w) := by
 have H00 := Lib.hid (show ∀ W : World, Below w.heap.size w W → Calls Try.prog k (va 0 0) W (PVal (.agg (cS r.a.x)) W) from h 0 0 (by decide) (by decide))
 have H01 := Lib.hid (show ∀ W : World, Below w.heap.size w W → Calls Try.prog k (va 0 1) W (PVal (.agg (cS r.a.y)) W) from h 0 1 (by decide) (by decide))
 have H02 := Lib.hid (show ∀ W : World, Below w.heap.size w W → Calls Try.prog k (va 0 2) W (PVal (.agg (cS r.a.z)) W) from h 0 2 (by decide) (by decide))
 have H10 := Lib.hid (show ∀ W : World, Below w.heap.size w W → Calls Try.prog k (va 1 0) W (PVal (.agg (cS r.b.x)) W) from h 1 0 (by decide) (by decide))
 have H11 := Lib.hid (show ∀ W : World, Below w.heap.size w W → Calls Try.prog k (va 1 1) W (PVal (.agg (cS r.b.y)) W) from h 1 1 (by decide) (by decide))
 have H12 := Lib.hid (show ∀ W : World, Below w.heap.size w W → Calls Try.prog k (va 1 2) W (PVal (.agg (cS r.b.z)) W) from h 1 2 (by decide) (by decide))
 have H20 := Lib.hid (show ∀ W : World, Below w.heap.size w W → Calls Try.prog k (va 2 0) W (PVal (.agg (cS r.c.x)) W) from h 2 0 (by decide) (by decide))
 have H21 := Lib.hid (show ∀ W : World, Below w.heap.size w W → Calls Try.prog k (va 2 1) W (PVal (.agg (cS r.c.y)) W) from h 2 1 (by decide) (by decide))
 have H22 := Lib.hid (show ∀ W : World, Below w.heap.size w W → Calls Try.prog k (va 2 2) W (PVal (.agg (cS r.c.z)) W) from h 2 2 (by decide) (by decide))
 clear h
 have hJ0 := es_nil w
 go_enter Try.func70, Try.ntmps70
 go_wp2_with (refine stop_alloc 50 (cT zT) (.agg (cT zT)) rfl rfl zv50 rfl hJ0 (fun bk1 W1 hJ1 => ?_))
 clear hJ0
 unfold Stop
 try simp only [Act.put, List.setIfInBounds_toArray, List.set_cons_succ, List.set_cons_zero]
 go_wp2_with (refine stop_alloc 50 (cT zT) (.agg (cT zT)) rfl rfl zv50 rfl hJ1 (fun bk2 W2 hJ2 => ?_))
 clear hJ1
 unfold Stop
 try simp only [Act.put, List.setIfInBounds_toArray, List.set_cons_succ, List.set_cons_zero]
 go_wp2
 refine wp_loop_rounds 4 ?_
 rw [rounds_succ]
 go_wp2
 refine wp_loop_rounds 4 ?_
 rw [rounds_succ]
 go_wp2
 obtain ⟨m8_2, hm⟩ : ∃ m, m = W2.heap.size := ⟨_, rfl⟩
 have hM := hJ2.em
 rw [← hm] at hM
 clear hm hJ2
 refine wp_region_z 8 [some 12, some 13, some 14, some 15, some 16, some 17, some 18, some 19] (veL m8_2 [.eq (.int .i64 0), .eq (.int .i64 0), .eq (.func (.func k) #[] caps), .eq (.int .i64 0), .eq (.int .i64 0), .eq (.agg (cS r.a.x)), .eq (.pointer (some ⟨bk2, 0, none⟩)), .eq (.pointer (some ⟨bk2, 0, none⟩))]) (Em w m8_2 [(bk2, (cT zT), 50), (bk1, (cT zT), 50)]) (by kernel_rfl) (by kernel_rfl) (by rfl) (by decide) (by rfl) hM ?_ ?_
 ·
  intro i hl hi uu ww aa hJ hd hev hin
  clear hM
  obtain rfl | rfl | rfl | rfl | rfl | rfl | rfl | rfl : i = 0 ∨ i = 1 ∨ i = 2 ∨ i = 3 ∨ i = 4 ∨ i = 5 ∨ i = 6 ∨ i = 7 := by omega
  ·
   exact .inr ⟨rfl, fun K' hK => wp_move (.tmp 4) rfl (eval_tmp ((hev 4 (by decide)).trans rfl)) (hK _ _ hJ rfl veL_same)⟩
  ·
   exact .inr ⟨rfl, fun K' hK => wp_move (.tmp 5) rfl (eval_tmp ((hev 5 (by decide)).trans rfl)) (hK _ _ hJ rfl veL_same)⟩
  ·
   exact .inr ⟨rfl, fun K' hK => wp_move (.tmp 0) rfl (eval_tmp ((hev 0 (by decide)).trans rfl)) (hK _ _ hJ rfl veL_same)⟩
  ·
   exact .inr ⟨rfl, fun K' hK => wp_move (.tmp 4) rfl (eval_tmp ((hev 4 (by decide)).trans rfl)) (hK _ _ hJ rfl veL_same)⟩
  ·
   exact .inr ⟨rfl, fun K' hK => wp_move (.tmp 5) rfl (eval_tmp ((hev 5 (by decide)).trans rfl)) (hK _ _ hJ rfl veL_same)⟩
  ·
   exact .inr ⟨rfl, fun K' hK => wp_callv (.tmp 14) #[.tmp 15, .tmp 16] _ k caps #[.int .i64 0, .int .i64 0] (va 0 0) rfl (eval_tmp ((hin 2 14 rfl).trans (congrArg some (show uu 2 = .func (.func k) #[] caps from hd 2 (by decide) (by kernel_rfl))))) (map2 (eval_tmp ((hin 3 15 rfl).trans (congrArg some (show uu 3 = .int .i64 0 from hd 3 (by decide) (by kernel_rfl))))) (eval_tmp ((hin 4 16 rfl).trans (congrArg some (show uu 4 = .int .i64 0 from hd 4 (by decide) (by kernel_rfl)))))) (hva 0 0) hk (H00.out ww hJ.es.below) (fun _ hB => (hK _ _ (hJ.later hB) rfl (veL_later hB)))⟩
  ·
   exact .inr ⟨rfl, fun K' hK => wp_ixa 50 (.tmp 3) (.tmp 12) rfl (eval_tmp ((hev 3 (by decide)).trans rfl)) (eval_tmp ((hin 0 12 rfl).trans (congrArg some (show uu 0 = .int .i64 0 from hd 0 (by decide) (by kernel_rfl))))) (fun _ => by kernel_rfl) (hK _ _ hJ rfl veL_same)⟩
  ·
   exact .inr ⟨rfl, fun K' hK => wp_ixa 25 (.tmp 18) (.tmp 13) rfl (eval_tmp ((hin 6 18 rfl).trans (congrArg some (show uu 6 = .pointer (some ⟨bk2, 0, none⟩) from hd 6 (by decide) (by kernel_rfl))))) (eval_tmp ((hin 1 13 rfl).trans (congrArg some (show uu 1 = .int .i64 0 from hd 1 (by decide) (by kernel_rfl))))) (fun _ => by kernel_rfl) (hK _ _ hJ rfl veL_same)⟩
 clear hM
 intro uu W3 hJm hd
 have e_0 : uu 0 = .int .i64 0 := hd 0 (by decide)
 have e_1 : uu 1 = .int .i64 0 := hd 1 (by decide)
 have e_2 : uu 2 = .func (.func k) #[] caps := hd 2 (by decide)
 have e_3 : uu 3 = .int .i64 0 := hd 3 (by decide)
 have e_4 : uu 4 = .int .i64 0 := hd 4 (by decide)
 have e_5 : uu 5 = .agg (cS r.a.x) := hd 5 (by decide)
 have e_6 : uu 6 = .pointer (some ⟨bk2, 0, none⟩) := hd 6 (by decide)
 have e_7 : uu 7 = .pointer (some ⟨bk2, 0, none⟩) := hd 7 (by decide)
 clear hd
 simp only [layS, Act.put, List.setIfInBounds_toArray, List.set_cons_succ, List.set_cons_zero, Nat.zero_add, Nat.reduceAdd, List.drop_succ_cons, List.drop_zero, List.drop_nil, e_0, e_1, e_2, e_3, e_4, e_5, e_6, e_7]
 clear e_0 e_1 e_2 e_3 e_4 e_5 e_6 e_7
 have hJ3 := hJm.es
 clear hJm
 go_wp2_with (refine stop_store 23 (.tmp 19) (.tmp 17) 0 bk2 0 (cT zT) 50 3 (cS r.a.x).toList (cT ⟨⟨r.a.x, zS, zS⟩, zV, zV⟩) [(bk2, (cT ⟨⟨r.a.x, zS, zS⟩, zV, zV⟩), 50), (bk1, (cT zT), 50)] rfl rfl rfl rfl sz23 hJ3 rfl (by kernel_rfl) (Nat.le_of_ble_eq_true (by kernel_rfl)) (by kernel_rfl) (by kernel_rfl) (by kernel_rfl) (fun W4 hJ4 => ?_))
 clear hJ3
 unfold Stop
 try simp only [Act.put, List.setIfInBounds_toArray, List.set_cons_succ, List.set_cons_zero]
 go_wp2
 rw [rounds_succ]
 go_wp2
 obtain ⟨m8_4, hm⟩ : ∃ m, m = W4.heap.size := ⟨_, rfl⟩
 have hM := hJ4.em
 rw [← hm] at hM
 clear hm hJ4
 refine wp_region_z 8 [some 12, some 13, some 14, some 15, some 16, some 17, some 18, some 19] (veL m8_4 [.eq (.int .i64 0), .eq (.int .i64 1), .eq (.func (.func k) #[] caps), .eq (.int .i64 0), .eq (.int .i64 1), .eq (.agg (cS r.a.y)), .eq (.pointer (some ⟨bk2, 0, none⟩)), .eq (.pointer (some ⟨bk2, 3, none⟩))]) (Em w m8_4 [(bk2, (cT ⟨⟨r.a.x, zS, zS⟩, zV, zV⟩), 50), (bk1, (cT zT), 50)]) (by kernel_rfl) (by kernel_rfl) (by rfl) (by decide) (by rfl) hM ?_ ?_
 ·
  intro i hl hi uu ww aa hJ hd hev hin
  clear hM
  obtain rfl | rfl | rfl | rfl | rfl | rfl | rfl | rfl : i = 0 ∨ i = 1 ∨ i = 2 ∨ i = 3 ∨ i = 4 ∨ i = 5 ∨ i = 6 ∨ i = 7 := by omega
  ·
   exact .inr ⟨rfl, fun K' hK => wp_move (.tmp 4) rfl (eval_tmp ((hev 4 (by decide)).trans rfl)) (hK _ _ hJ rfl veL_same)⟩
  ·
   exact .inr ⟨rfl, fun K' hK => wp_move (.tmp 5) rfl (eval_tmp ((hev 5 (by decide)).trans rfl)) (hK _ _ hJ rfl veL_same)⟩
  ·
   exact .inr ⟨rfl, fun K' hK => wp_move (.tmp 0) rfl (eval_tmp ((hev 0 (by decide)).trans rfl)) (hK _ _ hJ rfl veL_same)⟩
  ·
   exact .inr ⟨rfl, fun K' hK => wp_move (.tmp 4) rfl (eval_tmp ((hev 4 (by decide)).trans rfl)) (hK _ _ hJ rfl veL_same)⟩
  ·
   exact .inr ⟨rfl, fun K' hK => wp_move (.tmp 5) rfl (eval_tmp ((hev 5 (by decide)).trans rfl)) (hK _ _ hJ rfl veL_same)⟩
  ·
   exact .inr ⟨rfl, fun K' hK => wp_callv (.tmp 14) #[.tmp 15, .tmp 16] _ k caps #[.int .i64 0, .int .i64 1] (va 0 1) rfl (eval_tmp ((hin 2 14 rfl).trans (congrArg some (show uu 2 = .func (.func k) #[] caps from hd 2 (by decide) (by kernel_rfl))))) (map2 (eval_tmp ((hin 3 15 rfl).trans (congrArg some (show uu 3 = .int .i64 0 from hd 3 (by decide) (by kernel_rfl))))) (eval_tmp ((hin 4 16 rfl).trans (congrArg some (show uu 4 = .int .i64 1 from hd 4 (by decide) (by kernel_rfl)))))) (hva 0 1) hk (H01.out ww hJ.es.below) (fun _ hB => (hK _ _ (hJ.later hB) rfl (veL_later hB)))⟩
  ·
   exact .inr ⟨rfl, fun K' hK => wp_ixa 50 (.tmp 3) (.tmp 12) rfl (eval_tmp ((hev 3 (by decide)).trans rfl)) (eval_tmp ((hin 0 12 rfl).trans (congrArg some (show uu 0 = .int .i64 0 from hd 0 (by decide) (by kernel_rfl))))) (fun _ => by kernel_rfl) (hK _ _ hJ rfl veL_same)⟩
  ·
   exact .inr ⟨rfl, fun K' hK => wp_ixa 25 (.tmp 18) (.tmp 13) rfl (eval_tmp ((hin 6 18 rfl).trans (congrArg some (show uu 6 = .pointer (some ⟨bk2, 0, none⟩) from hd 6 (by decide) (by kernel_rfl))))) (eval_tmp ((hin 1 13 rfl).trans (congrArg some (show uu 1 = .int .i64 1 from hd 1 (by decide) (by kernel_rfl))))) (fun _ => by kernel_rfl) (hK _ _ hJ rfl veL_same)⟩
 clear hM
 intro uu W5 hJm hd
 have e_0 : uu 0 = .int .i64 0 := hd 0 (by decide)
 have e_1 : uu 1 = .int .i64 1 := hd 1 (by decide)
 have e_2 : uu 2 = .func (.func k) #[] caps := hd 2 (by decide)
 have e_3 : uu 3 = .int .i64 0 := hd 3 (by decide)
 have e_4 : uu 4 = .int .i64 1 := hd 4 (by decide)
 have e_5 : uu 5 = .agg (cS r.a.y) := hd 5 (by decide)
 have e_6 : uu 6 = .pointer (some ⟨bk2, 0, none⟩) := hd 6 (by decide)
 have e_7 : uu 7 = .pointer (some ⟨bk2, 3, none⟩) := hd 7 (by decide)
 clear hd
 simp only [layS, Act.put, List.setIfInBounds_toArray, List.set_cons_succ, List.set_cons_zero, Nat.zero_add, Nat.reduceAdd, List.drop_succ_cons, List.drop_zero, List.drop_nil, e_0, e_1, e_2, e_3, e_4, e_5, e_6, e_7]
 clear e_0 e_1 e_2 e_3 e_4 e_5 e_6 e_7
 have hJ5 := hJm.es
 clear hJm
 go_wp2_with (refine stop_store 23 (.tmp 19) (.tmp 17) 0 bk2 3 (cT ⟨⟨r.a.x, zS, zS⟩, zV, zV⟩) 50 3 (cS r.a.y).toList (cT ⟨⟨r.a.x, r.a.y, zS⟩, zV, zV⟩) [(bk2, (cT ⟨⟨r.a.x, r.a.y, zS⟩, zV, zV⟩), 50), (bk1, (cT zT), 50)] rfl rfl rfl rfl sz23 hJ5 rfl (by kernel_rfl) (Nat.le_of_ble_eq_true (by kernel_rfl)) (by kernel_rfl) (by kernel_rfl) (by kernel_rfl) (fun W6 hJ6 => ?_))
 clear hJ5
 unfold Stop
 try simp only [Act.put, List.setIfInBounds_toArray, List.set_cons_succ, List.set_cons_zero]
 go_wp2
 rw [rounds_succ]
 go_wp2
 obtain ⟨m8_6, hm⟩ : ∃ m, m = W6.heap.size := ⟨_, rfl⟩
 have hM := hJ6.em
 rw [← hm] at hM
 clear hm hJ6
 refine wp_region_z 8 [some 12, some 13, some 14, some 15, some 16, some 17, some 18, some 19] (veL m8_6 [.eq (.int .i64 0), .eq (.int .i64 2), .eq (.func (.func k) #[] caps), .eq (.int .i64 0), .eq (.int .i64 2), .eq (.agg (cS r.a.z)), .eq (.pointer (some ⟨bk2, 0, none⟩)), .eq (.pointer (some ⟨bk2, 6, none⟩))]) (Em w m8_6 [(bk2, (cT ⟨⟨r.a.x, r.a.y, zS⟩, zV, zV⟩), 50), (bk1, (cT zT), 50)]) (by kernel_rfl) (by kernel_rfl) (by rfl) (by decide) (by rfl) hM ?_ ?_
 ·
  intro i hl hi uu ww aa hJ hd hev hin
  clear hM
  obtain rfl | rfl | rfl | rfl | rfl | rfl | rfl | rfl : i = 0 ∨ i = 1 ∨ i = 2 ∨ i = 3 ∨ i = 4 ∨ i = 5 ∨ i = 6 ∨ i = 7 := by omega
  ·
   exact .inr ⟨rfl, fun K' hK => wp_move (.tmp 4) rfl (eval_tmp ((hev 4 (by decide)).trans rfl)) (hK _ _ hJ rfl veL_same)⟩
  ·
   exact .inr ⟨rfl, fun K' hK => wp_move (.tmp 5) rfl (eval_tmp ((hev 5 (by decide)).trans rfl)) (hK _ _ hJ rfl veL_same)⟩
  ·
   exact .inr ⟨rfl, fun K' hK => wp_move (.tmp 0) rfl (eval_tmp ((hev 0 (by decide)).trans rfl)) (hK _ _ hJ rfl veL_same)⟩
  ·
   exact .inr ⟨rfl, fun K' hK => wp_move (.tmp 4) rfl (eval_tmp ((hev 4 (by decide)).trans rfl)) (hK _ _ hJ rfl veL_same)⟩
  ·
   exact .inr ⟨rfl, fun K' hK => wp_move (.tmp 5) rfl (eval_tmp ((hev 5 (by decide)).trans rfl)) (hK _ _ hJ rfl veL_same)⟩
  ·
   exact .inr ⟨rfl, fun K' hK => wp_callv (.tmp 14) #[.tmp 15, .tmp 16] _ k caps #[.int .i64 0, .int .i64 2] (va 0 2) rfl (eval_tmp ((hin 2 14 rfl).trans (congrArg some (show uu 2 = .func (.func k) #[] caps from hd 2 (by decide) (by kernel_rfl))))) (map2 (eval_tmp ((hin 3 15 rfl).trans (congrArg some (show uu 3 = .int .i64 0 from hd 3 (by decide) (by kernel_rfl))))) (eval_tmp ((hin 4 16 rfl).trans (congrArg some (show uu 4 = .int .i64 2 from hd 4 (by decide) (by kernel_rfl)))))) (hva 0 2) hk (H02.out ww hJ.es.below) (fun _ hB => (hK _ _ (hJ.later hB) rfl (veL_later hB)))⟩
  ·
   exact .inr ⟨rfl, fun K' hK => wp_ixa 50 (.tmp 3) (.tmp 12) rfl (eval_tmp ((hev 3 (by decide)).trans rfl)) (eval_tmp ((hin 0 12 rfl).trans (congrArg some (show uu 0 = .int .i64 0 from hd 0 (by decide) (by kernel_rfl))))) (fun _ => by kernel_rfl) (hK _ _ hJ rfl veL_same)⟩
  ·
   exact .inr ⟨rfl, fun K' hK => wp_ixa 25 (.tmp 18) (.tmp 13) rfl (eval_tmp ((hin 6 18 rfl).trans (congrArg some (show uu 6 = .pointer (some ⟨bk2, 0, none⟩) from hd 6 (by decide) (by kernel_rfl))))) (eval_tmp ((hin 1 13 rfl).trans (congrArg some (show uu 1 = .int .i64 2 from hd 1 (by decide) (by kernel_rfl))))) (fun _ => by kernel_rfl) (hK _ _ hJ rfl veL_same)⟩
 clear hM
 intro uu W7 hJm hd
 have e_0 : uu 0 = .int .i64 0 := hd 0 (by decide)
 have e_1 : uu 1 = .int .i64 2 := hd 1 (by decide)
 have e_2 : uu 2 = .func (.func k) #[] caps := hd 2 (by decide)
 have e_3 : uu 3 = .int .i64 0 := hd 3 (by decide)
 have e_4 : uu 4 = .int .i64 2 := hd 4 (by decide)
 have e_5 : uu 5 = .agg (cS r.a.z) := hd 5 (by decide)
 have e_6 : uu 6 = .pointer (some ⟨bk2, 0, none⟩) := hd 6 (by decide)
 have e_7 : uu 7 = .pointer (some ⟨bk2, 6, none⟩) := hd 7 (by decide)
 clear hd
 simp only [layS, Act.put, List.setIfInBounds_toArray, List.set_cons_succ, List.set_cons_zero, Nat.zero_add, Nat.reduceAdd, List.drop_succ_cons, List.drop_zero, List.drop_nil, e_0, e_1, e_2, e_3, e_4, e_5, e_6, e_7]
 clear e_0 e_1 e_2 e_3 e_4 e_5 e_6 e_7
 have hJ7 := hJm.es
 clear hJm
 go_wp2_with (refine stop_store 23 (.tmp 19) (.tmp 17) 0 bk2 6 (cT ⟨⟨r.a.x, r.a.y, zS⟩, zV, zV⟩) 50 3 (cS r.a.z).toList (cT ⟨r.a, zV, zV⟩) [(bk2, (cT ⟨r.a, zV, zV⟩), 50), (bk1, (cT zT), 50)] rfl rfl rfl rfl sz23 hJ7 rfl (by kernel_rfl) (Nat.le_of_ble_eq_true (by kernel_rfl)) (by kernel_rfl) (by kernel_rfl) (by kernel_rfl) (fun W8 hJ8 => ?_))
 clear hJ7
 unfold Stop
 try simp only [Act.put, List.setIfInBounds_toArray, List.set_cons_succ, List.set_cons_zero]
 go_wp2
 rw [rounds_succ]
 go_wp2
 rw [rounds_succ]
 go_wp2
 refine wp_loop_rounds 4 ?_
 rw [rounds_succ]
 go_wp2
 obtain ⟨m8_8, hm⟩ : ∃ m, m = W8.heap.size := ⟨_, rfl⟩
 have hM := hJ8.em
 rw [← hm] at hM
 clear hm hJ8
 refine wp_region_z 8 [some 12, some 13, some 14, some 15, some 16, some 17, some 18, some 19] (veL m8_8 [.eq (.int .i64 1), .eq (.int .i64 0), .eq (.func (.func k) #[] caps), .eq (.int .i64 1), .eq (.int .i64 0), .eq (.agg (cS r.b.x)), .eq (.pointer (some ⟨bk2, 9, none⟩)), .eq (.pointer (some ⟨bk2, 9, none⟩))]) (Em w m8_8 [(bk2, (cT ⟨r.a, zV, zV⟩), 50), (bk1, (cT zT), 50)]) (by kernel_rfl) (by kernel_rfl) (by rfl) (by decide) (by rfl) hM ?_ ?_
 ·
  intro i hl hi uu ww aa hJ hd hev hin
  clear hM
  obtain rfl | rfl | rfl | rfl | rfl | rfl | rfl | rfl : i = 0 ∨ i = 1 ∨ i = 2 ∨ i = 3 ∨ i = 4 ∨ i = 5 ∨ i = 6 ∨ i = 7 := by omega
  ·
   exact .inr ⟨rfl, fun K' hK => wp_move (.tmp 4) rfl (eval_tmp ((hev 4 (by decide)).trans rfl)) (hK _ _ hJ rfl veL_same)⟩
  ·
   exact .inr ⟨rfl, fun K' hK => wp_move (.tmp 5) rfl (eval_tmp ((hev 5 (by decide)).trans rfl)) (hK _ _ hJ rfl veL_same)⟩
  ·
   exact .inr ⟨rfl, fun K' hK => wp_move (.tmp 0) rfl (eval_tmp ((hev 0 (by decide)).trans rfl)) (hK _ _ hJ rfl veL_same)⟩
  ·
   exact .inr ⟨rfl, fun K' hK => wp_move (.tmp 4) rfl (eval_tmp ((hev 4 (by decide)).trans rfl)) (hK _ _ hJ rfl veL_same)⟩
  ·
   exact .inr ⟨rfl, fun K' hK => wp_move (.tmp 5) rfl (eval_tmp ((hev 5 (by decide)).trans rfl)) (hK _ _ hJ rfl veL_same)⟩
  ·
   exact .inr ⟨rfl, fun K' hK => wp_callv (.tmp 14) #[.tmp 15, .tmp 16] _ k caps #[.int .i64 1, .int .i64 0] (va 1 0) rfl (eval_tmp ((hin 2 14 rfl).trans (congrArg some (show uu 2 = .func (.func k) #[] caps from hd 2 (by decide) (by kernel_rfl))))) (map2 (eval_tmp ((hin 3 15 rfl).trans (congrArg some (show uu 3 = .int .i64 1 from hd 3 (by decide) (by kernel_rfl))))) (eval_tmp ((hin 4 16 rfl).trans (congrArg some (show uu 4 = .int .i64 0 from hd 4 (by decide) (by kernel_rfl)))))) (hva 1 0) hk (H10.out ww hJ.es.below) (fun _ hB => (hK _ _ (hJ.later hB) rfl (veL_later hB)))⟩
  ·
   exact .inr ⟨rfl, fun K' hK => wp_ixa 50 (.tmp 3) (.tmp 12) rfl (eval_tmp ((hev 3 (by decide)).trans rfl)) (eval_tmp ((hin 0 12 rfl).trans (congrArg some (show uu 0 = .int .i64 1 from hd 0 (by decide) (by kernel_rfl))))) (fun _ => by kernel_rfl) (hK _ _ hJ rfl veL_same)⟩
  ·
   exact .inr ⟨rfl, fun K' hK => wp_ixa 25 (.tmp 18) (.tmp 13) rfl (eval_tmp ((hin 6 18 rfl).trans (congrArg some (show uu 6 = .pointer (some ⟨bk2, 9, none⟩) from hd 6 (by decide) (by kernel_rfl))))) (eval_tmp ((hin 1 13 rfl).trans (congrArg some (show uu 1 = .int .i64 0 from hd 1 (by decide) (by kernel_rfl))))) (fun _ => by kernel_rfl) (hK _ _ hJ rfl veL_same)⟩
 clear hM
 intro uu W9 hJm hd
 have e_0 : uu 0 = .int .i64 1 := hd 0 (by decide)
 have e_1 : uu 1 = .int .i64 0 := hd 1 (by decide)
 have e_2 : uu 2 = .func (.func k) #[] caps := hd 2 (by decide)
 have e_3 : uu 3 = .int .i64 1 := hd 3 (by decide)
 have e_4 : uu 4 = .int .i64 0 := hd 4 (by decide)
 have e_5 : uu 5 = .agg (cS r.b.x) := hd 5 (by decide)
 have e_6 : uu 6 = .pointer (some ⟨bk2, 9, none⟩) := hd 6 (by decide)
 have e_7 : uu 7 = .pointer (some ⟨bk2, 9, none⟩) := hd 7 (by decide)
 clear hd
 simp only [layS, Act.put, List.setIfInBounds_toArray, List.set_cons_succ, List.set_cons_zero, Nat.zero_add, Nat.reduceAdd, List.drop_succ_cons, List.drop_zero, List.drop_nil, e_0, e_1, e_2, e_3, e_4, e_5, e_6, e_7]
 clear e_0 e_1 e_2 e_3 e_4 e_5 e_6 e_7
 have hJ9 := hJm.es
 clear hJm
 go_wp2_with (refine stop_store 23 (.tmp 19) (.tmp 17) 0 bk2 9 (cT ⟨r.a, zV, zV⟩) 50 3 (cS r.b.x).toList (cT ⟨r.a, ⟨r.b.x, zS, zS⟩, zV⟩) [(bk2, (cT ⟨r.a, ⟨r.b.x, zS, zS⟩, zV⟩), 50), (bk1, (cT zT), 50)] rfl rfl rfl rfl sz23 hJ9 rfl (by kernel_rfl) (Nat.le_of_ble_eq_true (by kernel_rfl)) (by kernel_rfl) (by kernel_rfl) (by kernel_rfl) (fun W10 hJ10 => ?_))
 clear hJ9
 unfold Stop
 try simp only [Act.put, List.setIfInBounds_toArray, List.set_cons_succ, List.set_cons_zero]
 go_wp2
 rw [rounds_succ]
 go_wp2
 obtain ⟨m8_10, hm⟩ : ∃ m, m = W10.heap.size := ⟨_, rfl⟩
 have hM := hJ10.em
 rw [← hm] at hM
 clear hm hJ10
 refine wp_region_z 8 [some 12, some 13, some 14, some 15, some 16, some 17, some 18, some 19] (veL m8_10 [.eq (.int .i64 1), .eq (.int .i64 1), .eq (.func (.func k) #[] caps), .eq (.int .i64 1), .eq (.int .i64 1), .eq (.agg (cS r.b.y)), .eq (.pointer (some ⟨bk2, 9, none⟩)), .eq (.pointer (some ⟨bk2, 12, none⟩))]) (Em w m8_10 [(bk2, (cT ⟨r.a, ⟨r.b.x, zS, zS⟩, zV⟩), 50), (bk1, (cT zT), 50)]) (by kernel_rfl) (by kernel_rfl) (by rfl) (by decide) (by rfl) hM ?_ ?_
 ·
  intro i hl hi uu ww aa hJ hd hev hin
  clear hM
  obtain rfl | rfl | rfl | rfl | rfl | rfl | rfl | rfl : i = 0 ∨ i = 1 ∨ i = 2 ∨ i = 3 ∨ i = 4 ∨ i = 5 ∨ i = 6 ∨ i = 7 := by omega
  ·
   exact .inr ⟨rfl, fun K' hK => wp_move (.tmp 4) rfl (eval_tmp ((hev 4 (by decide)).trans rfl)) (hK _ _ hJ rfl veL_same)⟩
  ·
   exact .inr ⟨rfl, fun K' hK => wp_move (.tmp 5) rfl (eval_tmp ((hev 5 (by decide)).trans rfl)) (hK _ _ hJ rfl veL_same)⟩
  ·
   exact .inr ⟨rfl, fun K' hK => wp_move (.tmp 0) rfl (eval_tmp ((hev 0 (by decide)).trans rfl)) (hK _ _ hJ rfl veL_same)⟩
  ·
   exact .inr ⟨rfl, fun K' hK => wp_move (.tmp 4) rfl (eval_tmp ((hev 4 (by decide)).trans rfl)) (hK _ _ hJ rfl veL_same)⟩
  ·
   exact .inr ⟨rfl, fun K' hK => wp_move (.tmp 5) rfl (eval_tmp ((hev 5 (by decide)).trans rfl)) (hK _ _ hJ rfl veL_same)⟩
  ·
   exact .inr ⟨rfl, fun K' hK => wp_callv (.tmp 14) #[.tmp 15, .tmp 16] _ k caps #[.int .i64 1, .int .i64 1] (va 1 1) rfl (eval_tmp ((hin 2 14 rfl).trans (congrArg some (show uu 2 = .func (.func k) #[] caps from hd 2 (by decide) (by kernel_rfl))))) (map2 (eval_tmp ((hin 3 15 rfl).trans (congrArg some (show uu 3 = .int .i64 1 from hd 3 (by decide) (by kernel_rfl))))) (eval_tmp ((hin 4 16 rfl).trans (congrArg some (show uu 4 = .int .i64 1 from hd 4 (by decide) (by kernel_rfl)))))) (hva 1 1) hk (H11.out ww hJ.es.below) (fun _ hB => (hK _ _ (hJ.later hB) rfl (veL_later hB)))⟩
  ·
   exact .inr ⟨rfl, fun K' hK => wp_ixa 50 (.tmp 3) (.tmp 12) rfl (eval_tmp ((hev 3 (by decide)).trans rfl)) (eval_tmp ((hin 0 12 rfl).trans (congrArg some (show uu 0 = .int .i64 1 from hd 0 (by decide) (by kernel_rfl))))) (fun _ => by kernel_rfl) (hK _ _ hJ rfl veL_same)⟩
  ·
   exact .inr ⟨rfl, fun K' hK => wp_ixa 25 (.tmp 18) (.tmp 13) rfl (eval_tmp ((hin 6 18 rfl).trans (congrArg some (show uu 6 = .pointer (some ⟨bk2, 9, none⟩) from hd 6 (by decide) (by kernel_rfl))))) (eval_tmp ((hin 1 13 rfl).trans (congrArg some (show uu 1 = .int .i64 1 from hd 1 (by decide) (by kernel_rfl))))) (fun _ => by kernel_rfl) (hK _ _ hJ rfl veL_same)⟩
 clear hM
 intro uu W11 hJm hd
 have e_0 : uu 0 = .int .i64 1 := hd 0 (by decide)
 have e_1 : uu 1 = .int .i64 1 := hd 1 (by decide)
 have e_2 : uu 2 = .func (.func k) #[] caps := hd 2 (by decide)
 have e_3 : uu 3 = .int .i64 1 := hd 3 (by decide)
 have e_4 : uu 4 = .int .i64 1 := hd 4 (by decide)
 have e_5 : uu 5 = .agg (cS r.b.y) := hd 5 (by decide)
 have e_6 : uu 6 = .pointer (some ⟨bk2, 9, none⟩) := hd 6 (by decide)
 have e_7 : uu 7 = .pointer (some ⟨bk2, 12, none⟩) := hd 7 (by decide)
 clear hd
 simp only [layS, Act.put, List.setIfInBounds_toArray, List.set_cons_succ, List.set_cons_zero, Nat.zero_add, Nat.reduceAdd, List.drop_succ_cons, List.drop_zero, List.drop_nil, e_0, e_1, e_2, e_3, e_4, e_5, e_6, e_7]
 clear e_0 e_1 e_2 e_3 e_4 e_5 e_6 e_7
 have hJ11 := hJm.es
 clear hJm
 go_wp2_with (refine stop_store 23 (.tmp 19) (.tmp 17) 0 bk2 12 (cT ⟨r.a, ⟨r.b.x, zS, zS⟩, zV⟩) 50 3 (cS r.b.y).toList (cT ⟨r.a, ⟨r.b.x, r.b.y, zS⟩, zV⟩) [(bk2, (cT ⟨r.a, ⟨r.b.x, r.b.y, zS⟩, zV⟩), 50), (bk1, (cT zT), 50)] rfl rfl rfl rfl sz23 hJ11 rfl (by kernel_rfl) (Nat.le_of_ble_eq_true (by kernel_rfl)) (by kernel_rfl) (by kernel_rfl) (by kernel_rfl) (fun W12 hJ12 => ?_))
 clear hJ11
 unfold Stop
 try simp only [Act.put, List.setIfInBounds_toArray, List.set_cons_succ, List.set_cons_zero]
 go_wp2
 rw [rounds_succ]
 go_wp2
 obtain ⟨m8_12, hm⟩ : ∃ m, m = W12.heap.size := ⟨_, rfl⟩
 have hM := hJ12.em
 rw [← hm] at hM
 clear hm hJ12
 refine wp_region_z 8 [some 12, some 13, some 14, some 15, some 16, some 17, some 18, some 19] (veL m8_12 [.eq (.int .i64 1), .eq (.int .i64 2), .eq (.func (.func k) #[] caps), .eq (.int .i64 1), .eq (.int .i64 2), .eq (.agg (cS r.b.z)), .eq (.pointer (some ⟨bk2, 9, none⟩)), .eq (.pointer (some ⟨bk2, 15, none⟩))]) (Em w m8_12 [(bk2, (cT ⟨r.a, ⟨r.b.x, r.b.y, zS⟩, zV⟩), 50), (bk1, (cT zT), 50)]) (by kernel_rfl) (by kernel_rfl) (by rfl) (by decide) (by rfl) hM ?_ ?_
 ·
  intro i hl hi uu ww aa hJ hd hev hin
  clear hM
  obtain rfl | rfl | rfl | rfl | rfl | rfl | rfl | rfl : i = 0 ∨ i = 1 ∨ i = 2 ∨ i = 3 ∨ i = 4 ∨ i = 5 ∨ i = 6 ∨ i = 7 := by omega
  ·
   exact .inr ⟨rfl, fun K' hK => wp_move (.tmp 4) rfl (eval_tmp ((hev 4 (by decide)).trans rfl)) (hK _ _ hJ rfl veL_same)⟩
  ·
   exact .inr ⟨rfl, fun K' hK => wp_move (.tmp 5) rfl (eval_tmp ((hev 5 (by decide)).trans rfl)) (hK _ _ hJ rfl veL_same)⟩
  ·
   exact .inr ⟨rfl, fun K' hK => wp_move (.tmp 0) rfl (eval_tmp ((hev 0 (by decide)).trans rfl)) (hK _ _ hJ rfl veL_same)⟩
  ·
   exact .inr ⟨rfl, fun K' hK => wp_move (.tmp 4) rfl (eval_tmp ((hev 4 (by decide)).trans rfl)) (hK _ _ hJ rfl veL_same)⟩
  ·
   exact .inr ⟨rfl, fun K' hK => wp_move (.tmp 5) rfl (eval_tmp ((hev 5 (by decide)).trans rfl)) (hK _ _ hJ rfl veL_same)⟩
  ·
   exact .inr ⟨rfl, fun K' hK => wp_callv (.tmp 14) #[.tmp 15, .tmp 16] _ k caps #[.int .i64 1, .int .i64 2] (va 1 2) rfl (eval_tmp ((hin 2 14 rfl).trans (congrArg some (show uu 2 = .func (.func k) #[] caps from hd 2 (by decide) (by kernel_rfl))))) (map2 (eval_tmp ((hin 3 15 rfl).trans (congrArg some (show uu 3 = .int .i64 1 from hd 3 (by decide) (by kernel_rfl))))) (eval_tmp ((hin 4 16 rfl).trans (congrArg some (show uu 4 = .int .i64 2 from hd 4 (by decide) (by kernel_rfl)))))) (hva 1 2) hk (H12.out ww hJ.es.below) (fun _ hB => (hK _ _ (hJ.later hB) rfl (veL_later hB)))⟩
  ·
   exact .inr ⟨rfl, fun K' hK => wp_ixa 50 (.tmp 3) (.tmp 12) rfl (eval_tmp ((hev 3 (by decide)).trans rfl)) (eval_tmp ((hin 0 12 rfl).trans (congrArg some (show uu 0 = .int .i64 1 from hd 0 (by decide) (by kernel_rfl))))) (fun _ => by kernel_rfl) (hK _ _ hJ rfl veL_same)⟩
  ·
   exact .inr ⟨rfl, fun K' hK => wp_ixa 25 (.tmp 18) (.tmp 13) rfl (eval_tmp ((hin 6 18 rfl).trans (congrArg some (show uu 6 = .pointer (some ⟨bk2, 9, none⟩) from hd 6 (by decide) (by kernel_rfl))))) (eval_tmp ((hin 1 13 rfl).trans (congrArg some (show uu 1 = .int .i64 2 from hd 1 (by decide) (by kernel_rfl))))) (fun _ => by kernel_rfl) (hK _ _ hJ rfl veL_same)⟩
 clear hM
 intro uu W13 hJm hd
 have e_0 : uu 0 = .int .i64 1 := hd 0 (by decide)
 have e_1 : uu 1 = .int .i64 2 := hd 1 (by decide)
 have e_2 : uu 2 = .func (.func k) #[] caps := hd 2 (by decide)
 have e_3 : uu 3 = .int .i64 1 := hd 3 (by decide)
 have e_4 : uu 4 = .int .i64 2 := hd 4 (by decide)
 have e_5 : uu 5 = .agg (cS r.b.z) := hd 5 (by decide)
 have e_6 : uu 6 = .pointer (some ⟨bk2, 9, none⟩) := hd 6 (by decide)
 have e_7 : uu 7 = .pointer (some ⟨bk2, 15, none⟩) := hd 7 (by decide)
 clear hd
 simp only [layS, Act.put, List.setIfInBounds_toArray, List.set_cons_succ, List.set_cons_zero, Nat.zero_add, Nat.reduceAdd, List.drop_succ_cons, List.drop_zero, List.drop_nil, e_0, e_1, e_2, e_3, e_4, e_5, e_6, e_7]
 clear e_0 e_1 e_2 e_3 e_4 e_5 e_6 e_7
 have hJ13 := hJm.es
 clear hJm
 go_wp2_with (refine stop_store 23 (.tmp 19) (.tmp 17) 0 bk2 15 (cT ⟨r.a, ⟨r.b.x, r.b.y, zS⟩, zV⟩) 50 3 (cS r.b.z).toList (cT ⟨r.a, r.b, zV⟩) [(bk2, (cT ⟨r.a, r.b, zV⟩), 50), (bk1, (cT zT), 50)] rfl rfl rfl rfl sz23 hJ13 rfl (by kernel_rfl) (Nat.le_of_ble_eq_true (by kernel_rfl)) (by kernel_rfl) (by kernel_rfl) (by kernel_rfl) (fun W14 hJ14 => ?_))
 clear hJ13
 unfold Stop
 try simp only [Act.put, List.setIfInBounds_toArray, List.set_cons_succ, List.set_cons_zero]
 go_wp2
 rw [rounds_succ]
 go_wp2
 rw [rounds_succ]
 go_wp2
 refine wp_loop_rounds 4 ?_
 rw [rounds_succ]
 go_wp2
 obtain ⟨m8_14, hm⟩ : ∃ m, m = W14.heap.size := ⟨_, rfl⟩
 have hM := hJ14.em
 rw [← hm] at hM
 clear hm hJ14
 refine wp_region_z 8 [some 12, some 13, some 14, some 15, some 16, some 17, some 18, some 19] (veL m8_14 [.eq (.int .i64 2), .eq (.int .i64 0), .eq (.func (.func k) #[] caps), .eq (.int .i64 2), .eq (.int .i64 0), .eq (.agg (cS r.c.x)), .eq (.pointer (some ⟨bk2, 18, none⟩)), .eq (.pointer (some ⟨bk2, 18, none⟩))]) (Em w m8_14 [(bk2, (cT ⟨r.a, r.b, zV⟩), 50), (bk1, (cT zT), 50)]) (by kernel_rfl) (by kernel_rfl) (by rfl) (by decide) (by rfl) hM ?_ ?_
 ·
  intro i hl hi uu ww aa hJ hd hev hin
  clear hM
  obtain rfl | rfl | rfl | rfl | rfl | rfl | rfl | rfl : i = 0 ∨ i = 1 ∨ i = 2 ∨ i = 3 ∨ i = 4 ∨ i = 5 ∨ i = 6 ∨ i = 7 := by omega
  ·
   exact .inr ⟨rfl, fun K' hK => wp_move (.tmp 4) rfl (eval_tmp ((hev 4 (by decide)).trans rfl)) (hK _ _ hJ rfl veL_same)⟩
  ·
   exact .inr ⟨rfl, fun K' hK => wp_move (.tmp 5) rfl (eval_tmp ((hev 5 (by decide)).trans rfl)) (hK _ _ hJ rfl veL_same)⟩
  ·
   exact .inr ⟨rfl, fun K' hK => wp_move (.tmp 0) rfl (eval_tmp ((hev 0 (by decide)).trans rfl)) (hK _ _ hJ rfl veL_same)⟩
  ·
   exact .inr ⟨rfl, fun K' hK => wp_move (.tmp 4) rfl (eval_tmp ((hev 4 (by decide)).trans rfl)) (hK _ _ hJ rfl veL_same)⟩
  ·
   exact .inr ⟨rfl, fun K' hK => wp_move (.tmp 5) rfl (eval_tmp ((hev 5 (by decide)).trans rfl)) (hK _ _ hJ rfl veL_same)⟩
  ·
   exact .inr ⟨rfl, fun K' hK => wp_callv (.tmp 14) #[.tmp 15, .tmp 16] _ k caps #[.int .i64 2, .int .i64 0] (va 2 0) rfl (eval_tmp ((hin 2 14 rfl).trans (congrArg some (show uu 2 = .func (.func k) #[] caps from hd 2 (by decide) (by kernel_rfl))))) (map2 (eval_tmp ((hin 3 15 rfl).trans (congrArg some (show uu 3 = .int .i64 2 from hd 3 (by decide) (by kernel_rfl))))) (eval_tmp ((hin 4 16 rfl).trans (congrArg some (show uu 4 = .int .i64 0 from hd 4 (by decide) (by kernel_rfl)))))) (hva 2 0) hk (H20.out ww hJ.es.below) (fun _ hB => (hK _ _ (hJ.later hB) rfl (veL_later hB)))⟩
  ·
   exact .inr ⟨rfl, fun K' hK => wp_ixa 50 (.tmp 3) (.tmp 12) rfl (eval_tmp ((hev 3 (by decide)).trans rfl)) (eval_tmp ((hin 0 12 rfl).trans (congrArg some (show uu 0 = .int .i64 2 from hd 0 (by decide) (by kernel_rfl))))) (fun _ => by kernel_rfl) (hK _ _ hJ rfl veL_same)⟩
  ·
   exact .inr ⟨rfl, fun K' hK => wp_ixa 25 (.tmp 18) (.tmp 13) rfl (eval_tmp ((hin 6 18 rfl).trans (congrArg some (show uu 6 = .pointer (some ⟨bk2, 18, none⟩) from hd 6 (by decide) (by kernel_rfl))))) (eval_tmp ((hin 1 13 rfl).trans (congrArg some (show uu 1 = .int .i64 0 from hd 1 (by decide) (by kernel_rfl))))) (fun _ => by kernel_rfl) (hK _ _ hJ rfl veL_same)⟩
 clear hM
 intro uu W15 hJm hd
 have e_0 : uu 0 = .int .i64 2 := hd 0 (by decide)
 have e_1 : uu 1 = .int .i64 0 := hd 1 (by decide)
 have e_2 : uu 2 = .func (.func k) #[] caps := hd 2 (by decide)
 have e_3 : uu 3 = .int .i64 2 := hd 3 (by decide)
 have e_4 : uu 4 = .int .i64 0 := hd 4 (by decide)
 have e_5 : uu 5 = .agg (cS r.c.x) := hd 5 (by decide)
 have e_6 : uu 6 = .pointer (some ⟨bk2, 18, none⟩) := hd 6 (by decide)
 have e_7 : uu 7 = .pointer (some ⟨bk2, 18, none⟩) := hd 7 (by decide)
 clear hd
 simp only [layS, Act.put, List.setIfInBounds_toArray, List.set_cons_succ, List.set_cons_zero, Nat.zero_add, Nat.reduceAdd, List.drop_succ_cons, List.drop_zero, List.drop_nil, e_0, e_1, e_2, e_3, e_4, e_5, e_6, e_7]
 clear e_0 e_1 e_2 e_3 e_4 e_5 e_6 e_7
 have hJ15 := hJm.es
 clear hJm
 go_wp2_with (refine stop_store 23 (.tmp 19) (.tmp 17) 0 bk2 18 (cT ⟨r.a, r.b, zV⟩) 50 3 (cS r.c.x).toList (cT ⟨r.a, r.b, ⟨r.c.x, zS, zS⟩⟩) [(bk2, (cT ⟨r.a, r.b, ⟨r.c.x, zS, zS⟩⟩), 50), (bk1, (cT zT), 50)] rfl rfl rfl rfl sz23 hJ15 rfl (by kernel_rfl) (Nat.le_of_ble_eq_true (by kernel_rfl)) (by kernel_rfl) (by kernel_rfl) (by kernel_rfl) (fun W16 hJ16 => ?_))
 clear hJ15
 unfold Stop
 try simp only [Act.put, List.setIfInBounds_toArray, List.set_cons_succ, List.set_cons_zero]
 go_wp2
 rw [rounds_succ]
 go_wp2
 obtain ⟨m8_16, hm⟩ : ∃ m, m = W16.heap.size := ⟨_, rfl⟩
 have hM := hJ16.em
 rw [← hm] at hM
 clear hm hJ16
 refine wp_region_z 8 [some 12, some 13, some 14, some 15, some 16, some 17, some 18, some 19] (veL m8_16 [.eq (.int .i64 2), .eq (.int .i64 1), .eq (.func (.func k) #[] caps), .eq (.int .i64 2), .eq (.int .i64 1), .eq (.agg (cS r.c.y)), .eq (.pointer (some ⟨bk2, 18, none⟩)), .eq (.pointer (some ⟨bk2, 21, none⟩))]) (Em w m8_16 [(bk2, (cT ⟨r.a, r.b, ⟨r.c.x, zS, zS⟩⟩), 50), (bk1, (cT zT), 50)]) (by kernel_rfl) (by kernel_rfl) (by rfl) (by decide) (by rfl) hM ?_ ?_
 ·
  intro i hl hi uu ww aa hJ hd hev hin
  clear hM
  obtain rfl | rfl | rfl | rfl | rfl | rfl | rfl | rfl : i = 0 ∨ i = 1 ∨ i = 2 ∨ i = 3 ∨ i = 4 ∨ i = 5 ∨ i = 6 ∨ i = 7 := by omega
  ·
   exact .inr ⟨rfl, fun K' hK => wp_move (.tmp 4) rfl (eval_tmp ((hev 4 (by decide)).trans rfl)) (hK _ _ hJ rfl veL_same)⟩
  ·
   exact .inr ⟨rfl, fun K' hK => wp_move (.tmp 5) rfl (eval_tmp ((hev 5 (by decide)).trans rfl)) (hK _ _ hJ rfl veL_same)⟩
  ·
   exact .inr ⟨rfl, fun K' hK => wp_move (.tmp 0) rfl (eval_tmp ((hev 0 (by decide)).trans rfl)) (hK _ _ hJ rfl veL_same)⟩
  ·
   exact .inr ⟨rfl, fun K' hK => wp_move (.tmp 4) rfl (eval_tmp ((hev 4 (by decide)).trans rfl)) (hK _ _ hJ rfl veL_same)⟩
  ·
   exact .inr ⟨rfl, fun K' hK => wp_move (.tmp 5) rfl (eval_tmp ((hev 5 (by decide)).trans rfl)) (hK _ _ hJ rfl veL_same)⟩
  ·
   exact .inr ⟨rfl, fun K' hK => wp_callv (.tmp 14) #[.tmp 15, .tmp 16] _ k caps #[.int .i64 2, .int .i64 1] (va 2 1) rfl (eval_tmp ((hin 2 14 rfl).trans (congrArg some (show uu 2 = .func (.func k) #[] caps from hd 2 (by decide) (by kernel_rfl))))) (map2 (eval_tmp ((hin 3 15 rfl).trans (congrArg some (show uu 3 = .int .i64 2 from hd 3 (by decide) (by kernel_rfl))))) (eval_tmp ((hin 4 16 rfl).trans (congrArg some (show uu 4 = .int .i64 1 from hd 4 (by decide) (by kernel_rfl)))))) (hva 2 1) hk (H21.out ww hJ.es.below) (fun _ hB => (hK _ _ (hJ.later hB) rfl (veL_later hB)))⟩
  ·
   exact .inr ⟨rfl, fun K' hK => wp_ixa 50 (.tmp 3) (.tmp 12) rfl (eval_tmp ((hev 3 (by decide)).trans rfl)) (eval_tmp ((hin 0 12 rfl).trans (congrArg some (show uu 0 = .int .i64 2 from hd 0 (by decide) (by kernel_rfl))))) (fun _ => by kernel_rfl) (hK _ _ hJ rfl veL_same)⟩
  ·
   exact .inr ⟨rfl, fun K' hK => wp_ixa 25 (.tmp 18) (.tmp 13) rfl (eval_tmp ((hin 6 18 rfl).trans (congrArg some (show uu 6 = .pointer (some ⟨bk2, 18, none⟩) from hd 6 (by decide) (by kernel_rfl))))) (eval_tmp ((hin 1 13 rfl).trans (congrArg some (show uu 1 = .int .i64 1 from hd 1 (by decide) (by kernel_rfl))))) (fun _ => by kernel_rfl) (hK _ _ hJ rfl veL_same)⟩
 clear hM
 intro uu W17 hJm hd
 have e_0 : uu 0 = .int .i64 2 := hd 0 (by decide)
 have e_1 : uu 1 = .int .i64 1 := hd 1 (by decide)
 have e_2 : uu 2 = .func (.func k) #[] caps := hd 2 (by decide)
 have e_3 : uu 3 = .int .i64 2 := hd 3 (by decide)
 have e_4 : uu 4 = .int .i64 1 := hd 4 (by decide)
 have e_5 : uu 5 = .agg (cS r.c.y) := hd 5 (by decide)
 have e_6 : uu 6 = .pointer (some ⟨bk2, 18, none⟩) := hd 6 (by decide)
 have e_7 : uu 7 = .pointer (some ⟨bk2, 21, none⟩) := hd 7 (by decide)
 clear hd
 simp only [layS, Act.put, List.setIfInBounds_toArray, List.set_cons_succ, List.set_cons_zero, Nat.zero_add, Nat.reduceAdd, List.drop_succ_cons, List.drop_zero, List.drop_nil, e_0, e_1, e_2, e_3, e_4, e_5, e_6, e_7]
 clear e_0 e_1 e_2 e_3 e_4 e_5 e_6 e_7
 have hJ17 := hJm.es
 clear hJm
 go_wp2_with (refine stop_store 23 (.tmp 19) (.tmp 17) 0 bk2 21 (cT ⟨r.a, r.b, ⟨r.c.x, zS, zS⟩⟩) 50 3 (cS r.c.y).toList (cT ⟨r.a, r.b, ⟨r.c.x, r.c.y, zS⟩⟩) [(bk2, (cT ⟨r.a, r.b, ⟨r.c.x, r.c.y, zS⟩⟩), 50), (bk1, (cT zT), 50)] rfl rfl rfl rfl sz23 hJ17 rfl (by kernel_rfl) (Nat.le_of_ble_eq_true (by kernel_rfl)) (by kernel_rfl) (by kernel_rfl) (by kernel_rfl) (fun W18 hJ18 => ?_))
 clear hJ17
 unfold Stop
 try simp only [Act.put, List.setIfInBounds_toArray, List.set_cons_succ, List.set_cons_zero]
 go_wp2
 rw [rounds_succ]
 go_wp2
 obtain ⟨m8_18, hm⟩ : ∃ m, m = W18.heap.size := ⟨_, rfl⟩
 have hM := hJ18.em
 rw [← hm] at hM
 clear hm hJ18
 refine wp_region_z 8 [some 12, some 13, some 14, some 15, some 16, some 17, some 18, some 19] (veL m8_18 [.eq (.int .i64 2), .eq (.int .i64 2), .eq (.func (.func k) #[] caps), .eq (.int .i64 2), .eq (.int .i64 2), .eq (.agg (cS r.c.z)), .eq (.pointer (some ⟨bk2, 18, none⟩)), .eq (.pointer (some ⟨bk2, 24, none⟩))]) (Em w m8_18 [(bk2, (cT ⟨r.a, r.b, ⟨r.c.x, r.c.y, zS⟩⟩), 50), (bk1, (cT zT), 50)]) (by kernel_rfl) (by kernel_rfl) (by rfl) (by decide) (by rfl) hM ?_ ?_
 ·
  intro i hl hi uu ww aa hJ hd hev hin
  clear hM
  obtain rfl | rfl | rfl | rfl | rfl | rfl | rfl | rfl : i = 0 ∨ i = 1 ∨ i = 2 ∨ i = 3 ∨ i = 4 ∨ i = 5 ∨ i = 6 ∨ i = 7 := by omega
  ·
   exact .inr ⟨rfl, fun K' hK => wp_move (.tmp 4) rfl (eval_tmp ((hev 4 (by decide)).trans rfl)) (hK _ _ hJ rfl veL_same)⟩
  ·
   exact .inr ⟨rfl, fun K' hK => wp_move (.tmp 5) rfl (eval_tmp ((hev 5 (by decide)).trans rfl)) (hK _ _ hJ rfl veL_same)⟩
  ·
   exact .inr ⟨rfl, fun K' hK => wp_move (.tmp 0) rfl (eval_tmp ((hev 0 (by decide)).trans rfl)) (hK _ _ hJ rfl veL_same)⟩
  ·
   exact .inr ⟨rfl, fun K' hK => wp_move (.tmp 4) rfl (eval_tmp ((hev 4 (by decide)).trans rfl)) (hK _ _ hJ rfl veL_same)⟩
  ·
   exact .inr ⟨rfl, fun K' hK => wp_move (.tmp 5) rfl (eval_tmp ((hev 5 (by decide)).trans rfl)) (hK _ _ hJ rfl veL_same)⟩
  ·
   exact .inr ⟨rfl, fun K' hK => wp_callv (.tmp 14) #[.tmp 15, .tmp 16] _ k caps #[.int .i64 2, .int .i64 2] (va 2 2) rfl (eval_tmp ((hin 2 14 rfl).trans (congrArg some (show uu 2 = .func (.func k) #[] caps from hd 2 (by decide) (by kernel_rfl))))) (map2 (eval_tmp ((hin 3 15 rfl).trans (congrArg some (show uu 3 = .int .i64 2 from hd 3 (by decide) (by kernel_rfl))))) (eval_tmp ((hin 4 16 rfl).trans (congrArg some (show uu 4 = .int .i64 2 from hd 4 (by decide) (by kernel_rfl)))))) (hva 2 2) hk (H22.out ww hJ.es.below) (fun _ hB => (hK _ _ (hJ.later hB) rfl (veL_later hB)))⟩
  ·
   exact .inr ⟨rfl, fun K' hK => wp_ixa 50 (.tmp 3) (.tmp 12) rfl (eval_tmp ((hev 3 (by decide)).trans rfl)) (eval_tmp ((hin 0 12 rfl).trans (congrArg some (show uu 0 = .int .i64 2 from hd 0 (by decide) (by kernel_rfl))))) (fun _ => by kernel_rfl) (hK _ _ hJ rfl veL_same)⟩
  ·
   exact .inr ⟨rfl, fun K' hK => wp_ixa 25 (.tmp 18) (.tmp 13) rfl (eval_tmp ((hin 6 18 rfl).trans (congrArg some (show uu 6 = .pointer (some ⟨bk2, 18, none⟩) from hd 6 (by decide) (by kernel_rfl))))) (eval_tmp ((hin 1 13 rfl).trans (congrArg some (show uu 1 = .int .i64 2 from hd 1 (by decide) (by kernel_rfl))))) (fun _ => by kernel_rfl) (hK _ _ hJ rfl veL_same)⟩
 clear hM
 intro uu W19 hJm hd
 have e_0 : uu 0 = .int .i64 2 := hd 0 (by decide)
 have e_1 : uu 1 = .int .i64 2 := hd 1 (by decide)
 have e_2 : uu 2 = .func (.func k) #[] caps := hd 2 (by decide)
 have e_3 : uu 3 = .int .i64 2 := hd 3 (by decide)
 have e_4 : uu 4 = .int .i64 2 := hd 4 (by decide)
 have e_5 : uu 5 = .agg (cS r.c.z) := hd 5 (by decide)
 have e_6 : uu 6 = .pointer (some ⟨bk2, 18, none⟩) := hd 6 (by decide)
 have e_7 : uu 7 = .pointer (some ⟨bk2, 24, none⟩) := hd 7 (by decide)
 clear hd
 simp only [layS, Act.put, List.setIfInBounds_toArray, List.set_cons_succ, List.set_cons_zero, Nat.zero_add, Nat.reduceAdd, List.drop_succ_cons, List.drop_zero, List.drop_nil, e_0, e_1, e_2, e_3, e_4, e_5, e_6, e_7]
 clear e_0 e_1 e_2 e_3 e_4 e_5 e_6 e_7
 have hJ19 := hJm.es
 clear hJm
 go_wp2_with (refine stop_store 23 (.tmp 19) (.tmp 17) 0 bk2 24 (cT ⟨r.a, r.b, ⟨r.c.x, r.c.y, zS⟩⟩) 50 3 (cS r.c.z).toList (cT r) [(bk2, (cT r), 50), (bk1, (cT zT), 50)] rfl rfl rfl rfl sz23 hJ19 rfl (by kernel_rfl) (Nat.le_of_ble_eq_true (by kernel_rfl)) (by kernel_rfl) (by kernel_rfl) (by kernel_rfl) (fun W20 hJ20 => ?_))
 clear hJ19
 unfold Stop
 try simp only [Act.put, List.setIfInBounds_toArray, List.set_cons_succ, List.set_cons_zero]
 go_wp2
 rw [rounds_succ]
 go_wp2
 rw [rounds_succ]
 go_wp2_with (refine stop_op rfl (fun K hK => wp_load 50 (.tmp 3) rfl bk2 0 27 (cT r) (cT r) 50 (hJ20.at' _ (List.mem_of_getElem? (i := 0) rfl)) rfl ag50 sz50 (Nat.le_of_ble_eq_true (by kernel_rfl)) (by kernel_rfl) (hK _ _ ?_)))
 unfold Stop
 try simp only [Act.put, List.setIfInBounds_toArray, List.set_cons_succ, List.set_cons_zero]
 go_wp2_with (refine stop_store 50 (.tmp 2) (.tmp 22) 1 bk1 0 (cT zT) 50 27 (cT r).toList (cT r) [(bk2, (cT r), 50), (bk1, (cT r), 50)] rfl rfl rfl rfl sz50 hJ20 rfl (by kernel_rfl) (Nat.le_of_ble_eq_true (by kernel_rfl)) (by kernel_rfl) (by kernel_rfl) (by kernel_rfl) (fun W21 hJ21 => ?_))
 clear hJ20
 unfold Stop
 try simp only [Act.put, List.setIfInBounds_toArray, List.set_cons_succ, List.set_cons_zero]
 go_wp2
 exact bodyPost_ret (v := .agg (cT r)) (results_cell 1 Try.results70 hJ21 rfl ag50 sz50 (Nat.le_of_ble_eq_true (by kernel_rfl)) rfl (by kernel_rfl)) rfl ⟨rfl, hJ21.below⟩
end Go.Proofs.Ytdochhhepmlapaa

/- Package vec: the walks of both, each, sum, from. No statement of the seat is proved here. -/
namespace Go.Proofs.Ytdochhhepmlapaa
open Go Go.RowKit
theorem run_vix0 (a0 b0 : Int) (c0 : Bool) (a1 b1 : Int) (c1 : Bool) (a2 b2 : Int) (c2 : Bool) (W : World) : Sem.run Try.prog (Instr.index 25 (.agg #[.int .i64 a0, .int .i64 b0, .bool c0, .int .i64 a1, .int .i64 b1, .bool c1, .int .i64 a2, .int .i64 b2, .bool c2]) (.int .i64 0)) W = .ok (.agg #[.int .i64 a0, .int .i64 b0, .bool c0]) W := by kernel_rfl
theorem run_vix1 (a0 b0 : Int) (c0 : Bool) (a1 b1 : Int) (c1 : Bool) (a2 b2 : Int) (c2 : Bool) (W : World) : Sem.run Try.prog (Instr.index 25 (.agg #[.int .i64 a0, .int .i64 b0, .bool c0, .int .i64 a1, .int .i64 b1, .bool c1, .int .i64 a2, .int .i64 b2, .bool c2]) (.int .i64 1)) W = .ok (.agg #[.int .i64 a1, .int .i64 b1, .bool c1]) W := by kernel_rfl
theorem run_vix2 (a0 b0 : Int) (c0 : Bool) (a1 b1 : Int) (c1 : Bool) (a2 b2 : Int) (c2 : Bool) (W : World) : Sem.run Try.prog (Instr.index 25 (.agg #[.int .i64 a0, .int .i64 b0, .bool c0, .int .i64 a1, .int .i64 b1, .bool c1, .int .i64 a2, .int .i64 b2, .bool c2]) (.int .i64 2)) W = .ok (.agg #[.int .i64 a2, .int .i64 b2, .bool c2]) W := by kernel_rfl
attribute [local go_sem] run_vix0 run_vix1 run_vix2
theorem run_vbuild (a0 b0 : Int) (c0 : Bool) (a1 b1 : Int) (c1 : Bool) (a2 b2 : Int) (c2 : Bool) (W : World) : Sem.run Try.prog (Instr.build 25 #[(0, .agg #[.int .i64 a0, .int .i64 b0, .bool c0]), (1, .agg #[.int .i64 a1, .int .i64 b1, .bool c1]), (2, .agg #[.int .i64 a2, .int .i64 b2, .bool c2])]) W = .ok (.agg #[.int .i64 a0, .int .i64 b0, .bool c0, .int .i64 a1, .int .i64 b1, .bool c1, .int .i64 a2, .int .i64 b2, .bool c2]) W := by kernel_rfl
theorem run_dbuild (a0 b0 : Int) (c0 : Bool) (a1 b1 : Int) (c1 : Bool) (a2 b2 : Int) (c2 : Bool) (W : World) : Sem.run Try.prog (Instr.build 29 #[(0, .agg #[.int .i64 a0, .int .i64 b0, .bool c0]), (1, .agg #[.int .i64 a1, .int .i64 b1, .bool c1]), (2, .agg #[.int .i64 a2, .int .i64 b2, .bool c2])]) W = .ok (.agg #[.int .i64 a0, .int .i64 b0, .bool c0, .int .i64 a1, .int .i64 b1, .bool c1, .int .i64 a2, .int .i64 b2, .bool c2]) W := by kernel_rfl
attribute [local go_sem ↓] run_vbuild run_dbuild
end Go.Proofs.Ytdochhhepmlapaa
