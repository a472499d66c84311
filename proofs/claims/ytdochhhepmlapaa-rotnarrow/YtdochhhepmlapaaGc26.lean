/- Parts of the proof. -/
import Derived.Test.YtdochhhepmlapaaGc21
import Derived.Test.YtdochhhepmlapaaGc25
import Derived.LoopN
/- The document's spans: the walk of Mul. No statement of the seat is proved here. -/
namespace Go.Proofs.Ytdochhhepmlapaa
open Go Go.RowKit
theorem mul_tight {x y : Sp} (hx : okB x = true) (hy : okB y = true) : mulS x y = tightS (min4 x y) (max4 x y) 1048576 := by
 have corner : ∀ a b : Int, min4 x y ≤ a * b → a * b ≤ max4 x y → ¬ (min4 x y / 1048576 < -2147483647 ∨ -max4 x y / 1048576 < -2147483647 ∨ 2147483647 < min4 x y / 1048576 ∨ 2147483647 < -max4 x y / 1048576) → okB (mulR a b) = true := by
  intro a b h1 h2 h3
  unfold mulR
  rw [okB_mk]
  generalize a * b = P at *
  generalize min4 x y = m at *
  generalize max4 x y = M at *
  exact ok_mk (by show _ ≤ P / 1048576; omega) (by show P / 1048576 ≤ -(-P / 1048576); omega) (by show -(-P / 1048576) ≤ _; omega) rfl
 unfold tightS
 rcases mul_cases x y with e | ⟨h, _, _, e⟩
 ·
  rw [e]
  by_cases g : min4 x y / 1048576 < -2147483647 ∨ -max4 x y / 1048576 < -2147483647 ∨ 2147483647 < min4 x y / 1048576 ∨ 2147483647 < -max4 x y / 1048576
  ·
   rw [if_pos g]
  ·
   exfalso
   have c : ∀ a b : Int, min4 x y ≤ a * b ∧ a * b ≤ max4 x y → okB (mulR a b) = true := fun a b h => corner a b h.1 h.2 g
   have k1 := (ok_of hx).2.1
   have k2 := (ok_of hy).2.1
   have := ends_ok (R := mulR) hx hy (c _ _ (bil (Int.le_refl _) k1 (Int.le_refl _) k2)) (c _ _ (bil (Int.le_refl _) k1 k2 (Int.le_refl _))) (c _ _ (bil k1 (Int.le_refl _) (Int.le_refl _) k2)) (c _ _ (bil k1 (Int.le_refl _) k2 (Int.le_refl _)))
   rw [show endsS mulR x y = lineS from e] at this
   cases congrArg Sp.all this
 ·
  have k := ok_of h
  rw [e] at k
  replace k : -2147483647 ≤ min4 x y / 1048576 ∧ min4 x y / 1048576 ≤ -(-max4 x y / 1048576) ∧ -(-max4 x y / 1048576) ≤ 2147483647 := ⟨k.1, k.2.1, k.2.2.1⟩
  rw [e, if_neg (by omega)]
end Go.Proofs.Ytdochhhepmlapaa

/- Vectors of three spans, as numbers (no walk). No statement of the seat is proved here. -/
namespace Go.Proofs.Ytdochhhepmlapaa
open Go.RowKit
/-- A vector, by its parts. -/
structure Vc where
 x : Sp
 y : Sp
 z : Sp
def sumV (v : Vc) : Sp := addS (addS v.x v.y) v.z
def mulV (v w : Vc) : Vc := ⟨mulS v.x w.x, mulS v.y w.y, mulS v.z w.z⟩
def dotV (v w : Vc) : Sp := sumV (mulV v w)
def crossV (v w : Vc) : Vc := ⟨subS (mulS v.y w.z) (mulS v.z w.y), subS (mulS v.z w.x) (mulS v.x w.z), subS (mulS v.x w.y) (mulS v.y w.x)⟩
def sqrV (v : Vc) : Vc := ⟨sqrS v.x, sqrS v.y, sqrS v.z⟩
def normV (v : Vc) : Sp := sumV (sqrV v)
def inV (v w : Vc) : Bool := inB v.x w.x && (inB v.y w.y && inB v.z w.z)
def ofV (a b c : Int) : Vc := ⟨ofS a a, ofS b b, ofS c c⟩
/-- VecNarrow, as numbers. -/
theorem inV_of {v w : Vc} (h : inV v w = true) : inB v.x w.x = true ∧ inB v.y w.y = true ∧ inB v.z w.z = true := by
 unfold inV at h
 simp only [Bool.and_eq_true] at h
 exact h
theorem inV_mk {v w : Vc} (h1 : inB v.x w.x = true) (h2 : inB v.y w.y = true) (h3 : inB v.z w.z = true) : inV v w = true := by unfold inV; rw [h1, h2, h3]; rfl
theorem sum_in {v w : Vc} (h : inV v w = true) : inB (sumV v) (sumV w) = true := add_in (add_in (inV_of h).1 (inV_of h).2.1) (inV_of h).2.2
theorem mulV_in {v w x y : Vc} (h : inV v x = true) (g : inV w y = true) : inV (mulV v w) (mulV x y) = true := inV_mk (mul_in (inV_of h).1 (inV_of g).1) (mul_in (inV_of h).2.1 (inV_of g).2.1) (mul_in (inV_of h).2.2 (inV_of g).2.2)
theorem narrow_dot {v w x y : Vc} (h : inV v x = true) (g : inV w y = true) : inB (dotV v w) (dotV x y) = true := sum_in (mulV_in h g)
theorem narrow_cross {v w x y : Vc} (h : inV v x = true) (g : inV w y = true) : inV (crossV v w) (crossV x y) = true := by
 obtain ⟨h0, h1, h2⟩ := inV_of h
 obtain ⟨g0, g1, g2⟩ := inV_of g
 exact inV_mk (sub_in (mul_in h1 g2) (mul_in h2 g1)) (sub_in (mul_in h2 g0) (mul_in h0 g2)) (sub_in (mul_in h0 g1) (mul_in h1 g0))
theorem narrow_norm {v x : Vc} (h : inV v x = true) : inB (normV v) (normV x) = true := by
 obtain ⟨h0, h1, h2⟩ := inV_of h
 exact sum_in (inV_mk (sqr_in h0) (sqr_in h1) (sqr_in h2))
def oneS : Sp := ⟨1048576, 1048576, false⟩
theorem mul_one (x : Sp) : mulS x oneS = mkS x := by
 cases hx : okB x
 ·
  rw [mkS_no hx]; exact ends_no (by rw [hx]; rfl)
 ·
  have k := ok_of hx
  rw [mkS_ok hx, mul_tight hx rfl]
  unfold tightS min4 max4 oneS
  have e : ∀ a b : Int, min a a = a ∧ max a a = a := fun a b => by omega
  rw [if_neg (by dsimp only; omega)]
  obtain ⟨l, h, a⟩ := x
  dsimp only at *
  rw [k.2.2.2]
  congr 1 <;> omega
end Go.Proofs.Ytdochhhepmlapaa

/- Turns, as numbers (no walk): the true turn is in what is enclosed. No statement of the seat is proved here. -/
namespace Go.Proofs.Ytdochhhepmlapaa
open Go.RowKit
/-- A turn, by its rows. -/
structure Tu where
 a : Vc
 b : Vc
 c : Vc
def idT : Tu := ⟨⟨ofS 1048576 1048576, ofS 0 0, ofS 0 0⟩, ⟨ofS 0 0, ofS 1048576 1048576, ofS 0 0⟩, ⟨ofS 0 0, ofS 0 0, ofS 1048576 1048576⟩⟩
def turnT (r : Tu) : Tu := ⟨⟨r.a.x, r.b.x, r.c.x⟩, ⟨r.a.y, r.b.y, r.c.y⟩, ⟨r.a.z, r.b.z, r.c.z⟩⟩
def appT (r : Tu) (v : Vc) : Vc := ⟨dotV r.a v, dotV r.b v, dotV r.c v⟩
def mulT (r q : Tu) : Tu := ⟨⟨dotV r.a (turnT q).a, dotV r.a (turnT q).b, dotV r.a (turnT q).c⟩, ⟨dotV r.b (turnT q).a, dotV r.b (turnT q).b, dotV r.b (turnT q).c⟩, ⟨dotV r.c (turnT q).a, dotV r.c (turnT q).b, dotV r.c (turnT q).c⟩⟩
def detT (r : Tu) : Sp := dotV r.a (crossV r.b r.c)
def inT (r q : Tu) : Bool := inV r.a q.a && (inV r.b q.b && inV r.c q.c)
def acrT (w : Vc) : Tu := ⟨⟨ofS 0 0, negS w.z, w.y⟩, ⟨w.z, ofS 0 0, negS w.x⟩, ⟨negS w.y, w.x, ofS 0 0⟩⟩
def twiT (w : Vc) : Tu := ⟨⟨negS (addS (sqrS w.y) (sqrS w.z)), mulS w.x w.y, mulS w.x w.z⟩, ⟨mulS w.x w.y, negS (addS (sqrS w.x) (sqrS w.z)), mulS w.y w.z⟩, ⟨mulS w.x w.z, mulS w.y w.z, negS (addS (sqrS w.x) (sqrS w.y))⟩⟩
def plcS (i a k b l : Sp) : Sp := addS (addS i (mulS a k)) (mulS b l)
def plcV (i : Vc) (a : Sp) (k : Vc) (b : Sp) (l : Vc) : Vc := ⟨plcS i.x a k.x b l.x, plcS i.y a k.y b l.y, plcS i.z a k.z b l.z⟩
def plcT (i : Tu) (a : Sp) (k : Tu) (b : Sp) (l : Tu) : Tu := ⟨plcV i.a a k.a b l.a, plcV i.b a k.b b l.b, plcV i.c a k.c b l.c⟩
def expT (w : Vc) : Tu := plcT idT (encS 1 (normV w)) (acrT w) (encS 2 (normV w)) (twiT w)
/-- Numbers at the places. -/
structure V3 where
 x : Int
 y : Int
 z : Int
structure M3 where
 a : V3
 b : V3
 c : V3
theorem in_self (x : Sp) : inB x x = true := by
 cases hx : okB x
 ·
  unfold inB; rw [hx]; rfl
 ·
  exact (in_ok hx).2 ⟨hx, Int.le_refl _, Int.le_refl _⟩
theorem inT_mk {r q : Tu} (h1 : inV r.a q.a = true) (h2 : inV r.b q.b = true) (h3 : inV r.c q.c = true) : inT r q = true := by unfold inT; rw [h1, h2, h3]; rfl
theorem inT_of {r q : Tu} (h : inT r q = true) : inV r.a q.a = true ∧ inV r.b q.b = true ∧ inV r.c q.c = true := by
 unfold inT at h
 simp only [Bool.and_eq_true] at h
 exact h
/-- RotNarrow, as numbers. -/
theorem plc_in {i a k b l i' a' k' b' l' : Sp} (h1 : inB i i' = true) (h2 : inB a a' = true) (h3 : inB k k' = true) (h4 : inB b b' = true) (h5 : inB l l' = true) : inB (plcS i a k b l) (plcS i' a' k' b' l') = true := add_in (add_in h1 (mul_in h2 h3)) (mul_in h4 h5)
theorem plcV_in {i k l i' k' l' : Vc} {a b a' b' : Sp} (h1 : inV i i' = true) (h2 : inB a a' = true) (h3 : inV k k' = true) (h4 : inB b b' = true) (h5 : inV l l' = true) : inV (plcV i a k b l) (plcV i' a' k' b' l') = true :=
 inV_mk (plc_in (inV_of h1).1 h2 (inV_of h3).1 h4 (inV_of h5).1) (plc_in (inV_of h1).2.1 h2 (inV_of h3).2.1 h4 (inV_of h5).2.1) (plc_in (inV_of h1).2.2 h2 (inV_of h3).2.2 h4 (inV_of h5).2.2)
theorem self_V (v : Vc) : inV v v = true := inV_mk (in_self _) (in_self _) (in_self _)
theorem narrow_exp {v w : Vc} (h : inV v w = true) : inT (expT v) (expT w) = true := by
 obtain ⟨h0, h1, h2⟩ := inV_of h
 have hs := narrow_norm h
 have ha := enc_inB (c := 1) (by decide) hs
 have hb := enc_inB (c := 2) (by decide) hs
 exact inT_mk (plcV_in (self_V _) ha (inV_mk (in_self _) (neg_in h2) h1) hb (inV_mk (neg_in (add_in (sqr_in h1) (sqr_in h2))) (mul_in h0 h1) (mul_in h0 h2)))
  (plcV_in (self_V _) ha (inV_mk h2 (in_self _) (neg_in h0)) hb (inV_mk (mul_in h0 h1) (neg_in (add_in (sqr_in h0) (sqr_in h2))) (mul_in h1 h2)))
  (plcV_in (self_V _) ha (inV_mk (neg_in h1) h0 (in_self _)) hb (inV_mk (mul_in h0 h2) (mul_in h1 h2) (neg_in (add_in (sqr_in h0) (sqr_in h1)))))
theorem narrow_app {r q : Tu} (h : inT r q = true) (u : Vc) : inV (appT r u) (appT q u) = true := by
 obtain ⟨h0, h1, h2⟩ := inT_of h
 exact inV_mk (narrow_dot h0 (self_V u)) (narrow_dot h1 (self_V u)) (narrow_dot h2 (self_V u))
theorem narrow_turn {r q : Tu} (h : inT r q = true) : inT (turnT r) (turnT q) = true := by
 obtain ⟨h0, h1, h2⟩ := inT_of h
 obtain ⟨a0, a1, a2⟩ := inV_of h0
 obtain ⟨b0, b1, b2⟩ := inV_of h1
 obtain ⟨c0, c1, c2⟩ := inV_of h2
 exact inT_mk (inV_mk a0 b0 c0) (inV_mk a1 b1 c1) (inV_mk a2 b2 c2)
theorem narrow_mulT {r q : Tu} (h : inT r q = true) : inT (mulT r r) (mulT q q) = true := by
 obtain ⟨h0, h1, h2⟩ := inT_of h
 obtain ⟨t0, t1, t2⟩ := inT_of (narrow_turn h)
 exact inT_mk (inV_mk (narrow_dot h0 t0) (narrow_dot h0 t1) (narrow_dot h0 t2)) (inV_mk (narrow_dot h1 t0) (narrow_dot h1 t1) (narrow_dot h1 t2)) (inV_mk (narrow_dot h2 t0) (narrow_dot h2 t1) (narrow_dot h2 t2))
theorem narrow_det {r q : Tu} (h : inT r q = true) : inB (detT r) (detT q) = true := by
 obtain ⟨h0, h1, h2⟩ := inT_of h
 exact narrow_dot h0 (narrow_cross h1 h2)
end Go.Proofs.Ytdochhhepmlapaa

/- Turns in memory: cells told by names. No statement of the seat is proved here. -/
namespace Go.Proofs.Ytdochhhepmlapaa
open Go Go.RowKit
def cS (x : Sp) : Array Value := #[.int .i64 x.lo, .int .i64 x.hi, .bool x.all]
def cV (v : Vc) : Array Value := #[.int .i64 v.x.lo, .int .i64 v.x.hi, .bool v.x.all, .int .i64 v.y.lo, .int .i64 v.y.hi, .bool v.y.all, .int .i64 v.z.lo, .int .i64 v.z.hi, .bool v.z.all]
def cT (r : Tu) : Array Value := #[.int .i64 r.a.x.lo, .int .i64 r.a.x.hi, .bool r.a.x.all, .int .i64 r.a.y.lo, .int .i64 r.a.y.hi, .bool r.a.y.all, .int .i64 r.a.z.lo, .int .i64 r.a.z.hi, .bool r.a.z.all,
 .int .i64 r.b.x.lo, .int .i64 r.b.x.hi, .bool r.b.x.all, .int .i64 r.b.y.lo, .int .i64 r.b.y.hi, .bool r.b.y.all, .int .i64 r.b.z.lo, .int .i64 r.b.z.hi, .bool r.b.z.all,
 .int .i64 r.c.x.lo, .int .i64 r.c.x.hi, .bool r.c.x.all, .int .i64 r.c.y.lo, .int .i64 r.c.y.hi, .bool r.c.y.all, .int .i64 r.c.z.lo, .int .i64 r.c.z.hi, .bool r.c.z.all]
def zS : Sp := ⟨0, 0, false⟩
def zV : Vc := ⟨zS, zS, zS⟩
def zT : Tu := ⟨zV, zV, zV⟩
def atV (v : Vc) : Nat → Sp
 | 0 => v.x
 | 1 => v.y
 | _ => v.z
def rowT (r : Tu) : Nat → Vc
 | 0 => r.a
 | 1 => r.b
 | _ => r.c
def atT (r : Tu) (i j : Nat) : Sp := atV (rowT r i) j
theorem cT_row (r : Tu) {i : Nat} (hi : i < 3) : (cT r).extract (i * 9) (i * 9 + 9) = cV (rowT r i) := by
 rcases (by omega : i = 0 ∨ i = 1 ∨ i = 2) with rfl | rfl | rfl <;> kernel_rfl
theorem cT_at (r : Tu) {i j : Nat} (hi : i < 3) (hj : j < 3) : (cT r).extract (i * 9 + j * 3) (i * 9 + j * 3 + 3) = cS (atT r i j) := by
 rcases (by omega : i = 0 ∨ i = 1 ∨ i = 2) with rfl | rfl | rfl <;> rcases (by omega : j = 0 ∨ j = 1 ∨ j = 2) with rfl | rfl | rfl <;> kernel_rfl
theorem cT_le (r : Tu) {i j : Nat} (hi : i < 3) (hj : j < 3) : i * 9 + j * 3 + 3 ≤ (cT r).size := by show _ ≤ 27; omega
theorem cT_le9 (r : Tu) {i : Nat} (hi : i < 3) : i * 9 + 9 ≤ (cT r).size := by show _ ≤ 27; omega
theorem run_ixT (b : Nat) {i : Nat} (hi : i < 3) (W : World) : (Instr.indexAt 50 (.pointer (some ⟨b, 0, none⟩)) (.int .i64 (i : Int))).run Try.prog W = .ok (.pointer (some ⟨b, i * 9, none⟩)) W := by
 rcases (by omega : i = 0 ∨ i = 1 ∨ i = 2) with rfl | rfl | rfl <;> kernel_rfl
theorem run_ixV (b off : Nat) {j : Nat} (hj : j < 3) (W : World) : (Instr.indexAt 25 (.pointer (some ⟨b, off, none⟩)) (.int .i64 (j : Int))).run Try.prog W = .ok (.pointer (some ⟨b, off + j * 3, none⟩)) W := by
 rcases (by omega : j = 0 ∨ j = 1 ∨ j = 2) with rfl | rfl | rfl <;> kernel_rfl
theorem zv50 (W : World) : (zeroValue 50).run Try.prog W = .ok (.agg (cT zT)) W := by kernel_rfl
theorem sz50 (W : World) : (sizeOf 50).run Try.prog W = .ok 27 W := by kernel_rfl
theorem ag50 (W : World) : (isAgg 50).run Try.prog W = .ok true W := by kernel_rfl
theorem ag25 (W : World) : (isAgg 25).run Try.prog W = .ok true W := by kernel_rfl
theorem ag23 (W : World) : (isAgg 23).run Try.prog W = .ok true W := by kernel_rfl
theorem ag4 (W : World) : (isAgg 4).run Try.prog W = .ok false W := by kernel_rfl
end Go.Proofs.Ytdochhhepmlapaa

/- Package rot: the walk of made. No statement of the seat is proved here. -/
namespace Go.Proofs.Ytdochhhepmlapaa
open Go Go.RowKit
set_option maxRecDepth 100000 in
set_option maxHeartbeats 12800000 in
theorem mkT_any (k : FuncId) (caps : Array Value) (va : Int → Int → Array Value) (r : Tu) (hva : ∀ i j : Int, #[.int .i64 i, .int .i64 j] ++ caps = va i j) (hk : ∀ (args : Array Value) (W : World), (callFunc k args).run Try.prog W = .ok (.enter k args) W)  (w : World) (h : ∀ i j : Nat, i < 3 → j < 3 → ∀ W : World, Below w.heap.size w W → Calls Try.prog k (va i j) W (PVal (.agg (cS (atT r i j))) W))  : Calls Try.prog 70 #[.func (.func k) #[] caps] w (PVal (.agg (cT r)) w) := by
 have H00 := Lib.hid (show ∀ W : World, Below w.heap.size w W → Calls Try.prog k (va 0 0) W (PVal (.agg (cS r.a.x)) W) from h 0 0 (by decide) (by decide))
 have H01 := Lib.hid (show ∀ W : World, Below w.heap.size w W → Calls Try.prog k (va 0 1) W (PVal (.agg (cS r.a.y)) W) from h 0 1 (by decide) (by decide))
 have H02 := Lib.hid (show ∀ W : World, Below w.heap.size w W → Calls Try.prog k (va 0 2) W (PVal (.agg (cS r.a.z)) W) from h 0 2 (by decide) (by decide))
 have H10 := Lib.hid (show ∀ W : World, Below w.heap.size w W → Calls Try.prog k (va 1 0) W (PVal (.agg (cS r.b.x)) W) from h 1 0 (by decide) (by decide))
 have H11 := Lib.hid (show ∀ W : World, Below w.heap.size w W → Calls Try.prog k (va 1 1) W (PVal (.agg (cS r.b.y)) W) from h 1 1 (by decide) (by decide))
 have H12 := Lib.hid (show ∀ W : World, Below w.heap.size w W → Calls Try.prog k (va 1 2) W (PVal (.agg (cS r.b.z)) W) from h 1 2 (by decide) (by decide))
 have H20 := Lib.hid (show ∀ W : World, Below w.heap.size w W → Calls Try.prog k (va 2 0) W (PVal (.agg (cS r.c.x)) W) from h 2 0 (by decide) (by decide))
 have H21 := Lib.hid (show ∀ W : World, Below w.heap.size w W → Calls Try.prog k (va 2 1) W (PVal (.agg (cS r.c.y)) W) from h 2 1 (by decide) (by decide))
 have H22 := Lib.hid (show ∀ W : World, Below w.heap.size w W → Calls Try.prog k (va 2 2) W (PVal (.agg (cS r.c.z)) W) from h 2 2 (by decide) (by decide))
 clear h
 have hJ0 := es_nil w
 go_enter Try.func70, Try.ntmps70
 go_wp2_with (refine stop_alloc 50 (cT zT) (.agg (cT zT)) rfl rfl zv50 rfl hJ0 (fun bk1 W1 hJ1 => ?_))
 clear hJ0
 unfold Stop
 try simp only [Act.put, List.setIfInBounds_toArray, List.set_cons_succ, List.set_cons_zero]
 go_wp2_with (refine stop_alloc 50 (cT zT) (.agg (cT zT)) rfl rfl zv50 rfl hJ1 (fun bk2 W2 hJ2 => ?_))
 clear hJ1
 unfold Stop
 try simp only [Act.put, List.setIfInBounds_toArray, List.set_cons_succ, List.set_cons_zero]
 go_wp2
 refine wp_loop_rounds 4 ?_
 rw [rounds_succ]
 go_wp2
 refine wp_loop_rounds 4 ?_
 rw [rounds_succ]
 go_wp2
 obtain ⟨m8_2, hm⟩ : ∃ m, m = W2.heap.size := ⟨_, rfl⟩
 have hM := hJ2.em
 rw [← hm] at hM
 clear hm hJ2
 refine wp_region_z 8 [some 12, some 13, some 14, some 15, some 16, some 17, some 18, some 19] (veL m8_2 [.eq (.int .i64 0), .eq (.int .i64 0), .eq (.func (.func k) #[] caps), .eq (.int .i64 0), .eq (.int .i64 0), .eq (.agg (cS r.a.x)), .eq (.pointer (some ⟨bk2, 0, none⟩)), .eq (.pointer (some ⟨bk2, 0, none⟩))]) (Em w m8_2 [(bk2, (cT zT), 50), (bk1, (cT zT), 50)]) (by kernel_rfl) (by kernel_rfl) (by rfl) (by decide) (by rfl) hM ?_ ?_
 ·
  intro i hl hi uu ww aa hJ hd hev hin
  clear hM
  obtain rfl | rfl | rfl | rfl | rfl | rfl | rfl | rfl : i = 0 ∨ i = 1 ∨ i = 2 ∨ i = 3 ∨ i = 4 ∨ i = 5 ∨ i = 6 ∨ i = 7 := by omega
  ·
   exact .inr ⟨rfl, fun K' hK => wp_move (.tmp 4) rfl (eval_tmp ((hev 4 (by decide)).trans rfl)) (hK _ _ hJ rfl veL_same)⟩
  ·
   exact .inr ⟨rfl, fun K' hK => wp_move (.tmp 5) rfl (eval_tmp ((hev 5 (by decide)).trans rfl)) (hK _ _ hJ rfl veL_same)⟩
  ·
   exact .inr ⟨rfl, fun K' hK => wp_move (.tmp 0) rfl (eval_tmp ((hev 0 (by decide)).trans rfl)) (hK _ _ hJ rfl veL_same)⟩
  ·
   exact .inr ⟨rfl, fun K' hK => wp_move (.tmp 4) rfl (eval_tmp ((hev 4 (by decide)).trans rfl)) (hK _ _ hJ rfl veL_same)⟩
  ·
   exact .inr ⟨rfl, fun K' hK => wp_move (.tmp 5) rfl (eval_tmp ((hev 5 (by decide)).trans rfl)) (hK _ _ hJ rfl veL_same)⟩
  ·
   exact .inr ⟨rfl, fun K' hK => wp_callv (.tmp 14) #[.tmp 15, .tmp 16] _ k caps #[.int .i64 0, .int .i64 0] (va 0 0) rfl (eval_tmp ((hin 2 14 rfl).trans (congrArg some (show uu 2 = .func (.func k) #[] caps from hd 2 (by decide) (by kernel_rfl))))) (map2 (eval_tmp ((hin 3 15 rfl).trans (congrArg some (show uu 3 = .int .i64 0 from hd 3 (by decide) (by kernel_rfl))))) (eval_tmp ((hin 4 16 rfl).trans (congrArg some (show uu 4 = .int .i64 0 from hd 4 (by decide) (by kernel_rfl)))))) (hva 0 0) hk (H00.out ww hJ.es.below) (fun _ hB => (hK _ _ (hJ.later hB) rfl (veL_later hB)))⟩
  ·
   exact .inr ⟨rfl, fun K' hK => wp_ixa 50 (.tmp 3) (.tmp 12) rfl (eval_tmp ((hev 3 (by decide)).trans rfl)) (eval_tmp ((hin 0 12 rfl).trans (congrArg some (show uu 0 = .int .i64 0 from hd 0 (by decide) (by kernel_rfl))))) (fun _ => by kernel_rfl) (hK _ _ hJ rfl veL_same)⟩
  ·
   exact .inr ⟨rfl, fun K' hK => wp_ixa 25 (.tmp 18) (.tmp 13) rfl (eval_tmp ((hin 6 18 rfl).trans (congrArg some (show uu 6 = .pointer (some ⟨bk2, 0, none⟩) from hd 6 (by decide) (by kernel_rfl))))) (eval_tmp ((hin 1 13 rfl).trans (congrArg some (show uu 1 = .int .i64 0 from hd 1 (by decide) (by kernel_rfl))))) (fun _ => by kernel_rfl) (hK _ _ hJ rfl veL_same)⟩
 clear hM
 intro uu W3 hJm hd
 have e_0 : uu 0 = .int .i64 0 := hd 0 (by decide)
 have e_1 : uu 1 = .int .i64 0 := hd 1 (by decide)
 have e_2 : uu 2 = .func (.func k) #[] caps := hd 2 (by decide)
 have e_3 : uu 3 = .int .i64 0 := hd 3 (by decide)
 have e_4 : uu 4 = .int .i64 0 := hd 4 (by decide)
 have e_5 : uu 5 = .agg (cS r.a.x) := hd 5 (by decide)
 have e_6 : uu 6 = .pointer (some ⟨bk2, 0, none⟩) := hd 6 (by decide)
 have e_7 : uu 7 = .pointer (some ⟨bk2, 0, none⟩) := hd 7 (by decide)
 clear hd
 simp only [layS, Act.put, List.setIfInBounds_toArray, List.set_cons_succ, List.set_cons_zero, Nat.zero_add, Nat.reduceAdd, List.drop_succ_cons, List.drop_zero, List.drop_nil, e_0, e_1, e_2, e_3, e_4, e_5, e_6, e_7]
 clear e_0 e_1 e_2 e_3 e_4 e_5 e_6 e_7
 have hJ3 := hJm.es
 clear hJm
 go_wp2_with (refine stop_store 23 (.tmp 19) (.tmp 17) 0 bk2 0 (cT zT) 50 3 (cS r.a.x).toList (cT ⟨⟨r.a.x, zS, zS⟩, zV, zV⟩) [(bk2, (cT ⟨⟨r.a.x, zS, zS⟩, zV, zV⟩), 50), (bk1, (cT zT), 50)] rfl rfl rfl rfl sz23 hJ3 rfl (by kernel_rfl) (Nat.le_of_ble_eq_true (by kernel_rfl)) (by kernel_rfl) (by kernel_rfl) (by kernel_rfl) (fun W4 hJ4 => ?_))
 clear hJ3
 unfold Stop
 try simp only [Act.put, List.setIfInBounds_toArray, List.set_cons_succ, List.set_cons_zero]
 go_wp2
 rw [rounds_succ]
 go_wp2
 obtain ⟨m8_4, hm⟩ : ∃ m, m = W4.heap.size := ⟨_, rfl⟩
 have hM := hJ4.em
 rw [← hm] at hM
 clear hm hJ4
 refine wp_region_z 8 [some 12, some 13, some 14, some 15, some 16, some 17, some 18, some 19] (veL m8_4 [.eq (.int .i64 0), .eq (.int .i64 1), .eq (.func (.func k) #[] caps), .eq (.int .i64 0), .eq (.int .i64 1), .eq (.agg (cS r.a.y)), .eq (.pointer (some ⟨bk2, 0, none⟩)), .eq (.pointer (some ⟨bk2, 3, none⟩))]) (Em w m8_4 [(bk2, (cT ⟨⟨r.a.x, zS, zS⟩, zV, zV⟩), 50), (bk1, (cT zT), 50)]) (by kernel_rfl) (by kernel_rfl) (by rfl) (by decide) (by rfl) hM ?_ ?_
 ·
  intro i hl hi uu ww aa hJ hd hev hin
  clear hM
  obtain rfl | rfl | rfl | rfl | rfl | rfl | rfl | rfl : i = 0 ∨ i = 1 ∨ i = 2 ∨ i = 3 ∨ i = 4 ∨ i = 5 ∨ i = 6 ∨ i = 7 := by omega
  ·
   exact .inr ⟨rfl, fun K' hK => wp_move (.tmp 4) rfl (eval_tmp ((hev 4 (by decide)).trans rfl)) (hK _ _ hJ rfl veL_same)⟩
  ·
   exact .inr ⟨rfl, fun K' hK => wp_move (.tmp 5) rfl (eval_tmp ((hev 5 (by decide)).trans rfl)) (hK _ _ hJ rfl veL_same)⟩
  ·
   exact .inr ⟨rfl, fun K' hK => wp_move (.tmp 0) rfl (eval_tmp ((hev 0 (by decide)).trans rfl)) (hK _ _ hJ rfl veL_same)⟩
  ·
   exact .inr ⟨rfl, fun K' hK => wp_move (.tmp 4) rfl (eval_tmp ((hev 4 (by decide)).trans rfl)) (hK _ _ hJ rfl veL_same)⟩
  ·
   exact .inr ⟨rfl, fun K' hK => wp_move (.tmp 5) rfl (eval_tmp ((hev 5 (by decide)).trans rfl)) (hK _ _ hJ rfl veL_same)⟩
  ·
   exact .inr ⟨rfl, fun K' hK => wp_callv (.tmp 14) #[.tmp 15, .tmp 16] _ k caps #[.int .i64 0, .int .i64 1] (va 0 1) rfl (eval_tmp ((hin 2 14 rfl).trans (congrArg some (show uu 2 = .func (.func k) #[] caps from hd 2 (by decide) (by kernel_rfl))))) (map2 (eval_tmp ((hin 3 15 rfl).trans (congrArg some (show uu 3 = .int .i64 0 from hd 3 (by decide) (by kernel_rfl))))) (eval_tmp ((hin 4 16 rfl).trans (congrArg some (show uu 4 = .int .i64 1 from hd 4 (by decide) (by kernel_rfl)))))) (hva 0 1) hk (H01.out ww hJ.es.below) (fun _ hB => (hK _ _ (hJ.later hB) rfl (veL_later hB)))⟩
  ·
   exact .inr ⟨rfl, fun K' hK => wp_ixa 50 (.tmp 3) (.tmp 12) rfl (eval_tmp ((hev 3 (by decide)).trans rfl)) (eval_tmp ((hin 0 12 rfl).trans (congrArg some (show uu 0 = .int .i64 0 from hd 0 (by decide) (by kernel_rfl))))) (fun _ => by kernel_rfl) (hK _ _ hJ rfl veL_same)⟩
  ·
   exact .inr ⟨rfl, fun K' hK => wp_ixa 25 (.tmp 18) (.tmp 13) rfl (eval_tmp ((hin 6 18 rfl).trans (congrArg some (show uu 6 = .pointer (some ⟨bk2, 0, none⟩) from hd 6 (by decide) (by kernel_rfl))))) (eval_tmp ((hin 1 13 rfl).trans (congrArg some (show uu 1 = .int .i64 1 from hd 1 (by decide) (by kernel_rfl))))) (fun _ => by kernel_rfl) (hK _ _ hJ rfl veL_same)⟩
 clear hM
 intro uu W5 hJm hd
 have e_0 : uu 0 = .int .i64 0 := hd 0 (by decide)
 have e_1 : uu 1 = .int .i64 1 := hd 1 (by decide)
 have e_2 : uu 2 = .func (.func k) #[] caps := hd 2 (by decide)
 have e_3 : uu 3 = .int .i64 0 := hd 3 (by decide)
 have e_4 : uu 4 = .int .i64 1 := hd 4 (by decide)
 have e_5 : uu 5 = .agg (cS r.a.y) := hd 5 (by decide)
 have e_6 : uu 6 = .pointer (some ⟨bk2, 0, none⟩) := hd 6 (by decide)
 have e_7 : uu 7 = .pointer (some ⟨bk2, 3, none⟩) := hd 7 (by decide)
 clear hd
 simp only [layS, Act.put, List.setIfInBounds_toArray, List.set_cons_succ, List.set_cons_zero, Nat.zero_add, Nat.reduceAdd, List.drop_succ_cons, List.drop_zero, List.drop_nil, e_0, e_1, e_2, e_3, e_4, e_5, e_6, e_7]
 clear e_0 e_1 e_2 e_3 e_4 e_5 e_6 e_7
 have hJ5 := hJm.es
 clear hJm
 go_wp2_with (refine stop_store 23 (.tmp 19) (.tmp 17) 0 bk2 3 (cT ⟨⟨r.a.x, zS, zS⟩, zV, zV⟩) 50 3 (cS r.a.y).toList (cT ⟨⟨r.a.x, r.a.y, zS⟩, zV, zV⟩) [(bk2, (cT ⟨⟨r.a.x, r.a.y, zS⟩, zV, zV⟩), 50), (bk1, (cT zT), 50)] rfl rfl rfl rfl sz23 hJ5 rfl (by kernel_rfl) (Nat.le_of_ble_eq_true (by kernel_rfl)) (by kernel_rfl) (by kernel_rfl) (by kernel_rfl) (fun W6 hJ6 => ?_))
 clear hJ5
 unfold Stop
 try simp only [Act.put, List.setIfInBounds_toArray, List.set_cons_succ, List.set_cons_zero]
 go_wp2
 rw [rounds_succ]
 go_wp2
 obtain ⟨m8_6, hm⟩ : ∃ m, m = W6.heap.size := ⟨_, rfl⟩
 have hM := hJ6.em
 rw [← hm] at hM
 clear hm hJ6
 refine wp_region_z 8 [some 12, some 13, some 14, some 15, some 16, some 17, some 18, some 19] (veL m8_6 [.eq (.int .i64 0), .eq (.int .i64 2), .eq (.func (.func k) #[] caps), .eq (.int .i64 0), .eq (.int .i64 2), .eq (.agg (cS r.a.z)), .eq (.pointer (some ⟨bk2, 0, none⟩)), .eq (.pointer (some ⟨bk2, 6, none⟩))]) (Em w m8_6 [(bk2, (cT ⟨⟨r.a.x, r.a.y, zS⟩, zV, zV⟩), 50), (bk1, (cT zT), 50)]) (by kernel_rfl) (by kernel_rfl) (by rfl) (by decide) (by rfl) hM ?_ ?_
 ·
  intro i hl hi uu ww aa hJ hd hev hin
  clear hM
  obtain rfl | rfl | rfl | rfl | rfl | rfl | rfl | rfl : i = 0 ∨ i = 1 ∨ i = 2 ∨ i = 3 ∨ i = 4 ∨ i = 5 ∨ i = 6 ∨ i = 7 := by omega
  ·
   exact .inr ⟨rfl, fun K' hK => wp_move (.tmp 4) rfl (eval_tmp ((hev 4 (by decide)).trans rfl)) (hK _ _ hJ rfl veL_same)⟩
  ·
   exact .inr ⟨rfl, fun K' hK => wp_move (.tmp 5) rfl (eval_tmp ((hev 5 (by decide)).trans rfl)) (hK _ _ hJ rfl veL_same)⟩
  ·
   exact .inr ⟨rfl, fun K' hK => wp_move (.tmp 0) rfl (eval_tmp ((hev 0 (by decide)).trans rfl)) (hK _ _ hJ rfl veL_same)⟩
  ·
   exact .inr ⟨rfl, fun K' hK => wp_move (.tmp 4) rfl (eval_tmp ((hev 4 (by decide)).trans rfl)) (hK _ _ hJ rfl veL_same)⟩
  ·
   exact .inr ⟨rfl, fun K' hK => wp_move (.tmp 5) rfl (eval_tmp ((hev 5 (by decide)).trans rfl)) (hK _ _ hJ rfl veL_same)⟩
  ·
   exact .inr ⟨rfl, fun K' hK => wp_callv (.tmp 14) #[.tmp 15, .tmp 16] _ k caps #[.int .i64 0, .int .i64 2] (va 0 2) rfl (eval_tmp ((hin 2 14 rfl).trans (congrArg some (show uu 2 = .func (.func k) #[] caps from hd 2 (by decide) (by kernel_rfl))))) (map2 (eval_tmp ((hin 3 15 rfl).trans (congrArg some (show uu 3 = .int .i64 0 from hd 3 (by decide) (by kernel_rfl))))) (eval_tmp ((hin 4 16 rfl).trans (congrArg some (show uu 4 = .int .i64 2 from hd 4 (by decide) (by kernel_rfl)))))) (hva 0 2) hk (H02.out ww hJ.es.below) (fun _ hB => (hK _ _ (hJ.later hB) rfl (veL_later hB)))⟩
  ·
   exact .inr ⟨rfl, fun K' hK => wp_ixa 50 (.tmp 3) (.tmp 12) rfl (eval_tmp ((hev 3 (by decide)).trans rfl)) (eval_tmp ((hin 0 12 rfl).trans (congrArg some (show uu 0 = .int .i64 0 from hd 0 (by decide) (by kernel_rfl))))) (fun _ => by kernel_rfl) (hK _ _ hJ rfl veL_same)⟩
  ·
   exact .inr ⟨rfl, fun K' hK => wp_ixa 25 (.tmp 18) (.tmp 13) rfl (eval_tmp ((hin 6 18 rfl).trans (congrArg some (show uu 6 = .pointer (some ⟨bk2, 0, none⟩) from hd 6 (by decide) (by kernel_rfl))))) (eval_tmp ((hin 1 13 rfl).trans (congrArg some (show uu 1 = .int .i64 2 from hd 1 (by decide) (by kernel_rfl))))) (fun _ => by kernel_rfl) (hK _ _ hJ rfl veL_same)⟩
 clear hM
 intro uu W7 hJm hd
 have e_0 : uu 0 = .int .i64 0 := hd 0 (by decide)
 have e_1 : uu 1 = .int .i64 2 := hd 1 (by decide)
 have e_2 : uu 2 = .func (.func k) #[] caps := hd 2 (by decide)
 have e_3 : uu 3 = .int .i64 0 := hd 3 (by decide)
 have e_4 : uu 4 = .int .i64 2 := hd 4 (by decide)
 have e_5 : uu 5 = .agg (cS r.a.z) := hd 5 (by decide)
 have e_6 : uu 6 = .pointer (some ⟨bk2, 0, none⟩) := hd 6 (by decide)
 have e_7 : uu 7 = .pointer (some ⟨bk2, 6, none⟩) := hd 7 (by decide)
 clear hd
 simp only [layS, Act.put, List.setIfInBounds_toArray, List.set_cons_succ, List.set_cons_zero, Nat.zero_add, Nat.reduceAdd, List.drop_succ_cons, List.drop_zero, List.drop_nil, e_0, e_1, e_2, e_3, e_4, e_5, e_6, e_7]
 clear e_0 e_1 e_2 e_3 e_4 e_5 e_6 e_7
 have hJ7 := hJm.es
 clear hJm
 go_wp2_with (refine stop_store 23 (.tmp 19) (.tmp 17) 0 bk2 6 (cT ⟨⟨r.a.x, r.a.y, zS⟩, zV, zV⟩) 50 3 (cS r.a.z).toList (cT ⟨r.a, zV, zV⟩) [(bk2, (cT ⟨r.a, zV, zV⟩), 50), (bk1, (cT zT), 50)] rfl rfl rfl rfl sz23 hJ7 rfl (by kernel_rfl) (Nat.le_of_ble_eq_true (by kernel_rfl)) (by kernel_rfl) (by kernel_rfl) (by kernel_rfl) (fun W8 hJ8 => ?_))
 clear hJ7
 unfold Stop
 try simp only [Act.put, List.setIfInBounds_toArray, List.set_cons_succ, List.set_cons_zero]
 go_wp2
 rw [rounds_succ]
 go_wp2
 rw [rounds_succ]
 go_wp2
 refine wp_loop_rounds 4 ?_
 rw [rounds_succ]
 go_wp2
 obtain ⟨m8_8, hm⟩ : ∃ m, m = W8.heap.size := ⟨_, rfl⟩
 have hM := hJ8.em
 rw [← hm] at hM
 clear hm hJ8
 refine wp_region_z 8 [some 12, some 13, some 14, some 15, some 16, some 17, some 18, some 19] (veL m8_8 [.eq (.int .i64 1), .eq (.int .i64 0), .eq (.func (.func k) #[] caps), .eq (.int .i64 1), .eq (.int .i64 0), .eq (.agg (cS r.b.x)), .eq (.pointer (some ⟨bk2, 9, none⟩)), .eq (.pointer (some ⟨bk2, 9, none⟩))]) (Em w m8_8 [(bk2, (cT ⟨r.a, zV, zV⟩), 50), (bk1, (cT zT), 50)]) (by kernel_rfl) (by kernel_rfl) (by rfl) (by decide) (by rfl) hM ?_ ?_
 ·
  intro i hl hi uu ww aa hJ hd hev hin
  clear hM
  obtain rfl | rfl | rfl | rfl | rfl | rfl | rfl | rfl : i = 0 ∨ i = 1 ∨ i = 2 ∨ i = 3 ∨ i = 4 ∨ i = 5 ∨ i = 6 ∨ i = 7 := by omega
  ·
   exact .inr ⟨rfl, fun K' hK => wp_move (.tmp 4) rfl (eval_tmp ((hev 4 (by decide)).trans rfl)) (hK _ _ hJ rfl veL_same)⟩
  ·
   exact .inr ⟨rfl, fun K' hK => wp_move (.tmp 5) rfl (eval_tmp ((hev 5 (by decide)).trans rfl)) (hK _ _ hJ rfl veL_same)⟩
  ·
   exact .inr ⟨rfl, fun K' hK => wp_move (.tmp 0) rfl (eval_tmp ((hev 0 (by decide)).trans rfl)) (hK _ _ hJ rfl veL_same)⟩
  ·
   exact .inr ⟨rfl, fun K' hK => wp_move (.tmp 4) rfl (eval_tmp ((hev 4 (by decide)).trans rfl)) (hK _ _ hJ rfl veL_same)⟩
  ·
   exact .inr ⟨rfl, fun K' hK => wp_move (.tmp 5) rfl (eval_tmp ((hev 5 (by decide)).trans rfl)) (hK _ _ hJ rfl veL_same)⟩
  ·
   exact .inr ⟨rfl, fun K' hK => wp_callv (.tmp 14) #[.tmp 15, .tmp 16] _ k caps #[.int .i64 1, .int .i64 0] (va 1 0) rfl (eval_tmp ((hin 2 14 rfl).trans (congrArg some (show uu 2 = .func (.func k) #[] caps from hd 2 (by decide) (by kernel_rfl))))) (map2 (eval_tmp ((hin 3 15 rfl).trans (congrArg some (show uu 3 = .int .i64 1 from hd 3 (by decide) (by kernel_rfl))))) (eval_tmp ((hin 4 16 rfl).trans (congrArg some (show uu 4 = .int .i64 0 from hd 4 (by decide) (by kernel_rfl)))))) (hva 1 0) hk (H10.out ww hJ.es.below) (fun _ hB => (hK _ _ (hJ.later hB) rfl (veL_later hB)))⟩
  ·
   exact .inr ⟨rfl, fun K' hK => wp_ixa 50 (.tmp 3) (.tmp 12) rfl (eval_tmp ((hev 3 (by decide)).trans rfl)) (eval_tmp ((hin 0 12 rfl).trans (congrArg some (show uu 0 = .int .i64 1 from hd 0 (by decide) (by kernel_rfl))))) (fun _ => by kernel_rfl) (hK _ _ hJ rfl veL_same)⟩
  ·
   exact .inr ⟨rfl, fun K' hK => wp_ixa 25 (.tmp 18) (.tmp 13) rfl (eval_tmp ((hin 6 18 rfl).trans (congrArg some (show uu 6 = .pointer (some ⟨bk2, 9, none⟩) from hd 6 (by decide) (by kernel_rfl))))) (eval_tmp ((hin 1 13 rfl).trans (congrArg some (show uu 1 = .int .i64 0 from hd 1 (by decide) (by kernel_rfl))))) (fun _ => by kernel_rfl) (hK _ _ hJ rfl veL_same)⟩
 clear hM
 intro uu W9 hJm hd
 have e_0 : uu 0 = .int .i64 1 := hd 0 (by decide)
 have e_1 : uu 1 = .int .i64 0 := hd 1 (by decide)
 have e_2 : uu 2 = .func (.func k) #[] caps := hd 2 (by decide)
 have e_3 : uu 3 = .int .i64 1 := hd 3 (by decide)
 have e_4 : uu 4 = .int .i64 0 := hd 4 (by decide)
 have e_5 : uu 5 = .agg (cS r.b.x) := hd 5 (by decide)
 have e_6 : uu 6 = .pointer (some ⟨bk2, 9, none⟩) := hd 6 (by decide)
 have e_7 : uu 7 = .pointer (some ⟨bk2, 9, none⟩) := hd 7 (by decide)
 clear hd
 simp only [layS, Act.put, List.setIfInBounds_toArray, List.set_cons_succ, List.set_cons_zero, Nat.zero_add, Nat.reduceAdd, List.drop_succ_cons, List.drop_zero, List.drop_nil, e_0, e_1, e_2, e_3, e_4, e_5, e_6, e_7]
 clear e_0 e_1 e_2 e_3 e_4 e_5 e_6 e_7
 have hJ9 := hJm.es
 clear hJm
 go_wp2_with (refine stop_store 23 (.tmp 19) (.tmp 17) 0 bk2 9 (cT ⟨r.a, zV, zV⟩) 50 3 (cS r.b.x).toList (cT ⟨r.a, ⟨r.b.x, zS, zS⟩, zV⟩) [(bk2, (cT ⟨r.a, ⟨r.b.x, zS, zS⟩, zV⟩), 50), (bk1, (cT zT), 50)] rfl rfl rfl rfl sz23 hJ9 rfl (by kernel_rfl) (Nat.le_of_ble_eq_true (by kernel_rfl)) (by kernel_rfl) (by kernel_rfl) (by kernel_rfl) (fun W10 hJ10 => ?_))
 clear hJ9
 unfold Stop
 try simp only [Act.put, List.setIfInBounds_toArray, List.set_cons_succ, List.set_cons_zero]
 go_wp2
 rw [rounds_succ]
 go_wp2
 obtain ⟨m8_10, hm⟩ : ∃ m, m = W10.heap.size := ⟨_, rfl⟩
 have hM := hJ10.em
 rw [← hm] at hM
 clear hm hJ10
 refine wp_region_z 8 [some 12, some 13, some 14, some 15, some 16, some 17, some 18, some 19] (veL m8_10 [.eq (.int .i64 1), .eq (.int .i64 1), .eq (.func (.func k) #[] caps), .eq (.int .i64 1), .eq (.int .i64 1), .eq (.agg (cS r.b.y)), .eq (.pointer (some ⟨bk2, 9, none⟩)), .eq (.pointer (some ⟨bk2, 12, none⟩))]) (Em w m8_10 [(bk2, (cT ⟨r.a, ⟨r.b.x, zS, zS⟩, zV⟩), 50), (bk1, (cT zT), 50)]) (by kernel_rfl) (by kernel_rfl) (by rfl) (by decide) (by rfl) hM ?_ ?_
 ·
  intro i hl hi uu ww aa hJ hd hev hin
  clear hM
  obtain rfl | rfl | rfl | rfl | rfl | rfl | rfl | rfl : i = 0 ∨ i = 1 ∨ i = 2 ∨ i = 3 ∨ i = 4 ∨ i = 5 ∨ i = 6 ∨ i = 7 := by omega
  ·
   exact .inr ⟨rfl, fun K' hK => wp_move (.tmp 4) rfl (eval_tmp ((hev 4 (by decide)).trans rfl)) (hK _ _ hJ rfl veL_same)⟩
  ·
   exact .inr ⟨rfl, fun K' hK => wp_move (.tmp 5) rfl (eval_tmp ((hev 5 (by decide)).trans rfl)) (hK _ _ hJ rfl veL_same)⟩
  ·
   exact .inr ⟨rfl, fun K' hK => wp_move (.tmp 0) rfl (eval_tmp ((hev 0 (by decide)).trans rfl)) (hK _ _ hJ rfl veL_same)⟩
  ·
   exact .inr ⟨rfl, fun K' hK => wp_move (.tmp 4) rfl (eval_tmp ((hev 4 (by decide)).trans rfl)) (hK _ _ hJ rfl veL_same)⟩
  ·
   exact .inr ⟨rfl, fun K' hK => wp_move (.tmp 5) rfl (eval_tmp ((hev 5 (by decide)).trans rfl)) (hK _ _ hJ rfl veL_same)⟩
  ·
   exact .inr ⟨rfl, fun K' hK => wp_callv (.tmp 14) #[.tmp 15, .tmp 16] _ k caps #[.int .i64 1, .int .i64 1] (va 1 1) rfl (eval_tmp ((hin 2 14 rfl).trans (congrArg some (show uu 2 = .func (.func k) #[] caps from hd 2 (by decide) (by kernel_rfl))))) (map2 (eval_tmp ((hin 3 15 rfl).trans (congrArg some (show uu 3 = .int .i64 1 from hd 3 (by decide) (by kernel_rfl))))) (eval_tmp ((hin 4 16 rfl).trans (congrArg some (show uu 4 = .int .i64 1 from hd 4 (by decide) (by kernel_rfl)))))) (hva 1 1) hk (H11.out ww hJ.es.below) (fun _ hB => (hK _ _ (hJ.later hB) rfl (veL_later hB)))⟩
  ·
   exact .inr ⟨rfl, fun K' hK => wp_ixa 50 (.tmp 3) (.tmp 12) rfl (eval_tmp ((hev 3 (by decide)).trans rfl)) (eval_tmp ((hin 0 12 rfl).trans (congrArg some (show uu 0 = .int .i64 1 from hd 0 (by decide) (by kernel_rfl))))) (fun _ => by kernel_rfl) (hK _ _ hJ rfl veL_same)⟩
  ·
   exact .inr ⟨rfl, fun K' hK => wp_ixa 25 (.tmp 18) (.tmp 13) rfl (eval_tmp ((hin 6 18 rfl).trans (congrArg some (show uu 6 = .pointer (some ⟨bk2, 9, none⟩) from hd 6 (by decide) (by kernel_rfl))))) (eval_tmp ((hin 1 13 rfl).trans (congrArg some (show uu 1 = .int .i64 1 from hd 1 (by decide) (by kernel_rfl))))) (fun _ => by kernel_rfl) (hK _ _ hJ rfl veL_same)⟩
 clear hM
 intro uu W11 hJm hd
 have e_0 : uu 0 = .int .i64 1 := hd 0 (by decide)
 have e_1 : uu 1 = .int .i64 1 := hd 1 (by decide)
 have e_2 : uu 2 = .func (.func k) #[] caps := hd 2 (by decide)
 have e_3 : uu 3 = .int .i64 1 := hd 3 (by decide)
 have e_4 : uu 4 = .int .i64 1 := hd 4 (by decide)
 have e_5 : uu 5 = .agg (cS r.b.y) := hd 5 (by decide)
 have e_6 : uu 6 = .pointer (some ⟨bk2, 9, none⟩) := hd 6 (by decide)
 have e_7 : uu 7 = .pointer (some ⟨bk2, 12, none⟩) := hd 7 (by decide)
 clear hd
 simp only [layS, Act.put, List.setIfInBounds_toArray, List.set_cons_succ, List.set_cons_zero, Nat.zero_add, Nat.reduceAdd, List.drop_succ_cons, List.drop_zero, List.drop_nil, e_0, e_1, e_2, e_3, e_4, e_5, e_6, e_7]
 clear e_0 e_1 e_2 e_3 e_4 e_5 e_6 e_7
 have hJ11 := hJm.es
 clear hJm
 go_wp2_with (refine stop_store 23 (.tmp 19) (.tmp 17) 0 bk2 12 (cT ⟨r.a, ⟨r.b.x, zS, zS⟩, zV⟩) 50 3 (cS r.b.y).toList (cT ⟨r.a, ⟨r.b.x, r.b.y, zS⟩, zV⟩) [(bk2, (cT ⟨r.a, ⟨r.b.x, r.b.y, zS⟩, zV⟩), 50), (bk1, (cT zT), 50)] rfl rfl rfl rfl sz23 hJ11 rfl (by kernel_rfl) (Nat.le_of_ble_eq_true (by kernel_rfl)) (by kernel_rfl) (by kernel_rfl) (by kernel_rfl) (fun W12 hJ12 => ?_))
 clear hJ11
 unfold Stop
 try simp only [Act.put, List.setIfInBounds_toArray, List.set_cons_succ, List.set_cons_zero]
 go_wp2
 rw [rounds_succ]
 go_wp2
 obtain ⟨m8_12, hm⟩ : ∃ m, m = W12.heap.size := ⟨_, rfl⟩
 have hM := hJ12.em
 rw [← hm] at hM
 clear hm hJ12
 refine wp_region_z 8 [some 12, some 13, some 14, some 15, some 16, some 17, some 18, some 19] (veL m8_12 [.eq (.int .i64 1), .eq (.int .i64 2), .eq (.func (.func k) #[] caps), .eq (.int .i64 1), .eq (.int .i64 2), .eq (.agg (cS r.b.z)), .eq (.pointer (some ⟨bk2, 9, none⟩)), .eq (.pointer (some ⟨bk2, 15, none⟩))]) (Em w m8_12 [(bk2, (cT ⟨r.a, ⟨r.b.x, r.b.y, zS⟩, zV⟩), 50), (bk1, (cT zT), 50)]) (by kernel_rfl) (by kernel_rfl) (by rfl) (by decide) (by rfl) hM ?_ ?_
 ·
  intro i hl hi uu ww aa hJ hd hev hin
  clear hM
  obtain rfl | rfl | rfl | rfl | rfl | rfl | rfl | rfl : i = 0 ∨ i = 1 ∨ i = 2 ∨ i = 3 ∨ i = 4 ∨ i = 5 ∨ i = 6 ∨ i = 7 := by omega
  ·
   exact .inr ⟨rfl, fun K' hK => wp_move (.tmp 4) rfl (eval_tmp ((hev 4 (by decide)).trans rfl)) (hK _ _ hJ rfl veL_same)⟩
  ·
   exact .inr ⟨rfl, fun K' hK => wp_move (.tmp 5) rfl (eval_tmp ((hev 5 (by decide)).trans rfl)) (hK _ _ hJ rfl veL_same)⟩
  ·
   exact .inr ⟨rfl, fun K' hK => wp_move (.tmp 0) rfl (eval_tmp ((hev 0 (by decide)).trans rfl)) (hK _ _ hJ rfl veL_same)⟩
  ·
   exact .inr ⟨rfl, fun K' hK => wp_move (.tmp 4) rfl (eval_tmp ((hev 4 (by decide)).trans rfl)) (hK _ _ hJ rfl veL_same)⟩
  ·
   exact .inr ⟨rfl, fun K' hK => wp_move (.tmp 5) rfl (eval_tmp ((hev 5 (by decide)).trans rfl)) (hK _ _ hJ rfl veL_same)⟩
  ·
   exact .inr ⟨rfl, fun K' hK => wp_callv (.tmp 14) #[.tmp 15, .tmp 16] _ k caps #[.int .i64 1, .int .i64 2] (va 1 2) rfl (eval_tmp ((hin 2 14 rfl).trans (congrArg some (show uu 2 = .func (.func k) #[] caps from hd 2 (by decide) (by kernel_rfl))))) (map2 (eval_tmp ((hin 3 15 rfl).trans (congrArg some (show uu 3 = .int .i64 1 from hd 3 (by decide) (by kernel_rfl))))) (eval_tmp ((hin 4 16 rfl).trans (congrArg some (show uu 4 = .int .i64 2 from hd 4 (by decide) (by kernel_rfl)))))) (hva 1 2) hk (H12.out ww hJ.es.below) (fun _ hB => (hK _ _ (hJ.later hB) rfl (veL_later hB)))⟩
  ·
   exact .inr ⟨rfl, fun K' hK => wp_ixa 50 (.tmp 3) (.tmp 12) rfl (eval_tmp ((hev 3 (by decide)).trans rfl)) (eval_tmp ((hin 0 12 rfl).trans (congrArg some (show uu 0 = .int .i64 1 from hd 0 (by decide) (by kernel_rfl))))) (fun _ => by kernel_rfl) (hK _ _ hJ rfl veL_same)⟩
  ·
   exact .inr ⟨rfl, fun K' hK => wp_ixa 25 (.tmp 18) (.tmp 13) rfl (eval_tmp ((hin 6 18 rfl).trans (congrArg some (show uu 6 = .pointer (some ⟨bk2, 9, none⟩) from hd 6 (by decide) (by kernel_rfl))))) (eval_tmp ((hin 1 13 rfl).trans (congrArg some (show uu 1 = .int .i64 2 from hd 1 (by decide) (by kernel_rfl))))) (fun _ => by kernel_rfl) (hK _ _ hJ rfl veL_same)⟩
 clear hM
 intro uu W13 hJm hd
 have e_0 : uu 0 = .int .i64 1 := hd 0 (by decide)
 have e_1 : uu 1 = .int .i64 2 := hd 1 (by decide)
 have e_2 : uu 2 = .func (.func k) #[] caps := hd 2 (by decide)
 have e_3 : uu 3 = .int .i64 1 := hd 3 (by decide)
 have e_4 : uu 4 = .int .i64 2 := hd 4 (by decide)
 have e_5 : uu 5 = .agg (cS r.b.z) := hd 5 (by decide)
 have e_6 : uu 6 = .pointer (some ⟨bk2, 9, none⟩) := hd 6 (by decide)
 have e_7 : uu 7 = .pointer (some ⟨bk2, 15, none⟩) := hd 7 (by decide)
 clear hd
 simp only [layS, Act.put, List.setIfInBounds_toArray, List.set_cons_succ, List.set_cons_zero, Nat.zero_add, Nat.reduceAdd, List.drop_succ_cons, List.drop_zero, List.drop_nil, e_0, e_1, e_2, e_3, e_4, e_5, e_6, e_7]
 clear e_0 e_1 e_2 e_3 e_4 e_5 e_6 e_7
 have hJ13 := hJm.es
 clear hJm
 go_wp2_with (refine stop_store 23 (.tmp 19) (.tmp 17) 0 bk2 15 (cT ⟨r.a, ⟨r.b.x, r.b.y, zS⟩, zV⟩) 50 3 (cS r.b.z).toList (cT ⟨r.a, r.b, zV⟩) [(bk2, (cT ⟨r.a, r.b, zV⟩), 50), (bk1, (cT zT), 50)] rfl rfl rfl rfl sz23 hJ13 rfl (by kernel_rfl) (Nat.le_of_ble_eq_true (by kernel_rfl)) (by kernel_rfl) (by kernel_rfl) (by kernel_rfl) (fun W14 hJ14 => ?_))
 clear hJ13
 unfold Stop
 try simp only [Act.put, List.setIfInBounds_toArray, List.set_cons_succ, List.set_cons_zero]
 go_wp2
 rw [rounds_succ]
 go_wp2
 rw [rounds_succ]
 go_wp2
 refine wp_loop_rounds 4 ?_
 rw [rounds_succ]
 go_wp2
 obtain ⟨m8_14, hm⟩ : ∃ m, m = W14.heap.size := ⟨_, rfl⟩
 have hM := hJ14.em
 rw [← hm] at hM
 clear hm hJ14
 refine wp_region_z 8 [some 12, some 13, some 14, some 15, some 16, some 17, some 18, some 19] (veL m8_14 [.eq (.int .i64 2), .eq (.int .i64 0), .eq (.func (.func k) #[] caps), .eq (.int .i64 2), .eq (.int .i64 0), .eq (.agg (cS r.c.x)), .eq (.pointer (some ⟨bk2, 18, none⟩)), .eq (.pointer (some ⟨bk2, 18, none⟩))]) (Em w m8_14 [(bk2, (cT ⟨r.a, r.b, zV⟩), 50), (bk1, (cT zT), 50)]) (by kernel_rfl) (by kernel_rfl) (by rfl) (by decide) (by rfl) hM ?_ ?_
 ·
  intro i hl hi uu ww aa hJ hd hev hin
  clear hM
  obtain rfl | rfl | rfl | rfl | rfl | rfl | rfl | rfl : i = 0 ∨ i = 1 ∨ i = 2 ∨ i = 3 ∨ i = 4 ∨ i = 5 ∨ i = 6 ∨ i = 7 := by omega
  ·
   exact .inr ⟨rfl, fun K' hK => wp_move (.tmp 4) rfl (eval_tmp ((hev 4 (by decide)).trans rfl)) (hK _ _ hJ rfl veL_same)⟩
  ·
   exact .inr ⟨rfl, fun K' hK => wp_move (.tmp 5) rfl (eval_tmp ((hev 5 (by decide)).trans rfl)) (hK _ _ hJ rfl veL_same)⟩
  ·
   exact .inr ⟨rfl, fun K' hK => wp_move (.tmp 0) rfl (eval_tmp ((hev 0 (by decide)).trans rfl)) (hK _ _ hJ rfl veL_same)⟩
  ·
   exact .inr ⟨rfl, fun K' hK => wp_move (.tmp 4) rfl (eval_tmp ((hev 4 (by decide)).trans rfl)) (hK _ _ hJ rfl veL_same)⟩
  ·
   exact .inr ⟨rfl, fun K' hK => wp_move (.tmp 5) rfl (eval_tmp ((hev 5 (by decide)).trans rfl)) (hK _ _ hJ rfl veL_same)⟩
  ·
   exact .inr ⟨rfl, fun K' hK => wp_callv (.tmp 14) #[.tmp 15, .tmp 16] _ k caps #[.int .i64 2, .int .i64 0] (va 2 0) rfl (eval_tmp ((hin 2 14 rfl).trans (congrArg some (show uu 2 = .func (.func k) #[] caps from hd 2 (by decide) (by kernel_rfl))))) (map2 (eval_tmp ((hin 3 15 rfl).trans (congrArg some (show uu 3 = .int .i64 2 from hd 3 (by decide) (by kernel_rfl))))) (eval_tmp ((hin 4 16 rfl).trans (congrArg some (show uu 4 = .int .i64 0 from hd 4 (by decide) (by kernel_rfl)))))) (hva 2 0) hk (H20.out ww hJ.es.below) (fun _ hB => (hK _ _ (hJ.later hB) rfl (veL_later hB)))⟩
  ·
   exact .inr ⟨rfl, fun K' hK => wp_ixa 50 (.tmp 3) (.tmp 12) rfl (eval_tmp ((hev 3 (by decide)).trans rfl)) (eval_tmp ((hin 0 12 rfl).trans (congrArg some (show uu 0 = .int .i64 2 from hd 0 (by decide) (by kernel_rfl))))) (fun _ => by kernel_rfl) (hK _ _ hJ rfl veL_same)⟩
  ·
   exact .inr ⟨rfl, fun K' hK => wp_ixa 25 (.tmp 18) (.tmp 13) rfl (eval_tmp ((hin 6 18 rfl).trans (congrArg some (show uu 6 = .pointer (some ⟨bk2, 18, none⟩) from hd 6 (by decide) (by kernel_rfl))))) (eval_tmp ((hin 1 13 rfl).trans (congrArg some (show uu 1 = .int .i64 0 from hd 1 (by decide) (by kernel_rfl))))) (fun _ => by kernel_rfl) (hK _ _ hJ rfl veL_same)⟩
 clear hM
 intro uu W15 hJm hd
 have e_0 : uu 0 = .int .i64 2 := hd 0 (by decide)
 have e_1 : uu 1 = .int .i64 0 := hd 1 (by decide)
 have e_2 : uu 2 = .func (.func k) #[] caps := hd 2 (by decide)
 have e_3 : uu 3 = .int .i64 2 := hd 3 (by decide)
 have e_4 : uu 4 = .int .i64 0 := hd 4 (by decide)
 have e_5 : uu 5 = .agg (cS r.c.x) := hd 5 (by decide)
 have e_6 : uu 6 = .pointer (some ⟨bk2, 18, none⟩) := hd 6 (by decide)
 have e_7 : uu 7 = .pointer (some ⟨bk2, 18, none⟩) := hd 7 (by decide)
 clear hd
 simp only [layS, Act.put, List.setIfInBounds_toArray, List.set_cons_succ, List.set_cons_zero, Nat.zero_add, Nat.reduceAdd, List.drop_succ_cons, List.drop_zero, List.drop_nil, e_0, e_1, e_2, e_3, e_4, e_5, e_6, e_7]
 clear e_0 e_1 e_2 e_3 e_4 e_5 e_6 e_7
 have hJ15 := hJm.es
 clear hJm
 go_wp2_with (refine stop_store 23 (.tmp 19) (.tmp 17) 0 bk2 18 (cT ⟨r.a, r.b, zV⟩) 50 3 (cS r.c.x).toList (cT ⟨r.a, r.b, ⟨r.c.x, zS, zS⟩⟩) [(bk2, (cT ⟨r.a, r.b, ⟨r.c.x, zS, zS⟩⟩), 50), (bk1, (cT zT), 50)] rfl rfl rfl rfl sz23 hJ15 rfl (by kernel_rfl) (Nat.le_of_ble_eq_true (by kernel_rfl)) (by kernel_rfl) (by kernel_rfl) (by kernel_rfl) (fun W16 hJ16 => ?_))
 clear hJ15
 unfold Stop
 try simp only [Act.put, List.setIfInBounds_toArray, List.set_cons_succ, List.set_cons_zero]
 go_wp2
 rw [rounds_succ]
 go_wp2
 obtain ⟨m8_16, hm⟩ : ∃ m, m = W16.heap.size := ⟨_, rfl⟩
 have hM := hJ16.em
 rw [← hm] at hM
 clear hm hJ16
 refine wp_region_z 8 [some 12, some 13, some 14, some 15, some 16, some 17, some 18, some 19] (veL m8_16 [.eq (.int .i64 2), .eq (.int .i64 1), .eq (.func (.func k) #[] caps), .eq (.int .i64 2), .eq (.int .i64 1), .eq (.agg (cS r.c.y)), .eq (.pointer (some ⟨bk2, 18, none⟩)), .eq (.pointer (some ⟨bk2, 21, none⟩))]) (Em w m8_16 [(bk2, (cT ⟨r.a, r.b, ⟨r.c.x, zS, zS⟩⟩), 50), (bk1, (cT zT), 50)]) (by kernel_rfl) (by kernel_rfl) (by rfl) (by decide) (by rfl) hM ?_ ?_
 ·
  intro i hl hi uu ww aa hJ hd hev hin
  clear hM
  obtain rfl | rfl | rfl | rfl | rfl | rfl | rfl | rfl : i = 0 ∨ i = 1 ∨ i = 2 ∨ i = 3 ∨ i = 4 ∨ i = 5 ∨ i = 6 ∨ i = 7 := by omega
  ·
   exact .inr ⟨rfl, fun K' hK => wp_move (.tmp 4) rfl (eval_tmp ((hev 4 (by decide)).trans rfl)) (hK _ _ hJ rfl veL_same)⟩
  ·
   exact .inr ⟨rfl, fun K' hK => wp_move (.tmp 5) rfl (eval_tmp ((hev 5 (by decide)).trans rfl)) (hK _ _ hJ rfl veL_same)⟩
  ·
   exact .inr ⟨rfl, fun K' hK => wp_move (.tmp 0) rfl (eval_tmp ((hev 0 (by decide)).trans rfl)) (hK _ _ hJ rfl veL_same)⟩
  ·
   exact .inr ⟨rfl, fun K' hK => wp_move (.tmp 4) rfl (eval_tmp ((hev 4 (by decide)).trans rfl)) (hK _ _ hJ rfl veL_same)⟩
  ·
   exact .inr ⟨rfl, fun K' hK => wp_move (.tmp 5) rfl (eval_tmp ((hev 5 (by decide)).trans rfl)) (hK _ _ hJ rfl veL_same)⟩
  ·
   exact .inr ⟨rfl, fun K' hK => wp_callv (.tmp 14) #[.tmp 15, .tmp 16] _ k caps #[.int .i64 2, .int .i64 1] (va 2 1) rfl (eval_tmp ((hin 2 14 rfl).trans (congrArg some (show uu 2 = .func (.func k) #[] caps from hd 2 (by decide) (by kernel_rfl))))) (map2 (eval_tmp ((hin 3 15 rfl).trans (congrArg some (show uu 3 = .int .i64 2 from hd 3 (by decide) (by kernel_rfl))))) (eval_tmp ((hin 4 16 rfl).trans (congrArg some (show uu 4 = .int .i64 1 from hd 4 (by decide) (by kernel_rfl)))))) (hva 2 1) hk (H21.out ww hJ.es.below) (fun _ hB => (hK _ _ (hJ.later hB) rfl (veL_later hB)))⟩
  ·
   exact .inr ⟨rfl, fun K' hK => wp_ixa 50 (.tmp 3) (.tmp 12) rfl (eval_tmp ((hev 3 (by decide)).trans rfl)) (eval_tmp ((hin 0 12 rfl).trans (congrArg some (show uu 0 = .int .i64 2 from hd 0 (by decide) (by kernel_rfl))))) (fun _ => by kernel_rfl) (hK _ _ hJ rfl veL_same)⟩
  ·
   exact .inr ⟨rfl, fun K' hK => wp_ixa 25 (.tmp 18) (.tmp 13) rfl (eval_tmp ((hin 6 18 rfl).trans (congrArg some (show uu 6 = .pointer (some ⟨bk2, 18, none⟩) from hd 6 (by decide) (by kernel_rfl))))) (eval_tmp ((hin 1 13 rfl).trans (congrArg some (show uu 1 = .int .i64 1 from hd 1 (by decide) (by kernel_rfl))))) (fun _ => by kernel_rfl) (hK _ _ hJ rfl veL_same)⟩
 clear hM
 intro uu W17 hJm hd
 have e_0 : uu 0 = .int .i64 2 := hd 0 (by decide)
 have e_1 : uu 1 = .int .i64 1 := hd 1 (by decide)
 have e_2 : uu 2 = .func (.func k) #[] caps := hd 2 (by decide)
 have e_3 : uu 3 = .int .i64 2 := hd 3 (by decide)
 have e_4 : uu 4 = .int .i64 1 := hd 4 (by decide)
 have e_5 : uu 5 = .agg (cS r.c.y) := hd 5 (by decide)
 have e_6 : uu 6 = .pointer (some ⟨bk2, 18, none⟩) := hd 6 (by decide)
 have e_7 : uu 7 = .pointer (some ⟨bk2, 21, none⟩) := hd 7 (by decide)
 clear hd
 simp only [layS, Act.put, List.setIfInBounds_toArray, List.set_cons_succ, List.set_cons_zero, Nat.zero_add, Nat.reduceAdd, List.drop_succ_cons, List.drop_zero, List.drop_nil, e_0, e_1, e_2, e_3, e_4, e_5, e_6, e_7]
 clear e_0 e_1 e_2 e_3 e_4 e_5 e_6 e_7
 have hJ17 := hJm.es
 clear hJm
 go_wp2_with (refine stop_store 23 (.tmp 19) (.tmp 17) 0 bk2 21 (cT ⟨r.a, r.b, ⟨r.c.x, zS, zS⟩⟩) 50 3 (cS r.c.y).toList (cT ⟨r.a, r.b, ⟨r.c.x, r.c.y, zS⟩⟩) [(bk2, (cT ⟨r.a, r.b, ⟨r.c.x, r.c.y, zS⟩⟩), 50), (bk1, (cT zT), 50)] rfl rfl rfl rfl sz23 hJ17 rfl (by kernel_rfl) (Nat.le_of_ble_eq_true (by kernel_rfl)) (by kernel_rfl) (by kernel_rfl) (by kernel_rfl) (fun W18 hJ18 => ?_))
 clear hJ17
 unfold Stop
 try simp only [Act.put, List.setIfInBounds_toArray, List.set_cons_succ, List.set_cons_zero]
 go_wp2
 rw [rounds_succ]
 go_wp2
 obtain ⟨m8_18, hm⟩ : ∃ m, m = W18.heap.size := ⟨_, rfl⟩
 have hM := hJ18.em
 rw [← hm] at hM
 clear hm hJ18
 refine wp_region_z 8 [some 12, some 13, some 14, some 15, some 16, some 17, some 18, some 19] (veL m8_18 [.eq (.int .i64 2), .eq (.int .i64 2), .eq (.func (.func k) #[] caps), .eq (.int .i64 2), .eq (.int .i64 2), .eq (.agg (cS r.c.z)), .eq (.pointer (some ⟨bk2, 18, none⟩)), .eq (.pointer (some ⟨bk2, 24, none⟩))]) (Em w m8_18 [(bk2, (cT ⟨r.a, r.b, ⟨r.c.x, r.c.y, zS⟩⟩), 50), (bk1, (cT zT), 50)]) (by kernel_rfl) (by kernel_rfl) (by rfl) (by decide) (by rfl) hM ?_ ?_
 ·
  intro i hl hi uu ww aa hJ hd hev hin
  clear hM
  obtain rfl | rfl | rfl | rfl | rfl | rfl | rfl | rfl : i = 0 ∨ i = 1 ∨ i = 2 ∨ i = 3 ∨ i = 4 ∨ i = 5 ∨ i = 6 ∨ i = 7 := by omega
  ·
   exact .inr ⟨rfl, fun K' hK => wp_move (.tmp 4) rfl (eval_tmp ((hev 4 (by decide)).trans rfl)) (hK _ _ hJ rfl veL_same)⟩
  ·
   exact .inr ⟨rfl, fun K' hK => wp_move (.tmp 5) rfl (eval_tmp ((hev 5 (by decide)).trans rfl)) (hK _ _ hJ rfl veL_same)⟩
  ·
   exact .inr ⟨rfl, fun K' hK => wp_move (.tmp 0) rfl (eval_tmp ((hev 0 (by decide)).trans rfl)) (hK _ _ hJ rfl veL_same)⟩
  ·
   exact .inr ⟨rfl, fun K' hK => wp_move (.tmp 4) rfl (eval_tmp ((hev 4 (by decide)).trans rfl)) (hK _ _ hJ rfl veL_same)⟩
  ·
   exact .inr ⟨rfl, fun K' hK => wp_move (.tmp 5) rfl (eval_tmp ((hev 5 (by decide)).trans rfl)) (hK _ _ hJ rfl veL_same)⟩
  ·
   exact .inr ⟨rfl, fun K' hK => wp_callv (.tmp 14) #[.tmp 15, .tmp 16] _ k caps #[.int .i64 2, .int .i64 2] (va 2 2) rfl (eval_tmp ((hin 2 14 rfl).trans (congrArg some (show uu 2 = .func (.func k) #[] caps from hd 2 (by decide) (by kernel_rfl))))) (map2 (eval_tmp ((hin 3 15 rfl).trans (congrArg some (show uu 3 = .int .i64 2 from hd 3 (by decide) (by kernel_rfl))))) (eval_tmp ((hin 4 16 rfl).trans (congrArg some (show uu 4 = .int .i64 2 from hd 4 (by decide) (by kernel_rfl)))))) (hva 2 2) hk (H22.out ww hJ.es.below) (fun _ hB => (hK _ _ (hJ.later hB) rfl (veL_later hB)))⟩
  ·
   exact .inr ⟨rfl, fun K' hK => wp_ixa 50 (.tmp 3) (.tmp 12) rfl (eval_tmp ((hev 3 (by decide)).trans rfl)) (eval_tmp ((hin 0 12 rfl).trans (congrArg some (show uu 0 = .int .i64 2 from hd 0 (by decide) (by kernel_rfl))))) (fun _ => by kernel_rfl) (hK _ _ hJ rfl veL_same)⟩
  ·
   exact .inr ⟨rfl, fun K' hK => wp_ixa 25 (.tmp 18) (.tmp 13) rfl (eval_tmp ((hin 6 18 rfl).trans (congrArg some (show uu 6 = .pointer (some ⟨bk2, 18, none⟩) from hd 6 (by decide) (by kernel_rfl))))) (eval_tmp ((hin 1 13 rfl).trans (congrArg some (show uu 1 = .int .i64 2 from hd 1 (by decide) (by kernel_rfl))))) (fun _ => by kernel_rfl) (hK _ _ hJ rfl veL_same)⟩
 clear hM
 intro uu W19 hJm hd
 have e_0 : uu 0 = .int .i64 2 := hd 0 (by decide)
 have e_1 : uu 1 = .int .i64 2 := hd 1 (by decide)
 have e_2 : uu 2 = .func (.func k) #[] caps := hd 2 (by decide)
 have e_3 : uu 3 = .int .i64 2 := hd 3 (by decide)
 have e_4 : uu 4 = .int .i64 2 := hd 4 (by decide)
 have e_5 : uu 5 = .agg (cS r.c.z) := hd 5 (by decide)
 have e_6 : uu 6 = .pointer (some ⟨bk2, 18, none⟩) := hd 6 (by decide)
 have e_7 : uu 7 = .pointer (some ⟨bk2, 24, none⟩) := hd 7 (by decide)
 clear hd
 simp only [layS, Act.put, List.setIfInBounds_toArray, List.set_cons_succ, List.set_cons_zero, Nat.zero_add, Nat.reduceAdd, List.drop_succ_cons, List.drop_zero, List.drop_nil, e_0, e_1, e_2, e_3, e_4, e_5, e_6, e_7]
 clear e_0 e_1 e_2 e_3 e_4 e_5 e_6 e_7
 have hJ19 := hJm.es
 clear hJm
 go_wp2_with (refine stop_store 23 (.tmp 19) (.tmp 17) 0 bk2 24 (cT ⟨r.a, r.b, ⟨r.c.x, r.c.y, zS⟩⟩) 50 3 (cS r.c.z).toList (cT r) [(bk2, (cT r), 50), (bk1, (cT zT), 50)] rfl rfl rfl rfl sz23 hJ19 rfl (by kernel_rfl) (Nat.le_of_ble_eq_true (by kernel_rfl)) (by kernel_rfl) (by kernel_rfl) (by kernel_rfl) (fun W20 hJ20 => ?_))
 clear hJ19
 unfold Stop
 try simp only [Act.put, List.setIfInBounds_toArray, List.set_cons_succ, List.set_cons_zero]
 go_wp2
 rw [rounds_succ]
 go_wp2
 rw [rounds_succ]
 go_wp2_with (refine stop_op rfl (fun K hK => wp_load 50 (.tmp 3) rfl bk2 0 27 (cT r) (cT r) 50 (hJ20.at' _ (List.mem_of_getElem? (i := 0) rfl)) rfl ag50 sz50 (Nat.le_of_ble_eq_true (by kernel_rfl)) (by kernel_rfl) (hK _ _ ?_)))
 unfold Stop
 try simp only [Act.put, List.setIfInBounds_toArray, List.set_cons_succ, List.set_cons_zero]
 go_wp2_with (refine stop_store 50 (.tmp 2) (.tmp 22) 1 bk1 0 (cT zT) 50 27 (cT r).toList (cT r) [(bk2, (cT r), 50), (bk1, (cT r), 50)] rfl rfl rfl rfl sz50 hJ20 rfl (by kernel_rfl) (Nat.le_of_ble_eq_true (by kernel_rfl)) (by kernel_rfl) (by kernel_rfl) (by kernel_rfl) (fun W21 hJ21 => ?_))
 clear hJ20
 unfold Stop
 try simp only [Act.put, List.setIfInBounds_toArray, List.set_cons_succ, List.set_cons_zero]
 go_wp2
 exact bodyPost_ret (v := .agg (cT r)) (results_cell 1 Try.results70 hJ21 rfl ag50 sz50 (Nat.le_of_ble_eq_true (by kernel_rfl)) rfl (by kernel_rfl)) rfl ⟨rfl, hJ21.below⟩
end Go.Proofs.Ytdochhhepmlapaa

/- Package vec: the walks of both, each, sum, from. No statement of the seat is proved here. -/
namespace Go.Proofs.Ytdochhhepmlapaa
open Go Go.RowKit
theorem run_vix0 (a0 b0 : Int) (c0 : Bool) (a1 b1 : Int) (c1 : Bool) (a2 b2 : Int) (c2 : Bool) (W : World) : Sem.run Try.prog (Instr.index 25 (.agg #[.int .i64 a0, .int .i64 b0, .bool c0, .int .i64 a1, .int .i64 b1, .bool c1, .int .i64 a2, .int .i64 b2, .bool c2]) (.int .i64 0)) W = .ok (.agg #[.int .i64 a0, .int .i64 b0, .bool c0]) W := by kernel_rfl
theorem run_vix1 (a0 b0 : Int) (c0 : Bool) (a1 b1 : Int) (c1 : Bool) (a2 b2 : Int) (c2 : Bool) (W : World) : Sem.run Try.prog (Instr.index 25 (.agg #[.int .i64 a0, .int .i64 b0, .bool c0, .int .i64 a1, .int .i64 b1, .bool c1, .int .i64 a2, .int .i64 b2, .bool c2]) (.int .i64 1)) W = .ok (.agg #[.int .i64 a1, .int .i64 b1, .bool c1]) W := by kernel_rfl
theorem run_vix2 (a0 b0 : Int) (c0 : Bool) (a1 b1 : Int) (c1 : Bool) (a2 b2 : Int) (c2 : Bool) (W : World) : Sem.run Try.prog (Instr.index 25 (.agg #[.int .i64 a0, .int .i64 b0, .bool c0, .int .i64 a1, .int .i64 b1, .bool c1, .int .i64 a2, .int .i64 b2, .bool c2]) (.int .i64 2)) W = .ok (.agg #[.int .i64 a2, .int .i64 b2, .bool c2]) W := by kernel_rfl
attribute [local go_sem] run_vix0 run_vix1 run_vix2
theorem run_vbuild (a0 b0 : Int) (c0 : Bool) (a1 b1 : Int) (c1 : Bool) (a2 b2 : Int) (c2 : Bool) (W : World) : Sem.run Try.prog (Instr.build 25 #[(0, .agg #[.int .i64 a0, .int .i64 b0, .bool c0]), (1, .agg #[.int .i64 a1, .int .i64 b1, .bool c1]), (2, .agg #[.int .i64 a2, .int .i64 b2, .bool c2])]) W = .ok (.agg #[.int .i64 a0, .int .i64 b0, .bool c0, .int .i64 a1, .int .i64 b1, .bool c1, .int .i64 a2, .int .i64 b2, .bool c2]) W := by kernel_rfl
theorem run_dbuild (a0 b0 : Int) (c0 : Bool) (a1 b1 : Int) (c1 : Bool) (a2 b2 : Int) (c2 : Bool) (W : World) : Sem.run Try.prog (Instr.build 29 #[(0, .agg #[.int .i64 a0, .int .i64 b0, .bool c0]), (1, .agg #[.int .i64 a1, .int .i64 b1, .bool c1]), (2, .agg #[.int .i64 a2, .int .i64 b2, .bool c2])]) W = .ok (.agg #[.int .i64 a0, .int .i64 b0, .bool c0, .int .i64 a1, .int .i64 b1, .bool c1, .int .i64 a2, .int .i64 b2, .bool c2]) W := by kernel_rfl
attribute [local go_sem ↓] run_vbuild run_dbuild
end Go.Proofs.Ytdochhhepmlapaa
