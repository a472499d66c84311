/- Parts of the proof. -/
import Derived.Test.YtpahkpcoinbgcabGp8
import Derived.Test.YtpahkpcoinbgcabGp3
import Derived.LoopN
/- Vectors of three spans, as numbers (no walk). No statement of the seat is proved here. -/
namespace Go.Proofs.Ytpahkpcoinbgcab
open Go.RowKit
/-- A vector, by its parts. -/
structure Vc where
 x : Sp
 y : Sp
 z : Sp
def addV (v w : Vc) : Vc := ⟨addS v.x w.x, addS v.y w.y, addS v.z w.z⟩
def subV (v w : Vc) : Vc := ⟨subS v.x w.x, subS v.y w.y, subS v.z w.z⟩
def scaV (v : Vc) (s : Sp) : Vc := ⟨mulS v.x s, mulS v.y s, mulS v.z s⟩
def sumV (v : Vc) : Sp := addS (addS v.x v.y) v.z
def mulV (v w : Vc) : Vc := ⟨mulS v.x w.x, mulS v.y w.y, mulS v.z w.z⟩
def dotV (v w : Vc) : Sp := sumV (mulV v w)
def crossV (v w : Vc) : Vc := ⟨subS (mulS v.y w.z) (mulS v.z w.y), subS (mulS v.z w.x) (mulS v.x w.z), subS (mulS v.x w.y) (mulS v.y w.x)⟩
def sqrV (v : Vc) : Vc := ⟨sqrS v.x, sqrS v.y, sqrS v.z⟩
def normV (v : Vc) : Sp := sumV (sqrV v)
def inV (v w : Vc) : Bool := inB v.x w.x && (inB v.y w.y && inB v.z w.z)
def radV (v : Vc) : Int := max (max (radS v.x) (radS v.y)) (radS v.z)
def ofV (a b c : Int) : Vc := ⟨ofS a a, ofS b b, ofS c c⟩
theorem add_oks {x y : Sp} (h : okB (addS x y) = true) : okB x = true ∧ okB y = true := by
 rcases add_cases x y with e | ⟨_, h1, h2, _⟩
 ·
  rw [e] at h; cases h
 ·
  exact ⟨h1, h2⟩
theorem neg_oks {x : Sp} (h : okB (negS x) = true) : okB x = true := by
 cases hx : okB x
 ·
  unfold negS at h; rw [hx] at h; cases h
 ·
  rfl
theorem sub_oks {x y : Sp} (h : okB (subS x y) = true) : okB x = true ∧ okB y = true := ⟨(add_oks h).1, neg_oks (add_oks h).2⟩
theorem add_if (x y : Sp) : addS x y = if okB x = true ∧ okB y = true ∧ -2147483647 ≤ x.lo + y.lo ∧ x.hi + y.hi ≤ 2147483647 then ⟨x.lo + y.lo, x.hi + y.hi, false⟩ else lineS := by
 cases hx : okB x
 ·
  rw [if_neg (by simp)]
  exact ends_no (by rw [hx]; rfl)
 cases hy : okB y
 ·
  rw [if_neg (by simp)]
  exact ends_no (by rw [hx, hy]; rfl)
 rw [add_tight hx hy]
 have := ok_of hx
 have := ok_of hy
 unfold tightS
 simp only [Int.ediv_one, Int.neg_neg]
 split
 ·
  rw [if_neg (by omega)]
 ·
  rw [if_pos (by refine ⟨by trivial, by trivial, ?_, ?_⟩ <;> omega)]
theorem addS_comm (x y : Sp) : addS x y = addS y x := by
 rw [add_if, add_if y x, Int.add_comm x.lo, Int.add_comm x.hi]
 by_cases h : okB x = true ∧ okB y = true ∧ -2147483647 ≤ y.lo + x.lo ∧ y.hi + x.hi ≤ 2147483647
 ·
  rw [if_pos h, if_pos ⟨h.2.1, h.1, h.2.2⟩]
 ·
  rw [if_neg h, if_neg (fun g => h ⟨g.2.1, g.1, g.2.2⟩)]
theorem mulS_comm (x y : Sp) : mulS x y = mulS y x := by
 cases hx : okB x
 ·
  rw [show mulS x y = lineS from ends_no (by rw [hx]; rfl), show mulS y x = lineS from ends_no (by rw [hx, Bool.and_false]; rfl)]
 cases hy : okB y
 ·
  rw [show mulS x y = lineS from ends_no (by rw [hx, hy]; rfl), show mulS y x = lineS from ends_no (by rw [hy]; rfl)]
 rw [mul_tight hx hy, mul_tight hy hx]
 have e1 : min4 x y = min4 y x := by
  unfold min4
  rw [Int.mul_comm y.lo x.lo, Int.mul_comm y.lo x.hi, Int.mul_comm y.hi x.lo, Int.mul_comm y.hi x.hi]
  omega
 have e2 : max4 x y = max4 y x := by
  unfold max4
  rw [Int.mul_comm y.lo x.lo, Int.mul_comm y.lo x.hi, Int.mul_comm y.hi x.lo, Int.mul_comm y.hi x.hi]
  omega
 rw [e1, e2]
theorem neg_if (x : Sp) : negS x = if okB x = true then ⟨-x.hi, -x.lo, false⟩ else lineS := rfl
theorem sub_if (x y : Sp) : subS x y = if okB x = true ∧ okB y = true ∧ -2147483647 ≤ x.lo - y.hi ∧ x.hi - y.lo ≤ 2147483647 then ⟨x.lo - y.hi, x.hi - y.lo, false⟩ else lineS := by
 unfold subS
 cases hy : okB y
 ·
  rw [neg_if, hy, if_neg (by simp), if_neg (by simp)]
  exact ends_no (by rw [ok_line, Bool.and_false]; rfl)
 ·
  have k := ok_of hy
  have e : negS y = ⟨-y.hi, -y.lo, false⟩ := by rw [neg_if, hy]; rfl
  have ko : okB (negS y) = true := neg_ok hy
  rw [add_if, ko, e]
  simp only [true_and, ← Int.sub_eq_add_neg]
theorem inV_mk {v w : Vc} (h1 : inB v.x w.x = true) (h2 : inB v.y w.y = true) (h3 : inB v.z w.z = true) : inV v w = true := by unfold inV; rw [h1, h2, h3]; rfl
/-- VecPlain, as numbers. -/
theorem plain_add (v w : Vc) : addV v w = addV w v := by
 unfold addV
 rw [addS_comm v.x, addS_comm v.y, addS_comm v.z]
theorem plain_dot (v w : Vc) : dotV v w = dotV w v := by
 unfold dotV mulV
 rw [mulS_comm v.x, mulS_comm v.y, mulS_comm v.z]
def oneS : Sp := ⟨1048576, 1048576, false⟩
theorem mul_one (x : Sp) : mulS x oneS = mkS x := by
 cases hx : okB x
 ·
  rw [mkS_no hx]; exact ends_no (by rw [hx]; rfl)
 ·
  have k := ok_of hx
  rw [mkS_ok hx, mul_tight hx rfl]
  unfold tightS min4 max4 oneS
  have e : ∀ a b : Int, min a a = a ∧ max a a = a := fun a b => by omega
  rw [if_neg (by dsimp only; omega)]
  obtain ⟨l, h, a⟩ := x
  dsimp only at *
  rw [k.2.2.2]
  congr 1 <;> omega
theorem plain_in1 (x : Sp) : inB x (mkS x) = true ∧ inB (mkS x) x = true := by
 cases hx : okB x
 ·
  rw [mkS_no hx]
  exact ⟨rfl, by unfold inB; rw [hx]; rfl⟩
 ·
  rw [mkS_ok hx]
  have := (in_ok (x := x) hx).2 ⟨hx, Int.le_refl _, Int.le_refl _⟩
  exact ⟨this, this⟩
theorem plain_sca (v : Vc) : inV v (scaV v oneS) = true ∧ inV (scaV v oneS) v = true := by
 unfold scaV
 rw [mul_one, mul_one, mul_one]
 exact ⟨inV_mk (plain_in1 _).1 (plain_in1 _).1 (plain_in1 _).1, inV_mk (plain_in1 _).2 (plain_in1 _).2 (plain_in1 _).2⟩
theorem plain_back1 (x y : Sp) : inB x (addS (subS x y) y) = true := by
 cases h : okB (addS (subS x y) y)
 ·
  unfold inB; rw [h]; rfl
 ·
  obtain ⟨h1, h2⟩ := add_oks h
  obtain ⟨h3, _⟩ := sub_oks h1
  have k := ok_of h2
  rw [in_ok h]
  rw [add_if] at h ⊢
  split at h
  ·
   next hc =>
   rw [if_pos hc]
   rw [sub_if] at h1 ⊢
   split at h1
   ·
    next hd =>
    rw [if_pos hd]
    refine ⟨h3, ?_, ?_⟩
    ·
     show x.lo - y.hi + y.lo ≤ x.lo; omega
    ·
     show x.hi ≤ x.hi - y.lo + y.hi; omega
   ·
    cases h1
  ·
   cases h
theorem plain_back (v w : Vc) : inV v (addV (subV v w) w) = true := inV_mk (plain_back1 _ _) (plain_back1 _ _) (plain_back1 _ _)
end Go.Proofs.Ytpahkpcoinbgcab

/- Package vec: the walks of both, each, sum, from. No statement of the seat is proved here. -/
namespace Go.Proofs.Ytpahkpcoinbgcab
open Go Go.RowKit
theorem run_vix0 (a0 b0 : Int) (c0 : Bool) (a1 b1 : Int) (c1 : Bool) (a2 b2 : Int) (c2 : Bool) (W : World) : Sem.run Try.prog (Instr.index 25 (.agg #[.int .i64 a0, .int .i64 b0, .bool c0, .int .i64 a1, .int .i64 b1, .bool c1, .int .i64 a2, .int .i64 b2, .bool c2]) (.int .i64 0)) W = .ok (.agg #[.int .i64 a0, .int .i64 b0, .bool c0]) W := by kernel_rfl
theorem run_vix1 (a0 b0 : Int) (c0 : Bool) (a1 b1 : Int) (c1 : Bool) (a2 b2 : Int) (c2 : Bool) (W : World) : Sem.run Try.prog (Instr.index 25 (.agg #[.int .i64 a0, .int .i64 b0, .bool c0, .int .i64 a1, .int .i64 b1, .bool c1, .int .i64 a2, .int .i64 b2, .bool c2]) (.int .i64 1)) W = .ok (.agg #[.int .i64 a1, .int .i64 b1, .bool c1]) W := by kernel_rfl
theorem run_vix2 (a0 b0 : Int) (c0 : Bool) (a1 b1 : Int) (c1 : Bool) (a2 b2 : Int) (c2 : Bool) (W : World) : Sem.run Try.prog (Instr.index 25 (.agg #[.int .i64 a0, .int .i64 b0, .bool c0, .int .i64 a1, .int .i64 b1, .bool c1, .int .i64 a2, .int .i64 b2, .bool c2]) (.int .i64 2)) W = .ok (.agg #[.int .i64 a2, .int .i64 b2, .bool c2]) W := by kernel_rfl
attribute [local go_sem] run_vix0 run_vix1 run_vix2
theorem run_vbuild (a0 b0 : Int) (c0 : Bool) (a1 b1 : Int) (c1 : Bool) (a2 b2 : Int) (c2 : Bool) (W : World) : Sem.run Try.prog (Instr.build 25 #[(0, .agg #[.int .i64 a0, .int .i64 b0, .bool c0]), (1, .agg #[.int .i64 a1, .int .i64 b1, .bool c1]), (2, .agg #[.int .i64 a2, .int .i64 b2, .bool c2])]) W = .ok (.agg #[.int .i64 a0, .int .i64 b0, .bool c0, .int .i64 a1, .int .i64 b1, .bool c1, .int .i64 a2, .int .i64 b2, .bool c2]) W := by kernel_rfl
attribute [local go_sem ↓] run_vbuild
end Go.Proofs.Ytpahkpcoinbgcab
