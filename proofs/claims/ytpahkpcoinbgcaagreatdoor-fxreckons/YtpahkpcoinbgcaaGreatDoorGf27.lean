/- Parts of the proof. -/
import Derived.Test.YtpahkpcoinbgcaaGreatDoorGf26
/- The document's fixed numbers: Div and Sqrt, whatever they are given. No statement of the seat is proved here. -/
namespace Go.Proofs.YtpahkpcoinbgcaaGreatDoor
open Go Go.RowKit
theorem dTwo {a b : Int} (a1 : -9223372036854775808 ≤ a) (a2 : a ≤ 9223372036854775807) (b1 : -9223372036854775808 ≤ b) (b2 : b ≤ 9223372036854775807) : ∀ W : World, Calls Tryz.prog 24 #[.int .i64 a, .int .i64 b] W (PN3 (cutI a) (cutI b) (.bool (cutB a || cutB b)) W) := fun W =>
 (rtwo_any a b W a1 a2 b1 b2).mono fun _ _ ⟨b1, a1, n1, c1, b2, a2, n2, c2, e, g1, g2, hB⟩ => ⟨⟨b1, a1, n1, c1, _⟩, ⟨b2, a2, n2, c2, _⟩, rfl, rfl, e, g1, g2, hB⟩
theorem dOne : ∀ W : World, Calls Tryz.prog 31 #[] W (PN 1048576 W) := fun W =>
 (rone_any W).mono fun _ _ ⟨b, a, n, c, e, g, _, hB⟩ => ⟨⟨b, a, n, c, _⟩, rfl, e, g, hB⟩
theorem eMul {x y : Int} (hx : x.natAbs < 10 ^ 40) (hy : y.natAbs < 10 ^ 40) : ∀ (p q : NR) (W : World), p.z = x → q.z = y → p.is W → q.is W → Calls Tryz.prog 29 #[.agg #[.bool p.b, .slice p.a p.n p.c], .agg #[.bool q.b, .slice q.a q.n q.c]] W (PN (x * y) W) := by
 rintro p q W rfl rfl hp hq
 exact nMul p q W hp hq (Nat.le_trans (NR.len hp hx) (by decide)) (Nat.le_trans (NR.len hq hy) (by decide))
theorem eQuo {x y : Int} (hx : x.natAbs < 10 ^ 40) (hy : y.natAbs < 10 ^ 40) (h0 : y ≠ 0) : ∀ (p q : NR) (W : World), p.z = x → q.z = y → p.is W → q.is W → Calls Tryz.prog 30 #[.agg #[.bool p.b, .slice p.a p.n p.c], .agg #[.bool q.b, .slice q.a q.n q.c]] W (PNQ (flo x y) 0 W) := by
 rintro p q W rfl rfl hp hq
 exact nQuo p q W hp hq (Nat.le_trans (NR.len hp hx) (by decide)) (Nat.le_trans (NR.len hq hy) (by decide)) h0
theorem eQuoZ {x : Int} : ∀ (p q : NR) (W : World), p.z = x → q.z = 0 → p.is W → q.is W → Calls Tryz.prog 30 #[.agg #[.bool p.b, .slice p.a p.n p.c], .agg #[.bool q.b, .slice q.a q.n q.c]] W (PNQ 0 11 W) := by
 rintro p q W rfl hz hp hq
 have hn : q.n ≤ 0 := NR.len hq (by rw [hz]; decide)
 obtain ⟨b', a', n', c', z'⟩ := q
 change n' ≤ 0 at hn
 obtain rfl : n' = 0 := by omega
 refine (rQuo_zero p.b p.a p.n p.c b' a' c' W).mono ?_
 rintro e W' ⟨b1, a1, n1, c1, b2, a2, n2, c2, he, g1, g2, hB⟩
 exact ⟨⟨b1, a1, n1, c1, 0⟩, ⟨b2, a2, n2, c2, 0⟩, rfl, he, g1, g2, hB⟩
theorem eCut {x : Int} (hx : x.natAbs < 10 ^ 40) : ∀ (p : NR) (W : World), p.z = x → p.is W → Calls Tryz.prog 25 #[.agg #[.bool p.b, .slice p.a p.n p.c]] W (PVal (.tuple #[.int .i64 (cutI x), .bool (cutB x)]) W) := by
 rintro p W rfl hp
 exact rCut_any p.b p.a p.n p.c p.z W hp (Nat.le_trans (NR.len hp hx) (by decide))
theorem eRoot {x : Int} (h0 : 0 ≤ x) (hx : x.natAbs < 10 ^ 40) : ∀ (p : NR) (W : World), p.z = x → p.is W → Calls Tryz.prog 35 #[.agg #[.bool p.b, .slice p.a p.n p.c]] W (PN1 ((isq x.natAbs : Nat) : Int) (.int .i64 0) W) := by
 rintro p W hz hp
 have hn := Nat.le_trans (NR.len hp (by rw [hz]; exact hx)) (show 40 ≤ 1000000 by decide)
 obtain ⟨b, a, n, c, z⟩ := p
 change z = x at hz
 subst hz
 change RNum W b a n c z at hp
 have hb : b = false := by rw [hp.sgn]; exact decide_eq_false (by omega)
 subst hb
 have hz : z = ((z.natAbs : Nat) : Int) := by omega
 have h1 : RNum W false a n c ((z.natAbs : Nat) : Int) := hz ▸ hp
 refine (rRoot_pos a n c z.natAbs W h1 hn).mono ?_
 rintro e w' ⟨b1, a1, n1, c1, rfl, g, hB⟩
 exact ⟨⟨b1, a1, n1, c1, _⟩, rfl, rfl, g, hB⟩
theorem eRootN {x : Int} (h0 : x < 0) : ∀ (p : NR) (W : World), p.z = x → p.is W → Calls Tryz.prog 35 #[.agg #[.bool p.b, .slice p.a p.n p.c]] W (PN1 0 (.int .i64 12) W) := by
 rintro p W hz hp
 obtain ⟨b, a, n, c, z⟩ := p
 change z = x at hz
 subst hz
 change RNum W b a n c z at hp
 have hb : b = true := by rw [hp.sgn]; exact decide_eq_true h0
 subst hb
 refine (rRoot_neg a n c W).mono ?_
 rintro e w' ⟨b1, a1, n1, c1, rfl, g, hB⟩
 exact ⟨⟨b1, a1, n1, c1, _⟩, rfl, rfl, g, hB⟩
theorem e40 {z : Int} (h1 : -9223372036854775808000000 ≤ z) (h2 : z ≤ 9223372036854775807000000) : z.natAbs < 10 ^ 40 := by
 have : (10 : Nat) ^ 40 = 10000000000000000000000000000000000000000 := by decide
 omega
theorem cut_iff0 {b : Int} : cutI b = 0 ↔ b = 0 := by
 unfold cutI
 constructor
 ·
  intro h; omega
 ·
  intro h; subst h; decide
theorem flo_bd {x y : Int} (h1 : -2251799812636672 ≤ x) (h2 : x ≤ 2251799812636672) (hy : y ≠ 0) : -2251799812636672 ≤ flo x y ∧ flo x y ≤ 2251799812636672 := by
 have key : ∀ u v : Int, -2251799812636672 ≤ u → u ≤ 2251799812636672 → 0 < v → -2251799812636672 ≤ u / v ∧ u / v ≤ 2251799812636672 := by
  intro u v a b hv
  refine ⟨(Int.le_ediv_iff_mul_le hv).2 ?_, ?_⟩
  ·
   have := Int.mul_le_mul_of_nonpos_left (a := -2251799812636672) (b := v) (c := 1) (by decide) (by omega)
   omega
  ·
   have h3 := Int.ediv_mul_le u (b := v) (by omega)
   rcases Int.lt_or_le (u / v) 0 with hq | hq
   ·
    omega
   ·
    have := Int.mul_le_mul_of_nonneg_left (show 1 ≤ v by omega) hq
    omega
 unfold flo
 split
 ·
  exact key x y h1 h2 (by omega)
 ·
  exact key (-x) (-y) (by omega) (by omega) (by omega)
theorem rfDiv_any {a b : Int} (a1 : -9223372036854775808 ≤ a) (a2 : a ≤ 9223372036854775807) (b1 : -9223372036854775808 ≤ b) (b2 : b ≤ 9223372036854775807) (hb : b ≠ 0) (w : World) : Calls Tryz.prog 14 #[.int .i64 a, .int .i64 b] w
  (PVal (.tuple #[.int .i64 (cutI (flo (cutI a * 1048576) (cutI b))), .bool (cutB a || cutB b || cutB (flo (cutI a * 1048576) (cutI b))), .int .i64 0]) w) := by
 have ca := cut_bd a
 have cb := cut_bd b
 have h0 : cutI b ≠ 0 := fun h => hb (cut_iff0.1 h)
 have h2 := dTwo a1 a2 b1 b2
 have t1 : ((1048576 : Int)).natAbs < 10 ^ 40 := e40 (by decide) (by decide)
 have q := flo_bd (x := cutI a * 1048576) (y := cutI b) (by omega) (by omega) h0
 cases hp : (cutB a || cutB b)
 ·
  rw [hp] at h2
  rw [Bool.false_or]
  exact rfDiv_f a b _ _ _ _ _ h2 dOne (eMul (e40 (by omega) (by omega)) t1) (eQuo (e40 (by omega) (by omega)) (e40 (by omega) (by omega)) h0) (eCut (e40 (by omega) (by omega))) w
 ·
  rw [hp] at h2
  rw [Bool.true_or]
  exact rfDiv_t a b _ _ _ _ _ h2 dOne (eMul (e40 (by omega) (by omega)) t1) (eQuo (e40 (by omega) (by omega)) (e40 (by omega) (by omega)) h0) (eCut (e40 (by omega) (by omega))) w
theorem rfDiv_zero {a : Int} (a1 : -9223372036854775808 ≤ a) (a2 : a ≤ 9223372036854775807) (w : World) : Calls Tryz.prog 14 #[.int .i64 a, .int .i64 0] w (PVal (.tuple #[.int .i64 0, .bool false, .int .i64 11]) w) := by
 have ca := cut_bd a
 have h2 := dTwo a1 a2 (show -9223372036854775808 ≤ (0 : Int) by decide) (by decide)
 rw [cut_iff0.2 rfl] at h2
 exact rfDiv_z a 0 _ _ 0 _ h2 dOne (eMul (e40 (by omega) (by omega)) (e40 (by decide) (by decide))) eQuoZ w
theorem isq_le {N : Nat} (h : N ≤ 2251799812636672) : isq N ≤ 47453132 := by
 obtain ⟨k1, _⟩ := isq_spec N
 refine Nat.le_of_not_lt fun hlt => ?_
 have := Nat.mul_le_mul (show 47453133 ≤ isq N from hlt) (show 47453133 ≤ isq N from hlt)
 omega
theorem rfSqrt_pos {a : Int} (a0 : 0 ≤ a) (a2 : a ≤ 9223372036854775807) (w : World) : Calls Tryz.prog 16 #[.int .i64 a] w (PVal (.tuple #[.int .i64 ((isq (cutI a * 1048576).natAbs : Nat) : Int), .bool (cutB a), .int .i64 0]) w) := by
 have ca := cut_bd a
 have h0 : 0 ≤ cutI a := by unfold cutI; omega
 have h2 := dTwo (show -9223372036854775808 ≤ a by omega) a2 (show -9223372036854775808 ≤ (0 : Int) by decide) (by decide)
 have hl : isq (cutI a * 1048576).natAbs ≤ 47453132 := isq_le (by omega)
 have e1 : cutI ((isq (cutI a * 1048576).natAbs : Nat) : Int) = ((isq (cutI a * 1048576).natAbs : Nat) : Int) := by
  generalize isq (cutI a * 1048576).natAbs = r at *
  unfold cutI
  omega
 have e2 : cutB ((isq (cutI a * 1048576).natAbs : Nat) : Int) = false := by
  generalize isq (cutI a * 1048576).natAbs = r at *
  unfold cutB
  simp
  omega
 have hc := eCut (x := ((isq (cutI a * 1048576).natAbs : Nat) : Int)) (e40 (by omega) (by omega))
 rw [e1, e2] at hc
 rw [show cutB 0 = false by decide, Bool.or_false] at h2
 cases hp : cutB a
 ·
  rw [hp] at h2
  exact rfSqrt_f a _ _ _ _ _ h2 dOne (eMul (e40 (by omega) (by omega)) (e40 (by decide) (by decide))) (eRoot (by omega) (e40 (by omega) (by omega))) hc w
 ·
  rw [hp] at h2
  exact rfSqrt_t a _ _ _ _ _ h2 dOne (eMul (e40 (by omega) (by omega)) (e40 (by decide) (by decide))) (eRoot (by omega) (e40 (by omega) (by omega))) hc w
theorem rfSqrt_neg {a : Int} (a1 : -9223372036854775808 ≤ a) (a0 : a < 0) (w : World) : Calls Tryz.prog 16 #[.int .i64 a] w (PVal (.tuple #[.int .i64 0, .bool false, .int .i64 12]) w) := by
 have ca := cut_bd a
 have h0 : cutI a < 0 := by unfold cutI; omega
 have h2 := dTwo a1 (show a ≤ 9223372036854775807 by omega) (show -9223372036854775808 ≤ (0 : Int) by decide) (by decide)
 exact rfSqrt_z a _ _ 0 _ h2 dOne (eMul (e40 (by omega) (by omega)) (e40 (by decide) (by decide))) (eRootN (by omega)) w
theorem fxSqrt_at {a : Int} (a0 : 0 ≤ a) (w : World) : Calls Tryz.prog 15 #[.int .i64 a] w (PVal (.tuple #[.int .i64 ((isq (cutI a * 1048576).natAbs : Nat) : Int), .bool (cutB a), .int .i64 0]) w) :=
 (fxSqrt_pos a w a0).mono fun _ _ ⟨R, r1, r2, _, e, hB⟩ => ⟨by rw [e, isq_uniq r1 r2], hB⟩
end Go.Proofs.YtpahkpcoinbgcaaGreatDoor
