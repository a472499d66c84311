/- Parts of the proof. -/
import Derived.Test.YtpahkpcoinbgcaaGs26
/- The document's spans: Sqrt, whatever it is given. No statement of the seat is proved here. -/
namespace Go.Proofs.Ytpahkpcoinbgcaa
open Go Go.RowKit
theorem nRoot (p : NR) (w : World) (hp : p.is w) (h0 : 0 ≤ p.z) (hn : p.n ≤ 1000000) : Calls Try.prog 88 #[.agg #[.bool p.b, .slice p.a p.n p.c]] w (PN1 ((isq p.z.natAbs : Nat) : Int) (.int .i64 0) w) := by
 obtain ⟨b, a, n, c, z⟩ := p
 change RNum w b a n c z at hp
 change 0 ≤ z at h0
 have hb : b = false := by rw [hp.sgn]; exact decide_eq_false (by omega)
 subst hb
 have hz : z = ((z.natAbs : Nat) : Int) := by omega
 have h1 : RNum w false a n c ((z.natAbs : Nat) : Int) := hz ▸ hp
 refine (rRoot_pos a n c z.natAbs w h1 hn).mono ?_
 rintro e w' ⟨b1, a1, n1, c1, rfl, g, hB⟩
 exact ⟨⟨b1, a1, n1, c1, _⟩, rfl, rfl, g, hB⟩
theorem sq_lt {a b : Int} (h0 : 0 ≤ a) (hb : 0 ≤ b) (h : a * a < b * b) : a < b := by
 refine Int.lt_of_not_ge fun hc => ?_
 have := Int.mul_le_mul hc hc hb h0
 omega
theorem rt_mono {a b : Int} (h0 : 0 ≤ a) (h : a ≤ b) : ((rtN a : Nat) : Int) ≤ ((rtN b : Nat) : Int) := by
 have r0 := rt_of h0
 have r1 := rt_of (show 0 ≤ b by omega)
 have := sq_lt (a := ((rtN a : Nat) : Int)) (b := ((rtN b : Nat) : Int) + 1) (by omega) (by omega) (by omega)
 omega
theorem root_eq {a : Int} (h : 0 ≤ a) (h2 : a ≤ 2147483647) : rootS a = ⟨rtN a, if ((rtN a : Nat) : Int) * ((rtN a : Nat) : Int) = a * 1048576 then ((rtN a : Nat) : Int) else ((rtN a : Nat) : Int) + 1, false⟩ := by
 have hl := rt_le h h2
 unfold rootS
 split
 ·
  exact mkS_ok (ok_mk (by show _ ≤ ((rtN a : Nat) : Int); omega) (Int.le_refl _) (by show ((rtN a : Nat) : Int) ≤ _; omega) rfl)
 ·
  exact mkS_ok (ok_mk (by show _ ≤ ((rtN a : Nat) : Int); omega) (by show ((rtN a : Nat) : Int) ≤ ((rtN a : Nat) : Int) + 1; omega) (by show ((rtN a : Nat) : Int) + 1 ≤ _; omega) rfl)
theorem sqrt_tight {l h : Int} (h1 : -2147483647 ≤ l) (h2 : l ≤ h) (h3 : h ≤ 2147483647) (h0 : 0 ≤ h) :
  sqrtS ⟨l, h, false⟩ = tightS ((rtN (max 0 l) : Nat) : Int) (if ((rtN h : Nat) : Int) * ((rtN h : Nat) : Int) < h * 1048576 then ((rtN h : Nat) : Int) + 1 else ((rtN h : Nat) : Int)) 1 := by
 have hk : okB ⟨l, h, false⟩ = true := ok_mk h1 h2 h3 rfl
 have hm : max l 0 = max 0 l := by omega
 have e : sqrtS ⟨l, h, false⟩ = joinS (rootS (max 0 l)) (rootS h) := by
  unfold sqrtS
  rw [hk]
  show (if (true && decide (0 ≤ h)) = true then joinS (rootS (max l 0)) (rootS h) else lineS) = _
  rw [if_pos (by simp; exact h0), hm]
 have a0 : 0 ≤ max 0 l := by omega
 have a1 : max 0 l ≤ h := by omega
 generalize max 0 l = m at *
 have o1 := (root_of a0 (by omega)).1
 have o2 := (root_of h0 h3).1
 rw [e, join_ok o1 o2, root_eq a0 (by omega), root_eq h0 h3]
 have r0 := rt_of a0
 have r1 := rt_of h0
 have mo := rt_mono a0 a1
 have b1 := rt_le h0 h3
 have ex : ((rtN m : Nat) : Int) = ((rtN h : Nat) : Int) → ((rtN h : Nat) : Int) * ((rtN h : Nat) : Int) = h * 1048576 → ((rtN m : Nat) : Int) * ((rtN m : Nat) : Int) = m * 1048576 := by
  intro e1 e2
  rw [e1] at r0 ⊢
  omega
 generalize hA : ((rtN m : Nat) : Int) = A at *
 generalize hB : ((rtN h : Nat) : Int) = B at *
 have hA0 : 0 ≤ A := by omega
 have hB1 : B ≤ 47453132 := by omega
 generalize A * A = AA at *
 generalize B * B = BB at *
 unfold tightS
 simp only [Int.ediv_one, Int.neg_neg]
 by_cases c1 : AA = m * 1048576
 ·
  by_cases c2 : BB = h * 1048576
  ·
   rw [if_pos c1, if_pos c2, if_neg (show ¬ BB < h * 1048576 by omega), if_neg (by omega)]
   show Sp.mk (min A B) (max A B) false = _
   congr 1 <;> omega
  ·
   rw [if_pos c1, if_neg c2, if_pos (show BB < h * 1048576 by omega), if_neg (by omega)]
   show Sp.mk (min A B) (max A (B + 1)) false = _
   congr 1 <;> omega
 ·
  by_cases c2 : BB = h * 1048576
  ·
   rw [if_neg c1, if_pos c2, if_neg (show ¬ BB < h * 1048576 by omega), if_neg (by omega)]
   have : A ≠ B := fun e1 => c1 (ex e1 c2)
   show Sp.mk (min A B) (max (A + 1) B) false = _
   congr 1 <;> omega
  ·
   rw [if_neg c1, if_neg c2, if_pos (show BB < h * 1048576 by omega), if_neg (by omega)]
   show Sp.mk (min A B) (max (A + 1) (B + 1)) false = _
   congr 1 <;> omega
theorem cOf (z : Int) (h1 : -9223372036854775808 ≤ z) (h2 : z ≤ 9223372036854775807) : ∀ W : World, Calls Try.prog 80 #[.int .i64 z] W (PN z W) := fun W => nOf z h1 h2 W
theorem cMul {x y : Int} (hx : x.natAbs < 10 ^ 40) (hy : y.natAbs < 10 ^ 40) : ∀ (p q : NR) (W : World), p.z = x → q.z = y → p.is W → q.is W → Calls Try.prog 86 #[.agg #[.bool p.b, .slice p.a p.n p.c], .agg #[.bool q.b, .slice q.a q.n q.c]] W (PN (x * y) W) := by
 rintro p q W rfl rfl hp hq
 exact nMul p q W hp hq (Nat.le_trans (NR.len hp hx) (by decide)) (Nat.le_trans (NR.len hq hy) (by decide))
theorem cAdd {x y : Int} (hx : x.natAbs < 10 ^ 40) (hy : y.natAbs < 10 ^ 40) : ∀ (p q : NR) (W : World), p.z = x → q.z = y → p.is W → q.is W → Calls Try.prog 89 #[.agg #[.bool p.b, .slice p.a p.n p.c], .agg #[.bool q.b, .slice q.a q.n q.c]] W (PN (x + y) W) := by
 rintro p q W rfl rfl hp hq
 exact nAdd p q W hp hq (Nat.le_trans (NR.len hp hx) (by decide)) (Nat.le_trans (NR.len hq hy) (by decide))
theorem cCmp (x y : Int) : ∀ (p q : NR) (W : World), p.z = x → q.z = y → p.is W → q.is W → Calls Try.prog 87 #[.agg #[.bool p.b, .slice p.a p.n p.c], .agg #[.bool q.b, .slice q.a q.n q.c]] W (PVal (.int .i64 (cmpI x y)) W) := by
 rintro p q W rfl rfl hp hq
 exact nCmp p q W hp hq
theorem cRoot {x : Int} (h0 : 0 ≤ x) (hx : x.natAbs < 10 ^ 40) : ∀ (p : NR) (W : World), p.z = x → p.is W → Calls Try.prog 88 #[.agg #[.bool p.b, .slice p.a p.n p.c]] W (PN1 ((isq x.natAbs : Nat) : Int) (.int .i64 0) W) := by
 rintro p W rfl hp
 exact nRoot p W hp h0 (Nat.le_trans (NR.len hp hx) (by decide))
theorem cTight {x y : Int} (h1 : -9223372036854775807 ≤ x) (h2 : x ≤ 9223372036854775807) (h3 : -9223372036854775807 ≤ y) (h4 : y ≤ 9223372036854775807) : ∀ (p q : NR) (W : World), p.z = x → q.z = y → p.is W → q.is W → Calls Try.prog 79 #[.agg #[.bool p.b, .slice p.a p.n p.c], .agg #[.bool q.b, .slice q.a q.n q.c], .int .i64 1] W (PDp (tightS x y 1) W) := by
 rintro p q W rfl rfl hp hq
 exact tight_any p q 1 W hp hq (.inl rfl) h1 h2 h3 h4
theorem ten40 {z : Int} (h1 : -9223372036854775808000000 ≤ z) (h2 : z ≤ 9223372036854775807000000) : z.natAbs < 10 ^ 40 := by
 have : (10 : Nat) ^ 40 = 10000000000000000000000000000000000000000 := by decide
 omega
theorem rdSqrt_any (x : Sp) (w : World) : Calls Try.prog 27 #[.agg #[.int .i64 x.lo, .int .i64 x.hi, .bool x.all]] w (PDp (sqrtS x) w) := by
 have hR := rRight_any x
 cases hk : okB x
 ·
  rw [mkS_no hk] at hR
  have e : sqrtS x = lineS := by unfold sqrtS; rw [hk]; rfl
  rw [e]
  exact rdSqrt_no x hR w
 ·
  rw [mkS_ok hk] at hR
  obtain ⟨l, h, b⟩ := x
  obtain ⟨k1, k2, k3, k4⟩ := ok_of hk
  change -2147483647 ≤ l at k1
  change l ≤ h at k2
  change h ≤ 2147483647 at k3
  change b = false at k4
  subst k4
  by_cases hn : h < 0
  ·
   have e : sqrtS ⟨l, h, false⟩ = lineS := by
    unfold sqrtS
    rw [hk]
    show (if (true && decide (0 ≤ h)) = true then _ else lineS) = _
    rw [if_neg (by simp; omega)]
   rw [e]
   exact rdSqrt_neg l h hR (decide_eq_true hn) w
  ·
   have h0 : 0 ≤ h := by omega
   rw [sqrt_tight k1 k2 k3 h0]
   have g0 : 0 ≤ max 0 l := by omega
   have g1 : max 0 l ≤ 2147483647 := by omega
   have q0 := rt_le g0 g1
   have q1 := rt_le h0 k3
   have q2 := rt_of h0
   generalize hm : max 0 l = m at *
   have rA : ((isq (m * 1048576).natAbs : Nat) : Int) = ((rtN m : Nat) : Int) := rfl
   have rB : ((isq (h * 1048576).natAbs : Nat) : Int) = ((rtN h : Nat) : Int) := rfl
   have cA := cRoot (x := m * 1048576) (by omega) (ten40 (by omega) (by omega))
   rw [rA] at cA
   have cB := cRoot (x := h * 1048576) (by omega) (ten40 (by omega) (by omega))
   rw [rB] at cB
   clear rA rB
   have hA0 : 0 ≤ ((rtN m : Nat) : Int) := by omega
   have hA : ((rtN m : Nat) : Int) ≤ 47453132 := by omega
   have hB0 : 0 ≤ ((rtN h : Nat) : Int) := by omega
   have hB : ((rtN h : Nat) : Int) ≤ 47453132 := by omega
   clear q0 q1
   generalize ((rtN m : Nat) : Int) = A at *
   generalize ((rtN h : Nat) : Int) = B at *
   have hBB : 0 ≤ B * B := Int.mul_nonneg hB0 hB0
   have t1 : ((1048576 : Int)).natAbs < 10 ^ 40 := ten40 (by decide) (by decide)
   have tm : m.natAbs < 10 ^ 40 := ten40 (by omega) (by omega)
   have th : h.natAbs < 10 ^ 40 := ten40 (by omega) (by omega)
   have tB : B.natAbs < 10 ^ 40 := ten40 (by omega) (by omega)
   by_cases hs : B * B < h * 1048576
   ·
    rw [if_pos hs]
    exact rdSqrt_up l h m A B (cmpI (B * B) (h * 1048576)) _ hR (cOf 1048576 (by decide) (by decide)) (cOf m (by omega) (by omega)) (cMul tm t1) cA (cOf h (by omega) (by omega)) (cMul th t1) cB (cMul tB tB) (cCmp _ _) (cOf 1 (by decide) (by decide)) (cAdd tB (ten40 (by decide) (by decide))) (cTight (by omega) (by omega) (by omega) (by omega)) (decide_eq_false hn) hm (cmp_lt0 hs) w
   ·
    rw [if_neg hs]
    exact rdSqrt_ex l h m A B (cmpI (B * B) (h * 1048576)) _ hR (cOf 1048576 (by decide) (by decide)) (cOf m (by omega) (by omega)) (cMul tm t1) cA (cOf h (by omega) (by omega)) (cMul th t1) cB (cMul tB tB) (cCmp _ _) (cTight (by omega) (by omega) (by omega) (by omega)) (decide_eq_false hn) hm (cmp_nlt0 (by omega)) w
end Go.Proofs.Ytpahkpcoinbgcaa
