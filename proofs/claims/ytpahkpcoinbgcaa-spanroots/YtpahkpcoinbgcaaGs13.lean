/- Parts of the proof. -/
import Derived.Test.YtpahkpcoinbgcaaGs12
import Derived.Test.YtpahkpcoinbgcaaGs5
import Derived.Test.YtpahkpcoinbgcaaGs6
import Derived.Test.YtpahkpcoinbgcaaGs3
import Derived.Test.YtpahkpcoinbgcaaGs1
/- The document's spans: Sqrt, whatever it is given. No statement of the seat is proved here. -/
namespace Go.Proofs.Ytpahkpcoinbgcaa
open Go Go.RowKit
theorem nRoot (p : NR) (w : World) (hp : p.is w) (h0 : 0 ≤ p.z) (hn : p.n ≤ 1000000) : Calls Try.prog 88 #[.agg #[.bool p.b, .slice p.a p.n p.c]] w (PN1 ((isq p.z.natAbs : Nat) : Int) (.int .i64 0) w) := by
 obtain ⟨b, a, n, c, z⟩ := p
 change RNum w b a n c z at hp
 change 0 ≤ z at h0
 have hb : b = false := by rw [hp.sgn]; exact decide_eq_false (by omega)
 subst hb
 have hz : z = ((z.natAbs : Nat) : Int) := by omega
 have h1 : RNum w false a n c ((z.natAbs : Nat) : Int) := hz ▸ hp
 refine (rRoot_pos a n c z.natAbs w h1 hn).mono ?_
 rintro e w' ⟨b1, a1, n1, c1, rfl, g, hB⟩
 exact ⟨⟨b1, a1, n1, c1, _⟩, rfl, rfl, g, hB⟩
theorem sq_lt {a b : Int} (h0 : 0 ≤ a) (hb : 0 ≤ b) (h : a * a < b * b) : a < b := by
 refine Int.lt_of_not_ge fun hc => ?_
 have := Int.mul_le_mul hc hc hb h0
 omega
theorem rt_mono {a b : Int} (h0 : 0 ≤ a) (h : a ≤ b) : ((rtN a : Nat) : Int) ≤ ((rtN b : Nat) : Int) := by
 have r0 := rt_of h0
 have r1 := rt_of (show 0 ≤ b by omega)
 have := sq_lt (a := ((rtN a : Nat) : Int)) (b := ((rtN b : Nat) : Int) + 1) (by omega) (by omega) (by omega)
 omega
theorem root_eq {a : Int} (h : 0 ≤ a) (h2 : a ≤ 2147483647) : rootS a = ⟨rtN a, if ((rtN a : Nat) : Int) * ((rtN a : Nat) : Int) = a * 1048576 then ((rtN a : Nat) : Int) else ((rtN a : Nat) : Int) + 1, false⟩ := by
 have hl := rt_le h h2
 unfold rootS
 split
 ·
  exact mkS_ok (ok_mk (by show _ ≤ ((rtN a : Nat) : Int); omega) (Int.le_refl _) (by show ((rtN a : Nat) : Int) ≤ _; omega) rfl)
 ·
  exact mkS_ok (ok_mk (by show _ ≤ ((rtN a : Nat) : Int); omega) (by show ((rtN a : Nat) : Int) ≤ ((rtN a : Nat) : Int) + 1; omega) (by show ((rtN a : Nat) : Int) + 1 ≤ _; omega) rfl)
theorem sqrt_tight {l h : Int} (h1 : -2147483647 ≤ l) (h2 : l ≤ h) (h3 : h ≤ 2147483647) (h0 : 0 ≤ h) :
  sqrtS ⟨l, h, false⟩ = tightS ((rtN (max 0 l) : Nat) : Int) (if ((rtN h : Nat) : Int) * ((rtN h : Nat) : Int) < h * 1048576 then ((rtN h : Nat) : Int) + 1 else ((rtN h : Nat) : Int)) 1 := by
 have hk : okB ⟨l, h, false⟩ = true := ok_mk h1 h2 h3 rfl
 have hm : max l 0 = max 0 l := by omega
 have e : sqrtS ⟨l, h, false⟩ = joinS (rootS (max 0 l)) (rootS h) := by
  unfold sqrtS
  rw [hk]
  show (if (true && decide (0 ≤ h)) = true then joinS (rootS (max l 0)) (rootS h) else lineS) = _
  rw [if_pos (by simp; exact h0), hm]
 have a0 : 0 ≤ max 0 l := by omega
 have a1 : max 0 l ≤ h := by omega
 generalize max 0 l = m at *
 have o1 := (root_of a0 (by omega)).1
 have o2 := (root_of h0 h3).1
 rw [e, join_ok o1 o2, root_eq a0 (by omega), root_eq h0 h3]
 have r0 := rt_of a0
 have r1 := rt_of h0
 have mo := rt_mono a0 a1
 have b1 := rt_le h0 h3
 have ex : ((rtN m : Nat) : Int) = ((rtN h : Nat) : Int) → ((rtN h : Nat) : Int) * ((rtN h : Nat) : Int) = h * 1048576 → ((rtN m : Nat) : Int) * ((rtN m : Nat) : Int) = m * 1048576 := by
  intro e1 e2
  rw [e1] at r0 ⊢
  omega
 generalize hA : ((rtN m : Nat) : Int) = A at *
 generalize hB : ((rtN h : Nat) : Int) = B at *
 have hA0 : 0 ≤ A := by omega
 have hB1 : B ≤ 47453132 := by omega
 generalize A * A = AA at *
 generalize B * B = BB at *
 unfold tightS
 simp only [Int.ediv_one, Int.neg_neg]
 by_cases c1 : AA = m * 1048576
 ·
  by_cases c2 : BB = h * 1048576
  ·
   rw [if_pos c1, if_pos c2, if_neg (show ¬ BB < h * 1048576 by omega), if_neg (by omega)]
   show Sp.mk (min A B) (max A B) false = _
   congr 1 <;> omega
  ·
   rw [if_pos c1, if_neg c2, if_pos (show BB < h * 1048576 by omega), if_neg (by omega)]
   show Sp.mk (min A B) (max A (B + 1)) false = _
   congr 1 <;> omega
 ·
  by_cases c2 : BB = h * 1048576
  ·
   rw [if_neg c1, if_pos c2, if_neg (show ¬ BB < h * 1048576 by omega), if_neg (by omega)]
   have : A ≠ B := fun e1 => c1 (ex e1 c2)
   show Sp.mk (min A B) (max (A + 1) B) false = _
   congr 1 <;> omega
  ·
   rw [if_neg c1, if_neg c2, if_pos (show BB < h * 1048576 by omega), if_neg (by omega)]
   show Sp.mk (min A B) (max (A + 1) (B + 1)) false = _
   congr 1 <;> omega
theorem cOf (z : Int) (h1 : -9223372036854775808 ≤ z) (h2 : z ≤ 9223372036854775807) : ∀ W : World, Calls Try.prog 80 #[.int .i64 z] W (PN z W) := fun W => nOf z h1 h2 W
theorem cMul {x y : Int} (hx : x.natAbs < 10 ^ 40) (hy : y.natAbs < 10 ^ 40) : ∀ (p q : NR) (W : World), p.z = x → q.z = y → p.is W → q.is W → Calls Try.prog 86 #[.agg #[.bool p.b, .slice p.a p.n p.c], .agg #[.bool q.b, .slice q.a q.n q.c]] W (PN (x * y) W) := by
 rintro p q W rfl rfl hp hq
 exact nMul p q W hp hq (Nat.le_trans (NR.len hp hx) (by decide)) (Nat.le_trans (NR.len hq hy) (by decide))
theorem cAdd {x y : Int} (hx : x.natAbs < 10 ^ 40) (hy : y.natAbs < 10 ^ 40) : ∀ (p q : NR) (W : World), p.z = x → q.z = y → p.is W → q.is W → Calls Try.prog 89 #[.agg #[.bool p.b, .slice p.a p.n p.c], .agg #[.bool q.b, .slice q.a q.n q.c]] W (PN (x + y) W) := by
 rintro p q W rfl rfl hp hq
 exact nAdd p q W hp hq (Nat.le_trans (NR.len hp hx) (by decide)) (Nat.le_trans (NR.len hq hy) (by decide))
theorem cCmp (x y : Int) : ∀ (p q : NR) (W : World), p.z = x → q.z = y → p.is W → q.is W → Calls Try.prog 87 #[.agg #[.bool p.b, .slice p.a p.n p.c], .agg #[.bool q.b, .slice q.a q.n q.c]] W (PVal (.int .i64 (cmpI x y)) W) := by
 rintro p q W rfl rfl hp hq
 exact nCmp p q W hp hq
theorem cRoot {x : Int} (h0 : 0 ≤ x) (hx : x.natAbs < 10 ^ 40) : ∀ (p : NR) (W : World), p.z = x → p.is W → Calls Try.prog 88 #[.agg #[.bool p.b, .slice p.a p.n p.c]] W (PN1 ((isq x.natAbs : Nat) : Int) (.int .i64 0) W) := by
 rintro p W rfl hp
 exact nRoot p W hp h0 (Nat.le_trans (NR.len hp hx) (by decide))
theorem cTight {x y : Int} (h1 : -9223372036854775807 ≤ x) (h2 : x ≤ 9223372036854775807) (h3 : -9223372036854775807 ≤ y) (h4 : y ≤ 9223372036854775807) : ∀ (p q : NR) (W : World), p.z = x → q.z = y → p.is W → q.is W → Calls Try.prog 79 #[.agg #[.bool p.b, .slice p.a p.n p.c], .agg #[.bool q.b, .slice q.a q.n q.c], .int .i64 1] W (PDp (tightS x y 1) W) := by
 rintro p q W rfl rfl hp hq
 exact tight_any p q 1 W hp hq (.inl rfl) h1 h2 h3 h4
theorem ten40 {z : Int} (h1 : -9223372036854775808000000 ≤ z) (h2 : z ≤ 9223372036854775807000000) : z.natAbs < 10 ^ 40 := by
 have : (10 : Nat) ^ 40 = 10000000000000000000000000000000000000000 := by decide
 omega
theorem rdSqrt_any (x : Sp) (w : World) : Calls Try.prog 27 #[.agg #[.int .i64 x.lo, .int .i64 x.hi, .bool x.all]] w (PDp (sqrtS x) w) := by
 have hR := rRight_any x
 cases hk : okB x
 ·
  rw [mkS_no hk] at hR
  have e : sqrtS x = lineS := by unfold sqrtS; rw [hk]; rfl
  rw [e]
  exact rdSqrt_no x hR w
 ·
  rw [mkS_ok hk] at hR
  obtain ⟨l, h, b⟩ := x
  obtain ⟨k1, k2, k3, k4⟩ := ok_of hk
  change -2147483647 ≤ l at k1
  change l ≤ h at k2
  change h ≤ 2147483647 at k3
  change b = false at k4
  subst k4
  by_cases hn : h < 0
  ·
   have e : sqrtS ⟨l, h, false⟩ = lineS := by
    unfold sqrtS
    rw [hk]
    show (if (true && decide (0 ≤ h)) = true then _ else lineS) = _
    rw [if_neg (by simp; omega)]
   rw [e]
   exact rdSqrt_neg l h hR (decide_eq_true hn) w
  ·
   have h0 : 0 ≤ h := by omega
   rw [sqrt_tight k1 k2 k3 h0]
   have g0 : 0 ≤ max 0 l := by omega
   have g1 : max 0 l ≤ 2147483647 := by omega
   have q0 := rt_le g0 g1
   have q1 := rt_le h0 k3
   have q2 := rt_of h0
   generalize hm : max 0 l = m at *
   have rA : ((isq (m * 1048576).natAbs : Nat) : Int) = ((rtN m : Nat) : Int) := rfl
   have rB : ((isq (h * 1048576).natAbs : Nat) : Int) = ((rtN h : Nat) : Int) := rfl
   have cA := cRoot (x := m * 1048576) (by omega) (ten40 (by omega) (by omega))
   rw [rA] at cA
   have cB := cRoot (x := h * 1048576) (by omega) (ten40 (by omega) (by omega))
   rw [rB] at cB
   clear rA rB
   have hA0 : 0 ≤ ((rtN m : Nat) : Int) := by omega
   have hA : ((rtN m : Nat) : Int) ≤ 47453132 := by omega
   have hB0 : 0 ≤ ((rtN h : Nat) : Int) := by omega
   have hB : ((rtN h : Nat) : Int) ≤ 47453132 := by omega
   clear q0 q1
   generalize ((rtN m : Nat) : Int) = A at *
   generalize ((rtN h : Nat) : Int) = B at *
   have hBB : 0 ≤ B * B := Int.mul_nonneg hB0 hB0
   have t1 : ((1048576 : Int)).natAbs < 10 ^ 40 := ten40 (by decide) (by decide)
   have tm : m.natAbs < 10 ^ 40 := ten40 (by omega) (by omega)
   have th : h.natAbs < 10 ^ 40 := ten40 (by omega) (by omega)
   have tB : B.natAbs < 10 ^ 40 := ten40 (by omega) (by omega)
   by_cases hs : B * B < h * 1048576
   ·
    rw [if_pos hs]
    exact rdSqrt_up l h m A B (cmpI (B * B) (h * 1048576)) _ hR (cOf 1048576 (by decide) (by decide)) (cOf m (by omega) (by omega)) (cMul tm t1) cA (cOf h (by omega) (by omega)) (cMul th t1) cB (cMul tB tB) (cCmp _ _) (cOf 1 (by decide) (by decide)) (cAdd tB (ten40 (by decide) (by decide))) (cTight (by omega) (by omega) (by omega) (by omega)) (decide_eq_false hn) hm (cmp_lt0 hs) w
   ·
    rw [if_neg hs]
    exact rdSqrt_ex l h m A B (cmpI (B * B) (h * 1048576)) _ hR (cOf 1048576 (by decide) (by decide)) (cOf m (by omega) (by omega)) (cMul tm t1) cA (cOf h (by omega) (by omega)) (cMul th t1) cB (cMul tB tB) (cCmp _ _) (cTight (by omega) (by omega) (by omega) (by omega)) (decide_eq_false hn) hm (cmp_nlt0 (by omega)) w
end Go.Proofs.Ytpahkpcoinbgcaa

/- Sines and cosines: the numbers of the sums. No statement of the seat is proved here. -/
namespace Go.Proofs.Ytpahkpcoinbgcaa
open Go.RowKit
/-- How many times a factorial is in that of one d greater. -/
def grN (a : Nat) : Nat → Nat
 | 0 => 1
 | d + 1 => grN a d * (a + d + 1)
end Go.Proofs.Ytpahkpcoinbgcaa

/- Sines and cosines: the walks of grown, sum, down. No statement of the seat is proved here. -/
namespace Go.Proofs.Ytpahkpcoinbgcaa
open Go.RowKit
/-- A value is a number of package long. -/
def VN (z : Int) (v : Value) (W : World) : Prop := ∃ (b : Bool) (a : Option Addr) (n c : Nat), v = .agg #[.bool b, .slice a n c] ∧ Num W b a n c z
theorem VN.later {z : Int} {v : Value} {W W' : World} (h : VN z v W) (hb : Below W.heap.size W W') : VN z v W' := by
 obtain ⟨b, a, n, c, e, hn⟩ := h
 exact ⟨b, a, n, c, e, hn.below hb⟩
/-- A variable holds a number. -/
structure V4 (W : World) (k : Nat) (b : Bool) (a : Option Addr) (n c : Nat) (z : Int) : Prop where
 bx : Bx W 113 k (.bool b) (.slice a n c)
 num : Num W b a n c z
theorem V4.later {W W' : World} {k : Nat} {b : Bool} {a : Option Addr} {n c : Nat} {z : Int} (h : V4 W k b a n c z) (hb : Below W.heap.size W W') : V4 W' k b a n c z := ⟨h.bx.below hb, h.num.below hb⟩
theorem V4.drew {W : World} {k : Nat} {b : Bool} {a : Option Addr} {n c : Nat} {z : Int} (h : V4 W k b a n c z) : V4 W.drew k b a n c z := h.later (Below.refl _ _).drew
theorem V4.put {W : World} {k : Nat} {b : Bool} {a : Option Addr} {n c : Nat} {z : Int} (h : V4 W k b a n c z) {b' : Bool} {a' : Option Addr} {n' c' : Nat} {z' : Int} (hz : Num W b' a' n' c' z') : V4 ((W.setCell ⟨k, 0, none⟩ (.bool b')).setCell ⟨k, 1, none⟩ (.slice a' n' c')) k b' a' n' c' z' := ⟨h.bx.self _ _, hz.store h.bx _ _⟩
theorem V4.far {W : World} {k j : Nat} {b : Bool} {a : Option Addr} {n c : Nat} {z : Int} (h : V4 W k b a n c z) {b' : Bool} {a' : Option Addr} {n' c' : Nat} {z' : Int} (hj : V4 W j b' a' n' c' z') (hne : k ≠ j) (u v : Value) : V4 ((W.setCell ⟨j, 0, none⟩ u).setCell ⟨j, 1, none⟩ v) k b a n c z := ⟨h.bx.other hne _ _, h.num.store hj.bx _ _⟩
/-- The variables of sum: power, top, under. -/
structure KS (w W : World) (k : Nat) (x y z : Int) : Prop where
 below : Below w.heap.size w W
 ge : w.heap.size + 2 ≤ k
 p : ∃ b a n c, V4 W k b a n c x
 t : ∃ b a n c, V4 W w.heap.size b a n c y
 u : ∃ b a n c, V4 W (w.heap.size + 1) b a n c z
theorem KS.later {w W W' : World} {k : Nat} {x y z : Int} (h : KS w W k x y z) (hb : Below W.heap.size W W') : KS w W' k x y z := by
 obtain ⟨h1, h2, ⟨b, a, n, c, h3⟩, ⟨b', a', n', c', h4⟩, ⟨b2, a2, n2, c2, h5⟩⟩ := h
 exact ⟨h1.trans (hb.mono h1.size), h2, ⟨b, a, n, c, h3.later hb⟩, ⟨b', a', n', c', h4.later hb⟩, ⟨b2, a2, n2, c2, h5.later hb⟩⟩
theorem V4.cells {W : World} {k : Nat} {b : Bool} {a : Option Addr} {n c : Nat} {z : Int} (h : V4 W k b a n c z) : W.cell? ⟨k, 0, none⟩ = some (.bool b) ∧ W.cell? ⟨k, 1, none⟩ = some (.slice a n c) ∧ W.frozen? ⟨k, 0, none⟩ = false ∧ W.frozen? ⟨k, 1, none⟩ = false := h.bx.cells
theorem below_put {w W : World} (h : Below w.heap.size w W) {k : Nat} (hk : w.heap.size ≤ k) (u v : Value) : Below w.heap.size w ((W.setCell ⟨k, 0, none⟩ u).setCell ⟨k, 1, none⟩ v) := (h.setCell (p := ⟨k, 0, none⟩) hk _).setCell (p := ⟨k, 1, none⟩) hk _
/-- As KS, with the values. -/
structure KV (w W : World) (k : Nat) (X1 : Bool) (X2 : Option Addr) (X3 X4 : Nat) (T1 : Bool) (T2 : Option Addr) (T3 T4 : Nat) (U1 : Bool) (U2 : Option Addr) (U3 U4 : Nat) (x y z : Int) : Prop where
 below : Below w.heap.size w W
 ge : w.heap.size + 2 ≤ k
 p : V4 W k X1 X2 X3 X4 x
 t : V4 W w.heap.size T1 T2 T3 T4 y
 u : V4 W (w.heap.size + 1) U1 U2 U3 U4 z
section
variable {w W : World} {k8 : Nat} {X1 : Bool} {X2 : Option Addr} {X3 X4 : Nat} {T1 : Bool} {T2 : Option Addr} {T3 T4 : Nat} {U1 : Bool} {U2 : Option Addr} {U3 U4 : Nat} {x y z : Int}
theorem KV.ks (h : KV w W k8 X1 X2 X3 X4 T1 T2 T3 T4 U1 U2 U3 U4 x y z) : KS w W k8 x y z := ⟨h.below, h.ge, ⟨_, _, _, _, h.p⟩, ⟨_, _, _, _, h.t⟩, ⟨_, _, _, _, h.u⟩⟩
theorem KV.later {W' : World} (h : KV w W k8 X1 X2 X3 X4 T1 T2 T3 T4 U1 U2 U3 U4 x y z) (hb : Below W.heap.size W W') : KV w W' k8 X1 X2 X3 X4 T1 T2 T3 T4 U1 U2 U3 U4 x y z := ⟨h.below.trans (hb.mono h.below.size), h.ge, h.p.later hb, h.t.later hb, h.u.later hb⟩
theorem KV.drew (h : KV w W k8 X1 X2 X3 X4 T1 T2 T3 T4 U1 U2 U3 U4 x y z) : KV w W.drew k8 X1 X2 X3 X4 T1 T2 T3 T4 U1 U2 U3 U4 x y z := h.later (Below.refl _ _).drew
end
/-- The last region of sum: what stands in top and under, by what is done (operation 4 stores top). -/
structure JS (w : World) (T1 : Bool) (T2 : Option Addr) (T3 T4 : Nat) (tv : Int) (U1 : Bool) (U2 : Option Addr) (U3 U4 : Nat) (uv : Int) (L : Nat → Bool) (u : Nat → Value) (W : World) : Prop where
 below : Below w.heap.size w W
 un : V4 W (w.heap.size + 1) U1 U2 U3 U4 uv
 t : L 4 = false → V4 W w.heap.size T1 T2 T3 T4 tv
 d2 : L 4 = true → L 0 = true ∧ L 1 = true ∧ L 2 = true ∧ ∃ b a n c, u 2 = .agg #[.bool b, .slice a n c] ∧ V4 W w.heap.size b a n c (tv * 1048576)
def Vt (_ : Value) (_ : World) : Prop := True
theorem Vt.later {v : Value} {W W' : World} (h : Vt v W) (_ : Below W.heap.size W W') : Vt v W' := h
section
variable {w W : World} {T1 : Bool} {T2 : Option Addr} {T3 T4 : Nat} {U1 : Bool} {U2 : Option Addr} {U3 U4 : Nat} {tv uv : Int} {L : Nat → Bool} {u : Nat → Value}
theorem JS.start {k8 : Nat} {X1 : Bool} {X2 : Option Addr} {X3 X4 : Nat} {x : Int} (h : KV w W k8 X1 X2 X3 X4 T1 T2 T3 T4 U1 U2 U3 U4 x tv uv) (u : Nat → Value) : JS w T1 T2 T3 T4 tv U1 U2 U3 U4 uv (fun _ => false) u W.drew := ⟨h.drew.below, h.drew.u, fun _ => h.drew.t, nofun⟩
theorem JS.no {i : Nat} (hi : L i = false) (h : JS w T1 T2 T3 T4 tv U1 U2 U3 U4 uv L u W) (hi3 : i < 3) : L 4 = false := by
 cases e : L 4
 ·
  rfl
 ·
  obtain ⟨h0, h1, h2, _⟩ := h.d2 e
  obtain rfl | rfl | rfl : i = 0 ∨ i = 1 ∨ i = 2 := by omega
  ·
   rw [h0] at hi; cases hi
  ·
   rw [h1] at hi; cases hi
  ·
   rw [h2] at hi; cases hi
theorem JS.step {W' : World} {i : Nat} {v : Value} (h : JS w T1 T2 T3 T4 tv U1 U2 U3 U4 uv L u W) (hi : i < 4) (hLi : L i = false) (hB : Below W.heap.size W W') : JS w T1 T2 T3 T4 tv U1 U2 U3 U4 uv (upd L i) (updV u i v) W' := by
 have e4 : upd L i 4 = L 4 := upd_ne (by omega)
 refine ⟨h.below.trans (hB.mono h.below.size), h.un.later hB, fun h4 => (h.t (e4 ▸ h4)).later hB, fun h4 => ?_⟩
 obtain ⟨h0, h1, h2, b, a, n, c, he, hv⟩ := h.d2 (e4 ▸ h4)
 have f : ∀ j, L j = true → upd L i j = true := fun j hj => by
  unfold upd
  split
  ·
   rfl
  ·
   exact hj
 refine ⟨f 0 h0, f 1 h1, f 2 h2, b, a, n, c, ?_, hv.later hB⟩
 unfold updV
 rw [if_neg (by intro e; subst e; rw [h2] at hLi; cases hLi)]
 exact he
theorem JS.put {b : Bool} {a : Option Addr} {n c : Nat} {v : Value} (h : JS w T1 T2 T3 T4 tv U1 U2 U3 U4 uv L u W) (hLi : L 4 = false) (hL2 : L 0 = true ∧ L 1 = true ∧ L 2 = true) (he : u 2 = .agg #[.bool b, .slice a n c]) (hz : Num W b a n c (tv * 1048576)) :
  JS w T1 T2 T3 T4 tv U1 U2 U3 U4 uv (upd L 4) (updV u 4 v) ((W.setCell ⟨w.heap.size, 0, none⟩ (.bool b)).setCell ⟨w.heap.size, 1, none⟩ (.slice a n c)) := by
 have ht := h.t hLi
 refine ⟨below_put h.below (Nat.le_refl _) _ _, h.un.far ht (by omega) _ _, fun h4 => (by rw [upd_self] at h4; cases h4), fun _ => ⟨by rw [upd_ne (by decide)]; exact hL2.1, by rw [upd_ne (by decide)]; exact hL2.2.1, by rw [upd_ne (by decide)]; exact hL2.2.2, b, a, n, c, ?_, ht.put hz⟩⟩
 unfold updV
 rw [if_neg (by decide)]
 exact he
theorem JS.d {b : Bool} {a : Option Addr} {n c : Nat} (h : JS w T1 T2 T3 T4 tv U1 U2 U3 U4 uv L u W) (h4 : L 4 = true) (he : u 2 = .agg #[.bool b, .slice a n c]) : V4 W w.heap.size b a n c (tv * 1048576) := by
 obtain ⟨_, _, _, b', a', n', c', he', hv⟩ := h.d2 h4
 rw [he] at he'
 simp at he'
 obtain ⟨rfl, rfl, rfl, rfl⟩ := he'
 exact hv
end
theorem VN.store {z : Int} {v : Value} {W : World} (h : VN z v W) {k : Nat} {b0 : Bool} {a0 : Option Addr} {n0 c0 : Nat} (hk : Bx W 113 k (.bool b0) (.slice a0 n0 c0)) (u u' : Value) : VN z v ((W.setCell ⟨k, 0, none⟩ u).setCell ⟨k, 1, none⟩ u') := by
 obtain ⟨b, a, n, c, e, hn⟩ := h
 exact ⟨b, a, n, c, e, hn.store hk _ _⟩
end Go.Proofs.Ytpahkpcoinbgcaa
