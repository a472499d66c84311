/- Parts of the proof. -/
import Derived.Test.YtolpfibihialkaaGreatGr9
import Derived.Test.YtolpfibihialkaaGreatGr1
/- Numbers in variables; what a region that divides has done. No statement of the seat is proved here. -/
namespace Go.Proofs.YtolpfibihialkaaGreat
open Go.RowKit
/-- A value is a number of package long. -/
def HN (w : World) (v : Value) (z : Int) : Prop := ∃ (b : Bool) (a : Option Addr) (n c : Nat), v = .agg #[.bool b, .slice a n c] ∧ Num w b a n c z
theorem HN.below {w w' : World} {v : Value} {z : Int} (h : HN w v z) (hb : Below w.heap.size w w') : HN w' v z := by
 obtain ⟨b, a, n, c, h1, h2⟩ := h
 exact ⟨b, a, n, c, h1, h2.below hb⟩
/-- Block k is a variable of package long's numbers that holds these. -/
def Bx (w : World) (t : TypeId) (k : Nat) (u v : Value) : Prop := w.heap[k]? = some (.cells #[u, v] t (0, 0))
theorem Bx.below {w w' : World} {t : TypeId} {k : Nat} {u v : Value} (h : Bx w t k u v) (hb : Below w.heap.size w w') : Bx w' t k u v := by
 unfold Bx at h ⊢
 rw [hb.block k (Array.getElem?_eq_some_iff.1 h).1]; exact h
theorem Bx.lt {w : World} {t : TypeId} {k : Nat} {u v : Value} (h : Bx w t k u v) : k < w.heap.size := (Array.getElem?_eq_some_iff.1 h).1
theorem Bx.cells {w : World} {t : TypeId} {k : Nat} {u v : Value} (h : Bx w t k u v) : w.cell? ⟨k, 0, none⟩ = some u ∧ w.cell? ⟨k, 1, none⟩ = some v ∧ w.frozen? ⟨k, 0, none⟩ = false ∧ w.frozen? ⟨k, 1, none⟩ = false := by
 unfold Bx at h
 refine ⟨?_, ?_, ?_, ?_⟩ <;> simp [World.cell?, World.frozen?, h]
theorem bx_new (w : World) (t : TypeId) (u v : Value) : Bx (w.alloc (.cells #[u, v] t)) t w.heap.size u v := by
 unfold Bx; rw [heap_alloc_new]
/-- Two numbers are held by variables. -/
structure Hv (w W1 : World) (i j : Nat) (b1 : Bool) (a1 : Option Addr) (n1 c1 : Nat) (x : Int) (b2 : Bool) (a2 : Option Addr) (n2 c2 : Nat) (y : Int) : Prop where
 below : Below w.heap.size w W1
 X : Bx W1 89 i (.bool b1) (.slice a1 n1 c1)
 Y : Bx W1 89 j (.bool b2) (.slice a2 n2 c2)
 nx : Num W1 b1 a1 n1 c1 x
 ny : Num W1 b2 a2 n2 c2 y
theorem Hv.later {w W1 W2 : World} {i j : Nat} {b1 : Bool} {a1 : Option Addr} {n1 c1 : Nat} {x : Int} {b2 : Bool} {a2 : Option Addr} {n2 c2 : Nat} {y : Int} (h : Hv w W1 i j b1 a1 n1 c1 x b2 a2 n2 c2 y) (hb : Below W1.heap.size W1 W2) : Hv w W2 i j b1 a1 n1 c1 x b2 a2 n2 c2 y :=
 ⟨h.below.trans (hb.mono h.below.size), h.X.below hb, h.Y.below hb, h.nx.below hb, h.ny.below hb⟩
/-- A number stays where another variable is written. -/
theorem Num.store {w : World} {bl : Bool} {a : Option Addr} {n c : Nat} {z : Int} (h : Num w bl a n c z) {t : TypeId} {k : Nat} {bk : Bool} {ak : Option Addr} {nk ck : Nat} (hk : Bx w t k (.bool bk) (.slice ak nk ck)) (u v : Value) :
  Num ((w.setCell ⟨k, 0, none⟩ u).setCell ⟨k, 1, none⟩ v) bl a n c z := by
 by_cases hn : n = 0
 ·
  subst hn
  refine ⟨⟨h.lie.cap, h.lie.capm, h.lie.nil, fun p hp => ⟨(h.lie.spot p hp).1, by rw [(only2 w k u v).size]; exact (h.lie.spot p hp).2⟩, fun p hp i hi => by omega⟩, h.fit, h.sgn⟩
 ·
  refine h.only (only2 _ _ _ _) (fun p hp e => ?_)
  have h1 := h.lie.cell p hp 0 (by omega)
  rw [e] at h1
  unfold Bx at hk
  simp only [World.cell?, hk, Nat.add_zero] at h1
  rcases hpo : p.off with _ | _ | o
  ·
   rw [hpo] at h1; simp at h1
  ·
   rw [hpo] at h1; simp at h1
  ·
   rw [hpo] at h1; simp at h1
theorem Bx.other {w : World} {t : TypeId} {k k' : Nat} {u v : Value} (h : Bx w t k u v) (hne : k ≠ k') (x y : Value) : Bx ((w.setCell ⟨k', 0, none⟩ x).setCell ⟨k', 1, none⟩ y) t k u v := by
 unfold Bx at h ⊢
 rw [(only2 w k' x y).block k hne]; exact h
theorem Bx.self {w : World} {t : TypeId} {k : Nat} {u v : Value} (h : Bx w t k u v) (x y : Value) : Bx ((w.setCell ⟨k, 0, none⟩ x).setCell ⟨k, 1, none⟩ y) t k x y := by
 unfold Bx at h ⊢
 have hlt := (Array.getElem?_eq_some_iff.1 h).1
 simp only [World.setCell, Array.getElem?_modify, if_true, h, Option.map_some]
 rfl
theorem HN.store {w : World} {v : Value} {z : Int} (h : HN w v z) {t : TypeId} {k : Nat} {bk : Bool} {ak : Option Addr} {nk ck : Nat} (hk : Bx w t k (.bool bk) (.slice ak nk ck)) (u x : Value) :
  HN ((w.setCell ⟨k, 0, none⟩ u).setCell ⟨k, 1, none⟩ x) v z := by
 obtain ⟨b, a, n, c, h1, h2⟩ := h
 exact ⟨b, a, n, c, h1, h2.store hk u x⟩
/-- A pointer to a variable that the region makes. -/
def Nw (w W : World) (i j : Nat) (v : Value) : Prop := ∃ (k : Nat) (b : Bool) (a : Option Addr) (n c : Nat), v = .pointer (some ⟨k, 0, none⟩) ∧ Bx W 89 k (.bool b) (.slice a n c) ∧ k ≠ i ∧ k ≠ j ∧ w.heap.size ≤ k
/-- A pointer to a variable that holds a number. -/
def Hd (W : World) (v : Value) (z : Int) : Prop := ∃ (k : Nat) (b : Bool) (a : Option Addr) (n c : Nat), v = .pointer (some ⟨k, 0, none⟩) ∧ Bx W 89 k (.bool b) (.slice a n c) ∧ Num W b a n c z
/-- A quotient, a rest, and no error. -/
def Tp (W : World) (v : Value) (q r : Int) : Prop := ∃ vq vr : Value, v = .tuple #[vq, vr, .int .i64 0] ∧ HN W vq q ∧ HN W vr r
theorem Nw.below {w W W' : World} {i j : Nat} {v : Value} (h : Nw w W i j v) (hb : Below W.heap.size W W') : Nw w W' i j v := by
 obtain ⟨k, b, a, n, c, h1, h2, h3⟩ := h
 exact ⟨k, b, a, n, c, h1, h2.below hb, h3⟩
theorem Hd.below {W W' : World} {v : Value} {z : Int} (h : Hd W v z) (hb : Below W.heap.size W W') : Hd W' v z := by
 obtain ⟨k, b, a, n, c, h1, h2, h3⟩ := h
 exact ⟨k, b, a, n, c, h1, h2.below hb, h3.below hb⟩
theorem Tp.below {W W' : World} {v : Value} {q r : Int} (h : Tp W v q r) (hb : Below W.heap.size W W') : Tp W' v q r := by
 obtain ⟨x, y, h1, h2, h3⟩ := h
 exact ⟨x, y, h1, h2.below hb, h3.below hb⟩
/-- What the region 'q, r, e = (x times y).Quo(t)' has done. -/
structure J6 (V : World → Prop) (w : World) (i j : Nat) (b1 : Bool) (a1 : Option Addr) (n1 c1 : Nat) (b2 : Bool) (a2 : Option Addr) (n2 c2 : Nat) (f p q r : Int) (L : Nat → Bool) (W : World) (v8 v9 v36 v37 v38 v39 v40 v41 v42 v43 v44 : Value) : Prop where
 hv : V W
 h0 : L 0 = true → v37 = .agg #[.bool b1, .slice a1 n1 c1]
 h1 : L 1 = true → HN W v38 f
 h2 : L 2 = true → HN W v39 p
 h3 : L 3 = true → v40 = .agg #[.bool b2, .slice a2 n2 c2]
 h4 : L 4 = true → Tp W v41 q r
 h5 : L 5 = true → Tp W v36 q r
 h6 : L 6 = true → HN W v42 q
 h7 : L 7 = true → HN W v43 r
 h8 : L 8 = true → v44 = .int .i64 0
 h9 : L 9 = true → Nw w W i j v8
 h10 : L 10 = true → Nw w W i j v9
 hne : L 9 = true → L 10 = true → v8 ≠ v9
 h11 : L 11 = true → Hd W v8 q
 hcl : L 11 = true → L 9 = true
 h12 : L 12 = true → Hd W v9 r
 hcl2 : L 12 = true → L 10 = true
theorem Hv.store {w W1 : World} {i j : Nat} {b1 : Bool} {a1 : Option Addr} {n1 c1 : Nat} {x : Int} {b2 : Bool} {a2 : Option Addr} {n2 c2 : Nat} {y : Int} (h : Hv w W1 i j b1 a1 n1 c1 x b2 a2 n2 c2 y) {k : Nat} {bk : Bool} {ak : Option Addr} {nk ck : Nat} (hk : Bx W1 89 k (.bool bk) (.slice ak nk ck)) (hki : k ≠ i) (hkj : k ≠ j) (hkw : w.heap.size ≤ k) (u v : Value) :
  Hv w ((W1.setCell ⟨k, 0, none⟩ u).setCell ⟨k, 1, none⟩ v) i j b1 a1 n1 c1 x b2 a2 n2 c2 y :=
 ⟨h.below.trans ((only2 _ _ _ _).below hkw), h.X.other (Ne.symm hki) _ _, h.Y.other (Ne.symm hkj) _ _, h.nx.store hk _ _, h.ny.store hk _ _⟩
theorem Tp.store {W : World} {v : Value} {q r : Int} (h : Tp W v q r) {t : TypeId} {k : Nat} {bk : Bool} {ak : Option Addr} {nk ck : Nat} (hk : Bx W t k (.bool bk) (.slice ak nk ck)) (u x : Value) : Tp ((W.setCell ⟨k, 0, none⟩ u).setCell ⟨k, 1, none⟩ x) v q r := by
 obtain ⟨y, z, h1, h2, h3⟩ := h
 exact ⟨y, z, h1, h2.store hk u x, h3.store hk u x⟩
theorem ptr_ne {v v' : Value} {k k' : Nat} (h : v = .pointer (some ⟨k, 0, none⟩)) (h' : v' = .pointer (some ⟨k', 0, none⟩)) (hne : v ≠ v') : k' ≠ k := fun e => hne (by rw [h, h', e])
theorem Nw.other {w W : World} {i j k : Nat} {v v' : Value} (h : Nw w W i j v') (hv : v = .pointer (some ⟨k, 0, none⟩)) (hne : v ≠ v') {bk : Bool} {ak : Option Addr} {nk ck : Nat} (_ : Bx W 89 k (.bool bk) (.slice ak nk ck)) (u x : Value) : Nw w ((W.setCell ⟨k, 0, none⟩ u).setCell ⟨k, 1, none⟩ x) i j v' := by
 obtain ⟨k', b, a, n, c, h1, h2, h3⟩ := h
 exact ⟨k', b, a, n, c, h1, h2.other (ptr_ne hv h1 hne) _ _, h3⟩
theorem Hd.other {W : World} {k : Nat} {v v' : Value} {z : Int} (h : Hd W v' z) (hv : v = .pointer (some ⟨k, 0, none⟩)) (hne : v ≠ v') {bk : Bool} {ak : Option Addr} {nk ck : Nat} (hk : Bx W 89 k (.bool bk) (.slice ak nk ck)) (u x : Value) : Hd ((W.setCell ⟨k, 0, none⟩ u).setCell ⟨k, 1, none⟩ x) v' z := by
 obtain ⟨k', b, a, n, c, h1, h2, h3⟩ := h
 exact ⟨k', b, a, n, c, h1, h2.other (ptr_ne hv h1 hne) _ _, h3.store hk _ _⟩
section
variable {V : World → Prop} {w : World} {i j : Nat} {b1 : Bool} {a1 : Option Addr} {n1 c1 : Nat} {b2 : Bool} {a2 : Option Addr} {n2 c2 : Nat} {f p q r : Int} {L : Nat → Bool} {W W' : World} {v8 v9 v36 v37 v38 v39 v40 v41 v42 v43 v44 : Value}
theorem J6.later (h : J6 V w i j b1 a1 n1 c1 b2 a2 n2 c2 f p q r L W v8 v9 v36 v37 v38 v39 v40 v41 v42 v43 v44) (hb : Below W.heap.size W W') (hV : V W') : J6 V w i j b1 a1 n1 c1 b2 a2 n2 c2 f p q r L W' v8 v9 v36 v37 v38 v39 v40 v41 v42 v43 v44 :=
 ⟨hV, h.h0, fun e => (h.h1 e).below hb, fun e => (h.h2 e).below hb, h.h3, fun e => (h.h4 e).below hb, fun e => (h.h5 e).below hb, fun e => (h.h6 e).below hb, fun e => (h.h7 e).below hb, h.h8, fun e => (h.h9 e).below hb, fun e => (h.h10 e).below hb, h.hne, fun e => (h.h11 e).below hb, h.hcl, fun e => (h.h12 e).below hb, h.hcl2⟩
end
end Go.Proofs.YtolpfibihialkaaGreat

/- Sines and cosines: the numbers of the sums. No statement of the seat is proved here. -/
namespace Go.Proofs.YtolpfibihialkaaGreat
open Go.RowKit
theorem below_nw (w : World) (o : Obj) : Below w.heap.size w (w.alloc o) := (Below.refl _ _).alloc (Nat.le_refl _) _
/-- How many times a factorial is in that of one d greater. -/
def grN (a : Nat) : Nat → Nat
 | 0 => 1
 | d + 1 => grN a d * (a + d + 1)
def mN (c k : Nat) : Nat := 1048576 * grN (c + 2 * k) 2
/-- What the last term is over; the sum's upper part. -/
def uN (c : Nat) : Nat → Nat
 | 0 => grN 0 c
 | k + 1 => uN c k * mN c k
def tV (c : Nat) (n : Int) : Nat → Int
 | 0 => 1
 | k + 1 => tV c n k * (mN c k : Nat) + (-n) ^ (k + 1)
theorem gr2 (a : Nat) : grN a 2 = (a + 1) * (a + 2) := by simp [grN]
theorem gr2_le {a : Nat} (h : a ≤ 30) : grN a 2 ≤ 1000 := by
 rw [gr2]
 exact Nat.le_trans (Nat.mul_le_mul (show a + 1 ≤ 31 by omega) (show a + 2 ≤ 31 + 1 by omega)) (by decide)
theorem mN_lt {c k : Nat} (hc : c ≤ 2) (hk : k ≤ 12) : mN c k ≤ 1048576000 := by
 have := gr2_le (a := c + 2 * k) (by omega)
 unfold mN
 omega
theorem gr_pos (a : Nat) : ∀ d, 0 < grN a d
 | 0 => Nat.one_pos
 | d + 1 => Nat.mul_pos (gr_pos a d) (by omega)
theorem mN_pos (c k : Nat) : 0 < mN c k := Nat.mul_pos (by decide) (gr_pos _ _)
theorem uN_pos (c : Nat) : ∀ k, 0 < uN c k
 | 0 => gr_pos _ _
 | k + 1 => Nat.mul_pos (uN_pos c k) (mN_pos c k)
theorem gr_two {c : Nat} (hc : c ≤ 2) : grN 0 c ≤ 2 := by
 rcases (by omega : c = 0 ∨ c = 1 ∨ c = 2) with rfl | rfl | rfl <;> decide
theorem uN_lt {c k : Nat} (hc : c ≤ 2) (hk : k ≤ 12) : uN c k < BB ^ (k + 1) := by
 induction k with
 | zero => exact Nat.lt_of_le_of_lt (gr_two hc) (by decide)
 | succ k ih =>
  have h1 := ih (by omega)
  have h2 := mN_lt hc (show k ≤ 12 by omega)
  rw [Nat.pow_succ]
  exact Nat.mul_lt_mul_of_lt_of_le h1 (Nat.le_trans h2 (by decide)) (by decide)
theorem pw_lt {n : Int} (h0 : 0 ≤ n) (h1 : n ≤ 4194304) (k : Nat) : ((-n) ^ k).natAbs ≤ 4194304 ^ k := by
 induction k with
 | zero => simp
 | succ k ih =>
  rw [Int.pow_succ, Int.natAbs_mul, Nat.pow_succ]
  exact Nat.mul_le_mul ih (by omega)
theorem pw_bd {n : Int} (h0 : 0 ≤ n) (h1 : n ≤ 4194304) (k : Nat) : ((-n) ^ k).natAbs < BB ^ (k + 1) := by
 refine Nat.lt_of_le_of_lt (pw_lt h0 h1 k) ?_
 rw [Nat.pow_succ]
 have : 4194304 ^ k ≤ BB ^ k := Nat.pow_le_pow_left (by decide) k
 have h2 : 0 < BB ^ k := Nat.pow_pos (by decide)
 have h3 : BB ^ k * 2 ≤ BB ^ k * BB := Nat.mul_le_mul (Nat.le_refl _) (by decide)
 omega
theorem tV_bd {c k : Nat} {n : Int} (h0 : 0 ≤ n) (h1 : n ≤ 4194304) (hc : c ≤ 2) (hk : k ≤ 12) : (tV c n k).natAbs < BB ^ (k + 1) := by
 induction k with
 | zero => show 1 < _; decide
 | succ k ih =>
  have h2 := ih (by omega)
  have h3 := mN_lt hc (show k ≤ 12 by omega)
  have h4 := pw_lt h0 h1 (k + 1)
  have h5 : 4194304 ^ (k + 1) ≤ BB ^ (k + 1) := Nat.pow_le_pow_left (by decide) _
  show (tV c n k * (mN c k : Nat) + (-n) ^ (k + 1)).natAbs < _
  have h6 : (tV c n k * (mN c k : Nat)).natAbs ≤ BB ^ (k + 1) * 1048576000 := by
   rw [Int.natAbs_mul]
   exact Nat.mul_le_mul (by omega) h3
  have h7 : BB ^ (k + 1 + 1) = BB ^ (k + 1) * BB := Nat.pow_succ ..
  have h8 : 0 < BB ^ (k + 1) := Nat.pow_pos (by decide)
  have h9 : BB ^ (k + 1) * 1048576002 ≤ BB ^ (k + 1) * BB := Nat.mul_le_mul (Nat.le_refl _) (by decide)
  have := Int.natAbs_add_le (tV c n k * (mN c k : Nat)) ((-n) ^ (k + 1))
  generalize BB ^ (k + 1) = P at *
  omega
/-- Sums are not great: the number of terms times a power of 4. -/
theorem tV_u {c k : Nat} {n : Int} (h0 : 0 ≤ n) (h1 : n ≤ 4194304) (hc : c ≤ 2) (hk : k ≤ 12) : (tV c n k).natAbs ≤ (k + 1) * 4 ^ k * uN c k := by
 have hp : ∀ j, 1048576 ^ j ≤ uN c j := by
  intro j
  induction j with
  | zero => exact gr_pos _ _
  | succ j ih => exact Nat.mul_le_mul ih (Nat.le_mul_of_pos_right _ (gr_pos _ _))
 induction k with
 | zero => show 1 ≤ _; have := uN_pos c 0; omega
 | succ k ih =>
  have h2 := ih (by omega)
  have h4 := pw_lt h0 h1 (k + 1)
  have h5 : 4194304 ^ (k + 1) = 4 ^ (k + 1) * 1048576 ^ (k + 1) := by rw [← Nat.mul_pow]
  have h6 := Nat.mul_le_mul (Nat.le_refl (4 ^ (k + 1))) (hp (k + 1))
  have h7 : (tV c n k * (mN c k : Nat)).natAbs ≤ (k + 1) * 4 ^ k * uN c k * mN c k := by
   rw [Int.natAbs_mul]
   exact Nat.mul_le_mul h2 (Nat.le_refl _)
  have h8 : (k + 1) * 4 ^ k * uN c k * mN c k ≤ (k + 1) * 4 ^ (k + 1) * uN c (k + 1) := by
   show _ ≤ (k + 1) * 4 ^ (k + 1) * (uN c k * mN c k)
   rw [Nat.mul_assoc]
   exact Nat.mul_le_mul (Nat.mul_le_mul (Nat.le_refl _) (Nat.pow_le_pow_right (by decide) (by omega))) (Nat.le_refl _)
  show (tV c n k * (mN c k : Nat) + (-n) ^ (k + 1)).natAbs ≤ (k + 1 + 1) * 4 ^ (k + 1) * uN c (k + 1)
  have := Int.natAbs_add_le (tV c n k * (mN c k : Nat)) ((-n) ^ (k + 1))
  have h9 : (k + 1 + 1) * 4 ^ (k + 1) * uN c (k + 1) = (k + 1) * 4 ^ (k + 1) * uN c (k + 1) + 4 ^ (k + 1) * uN c (k + 1) := by rw [Nat.add_mul (k + 1), Nat.add_mul, Nat.one_mul]
  omega
end Go.Proofs.YtolpfibihialkaaGreat
