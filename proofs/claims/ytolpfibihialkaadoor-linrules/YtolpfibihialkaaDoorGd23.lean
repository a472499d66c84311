/- Parts of the proof. -/
import Derived.Test.YtolpfibihialkaaDoorGd0
import Derived.Test.YtolpfibihialkaaDoorGd22
import Derived.Test.YtolpfibihialkaaDoorGd21
import Derived.Test.YtolpfibihialkaaDoorGd11
/- What taking columns out of rows keeps: determinants, equations, bounds. No statement of the seat is proved here. -/
namespace Go.Proofs.YtolpfibihialkaaDoor
open Go Go.RowKit
def sgt (t : Bool) : Int := if t then -1 else 1
theorem sgt_turn (t : Bool) (p : Nat) : sgt (t != decide (p % 2 = 1)) = sgt t * M.sg p := by
 unfold M.sg
 by_cases h : p % 2 = 1
 ·
  rw [if_neg (by omega), decide_eq_true h]; cases t <;> rfl
 ·
  rw [if_pos (by omega), decide_eq_false h]; cases t <;> rfl
/-- How many parts the numbers may have behind k columns. -/
def eb (e : Nat) : Nat → Nat
 | 0 => e
 | k + 1 => eb e k + eb e k + 1
theorem eb_eq (e : Nat) : ∀ k, eb e k + 1 = (e + 1) * 2 ^ k
 | 0 => by simp [eb]
 | k + 1 => by have := eb_eq e k; rw [eb, Nat.pow_succ, ← Nat.mul_assoc, ← this]; omega
theorem eb_le {e k : Nat} (he : e ≤ 200) (hk : k ≤ 12) : eb e k ≤ 830000 := by
 have h := eb_eq e k
 have h1 : 2 ^ k ≤ 2 ^ 12 := Nat.pow_le_pow_right (by decide) hk
 have h2 : (e + 1) * 2 ^ k ≤ 201 * 4096 := Nat.mul_le_mul (by omega) h1
 omega
theorem eb_mono (e k : Nat) : eb e k ≤ eb e (k + 1) := by rw [eb]; omega
/-- Each of A's rows is an equation that x solves, over D. -/
def Sol (m : Nat) (A : Nat → Nat → Int) (x : Nat → Int) (D : Int) : Prop := ∀ a, a < m → M.sm m (fun j => A a j * x j) = D * A a m
structure Inv (m c e : Nat) (A : Nat → Nat → Int) (k r : Nat) (B : Nat → Nat → Int) (d : Int) (t : Bool) : Prop where
 len : k + r = m
 dv : M.Dv r (c + r) B d
 det : sgt t * M.dt r B * d = d ^ r * M.dt m A
 lin : 1 ≤ c → ∀ x D, Sol m A x D → ∀ a, a < r → M.sm r (fun j => B a j * x (k + j)) = D * B a r
 sz : ∀ a j, a < r → j < c + r → Sz (eb e k) (B a j)
 szd : Sz (eb e k) d
/-- A row that was taken. -/
structure Top (m c e : Nat) (A : Nat → Nat → Int) (k : Nat) (f : Nat → Int) : Prop where
 ne : f 0 ≠ 0
 sz : ∀ j, j < c + (m - k) → Sz (eb e k) (f j)
 lin : 1 ≤ c → ∀ x D, Sol m A x D → M.sm (m - k) (fun j => f j * x (k + j)) = D * f (m - k)
section
variable {m c e k r : Nat} {A B : Nat → Nat → Int} {d : Int} {t : Bool}
theorem inv_start (he : 1 ≤ e) (hA : ∀ a j, a < m → j < c + m → Sz e (A a j)) : Inv m c e A 0 m A 1 false :=
 ⟨by omega, M.dv_one _ _ _, by rw [Int.one_pow]; simp [sgt], fun _ x D h a ha => by simp only [Nat.zero_add]; exact h a ha, hA, sz_one.mono he⟩
theorem Inv.end_ (h : Inv m c e A k 0 B d t) : M.dt m A = sgt t * d := by
 have := h.det
 rw [Int.pow_zero, Int.one_mul, M.dt, Int.mul_one] at this
 exact this.symm
theorem Inv.none_ (h : Inv m c e A k (r + 1) B d t) (hp : pvl (r + 1) (fun i => B i 0) = r + 1) : M.dt m A = 0 := by
 have h0 : M.dt (r + 1) B = 0 := by
  rw [M.dt]
  exact M.sm_zero fun i hi => by rw [show B i 0 = 0 from pvl_zero (f := fun i => B i 0) (by rw [hp]; exact hi)]; simp
 have := h.det
 rw [h0] at this
 simp only [Int.mul_zero, Int.zero_mul] at this
 rcases Int.mul_eq_zero.1 this.symm with h1 | h1
 ·
  exact absurd h1 (Int.pow_ne_zero h.dv.1)
 ·
  exact h1
theorem Inv.top (h : Inv m c e A k (r + 1) B d t) (hp : pvl (r + 1) (fun i => B i 0) < r + 1) : Top m c e A k (B (pvl (r + 1) (fun i => B i 0))) := by
 have hl := h.len
 have hr : m - k = r + 1 := by omega
 refine ⟨pvl_ne (f := fun i => B i 0) hp, fun j hj => h.sz _ _ hp (by omega), fun hc x D hs => ?_⟩
 rw [hr]
 exact h.lin hc x D hs _ hp
theorem Inv.step (h : Inv m c e A k (r + 1) B d t) (hp : pvl (r + 1) (fun i => B i 0) < r + 1) : Inv m c e A (k + 1) r (M.cnd B (pvl (r + 1) (fun i => B i 0)) d) (B (pvl (r + 1) (fun i => B i 0)) 0) (t != decide (pvl (r + 1) (fun i => B i 0) % 2 = 1)) := by
 have hne : B (pvl (r + 1) (fun i => B i 0)) 0 ≠ 0 := pvl_ne (f := fun i => B i 0) hp
 generalize pvl (r + 1) (fun i => B i 0) = p at hp hne ⊢
 have hdv : M.Dv (r + 1) (c + r + 1) B d := h.dv
 have hd : d ≠ 0 := h.dv.1
 refine ⟨by have := h.len; omega, hdv.next hp hne, ?_, fun hc x D hs a ha => ?_, fun a j ha hj => ?_, ?_⟩
 ·
  have h1 := M.Dv.det (m := r) (c := c) (p := p) (B := B) (d := d) (by rw [show r + 1 + c = c + r + 1 by omega]; exact hdv) hp
  have h2 := h.det
  have h3 : d ^ (r + 1) ≠ 0 := Int.pow_ne_zero hd
  refine Int.eq_of_mul_eq_mul_left h3 ?_
  rw [sgt_turn]
  have h4 := M.sg_sq p
  have e1 : d ^ (r + 1) * (sgt t * M.sg p * M.dt r (M.cnd B p d) * B p 0) = sgt t * M.sg p * d * (B p 0 * (d ^ r * M.dt r (M.cnd B p d))) := by rw [Int.pow_succ]; grind
  rw [e1, h1]
  have e2 : sgt t * M.sg p * d * (B p 0 ^ r * (M.sg p * M.dt (r + 1) B)) = (M.sg p * M.sg p) * (B p 0 ^ r * (sgt t * M.dt (r + 1) B * d)) := by grind
  rw [e2, h2, h4]
  grind
 ·
  have hx : ∀ j, j < c + r → d * M.cnd B p d a j = B p 0 * B (M.sk p a) (j + 1) - B (M.sk p a) 0 * B p (j + 1) := fun j hj => hdv.exact hp ha hj
  have hq := h.lin hc x D hs (M.sk p a) (M.sk_lt ha)
  have hp' := h.lin hc x D hs p hp
  rw [M.sm_head] at hq hp'
  refine Int.eq_of_mul_eq_mul_left hd ?_
  rw [← M.sm_mul, show d * (D * M.cnd B p d a r) = D * (d * M.cnd B p d a r) by grind, hx r (by omega)]
  have e1 : M.sm r (fun i => d * (M.cnd B p d a i * x (k + 1 + i))) = M.sm r (fun i => B p 0 * (B (M.sk p a) (i + 1) * x (k + (i + 1))) + (- B (M.sk p a) 0) * (B p (i + 1) * x (k + (i + 1)))) := M.sm_congr fun j hj => by
   have := hx j (by omega)
   rw [show k + 1 + j = k + (j + 1) by omega, show d * (M.cnd B p d a j * x (k + (j + 1))) = (d * M.cnd B p d a j) * x (k + (j + 1)) by grind, this]
   grind
  rw [e1, M.sm_add, M.sm_mul, M.sm_mul]
  simp only [Nat.add_zero] at hq hp'
  grind
 ·
  show Sz (eb e k + eb e k + 1) (M.cnd B p d a j)
  unfold M.cnd
  refine Sz.fdiv ?_ hd
  exact Sz.minus ((h.sz p 0 hp (by omega)).mul (h.sz _ (j + 1) (M.sk_lt ha) (by omega))) ((h.sz _ 0 (M.sk_lt ha) (by omega)).mul (h.sz p (j + 1) hp (by omega)))
 ·
  exact (h.sz p 0 hp (by omega)).mono (eb_mono e k)
end
/-- With each row headed by what is above 0: what heads is a leading minor. -/
structure Ld (m e : Nat) (A : Nat → Nat → Int) (k r : Nat) (B : Nat → Nat → Int) (d : Int) : Prop where
 len : k + r = m
 dv : M.Dv r r B d
 pos : 0 < d
 lead : ∀ s, s ≤ r → M.dt s B * d = d ^ s * M.dt (k + s) A
 sz : ∀ a j, a < r → j < r → Sz (eb e k) (B a j)
 szd : Sz (eb e k) d
section
variable {m e k r : Nat} {A B : Nat → Nat → Int} {d : Int}
theorem ld_start (he : 1 ≤ e) (hA : ∀ a j, a < m → j < m → Sz e (A a j)) : Ld m e A 0 m A 1 :=
 ⟨by omega, M.dv_one _ _ _, by decide, fun s _ => by rw [Int.one_pow]; simp, hA, sz_one.mono he⟩
theorem dt_one (B : Nat → Nat → Int) : M.dt 1 B = B 0 0 := by simp [M.dt, M.sm, M.sg]
theorem Ld.head (h : Ld m e A k (r + 1) B d) : B 0 0 = M.dt (k + 1) A := by
 have := h.lead 1 (by omega)
 rw [dt_one, Int.pow_succ, Int.pow_zero, Int.one_mul, Int.mul_comm] at this
 exact Int.eq_of_mul_eq_mul_left h.dv.1 this
theorem Ld.step (h : Ld m e A k (r + 1) B d) (hp : 0 < B 0 0) : Ld m e A (k + 1) r (M.cnd B 0 d) (B 0 0) := by
 have hd : d ≠ 0 := h.dv.1
 refine ⟨by have := h.len; omega, h.dv.next (by omega) (by omega), hp, fun s hs => ?_, fun a j ha hj => ?_, (h.sz 0 0 (by omega) (by omega)).mono (eb_mono e k)⟩
 ·
  have h1 := h.dv.lead (s := s) hs
  have h2 := h.lead (s + 1) (by omega)
  have h3 : d ^ (s + 1) ≠ 0 := Int.pow_ne_zero hd
  refine Int.eq_of_mul_eq_mul_left h3 ?_
  have e1 : d ^ (s + 1) * (M.dt s (M.cnd B 0 d) * B 0 0) = d * (B 0 0 * (d ^ s * M.dt s (M.cnd B 0 d))) := by rw [Int.pow_succ]; grind
  rw [e1, h1, show d * (B 0 0 ^ s * M.dt (s + 1) B) = B 0 0 ^ s * (M.dt (s + 1) B * d) by grind, h2, show k + 1 + s = k + (s + 1) by omega]
  grind
 ·
  show Sz (eb e k + eb e k + 1) (M.cnd B 0 d a j)
  unfold M.cnd
  refine Sz.fdiv ?_ hd
  exact Sz.minus ((h.sz 0 0 (by omega) (by omega)).mul (h.sz _ (j + 1) (M.sk_lt ha) (by omega))) ((h.sz _ 0 (M.sk_lt ha) (by omega)).mul (h.sz 0 (j + 1) (by omega) (by omega)))
end
/-- Its quadratic form is above 0 for all but noughts. -/
def Qf (m : Nat) (B : Nat → Nat → Int) (x : Nat → Int) : Int := M.sm m (fun i => x i * M.mulv m B x i)
def Sym (m : Nat) (B : Nat → Nat → Int) : Prop := ∀ i j, i < m → j < m → B i j = B j i
def Pd (m : Nat) (B : Nat → Nat → Int) : Prop := ∀ x : Nat → Int, (∃ i, i < m ∧ x i ≠ 0) → 0 < Qf m B x
/-- The square is completed. -/
theorem qf_split {m : Nat} {B : Nat → Nat → Int} {d : Int} (hs : Sym (m + 1) B) (hx : ∀ i j, i < m → j < m → d * M.cnd B 0 d i j = B 0 0 * B (M.sk 0 i) (j + 1) - B (M.sk 0 i) 0 * B 0 (j + 1)) (x : Nat → Int) :
  B 0 0 * Qf (m + 1) B x = M.mulv (m + 1) B x 0 * M.mulv (m + 1) B x 0 + d * Qf m (M.cnd B 0 d) (fun i => x (i + 1)) := by
 have eL : M.mulv (m + 1) B x 0 = B 0 0 * x 0 + M.sm m (fun j => B 0 (j + 1) * x (j + 1)) := by unfold M.mulv; rw [M.sm_head]
 obtain ⟨σ, hσ⟩ : ∃ σ, σ = M.sm m (fun j => B 0 (j + 1) * x (j + 1)) := ⟨_, rfl⟩
 obtain ⟨τ, hτ⟩ : ∃ τ, τ = M.sm m (fun i => x (i + 1) * M.sm m (fun j => B (i + 1) (j + 1) * x (j + 1))) := ⟨_, rfl⟩
 have eQ : Qf (m + 1) B x = x 0 * M.mulv (m + 1) B x 0 + (x 0 * σ + τ) := by
  unfold Qf
  rw [M.sm_head, hσ, hτ, ← M.sm_mul, ← M.sm_add]
  congr 1
  refine M.sm_congr fun i hi => ?_
  have : M.mulv (m + 1) B x (i + 1) = B (i + 1) 0 * x 0 + M.sm m (fun j => B (i + 1) (j + 1) * x (j + 1)) := by unfold M.mulv; rw [M.sm_head]
  rw [this, hs (i + 1) 0 (by omega) (by omega)]
  grind
 have eC : d * Qf m (M.cnd B 0 d) (fun i => x (i + 1)) = B 0 0 * τ - σ * σ := by
  unfold Qf M.mulv
  rw [← M.sm_mul]
  have e1 : ∀ i, i < m → d * (x (i + 1) * M.sm m (fun k => M.cnd B 0 d i k * x (k + 1))) = B 0 0 * (x (i + 1) * M.sm m (fun j => B (i + 1) (j + 1) * x (j + 1))) + (- σ) * (B 0 (i + 1) * x (i + 1)) := by
   intro i hi
   have e2 : d * M.sm m (fun k => M.cnd B 0 d i k * x (k + 1)) = B 0 0 * M.sm m (fun j => B (i + 1) (j + 1) * x (j + 1)) + (- B (i + 1) 0) * σ := by
    rw [hσ, ← M.sm_mul, ← M.sm_mul, ← M.sm_mul, ← M.sm_add]
    refine M.sm_congr fun j hj => ?_
    have := hx i j hi hj
    rw [show M.sk 0 i = i + 1 from rfl] at this
    rw [show d * (M.cnd B 0 d i j * x (j + 1)) = (d * M.cnd B 0 d i j) * x (j + 1) by grind, this]
    grind
   rw [show d * (x (i + 1) * M.sm m (fun k => M.cnd B 0 d i k * x (k + 1))) = x (i + 1) * (d * M.sm m (fun k => M.cnd B 0 d i k * x (k + 1))) by grind, e2, hs (i + 1) 0 (by omega) (by omega)]
   grind
  rw [M.sm_congr e1, M.sm_add, M.sm_mul, M.sm_mul, ← hσ, ← hτ]
  grind
 rw [eC, eQ, eL, ← hσ]
 grind
theorem cnd_sym {m : Nat} {B : Nat → Nat → Int} {d : Int} (hs : Sym (m + 1) B) : Sym m (M.cnd B 0 d) := by
 intro i j hi hj
 unfold M.cnd
 rw [show M.sk 0 i = i + 1 from rfl, show M.sk 0 j = j + 1 from rfl, hs (i + 1) (j + 1) (by omega) (by omega), hs (i + 1) 0 (by omega) (by omega), hs (j + 1) 0 (by omega) (by omega)]
 congr 1
 grind
theorem sq_nonneg (a : Int) : 0 ≤ a * a := by
 rcases Int.le_total 0 a with h | h
 ·
  exact Int.mul_nonneg h h
 ·
  exact Int.mul_nonneg_of_nonpos_of_nonpos h h
/-- Definite: what heads is above 0, and so is what is left. -/
theorem pd_down {m : Nat} {B : Nat → Nat → Int} {d : Int} (hs : Sym (m + 1) B) (hd : 0 < d) (hx : ∀ i j, i < m → j < m → d * M.cnd B 0 d i j = B 0 0 * B (M.sk 0 i) (j + 1) - B (M.sk 0 i) 0 * B 0 (j + 1)) (h : Pd (m + 1) B) : 0 < B 0 0 ∧ Pd m (M.cnd B 0 d) := by
 have hb : 0 < B 0 0 := by
  have h1 := h (fun i => if i = 0 then 1 else 0) ⟨0, by omega, by simp⟩
  unfold Qf at h1
  rw [M.sm_one (k := 0) (by omega) (fun i _ hi => by simp [hi])] at h1
  simp only [if_true, Int.one_mul] at h1
  unfold M.mulv at h1
  rw [M.sm_one (k := 0) (by omega) (fun i _ hi => by simp [hi])] at h1
  simpa using h1
 refine ⟨hb, fun x hx0 => ?_⟩
 obtain ⟨i, hi, hne⟩ := hx0
 -- so many times x, with a first number at which the square is 0
 obtain ⟨y, hy0, hy⟩ : ∃ y : Nat → Int, y 0 = - M.sm m (fun j => B 0 (j + 1) * x j) ∧ ∀ j, y (j + 1) = B 0 0 * x j := ⟨fun j => match j with | 0 => - M.sm m (fun j => B 0 (j + 1) * x j) | j + 1 => B 0 0 * x j, rfl, fun _ => rfl⟩
 have h2 := h y ⟨i + 1, by omega, by rw [hy]; exact Int.mul_ne_zero (by omega) hne⟩
 have h3 := qf_split hs hx y
 have h4 : M.mulv (m + 1) B y 0 = 0 := by
  unfold M.mulv
  rw [M.sm_head, hy0]
  have : M.sm m (fun i => B 0 (i + 1) * y (i + 1)) = B 0 0 * M.sm m (fun j => B 0 (j + 1) * x j) := by
   rw [← M.sm_mul]
   exact M.sm_congr fun j _ => by rw [hy]; grind
  rw [this]; grind
 have h5 : Qf m (M.cnd B 0 d) (fun i => y (i + 1)) = B 0 0 * B 0 0 * Qf m (M.cnd B 0 d) x := by
  unfold Qf M.mulv
  rw [← M.sm_mul]
  refine M.sm_congr fun j _ => ?_
  have : M.sm m (fun k => M.cnd B 0 d j k * y (k + 1)) = B 0 0 * M.sm m (fun k => M.cnd B 0 d j k * x k) := by
   rw [← M.sm_mul]
   exact M.sm_congr fun k _ => by rw [hy]; grind
  rw [this]
  show y (j + 1) * _ = _
  rw [hy]; grind
 rw [h4, h5] at h3
 have h6 : 0 < B 0 0 * Qf (m + 1) B y := Int.mul_pos hb h2
 rw [h3] at h6
 have h7 : 0 < d * (B 0 0 * B 0 0) := Int.mul_pos hd (Int.mul_pos hb hb)
 have h8 : 0 < d * (B 0 0 * B 0 0) * Qf m (M.cnd B 0 d) x := by grind
 exact Int.pos_of_mul_pos_right h8 (by omega)
theorem pd_up {m : Nat} {B : Nat → Nat → Int} {d : Int} (hs : Sym (m + 1) B) (hd : 0 < d) (hx : ∀ i j, i < m → j < m → d * M.cnd B 0 d i j = B 0 0 * B (M.sk 0 i) (j + 1) - B (M.sk 0 i) 0 * B 0 (j + 1)) (hb : 0 < B 0 0) (h : Pd m (M.cnd B 0 d)) : Pd (m + 1) B := by
 intro x hx0
 have h3 := qf_split hs hx x
 have hpos : 0 < B 0 0 * Qf (m + 1) B x := by
  rw [h3]
  by_cases hr : ∃ i, i < m ∧ x (i + 1) ≠ 0
  ·
   have h4 := h (fun i => x (i + 1)) hr
   have h5 := Int.mul_pos hd h4
   have h6 := sq_nonneg (M.mulv (m + 1) B x 0)
   omega
  ·
   have hz : ∀ i, i < m → x (i + 1) = 0 := fun i hi => Classical.byContradiction fun hn => hr ⟨i, hi, hn⟩
   obtain ⟨i, hi, hne⟩ := hx0
   have h0 : x 0 ≠ 0 := by
    cases i with
    | zero => exact hne
    | succ i => exact absurd (hz i (by omega)) hne
   have h4 : M.mulv (m + 1) B x 0 = B 0 0 * x 0 := by
    unfold M.mulv
    rw [M.sm_head, M.sm_zero (fun i hi => by rw [hz i hi]; simp)]; omega
   have h5 : Qf m (M.cnd B 0 d) (fun i => x (i + 1)) = 0 := M.sm_zero fun i hi => by show x (i + 1) * _ = 0; rw [hz i hi]; simp
   rw [h4, h5]
   have h6 : B 0 0 * x 0 ≠ 0 := Int.mul_ne_zero (by omega) h0
   have h7 := sq_nonneg (B 0 0 * x 0)
   have h8 : B 0 0 * x 0 * (B 0 0 * x 0) ≠ 0 := Int.mul_ne_zero h6 h6
   omega
 exact Int.pos_of_mul_pos_right hpos (by omega)
end Go.Proofs.YtolpfibihialkaaDoor

/- The mathematics of LinDefinite and LinRules: definite matrices have leading minors above 0, and back; a matrix times its turned one, and one on the diagonal; rows that change places. No statement of the seat is proved here. -/
namespace Go.Proofs.YtolpfibihialkaaDoor
open Go Go.RowKit
theorem pd_lead {m e : Nat} {A : Nat → Nat → Int} : ∀ {r k : Nat} {B : Nat → Nat → Int} {d : Int}, Ld m e A k r B d → Sym r B → Pd r B → ∀ j, k ≤ j → j < m → 0 < M.dt (j + 1) A
 | 0, k, B, d, h, _, _, j, hkj, hj => by have := h.len; omega
 | r + 1, k, B, d, h, hs, hp, j, hkj, hj => by
  obtain ⟨h1, h2⟩ := pd_down hs h.pos (fun i j hi hj => h.dv.exact (by omega) hi hj) hp
  by_cases e : j = k
  ·
   subst e; rw [← h.head]; exact h1
  ·
   exact pd_lead (h.step h1) (cnd_sym hs) h2 j (by omega) hj
theorem lead_pd {m e : Nat} {A : Nat → Nat → Int} : ∀ {r k : Nat} {B : Nat → Nat → Int} {d : Int}, Ld m e A k r B d → Sym r B → (∀ j, k ≤ j → j < m → 0 < M.dt (j + 1) A) → Pd r B
 | 0, k, B, d, _, _, _ => by rintro x ⟨i, hi, _⟩; omega
 | r + 1, k, B, d, h, hs, ha => by
  have hb : 0 < B 0 0 := by
   rw [h.head]
   exact ha k (Nat.le_refl _) (by have := h.len; omega)
  exact pd_up hs h.pos (fun i j hi hj => h.dv.exact (by omega) hi hj) hb (lead_pd (h.step hb) (cnd_sym hs) fun j hj hm => ha j (by omega) hm)
theorem sm_nonneg {f : Nat → Int} : ∀ {n : Nat}, (∀ i, i < n → 0 ≤ f i) → 0 ≤ M.sm n f
 | 0, _ => Int.le_refl _
 | n + 1, h => by
  rw [M.sm_head]
  have h1 := h 0 (by omega)
  have h2 : 0 ≤ M.sm n (fun i => f (i + 1)) := sm_nonneg (f := fun i => f (i + 1)) fun i hi => h (i + 1) (by omega)
  omega
theorem sm_pos {f : Nat → Int} : ∀ {n i : Nat}, (∀ i, i < n → 0 ≤ f i) → i < n → 0 < f i → 0 < M.sm n f
 | 0, i, _, hi, _ => by omega
 | n + 1, i, h, hi, hp => by
  rw [M.sm_head]
  have h1 := h 0 (by omega)
  have h2 : 0 ≤ M.sm n (fun i => f (i + 1)) := sm_nonneg (f := fun i => f (i + 1)) fun i hi => h (i + 1) (by omega)
  cases i with
  | zero => omega
  | succ i =>
   have h3 : 0 < M.sm n (fun i => f (i + 1)) := sm_pos (f := fun i => f (i + 1)) (i := i) (fun i hi => h (i + 1) (by omega)) (by omega) hp
   omega
/-- A matrix, turned, times itself, and one on the diagonal. -/
def dfm (m : Nat) (A : Nat → Nat → Int) (i j : Nat) : Int := if j = i then M.mulm m (fun i j => A j i) A i i + 1 else M.mulm m (fun i j => A j i) A i j
theorem gram_sym (m : Nat) (A : Nat → Nat → Int) (i j : Nat) : M.mulm m (fun i j => A j i) A i j = M.mulm m (fun i j => A j i) A j i := M.sm_congr fun k _ => Int.mul_comm _ _
theorem dfm_sym (m : Nat) (A : Nat → Nat → Int) : Sym m (dfm m A) := by
 intro i j _ _
 unfold dfm
 by_cases e : i = j
 ·
  subst e; rfl
 ·
  rw [if_neg e, if_neg (fun h => e h.symm)]; exact gram_sym m A i j
theorem dfm_mulv (m : Nat) (A : Nat → Nat → Int) (x : Nat → Int) {i : Nat} (hi : i < m) : M.mulv m (dfm m A) x i = M.mulv m (fun i j => A j i) (M.mulv m A x) i + x i := by
 rw [← M.mulv_mulm]
 have e1 : M.mulv m (dfm m A) x i = M.sm m (fun j => M.mulm m (fun i j => A j i) A i j * x j + (if j = i then x i else 0)) := M.sm_congr fun j _ => by
  unfold dfm
  by_cases e : j = i
  ·
   subst e; rw [if_pos rfl, if_pos rfl]; grind
  ·
   rw [if_neg e, if_neg e]; omega
 rw [e1, M.sm_add, M.sm_one (k := i) (f := fun j => if j = i then x i else 0) hi (fun j _ h => if_neg h), if_pos rfl]
 rfl
theorem dfm_qf (m : Nat) (A : Nat → Nat → Int) (x : Nat → Int) : Qf m (dfm m A) x = M.sm m (fun k => M.mulv m A x k * M.mulv m A x k) + M.sm m (fun i => x i * x i) := by
 have e1 : Qf m (dfm m A) x = M.sm m (fun i => M.sm m (fun k => x i * (A k i * M.mulv m A x k)) + x i * x i) := M.sm_congr fun i hi => by
  rw [dfm_mulv m A x hi, M.sm_mul]
  show x i * (M.sm m (fun k => A k i * M.mulv m A x k) + x i) = _
  grind
 rw [e1, M.sm_add, M.sm_swap]
 congr 1
 refine M.sm_congr fun k _ => ?_
 have e2 : M.mulv m A x k * M.mulv m A x k = M.mulv m A x k * M.sm m (fun i => A k i * x i) := rfl
 rw [e2, ← M.sm_mul]
 exact M.sm_congr fun i _ => by grind
theorem dfm_pd (m : Nat) (A : Nat → Nat → Int) : Pd m (dfm m A) := by
 rintro x ⟨i, hi, hne⟩
 rw [dfm_qf]
 have h1 := sm_nonneg (n := m) (f := fun k => M.mulv m A x k * M.mulv m A x k) fun k _ => sq_nonneg _
 have h3 : x i * x i ≠ 0 := Int.mul_ne_zero hne hne
 have h4 := sq_nonneg (x i)
 have h2 := sm_pos (n := m) (i := i) (f := fun i => x i * x i) (fun k _ => sq_nonneg _) hi (by show 0 < x i * x i; omega)
 omega
theorem qf_zero {m : Nat} {B : Nat → Nat → Int} {x : Nat → Int} (h : ∀ i, i < m → x i = 0) : Qf m B x = 0 := M.sm_zero fun i hi => by rw [h i hi, Int.zero_mul]
theorem dfm_lead {m e : Nat} {A : Nat → Nat → Int} (he : 1 ≤ e) (hA : ∀ i j, i < m → j < m → Sz e (dfm m A i j)) : ∀ k, k < m → 0 < M.dt (k + 1) (dfm m A) := fun k hk => pd_lead (ld_start he hA) (dfm_sym m A) (dfm_pd m A) k (Nat.zero_le _) hk
theorem dfm_det {m e : Nat} {A : Nat → Nat → Int} (he : 1 ≤ e) (hA : ∀ i j, i < m → j < m → Sz e (dfm m A i j)) : 0 < M.dt m (dfm m A) := by
 cases m with
 | zero => show (0 : Int) < 1; decide
 | succ m => exact dfm_lead he hA m (by omega)
theorem def_pd {m e : Nat} {A : Nat → Nat → Int} (he : 1 ≤ e) (hA : ∀ i j, i < m → j < m → Sz e (A i j)) (h : Sym m A ∧ ∀ k, k < m → 0 < M.dt (k + 1) A) : Pd m A := lead_pd (ld_start he hA) h.1 fun j _ hj => h.2 j hj
namespace M
variable {n : Nat} {F : (Nat → Nat → Int) → Int}
theorem Alt.same' (h : Alt n F) {i k : Nat} {f : Nat → Nat → Int} (hik : i ≠ k) (hi : i < n) (hk : k < n) (e : ∀ j, j < n → f i j = f k j) : F f = 0 := by
 rcases Nat.lt_or_gt_of_ne hik with hl | hl
 ·
  exact h.same hl hk e
 ·
  exact h.same hl hi fun j hj => (e j hj).symm
theorem rw_comm (f : Nat → Nat → Int) {i k : Nat} (x y : Nat → Int) (h : i ≠ k) : rw' (rw' f i x) k y = rw' (rw' f k y) i x := by
 funext a b
 unfold rw'
 by_cases e1 : a = k
 ·
  subst e1; rw [if_pos rfl, if_neg (fun q => h q.symm), if_pos rfl]
 ·
  by_cases e2 : a = i
  ·
   subst e2; rw [if_neg e1, if_pos rfl, if_pos rfl]
  ·
   rw [if_neg e1, if_neg e2, if_neg e2, if_neg e1]
/-- Two rows change places. -/
theorem Alt.change (h : Alt n F) {i k : Nat} (f : Nat → Nat → Int) (hik : i ≠ k) (hi : i < n) (hk : k < n) : F (rw' (rw' f i (f k)) k (f i)) = - F f := by
 have both : ∀ x : Nat → Int, F (rw' (rw' f i x) k x) = 0 := fun x => h.same' hik hi hk fun j _ => by rw [rw_ne hik, rw_self, rw_self]
 have hy : ∀ x : Nat → Int, F (rw' (rw' f i x) k (fun j => 1 * f i j + 1 * f k j)) = 1 * F (rw' (rw' f i x) k (f i)) + 1 * F (rw' (rw' f i x) k (f k)) := fun x => h.lin k (rw' f i x) (f i) (f k) 1 1 hk
 have hx : ∀ y : Nat → Int, F (rw' (rw' f i (fun j => 1 * f i j + 1 * f k j)) k y) = 1 * F (rw' (rw' f i (f i)) k y) + 1 * F (rw' (rw' f i (f k)) k y) := fun y => by
  rw [rw_comm f _ y hik, rw_comm f _ y hik, rw_comm f _ y hik]
  exact h.lin i (rw' f k y) (f i) (f k) 1 1 hi
 have h0 := both (fun j => 1 * f i j + 1 * f k j)
 rw [hy, hx, hx, both (f i), both (f k)] at h0
 have e : F (rw' (rw' f i (f i)) k (f k)) = F f := h.congr _ _ fun a b _ _ => by
  unfold rw'
  by_cases e1 : a = k
  ·
   subst e1; rw [if_pos rfl]
  ·
   by_cases e2 : a = i
   ·
    subst e2; rw [if_neg e1, if_pos rfl]
   ·
    rw [if_neg e1, if_neg e2]
 rw [e] at h0
 omega
end M
end Go.Proofs.YtolpfibihialkaaDoor

/- A list that is copied by append; rows of one's own that are told, in matrices of one's own. No statement of the seat is proved here. -/
namespace Go.Proofs.YtolpfibihialkaaDoor
open Go Go.RowKit
section
variable {P : Program} {ops : Array Oper} {Q : Exit → Act → World → Prop} {a : Act} {w W : World} {rest : List Oper} {o : Oper} {l : List (Nat × Array Value × TypeId)} {X0 X : Nat → Prop} {fs : List Fa} {next : Act → World → Prop}
theorem run_bs0 {t e : TypeId} {k by_ : Nat} {z : Value} (hI : EInf P t e k z by_) (W : World) : (Instr.buildSlice t 0 #[]).run P W = .ok (.slice (some ⟨W.heap.size, 0, none⟩) 0 0) (W.alloc (.cells #[] e)) := by
 obtain ⟨i, hi, hz, hs, hb⟩ := info_parts hI.hi
 have e0 : ∀ f : Nat → Value, Array.map f (Array.range 0) = #[] := fun f => Array.ext (by simp) fun i h1 h2 => by simp at h1
 simp [Instr.buildSlice, run_underlying hI.ht, sizeOf, typeInfo, hi, hs, Instr.fill, newRow]
 exact congrArg (fun c => W.alloc (.cells c e)) (e0 _)
/-- A list of nothing is built. -/
theorem wp_bs0 {t e : TypeId} {k by_ : Nat} {z : Value} (hI : EInf P t e k z by_) (ho : o.op = .buildSlice t 0 #[]) (h : Zs w W X0 X l fs) (K : ∀ (b : Addr) (W' : World), Zs w W' X0 X l fs → next (a.put o.dst (.slice (some b) 0 0)) W') : o.wp P a W next Q := by
 have e : (execOp a.eval o).run P W = .ok (.value (.slice (some ⟨W.heap.size, 0, none⟩) 0 0)) (W.alloc (.cells #[] e)) := by
  unfold execOp
  rw [ho]
  simp only [List.map_toArray, List.map_nil, Sem.run_bind, run_bs0 hI, Result.andThen]
  rfl
 unfold Oper.wp
 rw [e]
 exact K _ _ (h.later (below_new _ _))
/-- A list is copied into new memory of one's own. -/
theorem wp_spread {t e : TypeId} {by_ : Nat} {z : Value} (hI : EInf P t e 2 z by_) (x y : Operand) (ho : o.op = .call { callee := .builtin .append, args := #[x, y], argTypes := #[t, t] }) (b : Addr) (hx : a.eval x = .slice (some b) 0 0) {s : Sl} {n : Nat} {f : Nat → Int} (hy : a.eval y = s.v) (hs : Ls n f s X W) (h0 : 0 < n) (hn : n ≤ 1000) (h : Zs w W X0 X l fs)
  (K : ∀ (s' : Sl) (C' : Array Value) (X' : Nat → Prop) (W' : World), s'.n = n → Wr 2 s' C' → Zs w W' X0 X' (owl s' C' e ++ l) (Fl 2 (EN f) n C' :: fs) → next (a.put o.dst s'.v) W') : o.wp P a W next Q := by
 obtain ⟨i, hi, hz, hsz, hb⟩ := info_parts hI.hi
 have hfew := hI.few
 have hpos := hI.pos
 have hsn := hs.n
 obtain ⟨q, hq⟩ : ∃ q, s.a = some q := by
  cases hc : s.a with
  | none => have := (hs.sq.nil hc).1; omega
  | some q => exact ⟨q, rfl⟩
 obtain ⟨hqs, hqb, hqX⟩ := hs.sq.spot q hq (by omega)
 obtain ⟨qb, qo, qs⟩ := q
 simp only at hqs hqb hqX
 subst hqs
 have hadd : ∀ j, (⟨qb, qo, none⟩ : Addr).add j = ⟨qb, qo + j, none⟩ := fun j => by unfold Addr.add; split <;> simp_all
 obtain ⟨g, hgd⟩ : ∃ g : Nat → Value, ∀ j, g j = (W.cell? ⟨qb, qo + j, none⟩).getD undef := ⟨fun j => (W.cell? ⟨qb, qo + j, none⟩).getD undef, fun _ => rfl⟩
 have hg : ∀ j, j < n * 2 → W.cell? ⟨qb, qo + j, none⟩ = some (g j) := by
  intro j hj
  obtain ⟨cs, h1, h2, _⟩ := hs.sq.el _ hq (j / 2) (by omega)
  have h3 := h2 (j % 2) (by omega)
  simp only at h3
  rw [show qo + j / 2 * 2 + j % 2 = qo + j by omega, List.getElem?_eq_getElem (show j % 2 < cs.length by omega)] at h3
  rw [hgd, h3]
  rfl
 have hv : s.v = .slice (some ⟨qb, qo, none⟩) n s.c := by unfold Sl.v; rw [hq, hsn]
 have hby : n * i.bytes ≤ 1000 * 64 := by rw [hb]; exact Nat.mul_le_mul hn hfew
 have hr := run_append_grow (P := P) W t o.type e i z hI.ht hi hz b 0 0 [] (by simp) (fun j v hj => by simp at hj) ⟨qb, qo, none⟩ n s.c ((List.range (n * 2)).map g) (by simp [hsz]) (fun j v hj => by
  rw [List.getElem?_map] at hj
  by_cases hjn : j < n * 2
  ·
   rw [List.getElem?_range hjn] at hj
   rw [hadd, hg j hjn]
   exact hj
  ·
   rw [List.getElem?_eq_none (by simpa using hjn)] at hj
   cases hj) (by omega) (by omega) (growslice_fits (by omega) (by rw [Nat.zero_add]; omega))
 simp only [Nat.zero_add] at hr
 obtain ⟨cp, hcp⟩ : ∃ cp, cp = grownCap W n 0 e := ⟨_, rfl⟩
 have hge : n ≤ cp := hcp ▸ grownCap_ge W n 0 e
 have hle : cp ≤ maxLen := hcp ▸ grownCap_le_maxLen W n 0 e (by unfold maxLen; omega)
 rw [← hcp] at hr
 obtain ⟨D, hD⟩ : ∃ D, D = (([] : List Value).toArray ++ ((List.range (n * 2)).map g).toArray ++ Builtin.zeroCells z.cells (cp - n)) := ⟨_, rfl⟩
 rw [← hD] at hr
 have hget : ∀ j, j < n * 2 → D[j]? = some (g j) := by
  intro j hj
  rw [hD, Array.getElem?_append_left (by simp; omega), Array.getElem?_append_right (by simp)]
  simp [hj]
 have hsize : D.size = cp * 2 := by
  rw [hD]
  simp only [Array.size_append, List.size_toArray, List.length_nil, List.length_map, List.length_range, size_zeroCells, hI.zs]
  omega
 unfold Oper.wp execOp
 simp only [ho, resolve, invoke, builtin, Sem.run_bind, Sem.run_pure, Result.andThen_ok, List.map_toArray, List.map_cons, List.map_nil, hx, hy, hv, hr]
 have hz' : Zs w (W.drew.alloc (.cells D e)) X0 (fun q => X q ∨ q = W.drew.heap.size) (owl ⟨some ⟨W.heap.size, 0, none⟩, n, cp⟩ D e ++ l) (Ls n f s :: fs) := ((h.more (Ls.stb n f s) hs).later (Below.refl _ _).drew).new D e
 have hs' := hz'.get 0 (f := Ls n f s) rfl
 have hB : Below W.heap.size W (W.drew.alloc (.cells D e)) := ((Below.refl _ _).drew).alloc (Nat.le_refl _) _
 have hfl : Fl 2 (EN f) n D (fun q => X q ∨ q = W.drew.heap.size) (W.drew.alloc (.cells D e)) := by
  intro m hm
  obtain ⟨cs, h1, h2, h3⟩ := hs'.sq.el _ hq m (by omega)
  refine ⟨cs, h1, fun j hj => ?_, h3⟩
  rw [hget (m * 2 + j) (by omega), ← h2 j hj, hB.cell (p := ⟨qb, qo + m * 2 + j, none⟩) hqb]
  have := hg (m * 2 + j) (by omega)
  rw [← Nat.add_assoc] at this
  exact this.symm
 have hz2 : Zs w (W.drew.alloc (.cells D e)) X0 (fun q => X q ∨ q = W.drew.heap.size) (owl ⟨some ⟨W.heap.size, 0, none⟩, n, cp⟩ D e ++ l) (Fl 2 (EN f) n D :: fs) := (hz'.more (Fl.stb (EN.stb f) n D) hfl).only _ (by
  intro g hg
  rcases List.mem_cons.1 hg with rfl | hg
  ·
   exact List.mem_cons_self ..
  ·
   exact List.mem_cons_of_mem _ (List.mem_cons_of_mem _ hg))
 exact K ⟨some ⟨W.heap.size, 0, none⟩, n, cp⟩ D _ _ rfl ⟨hge, hle, hsize, .inr ⟨_, rfl⟩⟩ hz2
/-- What lies in a place of an own slice is loaded. -/
theorem wp_ldown (T e : TypeId) (p : Operand) (s : Sl) (i : Nat) (C : Array Value) {v : Value} (ho : o.op = .load T p) (hp : a.eval p = s.at 1 i) (hw : Wr 1 s C) (h : Zs w W X0 X (owl s C e ++ l) fs) (hi : i < s.n) (hv : C[i * 1 + 0]? = some v) (hagg : ∀ W, (isAgg T).run P W = .ok false W) (k : next (a.put o.dst v) W) : o.wp P a W next Q := by
 obtain ⟨sa, sn, sc⟩ := s
 rcases hw.at_ with ⟨h1, h2⟩ | ⟨b, h1⟩
 ·
  have := hw.cap
  simp only at h2 this hi
  omega
 ·
  simp only at h1
  subst h1
  refine wp_ldr (v := v) T p ho hp ?_ k
  have hg : W.heap[b]? = some (.cells C e (0, 0)) := h.es.at' (b, C, e) (List.mem_cons_self ..)
  have hadd : (⟨b, 0, none⟩ : Addr).add (i * 1) = ⟨b, i * 1, none⟩ := by unfold Addr.add; split <;> simp_all
  have hc : W.cell? ⟨b, i * 1, none⟩ = some v := by
   simp only [World.cell?, hg]
   simpa using hv
  have hsa : (Instr.sureAddr (.pointer (some ⟨b, i * 1, none⟩))).run P W = .ok ⟨b, i * 1, none⟩ W := rfl
  show (Instr.loadAt T (.pointer (some ((⟨b, 0, none⟩ : Addr).add (i * 1))))).run P W = _
  rw [hadd]
  unfold Instr.loadAt loadVar
  simp only [Sem.run_bind, hsa, Result.andThen, hagg]
  rw [Nat.mul_one] at hc
  simp [go_sem, hc]
end
section
variable {w W : World} {X0 X : Nat → Prop} {l : List (Nat × Array Value × TypeId)} {fs : List Fa}
/-- A row of one's own is told, and not written any more. -/
theorem Zs.tell {s : Sl} {C : Array Value} {T : TypeId} {f : Nat → Int} {n : Nat} (h : Zs w W X0 X (owl s C T ++ l) fs) (hx : NX X0 w) (hw : Wr 2 s C) (hn : s.n = n) (hf : Fl 2 (EN f) n C X W) : ∃ X', Zs w W X0 X' l (Ls n f s :: fs) := by
 obtain ⟨sa, sn, sc⟩ := s
 rcases hw.at_ with ⟨h1, h2⟩ | ⟨b, h1⟩
 ·
  have hcap := hw.cap
  simp only at h1 h2 hcap hn
  subst h1 h2 hn
  obtain rfl : sn = 0 := by omega
  exact ⟨X, Zs.more (l := l) h (Ls.stb 0 f ⟨none, 0, 0⟩) ⟨rfl, Nat.le_refl _, Nat.zero_le _, fun _ => ⟨rfl, rfl⟩, nofun, nofun⟩⟩
 simp only at h1 hn
 subst h1 hn
 have hlt := h.es.lt (b, C, T) (List.mem_cons_self ..)
 have hc : W.heap[b]? = some (.cells C T (0, 0)) := h.es.at' (b, C, T) (List.mem_cons_self ..)
 have hr := Zs.release (b := b) (C := C) (T := T) h hx
 refine ⟨_, (hr.more (Ls.stb sn f ⟨some ⟨b, 0, none⟩, sn, sc⟩) ⟨rfl, hw.cap, hw.capm, nofun, fun q hq _ => ?_, fun q hq i hi => ?_⟩).only _ (by
  intro g hg
  rcases List.mem_cons.1 hg with rfl | hg
  ·
   exact List.mem_cons_self ..
  ·
   exact List.mem_cons_of_mem _ (List.mem_cons_of_mem _ hg))⟩
 ·
  cases hq; exact ⟨rfl, hlt, fun hk => hk.2 rfl⟩
 ·
  cases hq
  obtain ⟨cs, h1, h2, h3⟩ := hf i hi
  refine ⟨cs, h1, fun j hj => ?_, EN.stb f i cs _ _ _ _ (Ext.less W fun k hk => hk.1) h3⟩
  rw [← h2 j hj]
  have hsz := hw.sz
  have hcap := hw.cap
  simp only at hsz hcap hi
  simp only [Nat.zero_add]
  have hl2 : i * 2 + j < C.size := by omega
  simp [World.cell?, hc, hl2]
/-- Nothing is written any more. -/
theorem Zs.close (h : Zs w W X0 X l fs) (hx : NX X0 w) : Zs w W X0 X0 [] fs := ⟨⟨h.es.below, nofun, List.nodup_nil, nofun⟩, fun k hk => h.nx k (h.sub k hk), nofun, fun _ hk => hk, fun f hf => ⟨(h.fs f hf).1, (h.fs f hf).1 _ _ _ _ (Ext.less W h.sub) (h.fs f hf).2⟩, h.ext.trans (Ext.less W h.sub)⟩
/-- An own slice is told: what its elements are is known where nothing is written any more. -/
theorem Zs.sq0 (h : Zs w W X0 X l fs) (hx : NX X0 w) {k : Nat} {E : El} {s : Sl} {C : Array Value} {T : TypeId} (hw : Wr k s C) (hl : ∀ p, p ∈ owl s C T → p ∈ l) (hf : Fl k E s.n C X0 W) : Sq k E s X0 W := by
 refine ⟨hw.cap, hw.capm, fun e => ?_, fun q hq _ => ?_, fun q hq i hi => ?_⟩
 ·
  rcases hw.at_ with ⟨_, h2⟩ | ⟨b, h1⟩
  ·
   have := hw.cap; omega
  ·
   rw [e] at h1; cases h1
 ·
  obtain ⟨b, rfl⟩ : ∃ b, q = ⟨b, 0, none⟩ := by
   rcases hw.at_ with ⟨h1, _⟩ | ⟨b, h1⟩
   ·
    rw [h1] at hq; cases hq
   ·
    rw [h1] at hq; cases hq; exact ⟨b, rfl⟩
  have hm : (b, C, T) ∈ l := hl _ (by unfold owl; rw [hq]; exact List.mem_singleton.2 rfl)
  refine ⟨rfl, h.es.lt _ hm, fun hX => ?_⟩
  have h1 := h.es.ge _ hm
  have h2 := hx _ hX
  simp only at h1 h2
  omega
 ·
  obtain ⟨b, rfl⟩ : ∃ b, q = ⟨b, 0, none⟩ := by
   rcases hw.at_ with ⟨h1, _⟩ | ⟨b, h1⟩
   ·
    rw [h1] at hq; cases hq
   ·
    rw [h1] at hq; cases hq; exact ⟨b, rfl⟩
  have hm : (b, C, T) ∈ l := hl _ (by unfold owl; rw [hq]; exact List.mem_singleton.2 rfl)
  have hc : W.heap[b]? = some (.cells C T (0, 0)) := h.es.at' _ hm
  obtain ⟨cs, h1, h2, h3⟩ := hf i hi
  refine ⟨cs, h1, fun j hj => ?_, h3⟩
  rw [← h2 j hj]
  simp only [Nat.zero_add]
  have h5 := hw.sz
  have h6 : (i + 1) * k ≤ s.c * k := Nat.mul_le_mul_right k (by have := hw.cap; omega)
  rw [Nat.add_mul] at h6
  have hl2 : i * k + j < C.size := by omega
  simp [World.cell?, hc, hl2]
/-- One place is written anew: the others are as they were. -/
theorem Fl.put {k : Nat} {E : El} {n i : Nat} {C C' : Array Value} {X : Nat → Prop} {W : World} (h : Fl k E n C X W) {cs : List Value} (hk : cs.length = k) (hg : ∀ j, j < k → C'[i * k + j]? = cs[j]?) (ho : ∀ j, (j < i * k ∨ i * k + k ≤ j) → C'[j]? = C[j]?) {E' : El} (hE : E' X W i cs) (hE' : ∀ m cs, m < n → m ≠ i → E X W m cs → E' X W m cs) : Fl k E' n C' X W := by
 intro m hm
 by_cases e : m = i
 ·
  subst e; exact ⟨cs, hk, hg, hE⟩
 ·
  obtain ⟨ds, h1, h2, h3⟩ := h m hm
  refine ⟨ds, h1, fun j hj => ?_, hE' m ds hm e h3⟩
  rw [ho]
  ·
   exact h2 j hj
  ·
   rcases Nat.lt_or_gt_of_ne e with hl | hl
   ·
    have : (m + 1) * k ≤ i * k := Nat.mul_le_mul_right k (by omega)
    rw [Nat.add_mul] at this
    omega
   ·
    have : (i + 1) * k ≤ m * k := Nat.mul_le_mul_right k (by omega)
    rw [Nat.add_mul] at this
    omega
/-- The rows of a matrix, but row i, which is one's own. -/
def ERo (i : Nat) (r : Sl) (c : Nat → Nat) (B : Nat → Nat → Int) : El := fun X W m cs => if m = i then cs = [r.v] else ER c B X W m cs
theorem ERo.stb (i : Nat) (r : Sl) (c : Nat → Nat) (B : Nat → Nat → Int) : EStb (ERo i r c B) := fun m cs X W X' W' he h => by
 by_cases e : m = i
 ·
  have h' : cs = [r.v] := by simpa only [ERo, if_pos e] using h
  simpa only [ERo, if_pos e] using h'
 ·
  have h' : ER c B X W m cs := by simpa only [ERo, if_neg e] using h
  have := ER.stb c B m cs X W X' W' he h'
  simpa only [ERo, if_neg e] using this
end
end Go.Proofs.YtolpfibihialkaaDoor

/- Texts of numbers, of lists, of matrices. No statement of the seat is proved here. -/
namespace Go.Proofs.YtolpfibihialkaaDoor
open Go Go.RowKit
open Classical in
/-- The text of a number. -/
noncomputable def decT (z : Int) : List UInt8 := if h : ∃ l, Txt z l then Classical.choose h else []
theorem decT_eq {z : Int} {l : List UInt8} (h : Txt z l) : l = decT z := by
 have hx : ∃ l, Txt z l := ⟨l, h⟩
 unfold decT
 rw [dif_pos hx]
 exact txt_uniq h (Classical.choose_spec hx)
theorem txt_lenz {z : Int} {l : List UInt8} {e : Nat} (h : Txt z l) (hz : Sz e z) : l.length ≤ 10 * e + 2 := by
 have hz' : z.natAbs < 10 ^ (10 * e) := by
  refine Nat.lt_of_lt_of_le hz ?_
  rw [Nat.pow_mul]
  exact Nat.pow_le_pow_left (by decide) e
 rcases parts_of h.1 with ⟨rfl, h1⟩ | ⟨d, rfl, h0, hp, h1⟩ | ⟨d, rfl, h0, hp, h1⟩
 ·
  simp
 ·
  have a1 := dval_ge hp.dig hp.ne hp.head
  rw [h.2] at h1
  have h2 : 10 ^ (l.length - 1) < 10 ^ (10 * e) := Nat.lt_of_le_of_lt a1 (by omega)
  have := (Nat.pow_lt_pow_iff_right (by decide : 1 < 10)).1 h2
  omega
 ·
  have a1 := dval_ge hp.dig hp.ne hp.head
  rw [h.2] at h1
  have h2 : 10 ^ (d.length - 1) < 10 ^ (10 * e) := Nat.lt_of_le_of_lt a1 (by omega)
  have := (Nat.pow_lt_pow_iff_right (by decide : 1 < 10)).1 h2
  simp only [List.length_cons]
  omega
theorem decT_len {z : Int} {e : Nat} (hz : Sz e z) : (decT z).length ≤ 10 * e + 2 := by
 unfold decT
 split
 ·
  next h => exact txt_lenz (Classical.choose_spec h) hz
 ·
  simp
/-- The text of n numbers; of rows. -/
noncomputable def txL : Nat → (Nat → Int) → List UInt8
 | 0, _ => []
 | n + 1, x => txL n x ++ decT (x n) ++ [32]
theorem txL_len {e : Nat} {x : Nat → Int} : ∀ {n : Nat}, (∀ k, k < n → Sz e (x k)) → (txL n x).length ≤ n * (10 * e + 3)
 | 0, _ => by simp [txL]
 | n + 1, h => by
  have h1 := txL_len (n := n) (fun k hk => h k (by omega))
  have h2 := decT_len (h n (by omega))
  simp only [txL, List.length_append, List.length_singleton]
  rw [Nat.add_mul]
  omega
section
variable {Q : Exit → Act → World → Prop} {a : Act} {W : World} {o : Oper} {next : Act → World → Prop} {p q : List UInt8}
theorem wp_seql (x y : Operand) (T T' : TypeId) (hT : (T == 9) = true) (ho : o.op = .binOp .eql T x y T') (hx : a.eval x = .string ⟨p.toArray⟩) (hy : a.eval y = .string ⟨q.toArray⟩) {r : Bool} (hr : decide (p = q) = r) (k : next (a.put o.dst (.bool r)) W) : o.wp Tryd.prog a W next Q := by
 have := eq_of_beq hT
 subst this
 subst hr
 refine wp_run ?_ k
 unfold execOp
 rw [ho]
 simp only [hx, hy]
 simp [go_sem]
 by_cases e : p = q <;> simp [e]
end
end Go.Proofs.YtolpfibihialkaaDoor

/- The laws' helpers text, whole, square. No statement of the seat is proved here. -/
namespace Go.Proofs.YtolpfibihialkaaDoor
open Go Go.RowKit
theorem ptxt_dec {z : Int} {w w' : World} {e : Ending} (h : PTxt z w e w') : PVal (.string ⟨(decT z).toArray⟩) w e w' := by
 obtain ⟨l, rfl, h1, h2⟩ := h
 exact ⟨by rw [← decT_eq h1], h2⟩
set_option maxRecDepth 100000 in
set_option maxHeartbeats 12800000 in
theorem gText {X0 : Nat → Prop} {w : World} (hX : NX X0 w) (xs : Sl) {n e : Nat} {x : Nat → Int} (hx : Ls n x xs X0 w) (bx : ∀ k, k < n → Sz e (x k)) (hn : n ≤ 1000) (he : e ≤ 9000000) : Calls Tryd.prog 23 #[xs.v] w (PVal (.string ⟨(txL n x).toArray⟩) w) := by
 have hZ0 := zs_start hX
 have hZ1 := hZ0.more (f := Ls n x xs) (Ls.stb _ _ _) hx
 clear hZ0
 go_enter Tryd.func23, Tryd.ntmps23
 go_wp2
 go_loopw [3, 4] (fun sv iv wr => ∃ i : Nat, i ≤ n ∧ iv = .int .i64 ((i : Nat) : Int) ∧ sv = .string ⟨(txL i x).toArray⟩ ∧ ∃ X : Nat → Prop, Zs w wr X0 X [] [Ls n x xs]) (fun _ iv _ => n - (intOf iv).toNat)
 case atStart => exact ⟨0, by omega, rfl, rfl, _, hZ1⟩
 case round =>
  obtain ⟨i, hi, rfl, rfl, X, hZ⟩ := hrel
  by_cases hlt : i < n
  ·
   have hl1 : (txL i x).length ≤ i * (10 * e + 3) := txL_len (fun k hk => bx k (by omega))
   have hl2 : (decT (x i)).length ≤ 10 * e + 2 := decT_len (bx i hlt)
   have hl3 : i * (10 * e + 3) ≤ 1000 * 90000003 := Nat.mul_le_mul (by omega) (by omega)
   have hl4 : (txL i x ++ decT (x i)).length ≤ 1000 * 90000003 + 90000003 := by rw [List.length_append]; omega
   go_wp2_with (refine stop_op rfl (fun K hK => wp_lenq (.tmp 6) 39 45 xs rfl (by kernel_rfl) rfl (hZ.get 0 (f := Ls n x xs) rfl).n (hK _ _ ?_)))
   unfold Stop
   try simp only [Act.put, zzC, zzD, zzE]
   go_wp2_with (refine stop_op rfl (fun K hK => wp_lssi (.tmp 5) (.tmp 7) rfl rfl rfl (r := true) (decide_eq_true (by omega)) (hK _ _ ?_)))
   unfold Stop
   try simp only [Act.put, zzC, zzD, zzE]
   go_wp2_with (refine stop_op rfl (fun K hK => wp_ixs 39 (.tmp 12) (.tmp 13) xs i 2 45 rfl rfl rfl (by kernel_rfl) sz45 (fun h => ((hZ.get 0 (f := Ls n x xs) rfl).sq.nil h).1) ((hZ.get 0 (f := Ls n x xs) rfl).n ▸ (by omega)) (hK _ _ ?_)))
   unfold Stop
   try simp only [Act.put, zzC, zzD, zzE]
   go_wp2_with (refine stop_op rfl (fun K hK => wp_ldn 45 (.tmp 14) xs i n x rfl rfl (hZ.get 0 (f := Ls n x xs) rfl) (by omega) ag45 sz45 (fun q1 ez_q1 hi_q1 => hK _ _ ?_)))
   unfold Stop
   try simp only [Act.put, zzC, zzD, zzE]
   have hZ2 := hZ.more (f := q1.is) q1.stb hi_q1
   clear hZ
   clear hi_q1
   go_wp2_with fail
   refine ((zStr (hZ2.get 0 (f := q1.is) rfl) ez_q1 ((fun k hk => bx k hk) i (by omega)) (by omega)).mono (fun _ _ h => ptxt_dec h)).mono ?_
   rintro zz W1 ⟨rfl, hB⟩
   have hZ3 := hZ2.later hB
   clear hB
   clear hZ2
   have hZ4 := hZ3.only [Ls n x xs] (by simp)
   clear hZ3
   go_wp2
   go_roundw
   case rel => exact ⟨i + 1, by omega, by go_num, by rw [txL, ← ByteArray.mk_append_mk, ← ByteArray.mk_append_mk], _, hZ4⟩
   case measure => simp [intOf]; omega
  ·
   obtain rfl : i = n := by omega
   go_wp2_with (refine stop_op rfl (fun K hK => wp_lenq (.tmp 6) 39 45 xs rfl (by kernel_rfl) rfl (hZ.get 0 (f := Ls i x xs) rfl).n (hK _ _ ?_)))
   unfold Stop
   try simp only [Act.put, zzC, zzD, zzE]
   go_wp2_with (refine stop_op rfl (fun K hK => wp_lssi (.tmp 5) (.tmp 7) rfl rfl rfl (r := false) (decide_eq_false (Int.lt_irrefl _)) (hK _ _ ?_)))
   unfold Stop
   try simp only [Act.put, zzC, zzD, zzE]
   go_wp2
   go_ret
   exact ⟨rfl, hZ.below⟩
open Classical in
set_option maxRecDepth 100000 in
set_option maxHeartbeats 12800000 in
theorem gSquare {X0 : Nat → Prop} {w : World} (hX : NX X0 w) (rs : Sl) (u : Nat) {m : Nat} {c : Nat → Nat} {R : Nat → Nat → Int} (hr : Mi m c R rs X0 w) (hu12 : u ≤ 12) : Calls Tryd.prog 11 #[rs.v, .int .i64 ((u : Nat) : Int)] w (PVal (.bool (decide (m ≤ u ∧ ∀ k, k < m → c k = m))) w) := by
 have hZ0 := zs_start hX
 have hZ1 := hZ0.more (f := Mi m c R rs) (Mi.stb _ _ _ _) hr
 clear hZ0
 go_enter Tryd.func11, Tryd.ntmps11
 by_cases hu : m ≤ u
 ·
  go_wp2_with (refine stop_op rfl (fun K hK => wp_lenq (.tmp 6) 22 36 rs rfl (by kernel_rfl) rfl (hZ1.get 0 (f := Mi m c R rs) rfl).n (hK _ _ ?_)))
  unfold Stop
  try simp only [Act.put, zzC, zzD, zzE]
  go_wp2_with (refine stop_op rfl (fun K hK => wp_gtri (.tmp 7) (.tmp 8) rfl rfl rfl (r := false) (decide_eq_false (by omega)) (hK _ _ ?_)))
  unfold Stop
  try simp only [Act.put, zzC, zzD, zzE]
  go_wp2
  go_loopw [5] (fun iv wr => ∃ i : Nat, i ≤ m ∧ iv = .int .i64 ((i : Nat) : Int) ∧ (∀ k, k < i → c k = m) ∧ ∃ X : Nat → Prop, Zs w wr X0 X [] [Mi m c R rs]) (fun iv _ => m - (intOf iv).toNat)
  case atStart => exact ⟨0, by omega, rfl, fun k hk => absurd hk (Nat.not_lt_zero k), _, hZ1⟩
  case round =>
   obtain ⟨i, hi, rfl, hok, X, hZ⟩ := hrel
   have HK := Lib.hid hok
   clear hok
   by_cases hlt : i < m
   ·
    by_cases hq : c i = m
    ·
     have HQ := Lib.hid hq
     clear hq
     go_wp2_with (refine stop_op rfl (fun K hK => wp_lenq (.tmp 11) 22 36 rs rfl (by kernel_rfl) rfl (hZ.get 0 (f := Mi m c R rs) rfl).n (hK _ _ ?_)))
     unfold Stop
     try simp only [Act.put, zzC, zzD, zzE]
     go_wp2_with (refine stop_op rfl (fun K hK => wp_lssi (.tmp 10) (.tmp 12) rfl rfl rfl (r := true) (decide_eq_true (by omega)) (hK _ _ ?_)))
     unfold Stop
     try simp only [Act.put, zzC, zzD, zzE]
     go_wp2_with (refine stop_op rfl (fun K hK => wp_ixs 22 (.tmp 16) (.tmp 17) rs i 1 36 rfl rfl rfl (by kernel_rfl) sz36 (fun h => ((hZ.get 0 (f := Mi m c R rs) rfl).sq.nil h).1) ((hZ.get 0 (f := Mi m c R rs) rfl).n ▸ (by omega)) (hK _ _ ?_)))
     unfold Stop
     try simp only [Act.put, zzC, zzD, zzE]
     go_wp2_with (refine stop_op rfl (fun K hK => wp_ldim 36 (.tmp 18) rs i m c R rfl rfl (hZ.get 0 (f := Mi m c R rs) rfl) (by omega) ag36 (fun s1 hi_s1 => hK _ _ ?_)))
     unfold Stop
     try simp only [Act.put, zzC, zzD, zzE]
     have hZ2 := hZ.more (f := Li (c i) (R i) s1) (Li.stb _ _ _) hi_s1
     clear hZ
     clear hi_s1
     go_wp2_with (refine stop_op rfl (fun K hK => wp_lenq (.tmp 19) 36 2 s1 rfl (by kernel_rfl) rfl (hZ2.get 0 (f := Li (c i) (R i) s1) rfl).n (hK _ _ ?_)))
     unfold Stop
     try simp only [Act.put, zzC, zzD, zzE]
     go_wp2_with (refine stop_op rfl (fun K hK => wp_lenq (.tmp 21) 22 36 rs rfl (by kernel_rfl) rfl (hZ2.get 1 (f := Mi m c R rs) rfl).n (hK _ _ ?_)))
     unfold Stop
     try simp only [Act.put, zzC, zzD, zzE]
     go_wp2_with (refine stop_op rfl (fun K hK => wp_neqi (.tmp 20) (.tmp 22) 3 3 rfl rfl rfl rfl (r := false) (decide_eq_false (by have := HQ.out; omega)) (hK _ _ ?_)))
     unfold Stop
     try simp only [Act.put, zzC, zzD, zzE]
     go_wp2_with (refine stop_op rfl (fun K hK => wp_addi (.tmp 14) (.const (.int .i64 1)) rfl rfl rfl (C := ((i + 1 : Nat) : Int)) (by omega) (by omega) (by omega) (hK _ _ ?_)))
     unfold Stop
     try simp only [Act.put, zzC, zzD, zzE]
     have hZ3 := hZ2.only [Mi m c R rs] (by simp)
     clear hZ2
     go_wp2
     go_roundw
     case rel => exact ⟨i + 1, by omega, by go_num, fun k hk => by
       by_cases e : k = i
       ·
        rw [e]; exact HQ.out
       ·
        exact HK.out k (by omega), _, hZ3⟩
     case measure => simp [intOf]; omega
    ·
     have HQ := Lib.hid hq
     clear hq
     go_wp2_with (refine stop_op rfl (fun K hK => wp_lenq (.tmp 11) 22 36 rs rfl (by kernel_rfl) rfl (hZ.get 0 (f := Mi m c R rs) rfl).n (hK _ _ ?_)))
     unfold Stop
     try simp only [Act.put, zzC, zzD, zzE]
     go_wp2_with (refine stop_op rfl (fun K hK => wp_lssi (.tmp 10) (.tmp 12) rfl rfl rfl (r := true) (decide_eq_true (by omega)) (hK _ _ ?_)))
     unfold Stop
     try simp only [Act.put, zzC, zzD, zzE]
     go_wp2_with (refine stop_op rfl (fun K hK => wp_ixs 22 (.tmp 16) (.tmp 17) rs i 1 36 rfl rfl rfl (by kernel_rfl) sz36 (fun h => ((hZ.get 0 (f := Mi m c R rs) rfl).sq.nil h).1) ((hZ.get 0 (f := Mi m c R rs) rfl).n ▸ (by omega)) (hK _ _ ?_)))
     unfold Stop
     try simp only [Act.put, zzC, zzD, zzE]
     go_wp2_with (refine stop_op rfl (fun K hK => wp_ldim 36 (.tmp 18) rs i m c R rfl rfl (hZ.get 0 (f := Mi m c R rs) rfl) (by omega) ag36 (fun s2 hi_s2 => hK _ _ ?_)))
     unfold Stop
     try simp only [Act.put, zzC, zzD, zzE]
     have hZ4 := hZ.more (f := Li (c i) (R i) s2) (Li.stb _ _ _) hi_s2
     clear hZ
     clear hi_s2
     go_wp2_with (refine stop_op rfl (fun K hK => wp_lenq (.tmp 19) 36 2 s2 rfl (by kernel_rfl) rfl (hZ4.get 0 (f := Li (c i) (R i) s2) rfl).n (hK _ _ ?_)))
     unfold Stop
     try simp only [Act.put, zzC, zzD, zzE]
     go_wp2_with (refine stop_op rfl (fun K hK => wp_lenq (.tmp 21) 22 36 rs rfl (by kernel_rfl) rfl (hZ4.get 1 (f := Mi m c R rs) rfl).n (hK _ _ ?_)))
     unfold Stop
     try simp only [Act.put, zzC, zzD, zzE]
     go_wp2_with (refine stop_op rfl (fun K hK => wp_neqi (.tmp 20) (.tmp 22) 3 3 rfl rfl rfl rfl (r := true) (decide_eq_true (by have := HQ.out; omega)) (hK _ _ ?_)))
     unfold Stop
     try simp only [Act.put, zzC, zzD, zzE]
     go_wp2
     go_ret
     refine ⟨?_, hZ4.below⟩
     rw [show decide (m ≤ u ∧ ∀ k, k < m → c k = m) = false from decide_eq_false (fun h => HQ.out (h.2 i hlt))]
     rfl
   ·
    obtain rfl : i = m := by omega
    go_wp2_with (refine stop_op rfl (fun K hK => wp_lenq (.tmp 11) 22 36 rs rfl (by kernel_rfl) rfl (hZ.get 0 (f := Mi i c R rs) rfl).n (hK _ _ ?_)))
    unfold Stop
    try simp only [Act.put, zzC, zzD, zzE]
    go_wp2_with (refine stop_op rfl (fun K hK => wp_lssi (.tmp 10) (.tmp 12) rfl rfl rfl (r := false) (decide_eq_false (Int.lt_irrefl _)) (hK _ _ ?_)))
    unfold Stop
    try simp only [Act.put, zzC, zzD, zzE]
    go_wp2
    go_ret
    refine ⟨?_, hZ.below⟩
    rw [show decide (i ≤ u ∧ ∀ k, k < i → c k = i) = true from decide_eq_true ⟨hu, HK.out⟩]
    rfl
 ·
  go_wp2_with (refine stop_op rfl (fun K hK => wp_lenq (.tmp 6) 22 36 rs rfl (by kernel_rfl) rfl (hZ1.get 0 (f := Mi m c R rs) rfl).n (hK _ _ ?_)))
  unfold Stop
  try simp only [Act.put, zzC, zzD, zzE]
  go_wp2_with (refine stop_op rfl (fun K hK => wp_gtri (.tmp 7) (.tmp 8) rfl rfl rfl (r := true) (decide_eq_true (by omega)) (hK _ _ ?_)))
  unfold Stop
  try simp only [Act.put, zzC, zzD, zzE]
  go_wp2
  go_ret
  refine ⟨?_, hZ1.below⟩
  rw [show decide (m ≤ u ∧ ∀ k, k < m → c k = m) = false from decide_eq_false (fun h => hu h.1)]
  rfl
end Go.Proofs.YtolpfibihialkaaDoor
