/- Spans that hold fractions; what is enclosed holds the sum of 13 terms. No statement of the seat is proved here. -/
import Derived.Test.YtpahkpcoinbgcaaKe
namespace Go.Proofs.Ytpahkpcoinbgcaa
open Go.RowKit

/-- The sums over any measure q of the number p. -/
def mQ (q : Nat) (c k : Nat) : Nat := q * grN (c + 2 * k) 2
def uQ (q : Nat) (c : Nat) : Nat → Nat
  | 0 => grN 0 c
  | k + 1 => uQ q c k * mQ q c k
def hV (q : Nat) (c : Nat) (p : Int) : Nat → Int
  | 0 => 1
  | k + 1 => hV q c p k * (mQ q c k : Nat) + (-p) ^ (k + 1)
theorem tV_hV (c : Nat) (n : Int) : ∀ k, tV c n k = hV 1048576 c n k
  | 0 => rfl
  | k + 1 => by
    show tV c n k * _ + _ = hV 1048576 c n k * _ + _
    rw [tV_hV c n k]
    rfl
theorem uN_uQ (c : Nat) : ∀ k, uN c k = uQ 1048576 c k
  | 0 => rfl
  | k + 1 => by
    show uN c k * _ = uQ 1048576 c k * _
    rw [uN_uQ c k]
    rfl
theorem mQ_pos {q : Nat} (h : 0 < q) (c k : Nat) : 0 < mQ q c k := Nat.mul_pos h (gr_pos _ _)
theorem uQ_pos {q : Nat} (h : 0 < q) (c : Nat) : ∀ k, 0 < uQ q c k
  | 0 => gr_pos _ _
  | k + 1 => Nat.mul_pos (uQ_pos h c k) (mQ_pos h c k)
theorem pw_nonneg {m : Int} (h : 0 ≤ m) : ∀ j : Nat, 0 ≤ m ^ j
  | 0 => by rw [Int.pow_zero]; decide
  | j + 1 => by rw [Int.pow_succ]; exact Int.mul_nonneg (pw_nonneg h j) h
theorem neg_pw (m : Int) : ∀ i : Nat, (-m) ^ (2 * i) = m ^ (2 * i) ∧ (-m) ^ (2 * i + 1) = -m ^ (2 * i + 1)
  | 0 => by simp [Int.pow_succ]
  | i + 1 => by
    obtain ⟨_, h2⟩ := neg_pw m i
    have e : (-m) ^ (2 * (i + 1)) = m ^ (2 * (i + 1)) := by
      show (-m) ^ (2 * i + 1 + 1) = m ^ (2 * i + 1 + 1)
      rw [Int.pow_succ (-m), h2, Int.pow_succ m (2 * i + 1), Int.neg_mul_neg]
    refine ⟨e, ?_⟩
    rw [Int.pow_succ, e, Int.pow_succ m, Int.mul_neg]
theorem dd {m n : Int} (h0 : 0 ≤ m) (h : m ≤ n) : ∀ j : Nat, 0 ≤ n ^ j - m ^ j ∧ (n - m) * m ^ j ≤ n ^ (j + 1) - m ^ (j + 1)
  | 0 => by simp [Int.pow_succ]
  | j + 1 => by
    obtain ⟨h1, h2⟩ := dd h0 h j
    have h3 : 0 ≤ (n - m) * m ^ j := Int.mul_nonneg (by omega) (pw_nonneg h0 j)
    refine ⟨by omega, ?_⟩
    have e : n ^ (j + 1 + 1) - m ^ (j + 1 + 1) = (n - m) * m ^ (j + 1) + n * (n ^ (j + 1) - m ^ (j + 1)) := by
      rw [Int.pow_succ n (j + 1), Int.pow_succ m (j + 1), Int.sub_mul, Int.mul_sub, Int.mul_comm (n ^ (j + 1)) n, Int.mul_comm (m ^ (j + 1)) m]
      omega
    have h4 : 0 ≤ n * (n ^ (j + 1) - m ^ (j + 1)) := Int.mul_nonneg (by omega) (by omega)
    omega
theorem dd2 {m n : Int} (h0 : 0 ≤ m) (h : m ≤ n) (j : Nat) : n ^ (j + 2) - m ^ (j + 2) ≤ (n + m) * (n ^ (j + 1) - m ^ (j + 1)) := by
  have h2 := (dd h0 h j).2
  have e : n ^ (j + 2) - m ^ (j + 2) = n * (n ^ (j + 1) - m ^ (j + 1)) + m * ((n - m) * m ^ j) := by
    show n ^ (j + 1 + 1) - m ^ (j + 1 + 1) = _
    rw [Int.pow_succ n (j + 1), Int.pow_succ m (j + 1), Int.mul_sub, Int.mul_comm (n ^ (j + 1)) n, Int.mul_comm (m ^ (j + 1)) m, ← Int.mul_assoc, Int.mul_comm m (n - m), Int.mul_assoc (n - m) m, Int.mul_comm m (m ^ j), ← Int.pow_succ, Nat.succ_eq_add_one, Int.sub_mul]
    omega
  rw [e, Int.add_mul]
  have := Int.mul_le_mul_of_nonneg_left h2 h0
  omega
theorem gr_ge {c k : Nat} : 12 ≤ grN (c + 2 * (2 * k + 1)) 2 := by
  rw [gr2]
  exact Nat.le_trans (by decide : 12 ≤ 3 * 4) (Nat.mul_le_mul (by omega) (by omega))
/-- THE SUMS FALL. -/
theorem hV_fall {q : Nat} {c : Nat} {m n : Int} (h0 : 0 ≤ m) (h : m ≤ n) (hn : n ≤ 4 * (q : Int)) : ∀ i : Nat, 0 ≤ hV q c m (2 * i) - hV q c n (2 * i) ∧ n ^ (2 * i + 1) - m ^ (2 * i + 1) ≤ hV q c m (2 * i + 1) - hV q c n (2 * i + 1) := by
  have odd : ∀ i : Nat, 0 ≤ hV q c m (2 * i) - hV q c n (2 * i) → n ^ (2 * i + 1) - m ^ (2 * i + 1) ≤ hV q c m (2 * i + 1) - hV q c n (2 * i + 1) := by
    intro i h1
    show _ ≤ (hV q c m (2 * i) * (mQ q c (2 * i) : Nat) + (-m) ^ (2 * i + 1)) - (hV q c n (2 * i) * (mQ q c (2 * i) : Nat) + (-n) ^ (2 * i + 1))
    rw [(neg_pw m i).2, (neg_pw n i).2]
    have h2 : 0 ≤ (hV q c m (2 * i) - hV q c n (2 * i)) * ((mQ q c (2 * i) : Nat) : Int) := Int.mul_nonneg h1 (by omega)
    rw [Int.sub_mul] at h2
    omega
  intro i
  induction i with
  | zero => exact ⟨by simp [hV], odd 0 (by simp [hV])⟩
  | succ i ih =>
    obtain ⟨h1, h2⟩ := ih
    have h3 : 0 ≤ hV q c m (2 * (i + 1)) - hV q c n (2 * (i + 1)) := by
      show 0 ≤ (hV q c m (2 * i + 1) * (mQ q c (2 * i + 1) : Nat) + (-m) ^ (2 * (i + 1))) - (hV q c n (2 * i + 1) * (mQ q c (2 * i + 1) : Nat) + (-n) ^ (2 * (i + 1)))
      rw [(neg_pw m (i + 1)).1, (neg_pw n (i + 1)).1]
      have h4 := dd2 h0 h (2 * i)
      have h5 := (dd h0 h (2 * i + 1)).1
      have hM : 12 * (q : Int) ≤ ((mQ q c (2 * i + 1) : Nat) : Int) := by
        have : q * 12 ≤ mQ q c (2 * i + 1) := Nat.mul_le_mul (Nat.le_refl q) gr_ge
        omega
      have h6 := Int.mul_le_mul_of_nonneg_right h2 (show 0 ≤ ((mQ q c (2 * i + 1) : Nat) : Int) by omega)
      have h7 : (n + m) * (n ^ (2 * i + 1) - m ^ (2 * i + 1)) ≤ (n ^ (2 * i + 1) - m ^ (2 * i + 1)) * ((mQ q c (2 * i + 1) : Nat) : Int) := by
        rw [Int.mul_comm (n + m)]
        exact Int.mul_le_mul_of_nonneg_left (by omega) h5
      rw [Int.sub_mul (hV q c m (2 * i + 1))] at h6
      have e : n ^ (2 * (i + 1)) = n ^ (2 * i + 2) := rfl
      have e' : m ^ (2 * (i + 1)) = m ^ (2 * i + 2) := rfl
      rw [e, e']
      omega
    exact ⟨h3, odd (i + 1) h3⟩
theorem hV_mono {q : Nat} {c : Nat} {m n : Int} (h0 : 0 ≤ m) (h : m ≤ n) (hn : n ≤ 4 * (q : Int)) (k : Nat) : hV q c n k ≤ hV q c m k := by
  have h1 := hV_fall (c := c) h0 h hn (k / 2)
  have h2 := (dd h0 h (2 * (k / 2) + 1)).1
  rcases Nat.mod_two_eq_zero_or_one k with e | e
  · have : 2 * (k / 2) = k := by omega
    rw [this] at h1
    omega
  · have : 2 * (k / 2) + 1 = k := by omega
    rw [this] at h1 h2
    omega
/-- A sum of 13 terms is not below that of 12. -/
theorem hV_step {q : Nat} {c : Nat} (p : Int) (i : Nat) (h0 : 0 ≤ p) : hV q c p (2 * i + 1) * ((mQ q c (2 * i + 1) : Nat) : Int) ≤ hV q c p (2 * (i + 1)) := by
  show _ ≤ hV q c p (2 * i + 1) * (mQ q c (2 * i + 1) : Nat) + (-p) ^ (2 * (i + 1))
  rw [(neg_pw p (i + 1)).1]
  have := pw_nonneg h0 (2 * (i + 1))
  omega
/-- Sums of another measure. -/
theorem hV_scale {q r : Nat} {c : Nat} (p : Int) : ∀ k, hV (q * r) c (p * r) k = hV q c p k * (r : Int) ^ k
  | 0 => by simp [hV]
  | k + 1 => by
    show hV (q * r) c (p * r) k * ((q * r * grN (c + 2 * k) 2 : Nat) : Int) + (-(p * r)) ^ (k + 1) = (hV q c p k * ((q * grN (c + 2 * k) 2 : Nat) : Int) + (-p) ^ (k + 1)) * (r : Int) ^ (k + 1)
    rw [hV_scale p k, ← Int.neg_mul, Int.mul_pow, Int.add_mul]
    congr 1
    rw [Int.pow_succ]
    simp only [Int.natCast_mul]
    ac_rfl
theorem uQ_scale {q r : Nat} {c : Nat} : ∀ k, uQ (q * r) c k = uQ q c k * r ^ k
  | 0 => by simp [uQ]
  | k + 1 => by
    show uQ (q * r) c k * (q * r * grN (c + 2 * k) 2) = uQ q c k * (q * grN (c + 2 * k) 2) * r ^ (k + 1)
    rw [uQ_scale k, Nat.pow_succ]
    ac_rfl

theorem fall_t {c : Nat} {m n : Int} (h0 : 0 ≤ m) (h : m ≤ n) (hn : n ≤ 4194304) (k : Nat) : tV c n k ≤ tV c m k := by
  rw [tV_hV, tV_hV]
  exact hV_mono h0 h (by omega) k
theorem uN_pos' (c k : Nat) : (0 : Int) < ((uN c k : Nat) : Int) := by have := uN_pos c k; omega
theorem lo_mono {c : Nat} {m n : Int} (h0 : 0 ≤ m) (h : m ≤ n) (hn : n ≤ 4194304) : loK c n ≤ loK c m :=
  Int.ediv_le_ediv (uN_pos' c 11) (Int.mul_le_mul_of_nonneg_right (fall_t h0 h hn 11) (by decide))
theorem hi_mono {c : Nat} {m n : Int} (h0 : 0 ≤ m) (h : m ≤ n) (hn : n ≤ 4194304) : hiK c n ≤ hiK c m := by
  have := Int.ediv_le_ediv (uN_pos' c 12) (Int.neg_le_neg (Int.mul_le_mul_of_nonneg_right (fall_t (c := c) h0 h hn 12) (show (0 : Int) ≤ 1048576 by decide)))
  unfold hiK
  omega
theorem lo_u (c : Nat) {n : Int} (h0 : 0 ≤ n) : loK c n * ((uN c 12 : Nat) : Int) ≤ tV c n 12 * 1048576 := by
  have h1 : loK c n * ((uN c 11 : Nat) : Int) ≤ tV c n 11 * 1048576 := Int.ediv_mul_le _ (by have := uN_pos' c 11; omega)
  have h2 : tV c n 11 * ((mN c 11 : Nat) : Int) ≤ tV c n 12 := by
    rw [tV_hV, tV_hV]
    exact hV_step n 5 h0
  have h3 := Int.mul_le_mul_of_nonneg_right h1 (show 0 ≤ ((mN c 11 : Nat) : Int) by omega)
  have h4 := Int.mul_le_mul_of_nonneg_right h2 (show (0 : Int) ≤ 1048576 by decide)
  have e : ((uN c 12 : Nat) : Int) = ((uN c 11 : Nat) : Int) * ((mN c 11 : Nat) : Int) := by
    show ((uN c 11 * mN c 11 : Nat) : Int) = _
    rw [Int.natCast_mul]
  rw [e, ← Int.mul_assoc]
  have e2 : tV c n 11 * 1048576 * ((mN c 11 : Nat) : Int) = tV c n 11 * ((mN c 11 : Nat) : Int) * 1048576 := by ac_rfl
  omega
theorem hi_u (c : Nat) (n : Int) : tV c n 12 * 1048576 ≤ hiK c n * ((uN c 12 : Nat) : Int) := by
  have h1 := Int.ediv_mul_le (-(tV c n 12 * 1048576)) (b := ((uN c 12 : Nat) : Int)) (by have := uN_pos' c 12; omega)
  unfold hiK
  rw [Int.neg_mul]
  omega
theorem le_of_mul {a b u : Int} (h : a * u ≤ b * u) (hu : 0 < u) : a ≤ b := Int.le_of_mul_le_mul_right h hu
theorem lo_le_hi {c : Nat} {m n : Int} (h0 : 0 ≤ m) (h : m ≤ n) (hn : n ≤ 4194304) : loK c n ≤ hiK c m := by
  have h1 := lo_u c (n := n) (by omega)
  have h2 := hi_u c m
  have h3 := Int.mul_le_mul_of_nonneg_right (fall_t (c := c) h0 h hn 12) (show (0 : Int) ≤ 1048576 by decide)
  exact le_of_mul (by omega) (uN_pos' c 12)
theorem lo_four : -1048576 ≤ loK 0 4194304 ∧ -1048576 ≤ loK 1 4194304 ∧ -1048576 ≤ loK 2 4194304 := of_decide_eq_true (by kernel_rfl)
theorem hi_zero : hiK 0 0 ≤ 1048576 ∧ hiK 1 0 ≤ 1048576 ∧ hiK 2 0 ≤ 1048576 := of_decide_eq_true (by kernel_rfl)
theorem lo_bd {c : Nat} {n : Int} (hc : c ≤ 2) (h0 : 0 ≤ n) (hn : n ≤ 4194304) : -1048576 ≤ loK c n := by
  have h1 := lo_mono (c := c) h0 hn (Int.le_refl _)
  have h2 := lo_four
  rcases (by omega : c = 0 ∨ c = 1 ∨ c = 2) with rfl | rfl | rfl <;> omega
theorem hi_bd {c : Nat} {n : Int} (hc : c ≤ 2) (h0 : 0 ≤ n) (hn : n ≤ 4194304) : hiK c n ≤ 1048576 := by
  have h1 := hi_mono (c := c) (Int.le_refl 0) h0 hn
  have h2 := hi_zero
  rcases (by omega : c = 0 ∨ c = 1 ∨ c = 2) with rfl | rfl | rfl <;> omega
theorem four_of {s : Sp} (h : inB s fourS = true) : okB s = true ∧ 0 ≤ s.lo ∧ s.lo ≤ s.hi ∧ s.hi ≤ 4194304 := by
  obtain ⟨hk, h0, h1⟩ := (in_ok (D := fourS) rfl).1 h
  exact ⟨hk, h0, (ok_of hk).2.1, h1⟩
theorem enc_out {c : Nat} {s : Sp} (h : inB s fourS = false) : encS c s = lineS := by unfold encS; rw [h]; rfl
theorem enc_ok {c : Nat} {s : Sp} (hc : c ≤ 2) (h : inB s fourS = true) : okB (encS c s) = true ∧ encS c s = ⟨loK c s.hi, hiK c s.lo, false⟩ ∧ -1048576 ≤ loK c s.hi ∧ loK c s.hi ≤ hiK c s.lo ∧ hiK c s.lo ≤ 1048576 := by
  obtain ⟨_, h0, h1, h2⟩ := four_of h
  have b1 := lo_bd (c := c) (n := s.hi) hc (by omega) h2
  have b2 := hi_bd (c := c) (n := s.lo) hc h0 (by omega)
  have b3 := lo_le_hi (c := c) h0 h1 h2
  have hk : okB ⟨loK c s.hi, hiK c s.lo, false⟩ = true := ok_mk (by show _ ≤ loK c s.hi; omega) b3 (by show hiK c s.lo ≤ _; omega) rfl
  have e : encS c s = ⟨loK c s.hi, hiK c s.lo, false⟩ := by
    unfold encS
    rw [h, if_pos rfl, ofS_le b3, mkS_ok hk]
  exact ⟨e ▸ hk, e, b1, b3, b2⟩
theorem enc_inB {c : Nat} {x y : Sp} (hc : c ≤ 2) (h : inB x y = true) : inB (encS c x) (encS c y) = true := by
  cases hy : inB y fourS
  · rw [enc_out hy]; rfl
  · obtain ⟨ky, y0, y1, y2⟩ := four_of hy
    obtain ⟨kx, h1, h2⟩ := (in_ok ky).1 h
    have k := (ok_of kx).2.1
    have hx : inB x fourS = true := (in_ok (D := fourS) rfl).2 ⟨kx, by show 0 ≤ x.lo; omega, by show x.hi ≤ 4194304; omega⟩
    obtain ⟨o1, e1, _⟩ := enc_ok hc hx
    obtain ⟨o2, e2, _⟩ := enc_ok hc hy
    refine (in_ok o2).2 ⟨o1, ?_, ?_⟩
    · rw [e1, e2]; exact lo_mono (by omega) h2 y2
    · rw [e1, e2]; exact hi_mono y0 h1 (by omega)
/-- A fraction is in a span. -/
def Rin (x : Sp) (N U : Int) : Prop := x.lo * U ≤ N ∧ N ≤ x.hi * U
theorem rin_mul {x : Sp} {N U : Int} (h : Rin x N U) {k : Int} (hk : 0 ≤ k) : Rin x (N * k) (U * k) := by
  have h1 := Int.mul_le_mul_of_nonneg_right h.1 hk
  have h2 := Int.mul_le_mul_of_nonneg_right h.2 hk
  rw [Int.mul_assoc] at h1 h2
  exact ⟨h1, h2⟩
theorem rin_enc {c : Nat} {s : Sp} (hc : c ≤ 2) (h : inB s fourS = true) {r : Nat} {p : Int} (h1 : s.lo * r ≤ p) (h2 : p ≤ s.hi * r) : Rin (encS c s) (hV (1048576 * r) c p 12 * 1048576) ((uQ (1048576 * r) c 12 : Nat) : Int) := by
  obtain ⟨_, h0, hm, h4⟩ := four_of h
  obtain ⟨_, e, _⟩ := enc_ok hc h
  have hr : (0 : Int) ≤ (r : Int) := by omega
  have p0 : 0 ≤ s.lo * r := Int.mul_nonneg h0 hr
  have p4 : s.hi * r ≤ 4 * ((1048576 * r : Nat) : Int) := by
    have := Int.mul_le_mul_of_nonneg_right h4 hr
    simp only [Int.natCast_mul]
    omega
  have m1 := hV_mono (c := c) p0 h1 (show p ≤ 4 * ((1048576 * r : Nat) : Int) by omega) 12
  have m2 := hV_mono (c := c) (show 0 ≤ p by omega) h2 p4 12
  rw [hV_scale] at m1 m2
  rw [← tV_hV] at m1 m2
  have u1 := lo_u c (n := s.hi) (by omega)
  have u2 := hi_u c s.lo
  have hk : (0 : Int) ≤ (r : Int) ^ 12 := pw_nonneg hr 12
  have v1 := Int.mul_le_mul_of_nonneg_right u1 hk
  have v2 := Int.mul_le_mul_of_nonneg_right u2 hk
  rw [e]
  have eU : ((uQ (1048576 * r) c 12 : Nat) : Int) = ((uN c 12 : Nat) : Int) * (r : Int) ^ 12 := by
    rw [uQ_scale, ← uN_uQ, Int.natCast_mul, Int.natCast_pow]
  have f1 : tV c s.hi 12 * 1048576 * (r : Int) ^ 12 = tV c s.hi 12 * (r : Int) ^ 12 * 1048576 := by ac_rfl
  have f2 : tV c s.lo 12 * 1048576 * (r : Int) ^ 12 = tV c s.lo 12 * (r : Int) ^ 12 * 1048576 := by ac_rfl
  constructor
  · show loK c s.hi * _ ≤ _
    rw [eU, ← Int.mul_assoc]
    omega
  · show _ ≤ hiK c s.lo * _
    rw [eU, ← Int.mul_assoc]
    omega
theorem rin_add {x y : Sp} {N M U : Int} (h : okB (addS x y) = true) (hx : Rin x N U) (hy : Rin y M U) : Rin (addS x y) (N + M) U := by
  rcases add_cases x y with e | ⟨_, _, _, e⟩
  · rw [e] at h; cases h
  · rw [e]
    obtain ⟨a, b⟩ := hx
    obtain ⟨c, d⟩ := hy
    constructor
    · show (x.lo + y.lo) * U ≤ _
      rw [Int.add_mul]; omega
    · show _ ≤ (x.hi + y.hi) * U
      rw [Int.add_mul]; omega
theorem rin_neg {x : Sp} {N U : Int} (hk : okB x = true) (hx : Rin x N U) : Rin (negS x) (-N) U := by
  have e : negS x = ⟨-x.hi, -x.lo, false⟩ := by unfold negS; rw [hk]; rfl
  rw [e]
  obtain ⟨a, b⟩ := hx
  constructor
  · show -x.hi * U ≤ _
    rw [Int.neg_mul]; omega
  · show _ ≤ -x.lo * U
    rw [Int.neg_mul]; omega
theorem neg_ok {x : Sp} (hk : okB x = true) : okB (negS x) = true := by
  have e : negS x = ⟨-x.hi, -x.lo, false⟩ := by unfold negS; rw [hk]; rfl
  have k := ok_of hk
  rw [e]
  exact ok_mk (by show _ ≤ -x.hi; omega) (by show -x.hi ≤ -x.lo; omega) (by show -x.lo ≤ _; omega) rfl
theorem rin_sub {x y : Sp} {N M U : Int} (h : okB (subS x y) = true) (hx : Rin x N U) (hy : Rin y M U) : Rin (subS x y) (N - M) U := by
  have hk : okB y = true := by
    rcases add_cases x (negS y) with e | ⟨_, _, h2, _⟩
    · unfold subS at h; rw [e] at h; cases h
    · cases hy : okB y
      · unfold negS at h2; rw [hy] at h2; cases h2
      · rfl
  have := rin_add h hx (rin_neg hk hy)
  rwa [← Int.sub_eq_add_neg] at this
theorem rin_sqr {x : Sp} {N U : Int} (h : okB (sqrS x) = true) (hU : 0 < U) (hx : Rin x N U) : Rin (sqrS x) (N * N) (U * U * 1048576) := by
  have hk : okB x = true := by
    rcases sqr_cases x with e | ⟨_, h2, _⟩
    · rw [e] at h; cases h
    · exact h2
  have k := (ok_of hk).2.1
  have s1 := sqr_holds h (Int.le_refl x.lo) k
  have s2 := sqr_holds h k (Int.le_refl x.hi)
  have hUU : 0 ≤ U * U := Int.mul_nonneg (by omega) (by omega)
  have g1 := Int.mul_le_mul_of_nonneg_right s1.1 hUU
  have g2 := Int.mul_le_mul_of_nonneg_right s1.2 hUU
  have g3 := Int.mul_le_mul_of_nonneg_right s2.1 hUU
  have g4 := Int.mul_le_mul_of_nonneg_right s2.2 hUU
  have e1 : x.lo * U * (x.lo * U) = x.lo * x.lo * (U * U) := by ac_rfl
  have e2 : x.hi * U * (x.hi * U) = x.hi * x.hi * (U * U) := by ac_rfl
  have e3 : (sqrS x).lo * (U * U * 1048576) = (sqrS x).lo * 1048576 * (U * U) := by ac_rfl
  have e4 : (sqrS x).hi * (U * U * 1048576) = (sqrS x).hi * 1048576 * (U * U) := by ac_rfl
  have t1 := sqr_hold1 hx.1 hx.2
  rw [e1, e2] at t1
  constructor
  · rw [e3]
    by_cases h0 : x.lo ≤ 0 ∧ 0 ≤ x.hi
    · have s3 := (sqr_holds h h0.1 h0.2).1
      have g5 := Int.mul_le_mul_of_nonneg_right s3 hUU
      have := sq_pos N
      simp only [Int.mul_zero, Int.zero_mul] at g5
      omega
    · have t2 := sqr_hold2 hx.1 hx.2 (by
        rcases Int.lt_or_le 0 x.lo with q | q
        · exact .inl (Int.mul_pos q hU)
        · refine .inr ?_
          have : x.hi < 0 := by omega
          exact Int.mul_neg_of_neg_of_pos this hU)
      rw [e1, e2] at t2
      omega
  · rw [e4]
    omega
theorem rin_mulS {x y : Sp} {N M U V : Int} (h : okB (mulS x y) = true) (hU : 0 < U) (hV : 0 < V) (hx : Rin x N U) (hy : Rin y M V) : Rin (mulS x y) (N * M) (U * V * 1048576) := by
  obtain ⟨kx, ky⟩ : okB x = true ∧ okB y = true := by
    rcases mul_cases x y with e | ⟨_, h1, h2, _⟩
    · rw [e] at h; cases h
    · exact ⟨h1, h2⟩
  have k1 := (ok_of kx).2.1
  have k2 := (ok_of ky).2.1
  have hUV : 0 ≤ U * V := Int.mul_nonneg (by omega) (by omega)
  have B := bil (x := ⟨x.lo * U, x.hi * U, false⟩) (y := ⟨y.lo * V, y.hi * V, false⟩) hx.1 hx.2 hy.1 hy.2
  have c : ∀ a b : Int, a * U * (b * V) = a * b * (U * V) := fun a b => by ac_rfl
  unfold min4 max4 at B
  simp only [c] at B
  have m1 := mul_holds h (Int.le_refl x.lo) k1 (Int.le_refl y.lo) k2
  have m2 := mul_holds h (Int.le_refl x.lo) k1 k2 (Int.le_refl y.hi)
  have m3 := mul_holds h k1 (Int.le_refl x.hi) (Int.le_refl y.lo) k2
  have m4 := mul_holds h k1 (Int.le_refl x.hi) k2 (Int.le_refl y.hi)
  have q : ∀ {a b : Int}, a ≤ b → a * (U * V) ≤ b * (U * V) := fun h => Int.mul_le_mul_of_nonneg_right h hUV
  have a1 := q m1.1
  have a2 := q m2.1
  have a3 := q m3.1
  have a4 := q m4.1
  have b1 := q m1.2
  have b2 := q m2.2
  have b3 := q m3.2
  have b4 := q m4.2
  have e3 : (mulS x y).lo * (U * V * 1048576) = (mulS x y).lo * 1048576 * (U * V) := by ac_rfl
  have e4 : (mulS x y).hi * (U * V * 1048576) = (mulS x y).hi * 1048576 * (U * V) := by ac_rfl
  constructor
  · rw [e3]; omega
  · rw [e4]; omega
/-- Two spans that hold nearly the same meet. -/
theorem rin_le {x y : Sp} {N M D : Int} (hD : 0 < D) (hx : Rin x N D) (hy : Rin y M D) (h : N - M < D) : x.lo ≤ y.hi := by
  have h1 : x.lo * D < (y.hi + 1) * D := by
    rw [Int.add_mul]
    have := hx.1
    have := hy.2
    omega
  have := Int.lt_of_mul_lt_mul_right h1 (by omega)
  omega
theorem meet_of {x y : Sp} (h : okB x = true → okB y = true → x.lo ≤ y.hi ∧ y.lo ≤ x.hi) : meetB x y = true := by
  unfold meetB
  cases hx : okB x
  · rfl
  · cases hy : okB y
    · rfl
    · have k1 := (ok_of hx).2.1
      have k2 := (ok_of hy).2.1
      obtain ⟨h1, h2⟩ := h hx hy
      simp only [Bool.not_true, Bool.false_or, decide_eq_true_eq]
      omega
theorem has_of_rin {e : Sp} {n N D : Int} (hD : 0 < D) (h : okB e = true → Rin e N D ∧ N - n * D < D ∧ n * D - N < D) : hasB e n = true := by
  unfold hasB
  cases he : okB e
  · rfl
  · obtain ⟨⟨h1, h2⟩, h3, h4⟩ := h he
    have a1 : e.lo * D < (n + 1) * D := by rw [Int.add_mul]; omega
    have a2 : n * D < (e.hi + 1) * D := by rw [Int.add_mul]; omega
    have b1 := Int.lt_of_mul_lt_mul_right a1 (by omega)
    have b2 := Int.lt_of_mul_lt_mul_right a2 (by omega)
    simp only [Bool.not_true, Bool.false_or, Bool.and_eq_true, decide_eq_true_eq]
    omega
theorem of_one {n : Int} : ofS n n = lineS ∨ (okB (ofS n n) = true ∧ ofS n n = ⟨n, n, false⟩ ∧ -2147483647 ≤ n ∧ n ≤ 2147483647) := by
  rw [ofS_le (Int.le_refl n)]
  cases h : okB ⟨n, n, false⟩
  · exact .inl (mkS_no h)
  · have k := ok_of h
    exact .inr ⟨by rw [mkS_ok h]; exact h, mkS_ok h, k.1, k.2.2.1⟩
theorem rin_low {c : Nat} {s : Sp} {n : Int} (hc : c ≤ 2) (h : inB s fourS = true) (h1 : s.lo ≤ n) (h2 : n ≤ s.hi) : Rin (encS c s) (tV c n 11 * 1048576) ((uN c 11 : Nat) : Int) := by
  obtain ⟨_, h0, hm, h4⟩ := four_of h
  obtain ⟨_, e, _⟩ := enc_ok hc h
  rw [e]
  have hm11 : (0 : Int) < ((mN c 11 : Nat) : Int) := by have := mN_pos c 11; omega
  constructor
  · show loK c s.hi * _ ≤ _
    have g1 : loK c s.hi ≤ loK c n := lo_mono (by omega) h2 h4
    have g2 : loK c n * ((uN c 11 : Nat) : Int) ≤ tV c n 11 * 1048576 := Int.ediv_mul_le _ (by have := uN_pos' c 11; omega)
    have g3 := Int.mul_le_mul_of_nonneg_right g1 (show 0 ≤ ((uN c 11 : Nat) : Int) by omega)
    omega
  · show _ ≤ hiK c s.lo * _
    have g1 : hiK c n ≤ hiK c s.lo := hi_mono h0 h1 (by omega)
    have g2 := hi_u c n
    have g3 : tV c n 11 * ((mN c 11 : Nat) : Int) ≤ tV c n 12 := by
      rw [tV_hV, tV_hV]
      exact hV_step n 5 (by omega)
    have e : ((uN c 12 : Nat) : Int) = ((uN c 11 : Nat) : Int) * ((mN c 11 : Nat) : Int) := by
      show ((uN c 11 * mN c 11 : Nat) : Int) = _
      rw [Int.natCast_mul]
    have g4 := Int.mul_le_mul_of_nonneg_right g3 (show (0 : Int) ≤ 1048576 by decide)
    rw [e, ← Int.mul_assoc] at g2
    have e2 : tV c n 11 * ((mN c 11 : Nat) : Int) * 1048576 = tV c n 11 * 1048576 * ((mN c 11 : Nat) : Int) := by ac_rfl
    have g5 : tV c n 11 * 1048576 ≤ hiK c n * ((uN c 11 : Nat) : Int) := le_of_mul (by omega) hm11
    have g6 := Int.mul_le_mul_of_nonneg_right g1 (show 0 ≤ ((uN c 11 : Nat) : Int) by omega)
    omega
theorem rin_top {c : Nat} {s : Sp} {n : Int} (hc : c ≤ 2) (h : inB s fourS = true) (h1 : s.lo ≤ n) (h2 : n ≤ s.hi) : Rin (encS c s) (tV c n 12 * 1048576) ((uN c 12 : Nat) : Int) := by
  obtain ⟨_, h0, hm, h4⟩ := four_of h
  obtain ⟨_, e, _⟩ := enc_ok hc h
  rw [e]
  constructor
  · show loK c s.hi * _ ≤ _
    have g1 : loK c s.hi ≤ loK c n := lo_mono (by omega) h2 h4
    have g3 := Int.mul_le_mul_of_nonneg_right g1 (show 0 ≤ ((uN c 12 : Nat) : Int) by omega)
    have := lo_u c (n := n) (by omega)
    omega
  · show _ ≤ hiK c s.lo * _
    have g1 : hiK c n ≤ hiK c s.lo := hi_mono h0 h1 (by omega)
    have g3 := Int.mul_le_mul_of_nonneg_right g1 (show 0 ≤ ((uN c 12 : Nat) : Int) by omega)
    have := hi_u c n
    omega
theorem line_no {x y : Sp} (h : okB x = false) : mulS x y = lineS ∧ addS x y = lineS := by
  constructor
  · rcases mul_cases x y with e | ⟨_, h2, _⟩
    · exact e
    · rw [h] at h2; cases h2
  · rcases add_cases x y with e | ⟨_, h2, _⟩
    · exact e
    · rw [h] at h2; cases h2
theorem sub_of {x y : Sp} (h : okB (subS x y) = true) : okB x = true ∧ okB y = true := by
  rcases add_cases x (negS y) with e | ⟨_, h1, h2, _⟩
  · unfold subS at h; rw [e] at h; cases h
  · refine ⟨h1, ?_⟩
    cases hy : okB y
    · unfold negS at h2; rw [hy] at h2; cases h2
    · rfl
theorem mul_of {x y : Sp} (h : okB (mulS x y) = true) : okB x = true ∧ okB y = true := by
  rcases mul_cases x y with e | ⟨_, h1, h2, _⟩
  · rw [e] at h; cases h
  · exact ⟨h1, h2⟩
theorem in_of_enc {c : Nat} {s : Sp} (h : okB (encS c s) = true) : inB s fourS = true := by
  cases hs : inB s fourS
  · rw [enc_out hs] at h; cases h
  · rfl
end Go.Proofs.Ytpahkpcoinbgcaa
