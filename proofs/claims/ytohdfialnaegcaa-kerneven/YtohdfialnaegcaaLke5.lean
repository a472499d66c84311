/- The walk of the law KernEven, for any span. -/
import Derived.Test.YtohdfialnaegcaaLke4
import Derived.Test.YtohdfialnaegcaaKaf
import Derived.Test.YtohdfialnaegcaaKq
namespace Go.Proofs.Ytohdfialnaegcaa
open Go.RowKit

theorem neg_mk {x : Sp} (h : okB x = true) : negS x = ⟨-x.hi, -x.lo, false⟩ := by unfold negS; rw [h]; rfl
theorem neg_no {x : Sp} (h : okB x = false) : negS x = lineS := by unfold negS; rw [h]; rfl
theorem join_comm (x y : Sp) : joinS x y = joinS y x := by
  unfold joinS
  rw [Bool.and_comm, Int.min_comm, Int.max_comm]
theorem mulR_nn (a : Int) : mulR (-a) (-a) = mulR a a := by
  unfold mulR
  rw [Int.neg_mul_neg]
theorem sqr_neg (x : Sp) : sqrS (negS x) = sqrS x := by
  cases hx : okB x
  · rw [neg_no hx]
    unfold sqrS
    rw [hx]
    rfl
  · have hn := neg_ok hx
    have e := neg_mk hx
    unfold sqrS
    rw [hx, hn, e, if_pos rfl, if_pos rfl]
    show (if -x.hi ≤ 0 ∧ 0 ≤ -x.lo then joinS (joinS (mulR (-x.hi) (-x.hi)) (mulR (-x.lo) (-x.lo))) ⟨0, 0, false⟩ else joinS (mulR (-x.hi) (-x.hi)) (mulR (-x.lo) (-x.lo))) = _
    rw [mulR_nn, mulR_nn, join_comm (mulR x.hi x.hi)]
    by_cases h : x.lo ≤ 0 ∧ 0 ≤ x.hi
    · rw [if_pos h, if_pos (by omega)]
    · rw [if_neg h, if_neg (by omega)]
theorem mulR_ok_neg {a b : Int} (h : okB (mulR a b) = true) : okB (mulR (-a) b) = true := by
  have e := mulR_of h
  rw [e] at h
  have k := ok_of h
  replace k : -2147483647 ≤ a * b / 1048576 ∧ a * b / 1048576 ≤ -(-(a * b) / 1048576) ∧ -(-(a * b) / 1048576) ≤ 2147483647 := ⟨k.1, k.2.1, k.2.2.1⟩
  unfold mulR
  rw [Int.neg_mul, Int.neg_neg]
  rw [okB_mk]
  exact ok_mk (by show _ ≤ -(a * b) / 1048576; omega) (by show -(a * b) / 1048576 ≤ -(a * b / 1048576); omega) (by show -(a * b / 1048576) ≤ _; omega) rfl
theorem mul_ok_neg {x y : Sp} (h : okB (mulS x y) = true) : okB (mulS (negS x) y) = true := by
  obtain ⟨hx, hy, h1, h2, h3, h4⟩ := ends_of (R := mulR) h
  have hn := neg_ok hx
  have e := neg_mk hx
  have g := ends_ok (R := mulR) (x := negS x) (y := y) hn hy (by rw [e]; exact mulR_ok_neg h3) (by rw [e]; exact mulR_ok_neg h4) (by rw [e]; exact mulR_ok_neg h1) (by rw [e]; exact mulR_ok_neg h2)
  rcases ends_cases mulR (negS x) y with e2 | ⟨hk, _⟩
  · rw [e2] at g
    have := congrArg Sp.all g
    cases this
  · exact hk
theorem neg_neg {x : Sp} (h : okB x = true) : negS (negS x) = x := by
  have k := ok_of h
  rw [neg_mk (neg_ok h), neg_mk h]
  obtain ⟨l, u, c⟩ := x
  have : c = false := k.2.2.2
  subst this
  show (⟨- -l, - -u, false⟩ : Sp) = _
  rw [Int.neg_neg, Int.neg_neg]
theorem min_neg (x y : Sp) : min4 ⟨-x.hi, -x.lo, false⟩ y = -max4 x y ∧ max4 ⟨-x.hi, -x.lo, false⟩ y = -min4 x y := by
  unfold min4 max4
  show min (min (min (-x.hi * y.lo) (-x.hi * y.hi)) (-x.lo * y.lo)) (-x.lo * y.hi) = _ ∧ max (max (max (-x.hi * y.lo) (-x.hi * y.hi)) (-x.lo * y.lo)) (-x.lo * y.hi) = _
  simp only [Int.neg_mul]
  omega
theorem mul_neg (x y : Sp) : mulS (negS x) y = negS (mulS x y) := by
  rcases mul_cases x y with e | ⟨h, hx, hy, e⟩
  · rw [e]
    show _ = lineS
    rcases mul_cases (negS x) y with e2 | ⟨h2, hx2, _⟩
    · exact e2
    · exfalso
      cases hx : okB x
      · rw [neg_no hx] at hx2; cases hx2
      · have := mul_ok_neg h2
        rw [neg_neg hx, e] at this
        cases this
  · rw [neg_mk h]
    rcases mul_cases (negS x) y with e2 | ⟨_, _, _, e2⟩
    · have := mul_ok_neg h
      rw [e2] at this
      cases this
    · rw [e2, e, neg_mk hx, (min_neg x y).1, (min_neg x y).2]
      show (⟨-max4 x y / 1048576, -(- -min4 x y / 1048576), false⟩ : Sp) = ⟨- -(-max4 x y / 1048576), -(min4 x y / 1048576), false⟩
      rw [Int.neg_neg, Int.neg_neg]
theorem sin_neg (x : Sp) : sinS (negS x) = negS (sinS x) := by
  unfold sinS
  rw [sqr_neg, mul_neg]
theorem cos_neg (x : Sp) : cosS (negS x) = cosS x := by
  unfold cosS
  rw [sqr_neg]
/-- How far apart the sums can be. -/
theorem gr_ge2 {c k : Nat} : 12 ≤ grN (c + 2 * (2 * k + 2)) 2 := by
  rw [gr2]
  exact Nat.le_trans (by decide : 12 ≤ 5 * 6) (Nat.mul_le_mul (by omega) (by omega))
theorem hV_lip {q : Nat} {c : Nat} {m n : Int} (h0 : 0 ≤ m) (h : m ≤ n) (hn : n ≤ 4 * (q : Int)) : ∀ i : Nat, (hV q c m (2 * i + 1) - hV q c n (2 * i + 1)) * ((uQ q c 1 : Nat) : Int) ≤ (n - m) * ((uQ q c (2 * i + 1) : Nat) : Int)
  | 0 => by
    have e : hV q c m (2 * 0 + 1) - hV q c n (2 * 0 + 1) = n - m := by
      show (1 * ((mQ q c 0 : Nat) : Int) + (-m) ^ 1) - (1 * ((mQ q c 0 : Nat) : Int) + (-n) ^ 1) = _
      rw [Int.pow_succ, Int.pow_zero, Int.pow_succ, Int.pow_zero]
      omega
    rw [e]
    exact Int.le_refl _
  | i + 1 => by
    have ih := hV_lip (c := c) h0 h hn i
    have d3 := dd2 h0 h (2 * i + 1)
    have d2 := (dd h0 h (2 * i + 2)).1
    have hM : 12 * (q : Int) ≤ ((mQ q c (2 * i + 2) : Nat) : Int) := by
      have : q * 12 ≤ mQ q c (2 * i + 2) := Nat.mul_le_mul (Nat.le_refl q) gr_ge2
      omega
    have d4 : (n + m) * (n ^ (2 * i + 1 + 1) - m ^ (2 * i + 1 + 1)) ≤ (n ^ (2 * i + 1 + 1) - m ^ (2 * i + 1 + 1)) * ((mQ q c (2 * i + 2) : Nat) : Int) := by
      rw [Int.mul_comm (n + m)]
      exact Int.mul_le_mul_of_nonneg_left (by omega) d2
    have e1 : hV q c m (2 * (i + 1) + 1) = (hV q c m (2 * i + 1) * ((mQ q c (2 * i + 1) : Nat) : Int) + m ^ (2 * i + 2)) * ((mQ q c (2 * i + 2) : Nat) : Int) - m ^ (2 * i + 3) := by
      show (hV q c m (2 * i + 1) * ((mQ q c (2 * i + 1) : Nat) : Int) + (-m) ^ (2 * (i + 1))) * ((mQ q c (2 * i + 2) : Nat) : Int) + (-m) ^ (2 * (i + 1) + 1) = _
      rw [(neg_pw m (i + 1)).1, (neg_pw m (i + 1)).2, Int.sub_eq_add_neg]
      rfl
    have e2 : hV q c n (2 * (i + 1) + 1) = (hV q c n (2 * i + 1) * ((mQ q c (2 * i + 1) : Nat) : Int) + n ^ (2 * i + 2)) * ((mQ q c (2 * i + 2) : Nat) : Int) - n ^ (2 * i + 3) := by
      show (hV q c n (2 * i + 1) * ((mQ q c (2 * i + 1) : Nat) : Int) + (-n) ^ (2 * (i + 1))) * ((mQ q c (2 * i + 2) : Nat) : Int) + (-n) ^ (2 * (i + 1) + 1) = _
      rw [(neg_pw n (i + 1)).1, (neg_pw n (i + 1)).2, Int.sub_eq_add_neg]
      rfl
    have eU : ((uQ q c (2 * (i + 1) + 1) : Nat) : Int) = ((uQ q c (2 * i + 1) : Nat) : Int) * ((mQ q c (2 * i + 1) : Nat) : Int) * ((mQ q c (2 * i + 2) : Nat) : Int) := by
      show ((uQ q c (2 * i + 1) * mQ q c (2 * i + 1) * mQ q c (2 * i + 2) : Nat) : Int) = _
      rw [Int.natCast_mul, Int.natCast_mul]
    have hM1 : 0 ≤ ((mQ q c (2 * i + 1) : Nat) : Int) := by omega
    have hM2 : 0 ≤ ((mQ q c (2 * i + 2) : Nat) : Int) := by omega
    have hU1 : 0 ≤ ((uQ q c 1 : Nat) : Int) := by omega
    have k1 := Int.mul_le_mul_of_nonneg_right (Int.mul_le_mul_of_nonneg_right ih hM1) hM2
    replace d3 : n ^ (2 * i + 3) - m ^ (2 * i + 3) ≤ (n + m) * (n ^ (2 * i + 1 + 1) - m ^ (2 * i + 1 + 1)) := d3
    have d5 : (n ^ (2 * i + 3) - m ^ (2 * i + 3)) - (n ^ (2 * i + 2) - m ^ (2 * i + 2)) * ((mQ q c (2 * i + 2) : Nat) : Int) ≤ 0 := by
      show _ - (n ^ (2 * i + 1 + 1) - m ^ (2 * i + 1 + 1)) * _ ≤ 0
      omega
    have k2 := Int.mul_le_mul_of_nonneg_right d5 hU1
    rw [e1, e2, eU]
    generalize ((mQ q c (2 * i + 1) : Nat) : Int) = M1 at *
    generalize ((mQ q c (2 * i + 2) : Nat) : Int) = M2 at *
    generalize ((uQ q c 1 : Nat) : Int) = U1 at *
    generalize ((uQ q c (2 * i + 1) : Nat) : Int) = U2 at *
    generalize n ^ (2 * i + 3) = n3 at *
    generalize m ^ (2 * i + 3) = m3 at *
    generalize n ^ (2 * i + 2) = n2 at *
    generalize m ^ (2 * i + 2) = m2 at *
    generalize hV q c m (2 * i + 1) = a at *
    generalize hV q c n (2 * i + 1) = b at *
    have e : ((a * M1 + m2) * M2 - m3 - ((b * M1 + n2) * M2 - n3)) * U1 = (a - b) * U1 * M1 * M2 + ((n3 - m3) - (n2 - m2) * M2) * U1 := by grind
    have e' : (n - m) * (U2 * M1 * M2) = (n - m) * U2 * M1 * M2 := by grind
    rw [e, e']
    rw [Int.zero_mul] at k2
    omega
theorem u_small : 4194304 ^ 12 * 1048576 * 4 ≤ ((uN 0 12 : Nat) : Int) ∧ 4194304 ^ 12 * 1048576 * 4 ≤ ((uN 1 12 : Nat) : Int) := of_decide_eq_true (by kernel_rfl)
theorem pow_le12 {m : Int} (h0 : 0 ≤ m) (h : m ≤ 4194304) : ∀ k : Nat, m ^ k ≤ 4194304 ^ k
  | 0 => by rw [Int.pow_zero, Int.pow_zero]; exact Int.le_refl 1
  | k + 1 => by
    rw [Int.pow_succ, Int.pow_succ]
    exact Int.mul_le_mul (pow_le12 h0 h k) h h0 (pw_nonneg (by decide) k)
theorem enc_width {c : Nat} (hc : c ≤ 1) {m n : Int} (h0 : 0 ≤ m) (h : m ≤ n) (h1 : n ≤ m + 1) (hn : n ≤ 4194304) : hiK c m - loK c n ≤ 2 := by
  have hl := hV_lip (q := 1048576) (c := c) h0 h (by omega) 5
  replace hl : (hV 1048576 c m 11 - hV 1048576 c n 11) * ((uQ 1048576 c 1 : Nat) : Int) ≤ (n - m) * ((uQ 1048576 c 11 : Nat) : Int) := hl
  have hu : 2097152 ≤ ((uQ 1048576 c 1 : Nat) : Int) := by
    rcases (by omega : c = 0 ∨ c = 1) with rfl | rfl
    · exact of_decide_eq_true (by kernel_rfl)
    · exact of_decide_eq_true (by kernel_rfl)
  rw [← tV_hV, ← tV_hV, ← uN_uQ c 11] at hl
  have p11 := uN_pos' c 11
  have hf := fall_t (c := c) h0 h hn 11
  have g1 : (tV c m 11 - tV c n 11) * 2097152 ≤ ((uN c 11 : Nat) : Int) := by
    have a1 := Int.mul_le_mul_of_nonneg_left hu (show 0 ≤ tV c m 11 - tV c n 11 by omega)
    have a2 := Int.mul_le_mul_of_nonneg_right (show n - m ≤ 1 by omega) (show 0 ≤ ((uN c 11 : Nat) : Int) by omega)
    rw [Int.one_mul] at a2
    omega
  have g2 : tV c n 11 * 1048576 < (loK c n + 1) * ((uN c 11 : Nat) : Int) := Int.lt_ediv_add_one_mul_self _ p11
  have g3 : hiK c m * ((uN c 12 : Nat) : Int) < tV c m 12 * 1048576 + ((uN c 12 : Nat) : Int) := by
    have := Int.lt_ediv_add_one_mul_self (-(tV c m 12 * 1048576)) (uN_pos' c 12)
    unfold hiK
    rw [Int.add_mul] at this
    rw [Int.neg_mul]
    omega
  have eT : tV c m 12 = tV c m 11 * ((mN c 11 : Nat) : Int) + m ^ 12 := by
    show tV c m 11 * ((mN c 11 : Nat) : Int) + (-m) ^ 12 = _
    rw [show (-m) ^ 12 = m ^ 12 from (neg_pw m 6).1]
  have eU : ((uN c 12 : Nat) : Int) = ((uN c 11 : Nat) : Int) * ((mN c 11 : Nat) : Int) := by
    show ((uN c 11 * mN c 11 : Nat) : Int) = _
    rw [Int.natCast_mul]
  have ht : m ^ 12 * 1048576 * 4 ≤ ((uN c 12 : Nat) : Int) := by
    have a := pow_le12 h0 (by omega) 12
    have b := u_small
    have a' := Int.mul_le_mul_of_nonneg_right a (show (0 : Int) ≤ 1048576 * 4 by decide)
    rw [← Int.mul_assoc, ← Int.mul_assoc] at a'
    rcases (by omega : c = 0 ∨ c = 1) with rfl | rfl
    · exact Int.le_trans a' b.1
    · exact Int.le_trans a' b.2
  have pm : (0 : Int) < ((mN c 11 : Nat) : Int) := by have := mN_pos c 11; omega
  have p12 := uN_pos' c 12
  have k1 := Int.mul_le_mul_of_nonneg_right g1 (show 0 ≤ ((mN c 11 : Nat) : Int) by omega)
  have k2 := Int.mul_lt_mul_of_pos_right g2 pm
  rw [eT] at g3
  generalize hiK c m = H at *
  generalize loK c n = L at *
  generalize tV c m 11 = A at *
  generalize tV c n 11 = B at *
  generalize m ^ 12 = P at *
  generalize ((mN c 11 : Nat) : Int) = M at *
  generalize ((uN c 12 : Nat) : Int) = V at *
  generalize ((uN c 11 : Nat) : Int) = U at *
  subst eU
  have f1 : (A - B) * 2097152 * M = 2097152 * (A * M) - 2097152 * (B * M) := by grind
  have f2 : (L + 1) * U * M = L * (U * M) + U * M := by grind
  have f3 : (A * M + P) * 1048576 = 1048576 * (A * M) + P * 1048576 := by grind
  have f4 : B * 1048576 * M = 1048576 * (B * M) := by grind
  rw [f1] at k1
  rw [f2, f4] at k2
  rw [f3] at g3
  have : H * (U * M) < (L + 3) * (U * M) := by
    rw [Int.add_mul]
    omega
  have := Int.lt_of_mul_lt_mul_right this (by omega)
  omega
theorem sq_width {k : Int} (h : okB (sqrS ⟨k, k, false⟩) = true) : (sqrS ⟨k, k, false⟩).hi ≤ (sqrS ⟨k, k, false⟩).lo + 1 := by
  rcases sqr_cases ⟨k, k, false⟩ with e | ⟨_, hx, hm, _⟩
  · rw [e] at h; cases h
  · replace hm : okB (mulR k k) = true := hm
    have e1 := mulR_of hm
    have j1 : joinS (mulR k k) (mulR k k) = ⟨k * k / 1048576, -(-(k * k) / 1048576), false⟩ := by
      rw [join_ok hm hm, e1]
      show (⟨min _ _, max _ _, false⟩ : Sp) = _
      rw [Int.min_self, Int.max_self]
    by_cases hz : k = 0
    · subst hz
      show (0 : Int) ≤ 0 + 1
      decide
    · have e2 : sqrS ⟨k, k, false⟩ = joinS (mulR k k) (mulR k k) := by
        unfold sqrS
        rw [hx, if_pos rfl, if_neg (by show ¬ (k ≤ 0 ∧ 0 ≤ k); omega)]
      rw [e2, j1]
      show -(-(k * k) / 1048576) ≤ k * k / 1048576 + 1
      omega
theorem lt_of_sq {z M : Int} (h0 : 0 ≤ M) (h : z * z < M * M) : -M < z ∧ z < M := by
  constructor
  · refine Int.lt_of_not_ge fun g => ?_
    have := Int.mul_le_mul (show M ≤ -z by omega) (show M ≤ -z by omega) h0 (by omega)
    rw [Int.neg_mul_neg] at this
    omega
  · refine Int.lt_of_not_ge fun g => ?_
    have := Int.mul_le_mul (show M ≤ z by omega) (show M ≤ z by omega) h0 (by omega)
    omega
theorem sin_one {k : Int} (h : okB (sinS (ofS k k)) = true) : (sinS (ofS k k)).lo ≤ 1048576 ∧ -1048576 ≤ (sinS (ofS k k)).hi := by
  have r := rin_sin h
  have c := (circA (sin_in h)).2
  have kp := kk_pos
  have hz : (k * S1 k) * (k * S1 k) < (KK * 1048577) * (KK * 1048577) := by
    have e1 : (k * S1 k) * (k * S1 k) = k * k * (S1 k * S1 k) := by grind
    have e2 : (KK * 1048577) * (KK * 1048577) = KK * KK * 1099513724929 := by grind
    have := sq_pos (C0 k)
    have := sq_pos KK
    rw [e1, e2]
    generalize k * k * (S1 k * S1 k) = a at *
    generalize C0 k * C0 k = b at *
    generalize KK * KK = d at *
    omega
  obtain ⟨z1, z2⟩ := lt_of_sq (by omega) hz
  obtain ⟨r1, r2⟩ := r
  generalize k * S1 k = z at *
  have hp : 0 < KK * 1048576 := by omega
  constructor
  · have : (sinS (ofS k k)).lo * (KK * 1048576) < 1048577 * (KK * 1048576) := by omega
    have := Int.lt_of_mul_lt_mul_right this (by omega)
    omega
  · have : -1048577 * (KK * 1048576) < (sinS (ofS k k)).hi * (KK * 1048576) := by omega
    have := Int.lt_of_mul_lt_mul_right this (by omega)
    omega
theorem even_cos {k : Int} : (cosS ⟨k, k, false⟩).hi - (cosS ⟨k, k, false⟩).lo ≤ 2 ∧ 0 ≤ (cosS ⟨k, k, false⟩).hi - (cosS ⟨k, k, false⟩).lo ∧ (okB (cosS ⟨k, k, false⟩) = true → (cosS ⟨k, k, false⟩).lo ≤ 1048576 ∧ -1048576 ≤ (cosS ⟨k, k, false⟩).hi) := by
  unfold cosS
  cases hin : inB (sqrS ⟨k, k, false⟩) fourS
  · rw [enc_out hin]
    exact ⟨by decide, by decide, fun h => by cases h⟩
  · obtain ⟨hk, p0, p1, p4⟩ := four_of hin
    obtain ⟨_, e, b1, b2, b3⟩ := enc_ok (c := 0) (by omega) hin
    have := enc_width (c := 0) (by omega) p0 p1 (sq_width hk) p4
    rw [e]
    exact ⟨this, by show 0 ≤ hiK 0 _ - loK 0 _; omega, fun _ => ⟨by show loK 0 _ ≤ _; omega, by show _ ≤ hiK 0 _; omega⟩⟩
theorem even_sin {k : Int} (h1 : -2097152 ≤ k) (h2 : k ≤ 2097152) : (sinS ⟨k, k, false⟩).hi - (sinS ⟨k, k, false⟩).lo ≤ 6 ∧ 0 ≤ (sinS ⟨k, k, false⟩).hi - (sinS ⟨k, k, false⟩).lo := by
  unfold sinS
  rcases mul_cases ⟨k, k, false⟩ (encS 1 (sqrS ⟨k, k, false⟩)) with e | ⟨ho, _, hy, e⟩
  · rw [e]; exact ⟨by decide, by decide⟩
  · have hin := in_of_enc hy
    obtain ⟨hk, p0, p1, p4⟩ := four_of hin
    obtain ⟨_, f, b1, b2, b3⟩ := enc_ok (c := 1) (by omega) hin
    have hw := enc_width (c := 1) (by omega) p0 p1 (sq_width hk) p4
    have hle := (ok_of ho).2.1
    rw [e] at hle ⊢
    rw [f] at hle ⊢
    generalize loK 1 (sqrS ⟨k, k, false⟩).hi = l at *
    generalize hiK 1 (sqrS ⟨k, k, false⟩).lo = u at *
    unfold min4 max4 at *
    replace hle : min (min (min (k * l) (k * u)) (k * l)) (k * u) / 1048576 ≤ -(-max (max (max (k * l) (k * u)) (k * l)) (k * u) / 1048576) := hle
    show -(-max (max (max (k * l) (k * u)) (k * l)) (k * u) / 1048576) - min (min (min (k * l) (k * u)) (k * l)) (k * u) / 1048576 ≤ 6 ∧ 0 ≤ -(-max (max (max (k * l) (k * u)) (k * l)) (k * u) / 1048576) - min (min (min (k * l) (k * u)) (k * l)) (k * u) / 1048576
    refine ⟨?_, by omega⟩
    have hu : k * u = k * l ∨ k * u = k * l + k ∨ k * u = k * l + k * 2 := by
      rcases (by omega : u = l ∨ u = l + 1 ∨ u = l + 2) with g | g | g
      · left; rw [g]
      · right; left; rw [g, Int.mul_add, Int.mul_one]
      · right; right; rw [g, Int.mul_add]
    generalize k * u = A at *
    generalize k * l = B at *
    omega
theorem KernEven_any (x : Sp) (w : World) : Calls Try.prog 11 #[.agg #[.int .i64 x.lo, .int .i64 x.hi, .bool x.all]] w (PVal (.bool true) w) := by
  have hA := kawake_any
  have Ha := kSin_any x
  have Hn := sNeg_any x
  have Hb := kSin_any (negS x)
  have Hc := kCos_any x
  have Hd := kCos_at (cos_neg x)
  have Hna := kNeg_at (sin_neg x).symm
  by_cases h0 : x.all = true
  · exact Even_0 x _ _ _ _ hA Ha Hn Hb Hc Hd Hna h0 w
  have h0' : x.all = false := by simpa using h0
  by_cases h1 : x.lo = x.hi
  · obtain ⟨k, k', c⟩ := x
    replace h1 : k = k' := h1
    replace h0' : c = false := h0'
    subst h1
    subst h0'
    by_cases d2 : k < -2097152
    · exact Even_2 k _ _ _ _ hA Ha Hn Hb Hc Hd Hna (decide_eq_true d2) w
    by_cases d3 : 2097152 < k
    · exact Even_3 k _ _ _ _ hA Ha Hn Hb Hc Hd Hna (decide_eq_false d2) (decide_eq_true d3) w
    have es := even_sin (k := k) (by omega) (by omega)
    have ec := even_cos (k := k)
    have eo : ofS k k = ⟨k, k, false⟩ := one_of (by
      have hk : okB ⟨k, k, false⟩ = true := ok_mk (by show _ ≤ k; omega) (Int.le_refl k) (by show k ≤ _; omega) rfl
      rw [ofS_le (Int.le_refl k), mkS_ok hk]; exact hk)
    have hm1 : meetB (sinS ⟨k, k, false⟩) ⟨-1048576, 1048576, false⟩ = true := meet_of fun hk _ => by
      have := sin_one (k := k) (by rw [eo]; exact hk)
      rw [eo] at this
      exact this
    have hm2 : meetB (cosS ⟨k, k, false⟩) ⟨-1048576, 1048576, false⟩ = true := meet_of fun hk _ => ec.2.2 hk
    exact Even_4 k _ _ _ _ ⟨-1048576, 1048576, false⟩ _ _ hA Ha Hn Hb Hc Hd Hna (kOf_at (by kernel_rfl)) (kMeet_at hm1) (kMeet_at hm2) (decide_eq_false d2) (decide_eq_false d3) (IntWalk.i64_in _ (by omega)) (IntWalk.i64_in _ (by omega)) (decide_eq_true (by omega)) (decide_eq_true (by omega)) w
  · exact Even_1 x _ _ _ _ hA Ha Hn Hb Hc Hd Hna h1 h0' w
end Go.Proofs.Ytohdfialnaegcaa
