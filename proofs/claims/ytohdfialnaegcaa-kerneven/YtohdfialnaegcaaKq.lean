/- Sines and cosines of numbers: what is enclosed holds them; what is left of their rules is small. No statement of the seat is proved here. -/
import Derived.Test.YtohdfialnaegcaaKp
namespace Go.Proofs.Ytohdfialnaegcaa
open Go.RowKit

def kK (q : Nat) : Int := ((uQ q 1 12 : Nat) : Int)
def lE (q : Nat) : List Int := addP (addP (sclP (625 * (q : Int)) (mulP (hP q 0 12) (hP q 0 12))) (0 :: mulP (hP q 1 12) (hP q 1 12))) [-(kK q * kK q * (q : Int))]
theorem c20 : ev (absP (lE 1048576)) 4194304 < kK 1048576 * kK 1048576 := of_decide_eq_true (by kernel_rfl)
theorem c40 : ev (absP (lE (1048576 * 1048576))) 4398046511104 < kK (1048576 * 1048576) * kK (1048576 * 1048576) * 1048576 := of_decide_eq_true (by kernel_rfl)
def hX (q : Nat) : List Int := evens (hP q 0 12)
def hS (q : Nat) : List Int := 0 :: evens (hP q 1 12)
def lF (q : Nat) : List (List Int) := add2 (scl2 [25] (add2 (mul2 (inX (hS q)) [hX q]) (mul2 (inX (hX q)) [hS q]))) (scl2 [-kK q] (inXY (hS q)))
def lG (q : Nat) : List (List Int) := add2 (add2 (scl2 [625 * (q : Int)] (mul2 (inX (hX q)) [hX q])) (scl2 [-1] (mul2 (inX (hS q)) [hS q]))) (scl2 [-(25 * (q : Int) * kK q)] (inXY (hX q)))
theorem cF : ev2 (abs2 (lF (1048576 * 1048576))) 2097152 2097152 < kK (1048576 * 1048576) * kK (1048576 * 1048576) := of_decide_eq_true (by kernel_rfl)
theorem cG : ev2 (abs2 (lG (1048576 * 1048576))) 2097152 2097152 < kK (1048576 * 1048576) * kK (1048576 * 1048576) * 1048576 := of_decide_eq_true (by kernel_rfl)
theorem k_pos {q : Nat} (h : 0 < q) : 0 < kK q := by
  have := uQ_pos h 1 12
  show (0 : Int) < ((uQ q 1 12 : Nat) : Int)
  omega
theorem k_20 : ((uQ 1048576 0 12 : Nat) : Int) * 25 = kK 1048576 := by kernel_rfl
theorem k_40 : ((uQ (1048576 * 1048576) 0 12 : Nat) : Int) * 25 = kK (1048576 * 1048576) := by kernel_rfl
theorem lE_ev (q : Nat) (p : Int) : ev (lE q) p = 625 * (q : Int) * (hV q 0 p 12 * hV q 0 p 12) + p * (hV q 1 p 12 * hV q 1 p 12) - kK q * kK q * (q : Int) := by
  unfold lE
  rw [ev_add, ev_add, ev_scl, ev_mul, hP_ev]
  show _ + (0 + p * ev (mulP _ _) p) + (-(kK q * kK q * (q : Int)) + p * 0) = _
  rw [ev_mul, hP_ev]
  omega
/-- The squares of sine and cosine make nearly one. -/
theorem circ20 {p : Int} (h0 : 0 ≤ p) (h1 : p ≤ 4194304) : -(kK 1048576 * kK 1048576) < 625 * 1048576 * (hV 1048576 0 p 12 * hV 1048576 0 p 12) + p * (hV 1048576 1 p 12 * hV 1048576 1 p 12) - kK 1048576 * kK 1048576 * 1048576 ∧ 625 * 1048576 * (hV 1048576 0 p 12 * hV 1048576 0 p 12) + p * (hV 1048576 1 p 12 * hV 1048576 1 p 12) - kK 1048576 * kK 1048576 * 1048576 < kK 1048576 * kK 1048576 := by
  have a := ev_abs (x := p) (B := 4194304) (by omega) h1 (lE 1048576)
  have c := c20
  have e := lE_ev 1048576 p
  replace e : ev (lE 1048576) p = 625 * 1048576 * (hV 1048576 0 p 12 * hV 1048576 0 p 12) + p * (hV 1048576 1 p 12 * hV 1048576 1 p 12) - kK 1048576 * kK 1048576 * 1048576 := e
  rw [← e]
  omega
theorem circ40 {p : Int} (h0 : 0 ≤ p) (h1 : p ≤ 4398046511104) : -(kK (1048576 * 1048576) * kK (1048576 * 1048576) * 1048576) < 625 * 1099511627776 * (hV (1048576 * 1048576) 0 p 12 * hV (1048576 * 1048576) 0 p 12) + p * (hV (1048576 * 1048576) 1 p 12 * hV (1048576 * 1048576) 1 p 12) - kK (1048576 * 1048576) * kK (1048576 * 1048576) * 1099511627776 ∧ 625 * 1099511627776 * (hV (1048576 * 1048576) 0 p 12 * hV (1048576 * 1048576) 0 p 12) + p * (hV (1048576 * 1048576) 1 p 12 * hV (1048576 * 1048576) 1 p 12) - kK (1048576 * 1048576) * kK (1048576 * 1048576) * 1099511627776 < kK (1048576 * 1048576) * kK (1048576 * 1048576) * 1048576 := by
  have a := ev_abs (x := p) (B := 4398046511104) (by omega) h1 (lE (1048576 * 1048576))
  have c := c40
  have e := lE_ev (1048576 * 1048576) p
  replace e : ev (lE (1048576 * 1048576)) p = 625 * 1099511627776 * (hV (1048576 * 1048576) 0 p 12 * hV (1048576 * 1048576) 0 p 12) + p * (hV (1048576 * 1048576) 1 p 12 * hV (1048576 * 1048576) 1 p 12) - kK (1048576 * 1048576) * kK (1048576 * 1048576) * 1099511627776 := e
  rw [← e]
  omega
/-- The sums at an angle. -/
def C0 (x : Int) : Int := hV (1048576 * 1048576) 0 (x * x) 12
def S1 (x : Int) : Int := hV (1048576 * 1048576) 1 (x * x) 12
def KK : Int := kK (1048576 * 1048576)
theorem kk_pos : 0 < KK := k_pos (by decide)
theorem sqr_of {x : Sp} (h : okB (sqrS x) = true) : okB x = true := by
  rcases sqr_cases x with e | ⟨_, h2, _⟩
  · rw [e] at h; cases h
  · exact h2
theorem add_of {x y : Sp} (h : okB (addS x y) = true) : okB x = true ∧ okB y = true := by
  rcases add_cases x y with e | ⟨_, h1, h2, _⟩
  · rw [e] at h; cases h
  · exact ⟨h1, h2⟩
theorem one_of {x : Int} (h : okB (ofS x x) = true) : ofS x x = ⟨x, x, false⟩ := by
  rcases of_one (n := x) with e | ⟨_, e, _⟩
  · rw [e] at h; cases h
  · exact e
theorem sq_in {x : Int} (h : inB (sqrS (ofS x x)) fourS = true) : okB (ofS x x) = true ∧ (sqrS (ofS x x)).lo * 1048576 ≤ x * x ∧ x * x ≤ (sqrS (ofS x x)).hi * 1048576 ∧ x * x ≤ 4398046511104 := by
  obtain ⟨hk, h0, h1, h2⟩ := four_of h
  have ho := sqr_of hk
  have e := one_of ho
  have l1 : (ofS x x).lo ≤ x := by rw [e]; exact Int.le_refl x
  have l2 : x ≤ (ofS x x).hi := by rw [e]; exact Int.le_refl x
  have s := sqr_holds hk l1 l2
  exact ⟨ho, s.1, s.2, by omega⟩
theorem rin_cos {x : Int} (h : okB (cosS (ofS x x)) = true) : Rin (cosS (ofS x x)) (25 * C0 x * 1048576) KK := by
  have hin := in_of_enc (c := 0) h
  obtain ⟨_, h1, h2, _⟩ := sq_in hin
  have r := rin_mul (rin_enc (c := 0) (r := 1048576) (p := x * x) (by omega) hin h1 h2) (k := 25) (by decide)
  rw [k_40] at r
  have e : hV (1048576 * 1048576) 0 (x * x) 12 * 1048576 * 25 = 25 * C0 x * 1048576 := by show C0 x * 1048576 * 25 = _; omega
  rw [e] at r
  exact r
theorem rin_sin {x : Int} (h : okB (sinS (ofS x x)) = true) : Rin (sinS (ofS x x)) (x * S1 x * 1048576) (KK * 1048576) := by
  obtain ⟨ho, he⟩ := mul_of (x := ofS x x) (y := encS 1 (sqrS (ofS x x))) h
  have hin := in_of_enc (c := 1) he
  obtain ⟨_, h1, h2, _⟩ := sq_in hin
  have r := rin_enc (c := 1) (r := 1048576) (p := x * x) (by omega) hin h1 h2
  have rx : Rin (ofS x x) x 1 := by rw [one_of ho]; exact ⟨by show x * 1 ≤ x; omega, by show x ≤ x * 1; omega⟩
  have m := rin_mulS (x := ofS x x) (y := encS 1 (sqrS (ofS x x))) h (by decide) (show 0 < ((uQ (1048576 * 1048576) 1 12 : Nat) : Int) from kk_pos) rx r
  rw [Int.one_mul] at m
  have e : x * (hV (1048576 * 1048576) 1 (x * x) 12 * 1048576) = x * S1 x * 1048576 := by show x * (S1 x * 1048576) = _; rw [Int.mul_assoc]
  rw [e] at m
  exact m
theorem sin_in {x : Int} (h : okB (sinS (ofS x x)) = true) : x * x ≤ 4398046511104 := by
  obtain ⟨_, he⟩ := mul_of (x := ofS x x) (y := encS 1 (sqrS (ofS x x))) h
  exact (sq_in (in_of_enc (c := 1) he)).2.2.2
theorem circA {x : Int} (h : x * x ≤ 4398046511104) : -(KK * KK * 1048576) < 625 * 1099511627776 * (C0 x * C0 x) + x * x * (S1 x * S1 x) - KK * KK * 1099511627776 ∧ 625 * 1099511627776 * (C0 x * C0 x) + x * x * (S1 x * S1 x) - KK * KK * 1099511627776 < KK * KK * 1048576 := circ40 (sq_pos x) h
theorem hX_ev (x : Int) : ev (hX (1048576 * 1048576)) x = C0 x := by unfold hX; rw [ev_evens, hP_ev]; rfl
theorem hS_ev (x : Int) : ev (hS (1048576 * 1048576)) x = x * S1 x := by
  show 0 + x * ev (evens _) x = _
  rw [ev_evens, hP_ev, Int.zero_add]
  rfl
theorem lF_ev (x y : Int) : ev2 (lF (1048576 * 1048576)) x y = 25 * (x * S1 x * C0 y + C0 x * (y * S1 y)) - KK * ((x + y) * S1 (x + y)) := by
  unfold lF
  rw [ev2_add, ev2_scl, ev2_scl, ev2_add, ev2_mul, ev2_mul, ev2_inX, ev2_inX, ev2_inY, ev2_inY, ev2_inXY, hX_ev, hX_ev, hS_ev, hS_ev, hS_ev]
  show (25 + y * 0) * _ + (-KK + y * 0) * _ = _
  rw [Int.mul_zero, Int.add_zero, Int.add_zero, Int.neg_mul]
  omega
theorem lG_ev (x y : Int) : ev2 (lG (1048576 * 1048576)) x y = 625 * 1099511627776 * (C0 x * C0 y) - x * S1 x * (y * S1 y) - 25 * 1099511627776 * KK * C0 (x + y) := by
  unfold lG
  rw [ev2_add, ev2_add, ev2_scl, ev2_scl, ev2_scl, ev2_mul, ev2_mul, ev2_inX, ev2_inX, ev2_inY, ev2_inY, ev2_inXY, hX_ev, hX_ev, hX_ev, hS_ev, hS_ev]
  show (625 * 1099511627776 + y * 0) * _ + (-1 + y * 0) * _ + (-(25 * 1099511627776 * KK) + y * 0) * _ = _
  simp only [Int.mul_zero, Int.add_zero, Int.neg_mul]
  omega
theorem addsF {x y : Int} (h1 : -2097152 ≤ x) (h2 : x ≤ 2097152) (h3 : -2097152 ≤ y) (h4 : y ≤ 2097152) : -(KK * KK) < 25 * (x * S1 x * C0 y + C0 x * (y * S1 y)) - KK * ((x + y) * S1 (x + y)) ∧ 25 * (x * S1 x * C0 y + C0 x * (y * S1 y)) - KK * ((x + y) * S1 (x + y)) < KK * KK := by
  have a := ev2_abs h1 h2 h3 h4 (lF (1048576 * 1048576))
  have c : ev2 (abs2 (lF (1048576 * 1048576))) 2097152 2097152 < KK * KK := cF
  rw [← lF_ev]
  omega
theorem addsG {x y : Int} (h1 : -2097152 ≤ x) (h2 : x ≤ 2097152) (h3 : -2097152 ≤ y) (h4 : y ≤ 2097152) : -(KK * KK * 1048576) < 625 * 1099511627776 * (C0 x * C0 y) - x * S1 x * (y * S1 y) - 25 * 1099511627776 * KK * C0 (x + y) ∧ 625 * 1099511627776 * (C0 x * C0 y) - x * S1 x * (y * S1 y) - 25 * 1099511627776 * KK * C0 (x + y) < KK * KK * 1048576 := by
  have a := ev2_abs h1 h2 h3 h4 (lG (1048576 * 1048576))
  have c : ev2 (abs2 (lG (1048576 * 1048576))) 2097152 2097152 < KK * KK * 1048576 := cG
  rw [← lG_ev]
  omega
end Go.Proofs.Ytohdfialnaegcaa
