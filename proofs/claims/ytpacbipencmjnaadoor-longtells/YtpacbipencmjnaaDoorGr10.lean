/- The document's numbers: the walk of Of. -/
import Derived.Test.YtpacbipencmjnaaDoorGr9
import Derived.Laws.AppendOwnNone
import Derived.StillTail
import Derived.Deep.RegionHeld3
import Derived.KernelRfl
namespace Go.Proofs.YtpacbipencmjnaaDoor
open Go.RowKit

theorem div10 (N k : Nat) : N / 10 ^ k / 10 = N / 10 ^ (k + 1) := by rw [Nat.div_div_eq_div_mul, Nat.pow_succ]
theorem of_k {N k : Nat} (hN : N ≤ 9223372036854775808) (h : N / 10 ^ k ≠ 0) : k < 20 := by
  refine Nat.lt_of_not_le fun hc => h ?_
  exact Nat.div_eq_of_lt (Nat.lt_of_lt_of_le (show N < 10 ^ 20 by omega) (Nat.pow_le_pow_right (by decide) hc))
theorem neg_tm (R : Int) (h : 0 ≤ R) : (-R).tmod 10 = -(R % 10) := by rw [Int.neg_tmod, Int.tmod_eq_emod_of_nonneg h]
theorem neg_td (R : Int) (h : 0 ≤ R) : (-R).tdiv 10 = -(R / 10) := by rw [Int.neg_tdiv, Int.tdiv_eq_ediv_of_nonneg h]

set_option maxHeartbeats 3200000 in
theorem rOf_pos (N : Nat) (w : World) (hN : N ≤ 9223372036854775807) :
    Calls Tryd.prog 29 #[.int .i64 (((N : Nat) : Int))] w (PRNumF (((N : Nat) : Int)) w) := by
  obtain ⟨i0, hi0, hz0, hzz1, hzz2⟩ := info_parts Tryd.rinfo3
  have HI := Lib.hid (And.intro hi0 (And.intro hz0 (And.intro hzz1 hzz2)))
  have HN : Hid (N ≤ 9223372036854775808) := show N ≤ 9223372036854775808 by omega
  obtain ⟨R0, hR0⟩ : ∃ R0 : Int, R0 = ((N : Nat) : Int) := ⟨_, rfl⟩
  have hR1 : 0 ≤ R0 := by omega
  have hR2 : R0 ≤ 9223372036854775807 := by omega
  rw [← hR0]
  have HR0 := Lib.hid hR0
  have dneg : decide (R0 < 0) = false := decide_eq_false (by omega)
  have hR := res_one w 28
  clear hi0 hz0 hzz1 hzz2 hN hR0
  go_enter Tryd.func29, Tryd.ntmps29
  go_wp2
  generalize w.alloc (.cells #[.bool false, .slice none 0 0] 28) = w1 at *
  go_loopw [0, 3] (fun nv dv wr => ∃ k : Nat, k ≤ 20 ∧ nv = .int .i64 (((N / 10 ^ k : Nat) : Int)) ∧ wr.ownsRow w1.heap.size 3 1 dv k (vals .i64 (dig N) k) ∧ Below w1.heap.size w1 wr) (fun nv _ _ => (intOf nv).natAbs)
  case atStart => exact ⟨0, by omega, by rw [Nat.pow_zero, Nat.div_one, ← HR0.out], World.ownsRow_nil _ _ _ _, Below.refl _ _⟩
  case round =>
    obtain ⟨k, hk, rfl, how, hbl⟩ := hrel
    have hdv : N / 10 ^ k ≤ N := Nat.div_le_self _ _
    have hM := HN.out
    obtain ⟨M, hMe⟩ : ∃ M : Nat, M = N / 10 ^ k := ⟨_, rfl⟩
    rw [← hMe] at hdv ⊢
    obtain ⟨R, hRe⟩ : ∃ R : Int, R = ((M : Nat) : Int) := ⟨_, rfl⟩
    have hRa : 0 ≤ R := by omega
    have hRb : R ≤ 9223372036854775807 := by have := HR0.out; omega
    rw [← hRe]
    by_cases hz : M = 0
    · have HFIN : Hid (N < 10 ^ k) := by
        rcases Nat.div_eq_zero_iff.1 (hMe.symm.trans hz) with h | h
        · have := p10 k; omega
        · exact h
      obtain ⟨a4, c4, rfl, hlie, hfr⟩ := owned_fresh how
      obtain rfl : R = 0 := by omega
      have hRr := hR.later hbl
      clear how hdv hM hRe hz hMe
      go_wp2_with fail
      refine (rmade_any false a4 k c4 N _ hlie HFIN.out).mono ?_
      rintro e w3 ⟨bl3, n3, c3, rfl, hnum, hb3⟩
      have hR3 := hRr.later hb3
      have rB0 := hR3.r0
      have rB1 := hR3.r1
      have fB0 := hR3.f0
      have fB1 := hR3.f1
      go_wp2
      refine bodyPost_ret (v := .agg #[.bool bl3, .slice a4 n3 c3]) (by simp [results, Tryd.results29, go_sem, rB0, rB1]) rfl ?_
      have e1 : sg false N = R0 := by rw [HR0.out]; rfl
      rw [e1] at hnum
      exact rnumf_store hnum hR3.below (Nat.le_refl _) (fun p hp => by have h1 := hfr p hp; have h2 := hR.sz; omega)
    · have hk2 := of_k HN.out (fun e => hz (hMe.trans e))
      have hdl := dig_lt N k
      have HD0 : Hid (R % 10 = ((dig N k : Nat) : Int)) := by show _ = _; unfold dig; rw [← hMe]; omega
      have HQ : Hid (R / 10 = ((N / 10 ^ (k + 1) : Nat) : Int)) := by show _ = _; rw [← div10, ← hMe]; omega
      have hRp : 0 < R := by omega
      have dz : (R == 0) = false := by simp; omega
      have dz2 : (R != 0) = true := by simp; omega
      clear hdv hM hz hdl hMe hRe
      have HD := HD0
      have hm1 : ¬ R % 10 < 0 := by omega
      have hm2 : 0 ≤ R % 10 := by omega
      have HMS : Hid ((R / 10).natAbs < R.natAbs) := show (R / 10).natAbs < R.natAbs by omega
      go_wp2_with (first
        | (at_builtin; refine wpList_append_own _ rfl _ _ 26 rfl w1.heap.size 3 i0 (.int .i64 0) 1 8 Tryd.ru26 HI.out.1 HI.out.2.1 HI.out.2.2.1 HI.out.2.2.2 rfl (by decide) _ _ _ rfl (how.alloc _) ⟨wr.heap.size, 0, none⟩ 1 1 [.int .i64 (R % 10)] rfl rfl ?ac1 ?ac2 ?ac3 ?ac4 ?ac5 ?_)
        | fail)
      (try case ac1 => exact cell_one_new _ _ _)
      case ac2 => first | rfl | (intro u hu; simp at hu; subst hu; rfl)
      case ac3 => unfold maxLen; omega
      case ac4 => omega
      case ac5 => (have := hbl.size; first | omega | (simp; done) | (simp; omega))
      intro v' w3 hown' hgrow _
      have hb3 : Below w1.heap.size w1 w3 := (hbl.alloc hbl.size _).grown hgrow (by have := hbl.size; simp; omega) (fun q hq => (how.lt q hq).1)
      rw [HD.out] at hown'
      have hown2 : w3.ownsRow w1.heap.size 3 1 v' (k + 1) (vals .i64 (dig N) (k + 1)) := by rw [← vals_succ]; exact hown'
      clear hgrow how
      go_wp2
      go_roundw
      case rel => exact ⟨k + 1, by omega, by rw [HQ.out], hown2, hb3⟩
      case measure => simp only [intOf]; exact HMS.out

set_option maxHeartbeats 3200000 in
theorem rOf_neg (N : Nat) (w : World) (hN : N ≤ 9223372036854775808) (h0 : 0 < N) :
    Calls Tryd.prog 29 #[.int .i64 (-((N : Nat) : Int))] w (PRNumF (-((N : Nat) : Int)) w) := by
  obtain ⟨i0, hi0, hz0, hzz1, hzz2⟩ := info_parts Tryd.rinfo3
  have HI := Lib.hid (And.intro hi0 (And.intro hz0 (And.intro hzz1 hzz2)))
  have HN : Hid (N ≤ 9223372036854775808) := show N ≤ 9223372036854775808 by omega
  obtain ⟨R0, hR0⟩ : ∃ R0 : Int, R0 = ((N : Nat) : Int) := ⟨_, rfl⟩
  have hR1 : 0 < R0 := by omega
  have hR2 : R0 ≤ 9223372036854775808 := by omega
  rw [← hR0]
  have HR0 := Lib.hid hR0
  have dneg : decide (-R0 < 0) = true := decide_eq_true (by omega)
  have hR := res_one w 28
  clear hi0 hz0 hzz1 hzz2 hN hR0 h0
  go_enter Tryd.func29, Tryd.ntmps29
  go_wp2
  generalize w.alloc (.cells #[.bool false, .slice none 0 0] 28) = w1 at *
  go_loopw [0, 3] (fun nv dv wr => ∃ k : Nat, k ≤ 20 ∧ nv = .int .i64 (-((N / 10 ^ k : Nat) : Int)) ∧ wr.ownsRow w1.heap.size 3 1 dv k (vals .i64 (dig N) k) ∧ Below w1.heap.size w1 wr) (fun nv _ _ => (intOf nv).natAbs)
  case atStart => exact ⟨0, by omega, by rw [Nat.pow_zero, Nat.div_one, ← HR0.out], World.ownsRow_nil _ _ _ _, Below.refl _ _⟩
  case round =>
    obtain ⟨k, hk, rfl, how, hbl⟩ := hrel
    have hdv : N / 10 ^ k ≤ N := Nat.div_le_self _ _
    have hM := HN.out
    obtain ⟨M, hMe⟩ : ∃ M : Nat, M = N / 10 ^ k := ⟨_, rfl⟩
    rw [← hMe] at hdv ⊢
    obtain ⟨R, hRe⟩ : ∃ R : Int, R = ((M : Nat) : Int) := ⟨_, rfl⟩
    have hRa : 0 ≤ R := by omega
    have hRb : R ≤ 9223372036854775808 := by have := HR0.out; omega
    rw [← hRe]
    by_cases hz : M = 0
    · have HFIN : Hid (N < 10 ^ k) := by
        rcases Nat.div_eq_zero_iff.1 (hMe.symm.trans hz) with h | h
        · have := p10 k; omega
        · exact h
      obtain ⟨a4, c4, rfl, hlie, hfr⟩ := owned_fresh how
      obtain rfl : R = 0 := by omega
      have hRr := hR.later hbl
      clear how hdv hM hRe hz hMe
      go_wp2_with fail
      refine (rmade_any true a4 k c4 N _ hlie HFIN.out).mono ?_
      rintro e w3 ⟨bl3, n3, c3, rfl, hnum, hb3⟩
      have hR3 := hRr.later hb3
      have rB0 := hR3.r0
      have rB1 := hR3.r1
      have fB0 := hR3.f0
      have fB1 := hR3.f1
      go_wp2
      refine bodyPost_ret (v := .agg #[.bool bl3, .slice a4 n3 c3]) (by simp [results, Tryd.results29, go_sem, rB0, rB1]) rfl ?_
      have e1 : sg true N = -R0 := by rw [HR0.out]; rfl
      rw [e1] at hnum
      exact rnumf_store hnum hR3.below (Nat.le_refl _) (fun p hp => by have h1 := hfr p hp; have h2 := hR.sz; omega)
    · have hk2 := of_k HN.out (fun e => hz (hMe.trans e))
      have hdl := dig_lt N k
      have HD0 : Hid (R % 10 = ((dig N k : Nat) : Int)) := by show _ = _; unfold dig; rw [← hMe]; omega
      have HQ : Hid (R / 10 = ((N / 10 ^ (k + 1) : Nat) : Int)) := by show _ = _; rw [← div10, ← hMe]; omega
      have hRp : 0 < R := by omega
      have dz : (-R == 0) = false := by simp; omega
      have dz2 : (-R != 0) = true := by simp; omega
      clear hdv hM hz hdl hMe hRe
      have e1 := neg_tm R hRa
      have e2 := neg_td R hRa
      have HMS : Hid ((-(R / 10)).natAbs < (-R).natAbs) := show (-(R / 10)).natAbs < (-R).natAbs by omega
      by_cases hc : R % 10 = 0
      · have HD : Hid ((0 : Int) = ((dig N k : Nat) : Int)) := by show _ = _; rw [← HD0.out]; exact hc.symm
        rw [hc] at e1
        clear hc HD0
        go_wp2_with (first
          | (at_builtin; refine wpList_append_own _ rfl _ _ 26 rfl w1.heap.size 3 i0 (.int .i64 0) 1 8 Tryd.ru26 HI.out.1 HI.out.2.1 HI.out.2.2.1 HI.out.2.2.2 rfl (by decide) _ _ _ rfl (how.alloc _) ⟨wr.heap.size, 0, none⟩ 1 1 [.int .i64 (0)] rfl rfl ?bc1 ?bc2 ?bc3 ?bc4 ?bc5 ?_)
          | fail)
        (try case bc1 => exact cell_one_new _ _ _)
        case bc2 => first | rfl | (intro u hu; simp at hu; subst hu; rfl)
        case bc3 => unfold maxLen; omega
        case bc4 => omega
        case bc5 => (have := hbl.size; first | omega | (simp; done) | (simp; omega))
        intro v' w3 hown' hgrow _
        have hb3 : Below w1.heap.size w1 w3 := (hbl.alloc hbl.size _).grown hgrow (by have := hbl.size; simp; omega) (fun q hq => (how.lt q hq).1)
        rw [HD.out] at hown'
        have hown2 : w3.ownsRow w1.heap.size 3 1 v' (k + 1) (vals .i64 (dig N) (k + 1)) := by rw [← vals_succ]; exact hown'
        clear hgrow how
        go_wp2
        go_roundw
        case rel => exact ⟨k + 1, by omega, by rw [← HQ.out], hown2, hb3⟩
        case measure => simp only [intOf]; exact HMS.out
      · have HD := HD0
        have hm1 : 0 < R % 10 := by omega
        have hm2 : R % 10 ≤ 9 := by omega
        clear hc HD0
        go_wp2_with (first
          | (at_builtin; refine wpList_append_own _ rfl _ _ 26 rfl w1.heap.size 3 i0 (.int .i64 0) 1 8 Tryd.ru26 HI.out.1 HI.out.2.1 HI.out.2.2.1 HI.out.2.2.2 rfl (by decide) _ _ _ rfl (how.alloc _) ⟨wr.heap.size, 0, none⟩ 1 1 [.int .i64 (R % 10)] rfl rfl ?cc1 ?cc2 ?cc3 ?cc4 ?cc5 ?_)
          | fail)
        (try case cc1 => exact cell_one_new _ _ _)
        case cc2 => first | rfl | (intro u hu; simp at hu; subst hu; rfl)
        case cc3 => unfold maxLen; omega
        case cc4 => omega
        case cc5 => (have := hbl.size; first | omega | (simp; done) | (simp; omega))
        intro v' w3 hown' hgrow _
        have hb3 : Below w1.heap.size w1 w3 := (hbl.alloc hbl.size _).grown hgrow (by have := hbl.size; simp; omega) (fun q hq => (how.lt q hq).1)
        rw [HD.out] at hown'
        have hown2 : w3.ownsRow w1.heap.size 3 1 v' (k + 1) (vals .i64 (dig N) (k + 1)) := by rw [← vals_succ]; exact hown'
        clear hgrow how
        go_wp2
        go_roundw
        case rel => exact ⟨k + 1, by omega, by rw [← HQ.out], hown2, hb3⟩
        case measure => simp only [intOf]; exact HMS.out

theorem rOf_any (z : Int) (w : World) (h1 : -9223372036854775808 ≤ z) (h2 : z ≤ 9223372036854775807) : Calls Tryd.prog 29 #[.int .i64 z] w (PRNumF z w) := by
  by_cases hz : z < 0
  · have := rOf_neg z.natAbs w (by omega) (by omega)
    rwa [show -((z.natAbs : Nat) : Int) = z from by omega] at this
  · have := rOf_pos z.natAbs w (by omega)
    rwa [show ((z.natAbs : Nat) : Int) = z from by omega] at this
end Go.Proofs.YtpacbipencmjnaaDoor

/- The document's long division, digit by digit: what one digit does to the rest and to the quotient (no walk). -/
namespace Go.Proofs.YtpacbipencmjnaaDoor
open Go.RowKit

/-- What stands over the divisor when digit i has been brought down. -/
def partS (A B i : Nat) : Nat := 10 * (A / 10 ^ (i + 1) % B) + dig A i
/-- The quotient's row when the digits from i on are reckoned. -/
def partQ (Q i p : Nat) : Nat := if p < i then 0 else dig Q p
/-- The same within digit i, when the divisor has been taken off j times. -/
def partJ (Q i j p : Nat) : Nat := if p = i then j else partQ Q (i + 1) p

theorem part_up (A i : Nat) : A / 10 ^ i = 10 * (A / 10 ^ (i + 1)) + dig A i := by
  unfold dig
  rw [← div10]
  omega
theorem partS_lt {A B i : Nat} (hB : 0 < B) : partS A B i < 10 * B := by
  have h1 := Nat.mod_lt (A / 10 ^ (i + 1)) hB
  have h2 := dig_lt A i
  unfold partS
  omega
theorem part_whole (A B i : Nat) : A / 10 ^ i = partS A B i + B * (10 * (A / 10 ^ (i + 1) / B)) := by
  have h1 := part_up A i
  have h2 := Nat.div_add_mod (A / 10 ^ (i + 1)) B
  have h3 : B * (10 * (A / 10 ^ (i + 1) / B)) = 10 * (B * (A / 10 ^ (i + 1) / B)) := Nat.mul_left_comm _ _ _
  unfold partS
  omega
theorem partS_mod (A B i : Nat) : partS A B i % B = A / 10 ^ i % B := by
  rw [part_whole A B i, Nat.add_mul_mod_self_left]
theorem partS_div {A B i : Nat} (hB : 0 < B) : partS A B i / B = dig (A / B) i := by
  have h1 : partS A B i / B < 10 := Nat.div_lt_of_lt_mul (by rw [Nat.mul_comm]; exact partS_lt hB)
  have h2 : A / B / 10 ^ i = partS A B i / B + 10 * (A / 10 ^ (i + 1) / B) := by
    rw [Nat.div_div_eq_div_mul, Nat.mul_comm, ← Nat.div_div_eq_div_mul, part_whole A B i, Nat.add_mul_div_left _ _ hB]
  unfold dig
  rw [h2, Nat.add_mul_mod_self_left, Nat.mod_eq_of_lt h1]
/-- A round within a digit: the divisor is taken off once more. -/
theorem part_more {S B j : Nat} (h : B ≤ S - j * B) (hj : j * B ≤ S) : (j + 1) * B ≤ S ∧ S - j * B - B = S - (j + 1) * B := by
  rw [Nat.add_mul, Nat.one_mul]
  omega
theorem part_few {A B i j : Nat} (hB : 0 < B) (hj : j * B ≤ partS A B i) : j < 10 := by
  have h1 := partS_lt (A := A) (i := i) hB
  exact Nat.lt_of_mul_lt_mul_right (Nat.lt_of_le_of_lt hj h1)
/-- The end of a digit. -/
theorem part_last {A B i j : Nat} (hB : 0 < B) (hj : j * B ≤ partS A B i) (h : partS A B i - j * B < B) : j = dig (A / B) i ∧ partS A B i - j * B = A / 10 ^ i % B := by
  have e : partS A B i = (partS A B i - j * B) + B * j := by rw [Nat.mul_comm B]; omega
  constructor
  · rw [← partS_div hB, e, Nat.add_mul_div_left _ _ hB, Nat.div_eq_of_lt h, Nat.zero_add]
  · rw [← partS_mod A B i, e, Nat.add_mul_mod_self_left, Nat.mod_eq_of_lt h, ← e]
theorem part_first {A B n : Nat} (hA : A < 10 ^ n) : A / 10 ^ n % B = 0 := by rw [Nat.div_eq_of_lt hA, Nat.zero_mod]
theorem partQ_start (Q n : Nat) : ∀ p, p < n → partQ Q n p = 0 := fun p hp => by unfold partQ; rw [if_pos hp]
theorem partQ_end (Q n : Nat) : ∀ p, p < n → partQ Q 0 p = dig Q p := fun p _ => by unfold partQ; rw [if_neg (Nat.not_lt_zero p)]
theorem partJ_start (Q i n : Nat) : ∀ p, p < n → partQ Q (i + 1) p = partJ Q i 0 p := fun p _ => by
  unfold partJ
  split
  · next h => unfold partQ; rw [if_pos (by omega)]
  · rfl
theorem partJ_more (Q i j j' n : Nat) : ∀ p, p < n → p ≠ i → partJ Q i j p = partJ Q i j' p := fun p _ hne => by
  unfold partJ
  rw [if_neg hne, if_neg hne]
theorem partJ_at (Q i j : Nat) : partJ Q i j i = j := by unfold partJ; rw [if_pos rfl]
theorem partJ_end (Q i n : Nat) : ∀ p, p < n → partJ Q i (dig Q i) p = partQ Q i p := fun p _ => by
  unfold partJ partQ
  split
  · next h => rw [if_neg (by omega), h]
  · next h =>
    by_cases h1 : p < i
    · rw [if_pos (by omega), if_pos h1]
    · rw [if_neg (by omega), if_neg h1]
/-- The rest with a digit brought down: its digits. -/
theorem part_dig (R x : Nat) (hx : x < 10) : ∀ p, dig (10 * R + x) p = if p = 0 then x else dig R (p - 1) := by
  intro p
  unfold dig
  cases p with
  | zero => rw [if_pos rfl, Nat.pow_zero, Nat.div_one]; omega
  | succ p =>
    rw [if_neg (Nat.succ_ne_zero p), Nat.add_sub_cancel, Nat.pow_succ, Nat.mul_comm (10 ^ p), ← Nat.div_div_eq_div_mul]
    rw [show (10 * R + x) / 10 = R by omega]
theorem part_fit {R x n : Nat} (hx : x < 10) (h : R < 10 ^ n) : 10 * R + x < 10 ^ (n + 1) := by rw [Nat.pow_succ]; omega

end Go.Proofs.YtpacbipencmjnaaDoor

/- The document's square root, digit by digit: what a digit does (no walk). S is the root: S * S ≤ N < (S + 1) * (S + 1). -/
namespace Go.Proofs.YtpacbipencmjnaaDoor
open Go.RowKit

/-- What stands in the row: the root's digits above i, and j at i. -/
def rootV (S i j : Nat) : Nat := (S / 10 ^ (i + 1) * 10 + j) * 10 ^ i

theorem root_le {S N V : Nat} (h : N < (S + 1) * (S + 1)) (hV : V * V ≤ N) : V ≤ S := by
  refine Nat.le_of_not_lt fun hc => ?_
  have := Nat.mul_le_mul (show S + 1 ≤ V from hc) (show S + 1 ≤ V from hc)
  omega
theorem root_ge {S N V : Nat} (h : S * S ≤ N) (hV : V ≤ S) : V * V ≤ N := Nat.le_trans (Nat.mul_le_mul hV hV) h
theorem rootV_le_iff (S i j : Nat) : rootV S i j ≤ S ↔ j ≤ dig S i := by
  have hu := part_up S i
  unfold rootV
  rw [← Nat.le_div_iff_mul_le (p10 i), hu]
  omega
/-- The square of what stands in the row fits if the digit is not above the root's. -/
theorem root_fits {S N i j : Nat} (h1 : S * S ≤ N) (h2 : N < (S + 1) * (S + 1)) : rootV S i j * rootV S i j ≤ N ↔ j ≤ dig S i :=
  ⟨fun h => (rootV_le_iff S i j).1 (root_le h2 h), fun h => root_ge h1 ((rootV_le_iff S i j).2 h)⟩
theorem rootV_dig {S i j : Nat} (hj : j < 10) : ∀ p, partJ S i j p = dig (rootV S i j) p := by
  intro p
  unfold partJ partQ rootV dig
  by_cases hp : p < i
  · rw [if_neg (by omega), if_pos (by omega)]
    obtain ⟨d, rfl⟩ : ∃ d, i = p + 1 + d := ⟨i - (p + 1), by omega⟩
    generalize S / 10 ^ (p + 1 + d + 1) * 10 + j = M
    have e : M * 10 ^ (p + 1 + d) = 10 ^ p * (10 * (10 ^ d * M)) := by
      rw [Nat.pow_add, Nat.pow_succ]
      simp only [Nat.mul_comm, Nat.mul_left_comm, Nat.mul_assoc]
    rw [e, Nat.mul_div_cancel_left _ (p10 p), Nat.mul_mod_right]
  · obtain ⟨d, rfl⟩ : ∃ d, p = i + d := ⟨p - i, by omega⟩
    rw [Nat.pow_add, ← Nat.div_div_eq_div_mul (m := _ * 10 ^ i), Nat.mul_div_cancel _ (p10 i)]
    cases d with
    | zero => rw [if_pos (by omega), Nat.pow_zero, Nat.div_one]; omega
    | succ d =>
      rw [if_neg (by omega), if_neg (by omega), Nat.pow_succ 10 d, Nat.mul_comm (10 ^ d) 10, ← Nat.div_div_eq_div_mul (m := S / 10 ^ (i + 1) * 10 + j), show (S / 10 ^ (i + 1) * 10 + j) / 10 = S / 10 ^ (i + 1) by omega]
      rw [Nat.div_div_eq_div_mul, ← Nat.pow_add, ← Nat.mul_assoc, ← Nat.pow_succ, ← Nat.pow_add]
/-- The row is long enough. -/
theorem root_len {S N n : Nat} (h1 : S * S ≤ N) (hN : N < 10 ^ n) : S < 10 ^ (n / 2 + 1) := by
  refine Nat.lt_of_not_le fun hc => ?_
  have h2 := Nat.mul_le_mul hc hc
  rw [← Nat.pow_add] at h2
  have h3 : 10 ^ n ≤ 10 ^ (n / 2 + 1 + (n / 2 + 1)) := Nat.pow_le_pow_right (by decide) (by omega)
  omega
theorem rootV_lt {S i j m : Nat} (hS : S < 10 ^ m) (hi : i < m) (hj : j < 10) : rootV S i j < 10 ^ m := by
  obtain ⟨d, rfl⟩ : ∃ d, m = i + 1 + d := ⟨m - (i + 1), by omega⟩
  have h1 : S / 10 ^ (i + 1) < 10 ^ d := Nat.div_lt_of_lt_mul (by rw [← Nat.pow_add]; exact hS)
  unfold rootV
  generalize S / 10 ^ (i + 1) = K at *
  rw [show i + 1 + d = (d + 1) + i by omega, Nat.pow_add 10 (d + 1) i, Nat.pow_succ 10 d]
  exact Nat.mul_lt_mul_of_pos_right (by omega) (p10 i)

end Go.Proofs.YtpacbipencmjnaaDoor

/- The document's numbers: the walk of parted. -/
namespace Go.Proofs.YtpacbipencmjnaaDoor
open Go.RowKit

theorem fit10_le {n M R : Nat} (h : Fit10 n R) (hM : R < 10 ^ M) : n ≤ M := by
  refine Nat.le_of_not_lt fun hc => ?_
  rcases h.2 with h0 | h0
  · omega
  · have h1 : 10 ^ M ≤ 10 ^ (n - 1) := Nat.pow_le_pow_right (by decide) (by omega)
    omega
theorem vals_cons (R x n : Nat) (hx : x < 10) : Value.int .i64 ((x : Nat) : Int) :: vals .i64 (dig R) n = vals .i64 (dig (10 * R + x)) (n + 1) := by
  unfold vals
  rw [List.range_succ_eq_map, List.map_cons, List.map_map, part_dig R x hx 0, if_pos rfl]
  congr 1
  refine List.map_congr_left fun i _ => ?_
  show _ = Value.int .i64 ((dig (10 * R + x) (i + 1) : Nat) : Int)
  rw [part_dig R x hx (i + 1), if_neg (Nat.succ_ne_zero i), Nat.add_sub_cancel]
theorem lie_news {w : World} {p : Addr} {n c : Nat} {f : Nat → Nat} (h : Lie .i64 w (some p) n c f) : ∀ j u, (vals .i64 f n)[j]? = some u → w.cell? (p.add j) = some u := by
  intro j u hu
  have hj : j < n := by
    have := (List.getElem?_eq_some_iff.1 hu).1
    rwa [vals_len] at this
  rw [vals_get _ _ _ _ hj] at hu
  obtain ⟨hs, _⟩ := h.spot p rfl
  have hc := h.cell p rfl j hj
  rw [← hu, ← hc]
  obtain ⟨b, o, s⟩ := p
  cases hs
  simp only [Addr.add]
  split
  · next h0 => rw [h0, Nat.add_zero]
  · rfl
theorem vals_one (f : Nat → Nat) (n : Nat) : ∀ u ∈ vals .i64 f n, u.oneCell' = true := by
  intro u hu
  unfold vals at hu
  obtain ⟨i, _, rfl⟩ := List.mem_map.1 hu
  rfl
theorem run_fieldD (bl : Bool) (a : Option Addr) (n c : Nat) (w : World) : Sem.run Tryd.prog (Instr.field 28 (.agg #[.bool bl, .slice a n c]) 1) w = .ok (.slice a n c) w := by kernel_rfl
attribute [local go_sem] run_fieldD
/-- append of a row that lies anywhere, or of none. -/
theorem wpList_append_lie {P : Program} {w : World} {ops : Array Oper} {rest : List Oper} {o : Oper} {a : Act} {Q : Exit → Act → World → Prop} (hgd : o.guard = none) (s x : Operand) (t : TypeId)
    (ho : o.op = .call { callee := .builtin .append, args := #[s, x], argTypes := #[t, t] })
    (base : Nat) (e : TypeId) (i : TypeInfo) (z : Value) (bytes : Nat) (ht : P.underlying t = some (.slice e)) (hi : P.info? e = some i) (hz : i.zero = some z)
    (hsize : i.size = 1) (hby : i.bytes = bytes) (hzs : z.cells.size = 1)
    (v : Value) (n : Nat) (xs : List Value) (hs : a.eval s = v) (hown : w.ownsRow base e 1 v n xs)
    (ar : Option Addr) (m c : Nat) (f : Nat → Nat) (hx : a.eval x = .slice ar m c) (hl : Lie .i64 w ar m c f)
    (h63 : n + m ≤ maxLen) (hbytes : (n + m) * bytes ≤ 140737488355328) (hbase : base ≤ w.heap.size)
    (h : ∀ v' w', w'.ownsRow base e 1 v' (n + m) (xs ++ vals .i64 f m) → w.grownBy w' v.ownBlock → wpList P ops Q rest (a.put o.dst v') w') : wpList P ops Q (o :: rest) a w := by
  cases ar with
  | none =>
    obtain ⟨rfl, rfl⟩ := hl.nil rfl
    exact wpList_append_own_none hgd s x t ho base e i 1 ht hi v n xs hs hown hx (h v w (by simpa [vals] using hown) ⟨rfl, rfl, rfl, Nat.le_refl _, fun _ _ _ => rfl⟩)
  | some p => exact wpList_append_own w hgd s x t ho base e i z 1 bytes ht hi hz hsize hby hzs (by decide) v n xs hs hown p m c (vals .i64 f m) hx (by rw [vals_len, Nat.mul_one]) (lie_news hl) (vals_one f m) h63 hbytes hbase (fun v' w' h1 h2 _ => h v' w' h1 h2)
/-- Digits with their number, in memory that is not block g. -/
structure Rst (w0 : World) (g : Nat) (w : World) (a : Option Addr) (n c R : Nat) : Prop where
  lie : Lie .i64 w a n c (dig R)
  fit : Fit10 n R
  far : ∀ p, a = some p → w0.heap.size ≤ p.block ∧ p.block ≠ g
theorem Rst.below {w0 : World} {g : Nat} {w w' : World} {a : Option Addr} {n c R : Nat} (h : Rst w0 g w a n c R) (hb : Below w.heap.size w w') : Rst w0 g w' a n c R := ⟨h.lie.below hb, h.fit, h.far⟩
theorem rst_made {w0 w v : World} {g : Nat} {bl : Bool} {a : Option Addr} {n c N : Nat} (h : RNum w bl a n c (sg false N)) (hf : ∀ p, a = some p → v.heap.size ≤ p.block) (h0 : w0.heap.size ≤ v.heap.size) (hg : g < v.heap.size) : Rst w0 g w a n c N :=
  ⟨by have := h.lie; rwa [sg_abs] at this, by have := h.fit; rwa [sg_abs] at this, fun p hp => by have := hf p hp; omega⟩
theorem pcmp_ge {A B : Nat} (h : B ≤ A) : decide (0 ≤ cmpN A B) = true := by
  refine decide_eq_true ?_
  unfold cmpN
  rw [if_neg (by omega)]
  split <;> decide
theorem pcmp_below {A B : Nat} (h : A < B) : decide (0 ≤ cmpN A B) = false := by
  refine decide_eq_false ?_
  unfold cmpN
  rw [if_pos h]
  decide
/-- How often the divisor has still to be taken off. -/
def partM (g k : Nat) (w : World) : Nat := 10 - (intOf ((w.cell? ⟨g, k, none⟩).getD (.int .i64 0))).toNat
theorem partM_own {w : World} {g n k : Nat} {e : TypeId} {f : Nat → Nat} (h : Own .i64 e w g n f) (hk : k < n) : partM g k w = 10 - f k := by
  unfold partM
  rw [h.cell k hk]
  simp [intOf]
/-- A row and digits with their number, both in new memory. -/
def PParted (A B n : Nat) (w : World) (e : Ending) (w' : World) : Prop :=
  ∃ (g : Nat) (a : Option Addr) (m c : Nat), e = .returned (.tuple #[.slice (some ⟨g, 0, none⟩) n n, .slice a m c]) ∧ w.heap.size ≤ g ∧ Own .i64 3 w' g n (dig (A / B)) ∧ Rst w g w' a m c (A % B) ∧ Below w.heap.size w w'

set_option maxHeartbeats 3200000 in
set_option maxRecDepth 4000 in
theorem rparted_any (a b : Option Addr) (n c m d A B : Nat) (w : World) (ha : Lie .i64 w a n c (dig A)) (hb : Lie .i64 w b m d (dig B)) (hA : A < 10 ^ n) (fb : Fit10 m B) (hB : 0 < B) (hn : n ≤ 1000000) (hm : m ≤ 1000000) :
    Calls Tryd.prog 51 #[.slice a n c, .slice b m d] w (PParted A B n w) := by
  obtain ⟨i0, hi0, hz0, hzz1, hzz2⟩ := info_parts Tryd.rinfo3
  have HI := Lib.hid (And.intro hi0 (And.intro hz0 (And.intro hzz1 hzz2)))
  have HA := Lib.hid hA
  have HFB := Lib.hid fb
  have HB := Lib.hid hB
  clear hi0 hz0 hzz1 hzz2 hA fb hB
  have hn4 : 8 * n ≤ 281474976710656 := by omega
  have hn6 : n ≤ 9223372036854775807 := by omega
  go_enter Tryd.func51, Tryd.ntmps51
  go_wp2_with (first | (at_make; refine wpList_mk _ rfl (.tmp 10) (.tmp 10) 26 rfl 3 .i64 8 Tryd.ru26 Tryd.rinfo3 _ _ n rfl rfl (by omega) (by omega) hn4 hn6 ?_; intro g w2 hg hown hb2))
  go_loopw [7, 8] (fun rv iv wr => ∃ (k : Nat) (ar : Option Addr) (nr cr : Nat), k ≤ n ∧ rv = .slice ar nr cr ∧ iv = .int .i64 ((k : Int) - 1) ∧ Rst w g wr ar nr cr (A / 10 ^ k % B) ∧ Own .i64 3 wr g n (partQ (A / B) k) ∧ Below w.heap.size w wr) (fun _ iv _ => (intOf iv + 1).toNat)
  case atStart => exact ⟨n, none, 0, 0, Nat.le_refl _, rfl, by go_num, ⟨lie_nil _ _ _, by rw [part_first HA.out]; exact fit10_zero, fun p hp => by cases hp⟩, hown.congr (fun p hp => (partQ_start _ _ p hp).symm), hb2⟩
  case round =>
    clear hown hb2
    obtain ⟨k, ar, nr, cr, hk, rfl, rfl, hR, hown, hbl⟩ := hrel
    cases k with
    | zero =>
      have HR : Hid (Rst w g wr ar nr cr (A % B)) := by show Rst _ _ _ _ _ _ _; rw [Nat.pow_zero, Nat.div_one] at hR; exact hR
      have HO : Hid (Own .i64 3 wr g n (dig (A / B))) := hown.congr (partQ_end _ n)
      clear hR hown
      go_wp2
      go_ret2
      exact ⟨g, ar, nr, cr, rfl, hg, HO.out, HR.out, hbl⟩
    | succ k =>
      rw [show (((k + 1 : Nat) : Int) - 1) = (k : Int) by omega]
      obtain ⟨b1, o1, rfl, hb1⟩ := ha.some_of_pos (by omega)
      have c1 := (ha.below hbl).at k (by omega)
      have hdl := dig_lt A k
      obtain ⟨R, hRe⟩ : ∃ R : Nat, R = A / 10 ^ (k + 1) % B := ⟨_, rfl⟩
      rw [← hRe] at hR
      obtain ⟨x, hx⟩ : ∃ x : Nat, x = dig A k := ⟨_, rfl⟩
      rw [← hx] at c1 hdl
      have HS : Hid (10 * R + x = partS A B k) := by show _ = _; unfold partS; rw [hRe, hx]
      have hnr : nr ≤ m := fit10_le hR.fit (Nat.lt_trans (by rw [hRe]; exact Nat.mod_lt _ HB.out) HFB.out.1)
      have hmx : nr + 1 ≤ maxLen := by unfold maxLen; omega
      have hlr := hR.lie.below ((Below.refl wr.heap.size wr).alloc (Nat.le_refl _) (.cells #[.int .i64 ((x : Nat) : Int)] 3))
      have HRF := Lib.hid hR.fit
      clear hR hRe hx
      go_wp2_with (first
        | (at_builtin; refine wpList_append_lie rfl _ _ 26 rfl wr.heap.size 3 i0 (.int .i64 0) 8 Tryd.ru26 HI.out.1 HI.out.2.1 HI.out.2.2.1 HI.out.2.2.2 rfl _ 1 [.int .i64 ((x : Nat) : Int)] rfl ?pc1 ar nr cr (dig R) rfl ?pc2 ?pc3 ?pc4 ?pc5 ?_)
        | fail)
      case pc1 => exact World.ownsRow_lit wr #[.int .i64 ((x : Nat) : Int)] 1 (Nat.le_refl _) (by unfold maxLen; omega) rfl
      case pc2 => exact hlr
      case pc3 => omega
      case pc4 => omega
      case pc5 => simp
      intro v' w3 hown' hgrow
      rw [vals_cons R x nr hdl, HS.out, Nat.add_comm 1 nr] at hown'
      have hba : Below wr.heap.size wr w3 := ((Below.refl _ _).alloc (Nat.le_refl _) _).grown hgrow (by simp) (fun q hq => by cases hq; exact Nat.le_refl _)
      obtain ⟨a4, c4, rfl, hl4, hfr4⟩ := owned_fresh hown'
      have HF : Hid (partS A B k < 10 ^ (nr + 1)) := by show _ < _; rw [← HS.out]; exact part_fit hdl HRF.out.1
      have ho3 := hown.below hba
      have hb3 : Below w.heap.size w w3 := hbl.trans (hba.mono hbl.size)
      have hgl := hown.lt
      have hsz := hbl.size
      clear hown' hgrow hba hlr hown c1
      go_wp2_with fail
      refine (rmade_any false a4 (nr + 1) c4 (partS A B k) _ hl4 HF.out).mono ?_
      rintro e w4 ⟨bl4, n4, c5, rfl, hnum, hb4⟩
      have hR4 : Rst w g w4 a4 n4 c5 (partS A B k) := rst_made hnum hfr4 hsz hgl
      have ho4 := ho3.below hb4
      have hb4' : Below w.heap.size w w4 := hb3.trans (hb4.mono hb3.size)
      clear hnum hfr4 hl4 hgl hsz ho3 hb3 hb4 hbl HRF HF HS hnr hmx hdl
      go_wp2
      go_loopw [7] (fun rv wr => ∃ (j : Nat) (ar : Option Addr) (nr cr : Nat), rv = .slice ar nr cr ∧ j * B ≤ partS A B k ∧ Rst w g wr ar nr cr (partS A B k - j * B) ∧ Own .i64 3 wr g n (partJ (A / B) k j) ∧ Below w.heap.size w wr) (fun _ wr => partM g k wr)
      case atStart => exact ⟨0, a4, n4, c5, rfl, by rw [Nat.zero_mul]; exact Nat.zero_le _, by rw [Nat.zero_mul, Nat.sub_zero]; exact hR4, ho4.congr (partJ_start _ k n), hb4'⟩
      case round =>
        clear ho4 hR4 hb4'
        obtain ⟨j, ar, nr, cr, rfl, hj, hR, hown, hbl⟩ := hrel
        have HJ := Lib.hid hj
        have hlr := hR.lie
        have hfr := hR.fit
        have hlb := hb.below hbl
        clear hj
        go_wp2_with fail
        refine (rsize_any ar b nr cr m d (partS A B k - j * B) B _ hlr hlb hfr HFB.out).mono ?_
        rintro e w5 ⟨rfl, hb5⟩
        have hR5 := hR.below hb5
        have ho5 := hown.below hb5
        have hb5' : Below w.heap.size w w5 := hbl.trans (hb5.mono hbl.size)
        have hm0 := Lib.hid (partM_own hown (show k < n by omega))
        clear hlr hlb hfr hR hown hb5 hbl
        by_cases hc : B ≤ partS A B k - j * B
        · have hcd := pcmp_ge hc
          have hj10 := part_few HB.out HJ.out
          obtain ⟨HJ2, HE⟩ := part_more hc HJ.out
          have HJ2 := Lib.hid HJ2
          have HE := Lib.hid HE
          have HC := Lib.hid hc
          have hnr : nr ≤ m + 1 := fit10_le hR5.fit (Nat.lt_of_le_of_lt (Nat.sub_le _ _) (Nat.lt_trans (partS_lt HB.out) (by have := HFB.out.1; rw [Nat.pow_succ]; omega)))
          have hl5 := hR5.lie
          have hf5 := Lib.hid hR5.fit.1
          have hlb5 := hb.below hb5'
          generalize cmpN (partS A B k - j * B) B = cc at *
          clear hc hR5
          go_wp2_with fail
          refine (rless_any ar b nr cr m d (partS A B k - j * B) B _ hl5 hlb5 hf5.out HFB.out.1 HC.out (by omega) (by omega)).mono ?_
          rintro e w6 ⟨a6, m6, c6, rfl, hl6, hN6, hfr6, hb6⟩
          rw [HE.out] at hl6 hN6
          have ho6 := ho5.below hb6
          have hgl := ho5.lt
          have hsz := hb5'.size
          have hb6' : Below w.heap.size w w6 := hb5'.trans (hb6.mono hb5'.size)
          have HN6 := Lib.hid hN6
          clear hl5 hlb5 ho5 hb6 hb5' hN6
          go_wp2_with fail
          refine (rmade_any false a6 m6 c6 (partS A B k - (j + 1) * B) _ hl6 HN6.out).mono ?_
          rintro e w7 ⟨bl7, n7, c7, rfl, hnum, hb7⟩
          have hR7 : Rst w g w7 a6 n7 c7 (partS A B k - (j + 1) * B) := rst_made hnum hfr6 hsz hgl
          have ho7 := ho6.below hb7
          have hb7' : Below w.heap.size w w7 := hb6'.trans (hb7.mono hb6'.size)
          have c4 : w7.cell? ⟨g, k, none⟩ = some (.int .i64 ((j : Nat) : Int)) := by rw [ho7.cell k (by omega), partJ_at]
          have c5 := ho7.free k
          clear hl6 hfr6 hnum hb7 ho6 hb6' hgl hsz
          go_wp2
          have ho8 := ho7.put (i := k) (x := (j : Int) + 1) (F := partJ (A / B) k (j + 1)) (by omega) (by rw [partJ_at]; rfl) (partJ_more _ k j (j + 1) n)
          go_roundw
          case rel => exact ⟨j + 1, a6, n7, c7, rfl, HJ2.out, ⟨hR7.lie.only (Only.setCell _ _ _ _) (fun p hp => (hR7.far p hp).2), hR7.fit, hR7.far⟩, ho8, hb7'.setCell (p := ⟨g, k, none⟩) hg _⟩
          case measure => rw [partM_own ho8 (by omega), hm0.out, partJ_at, partJ_at]; omega
        · have hcd := pcmp_below (Nat.lt_of_not_le hc)
          obtain ⟨hje, hre⟩ := part_last HB.out HJ.out (Nat.lt_of_not_le hc)
          rw [hre] at hR5
          have HO : Hid (Own .i64 3 w5 g n (partQ (A / B) k)) := by
            rw [hje] at ho5
            exact ho5.congr (partJ_end _ k n)
          generalize cmpN (partS A B k - j * B) B = cc at *
          clear ho5 hm0 hre hje hc
          go_wp2
          go_roundw
          case rel => exact ⟨k, ar, nr, cr, by omega, rfl, by go_num, hR5, HO.out, hb5'⟩
          case measure => simp [intOf]
end Go.Proofs.YtpacbipencmjnaaDoor

/- A law for regions that draw their order: a head whose operations may come in any order, each shown once under an invariant that says what has been done, and a tail in one order. No statement of the seat is proved here. -/
namespace Go.Proofs.YtpacbipencmjnaaDoor
open Go

section
variable {P : Program} {ops : Array Oper} {md : Region.Mode}

/-- Heads wait for what stands ahead of them alone; each operation of the tail waits for all ahead of it; behind the head the tail goes in its order. -/
def tailsB (md : Region.Mode) (ops : Array Oper) (n : Nat) : Bool :=
  decide (n ≤ ops.size) &&
  ((List.range n).all fun i => match ops[i]? with
    | some o => o.after.all fun e => !Region.binds md e || decide (e.on < i)
    | none => false) &&
  ((List.range ops.size).all fun j => decide (j < n) || (List.range n).all fun i => Region.waitsFor md ops j i) &&
  Region.seqB md ops (ops.size - n) n (Array.replicate n true ++ Array.replicate (ops.size - n) false)
/-- What has been done, and i. -/
def upd (L : Nat → Bool) (i : Nat) : Nat → Bool := fun j => if j = i then true else L j
theorem upd_self (L : Nat → Bool) (i : Nat) : upd L i i = true := by simp [upd]
theorem upd_ne {L : Nat → Bool} {i j : Nat} (h : j ≠ i) : upd L i j = L j := by simp [upd, h]

theorem getD_upd {listed : Array Bool} {i : Nat} (hi : i < listed.size) : (fun j => (listed.setIfInBounds i true).getD j false) = upd (fun j => listed.getD j false) i := by
  funext j
  unfold upd
  by_cases h : j = i
  · subst h; simp [hi]
  · rw [if_neg h]; exact getD_set_ne false (fun e => h e.symm)

/-- How many of the first n are not listed. -/
def unl (listed : Array Bool) (n : Nat) : Nat := ((List.range n).filter fun i => !listed.getD i false).length
theorem unl_set {listed : Array Bool} {n i : Nat} (hi : i < n) (hs : n ≤ listed.size) (hu : listed.getD i false = false) : unl listed n = unl (listed.setIfInBounds i true) n + 1 := by
  unfold unl
  induction n with
  | zero => omega
  | succ n ih =>
    rw [List.range_succ, List.filter_append, List.filter_append, List.length_append, List.length_append]
    by_cases h : i = n
    · subst h
      have e1 : (List.range i).filter (fun j => !listed.getD j false) = (List.range i).filter (fun j => !(listed.setIfInBounds i true).getD j false) := by
        refine List.filter_congr fun j hj => ?_
        rw [getD_set_ne false (by have := List.mem_range.1 hj; omega)]
      have e2 : (listed.setIfInBounds i true).getD i false = true := by simp [show i < listed.size by omega]
      rw [e1]
      simp only [List.filter_cons, List.filter_nil, hu, e2]
      simp
    · have := ih (by omega) (by omega)
      rw [this]
      have e3 : (listed.setIfInBounds i true).getD n false = listed.getD n false := getD_set_ne false h
      simp only [List.filter_cons, List.filter_nil, e3]
      omega
theorem unl_zero {listed : Array Bool} {n : Nat} (h : unl listed n = 0) : ∀ i, i < n → listed.getD i false = true := by
  intro i hi
  unfold unl at h
  have h1 := List.filter_eq_nil_iff.1 (List.eq_nil_of_length_eq_zero h) i (List.mem_range.2 hi)
  simpa using h1
theorem unl_pos {listed : Array Bool} {n : Nat} (h : 0 < unl listed n) : ∃ i, i < n ∧ listed.getD i false = false ∧ ∀ j, j < i → listed.getD j false = true := by
  induction n with
  | zero => simp [unl] at h
  | succ n ih =>
    by_cases h0 : 0 < unl listed n
    · obtain ⟨i, h1, h2, h3⟩ := ih h0
      exact ⟨i, by omega, h2, h3⟩
    · have hz := unl_zero (listed := listed) (n := n) (by omega)
      refine ⟨n, by omega, ?_, hz⟩
      cases hl : listed.getD n false with
      | false => rfl
      | true =>
        exfalso
        have e : unl listed (n + 1) = unl listed n := by
          unfold unl
          rw [List.range_succ, List.filter_append, List.length_append]
          simp only [List.filter_cons, List.filter_nil, hl]
          simp
        omega

theorem wpAny_inv {Q : Exit → Act → World → Prop} {n : Nat} {I : (Nat → Bool) → Act → World → Prop} {l : List Oper} (hl : l.toArray = ops) (hB : tailsB md ops n = true)
    (step : ∀ L a w i, i < n → I L a w → L i = false → (∀ j, Region.waitsFor md ops i j = true → L j = true) → wpOp P ops Q i (I (upd L i)) a w)
    (fin : ∀ a w, (∃ L, (∀ j, j < n → L j = true) ∧ I L a w) → wpList P ops Q (l.drop n) a w) :
    ∀ (f : Nat) (listed : Array Bool) (a : Act) (w : World), listed.size = ops.size → (∀ t, n ≤ t → listed.getD t false = false) → unl listed n = f → I (fun j => listed.getD j false) a w →
      wpAny P md ops Q (f + (ops.size - n)) listed a w := by
  unfold tailsB at hB
  simp only [Bool.and_eq_true, decide_eq_true_eq] at hB
  obtain ⟨⟨⟨hn, hhead⟩, htail⟩, hseq⟩ := hB
  have hdl : (l.drop n).length = ops.size - n := by rw [← hl]; simp
  intro f
  induction f with
  | zero =>
    intro listed a w hs ht hu hI
    have hz := unl_zero hu
    have e : listed = Array.replicate n true ++ Array.replicate (ops.size - n) false := by
      apply Array.ext
      · simp; omega
      · intro i h1 h2
        have hg : listed[i] = listed.getD i false := by simp [h1]
        rw [hg]
        by_cases hi : i < n
        · rw [hz i hi, Array.getElem_append_left (by simpa using hi)]; simp
        · rw [ht i (by omega), Array.getElem_append_right (by simpa using hi)]; simp
    rw [Nat.zero_add]
    have := wpAny_of_seq (P := P) (md := md) (ops := ops) (Q' := Q) (l.drop n) n listed a w (fun j => by rw [← hl]; simp [List.getElem?_drop]) (by rw [hdl, e]; exact hseq) (fin a w ⟨_, hz, hI⟩)
    rwa [hdl] at this
  | succ f ih =>
    intro listed a w hs ht hu hI
    obtain ⟨i0, hi0, hi0u, hi0l⟩ := unl_pos (listed := listed) (n := n) (by omega)
    have hne : Region.ready md ops listed ≠ [] := by
      intro h0
      have hm : i0 ∈ Region.ready md ops listed := by
        have h1 := List.all_eq_true.1 hhead i0 (List.mem_range.2 hi0)
        have hlt : i0 < ops.size := by omega
        rw [Array.getElem?_eq_getElem hlt] at h1
        refine mem_ready.2 ⟨getD_in (by omega) hi0u, ops[i0], Array.getElem?_eq_getElem hlt, fun e he hb => ?_⟩
        have h2 := Array.all_eq_true'.1 h1 e he
        simp only [hb, Bool.not_true, Bool.false_or, decide_eq_true_eq] at h2
        exact hi0l _ h2
      rw [h0] at hm; cases hm
    rw [show f + 1 + (ops.size - n) = (f + (ops.size - n)) + 1 by omega]
    refine ⟨fun h0 => absurd h0 hne, fun i hi => ?_⟩
    obtain ⟨hiu, oi, hoi, hall⟩ := mem_ready.1 hi
    have hilt : i < ops.size := (Array.getElem?_eq_some_iff.1 hoi).1
    have hiu' := getD_both hiu
    have hin : i < n := by
      rcases Nat.lt_or_ge i n with h | h
      · exact h
      · exfalso
        have h1 := List.all_eq_true.1 htail i (List.mem_range.2 hilt)
        simp only [Bool.or_eq_true, decide_eq_true_eq] at h1
        rcases h1 with h1 | h1
        · omega
        · have h2 := List.all_eq_true.1 h1 i0 (List.mem_range.2 hi0)
          obtain ⟨o', ho', e, he, hb, hon⟩ := Region.waitsFor_spec h2
          have : o' = oi := Option.some.inj (ho'.symm.trans hoi)
          subst this
          have h3 := hall e he hb
          rw [hon, hi0u] at h3; cases h3
    have hst := step _ a w i hin hI hiu' (fun j hj => by
      obtain ⟨o', ho', e, he, hb, hon⟩ := Region.waitsFor_spec hj
      have : o' = oi := Option.some.inj (ho'.symm.trans hoi)
      subst this
      rw [← hon]; exact hall e he hb)
    refine wpOp_mono (fun a' w' h' => ?_) hst
    refine ih (listed.setIfInBounds i true) a' w' (by simp [hs]) (fun t h => by rw [getD_set_ne false (by omega)]; exact ht t h) ?_ ?_
    · have := unl_set hin (by omega) hiu'; omega
    · rw [getD_upd (by omega)]; exact h'

theorem wp_region_inv {Q : Exit → Act → World → Prop} {id : Nat} {a : Act} {w : World} {l : List Oper} (n : Nat) (I : (Nat → Bool) → Act → World → Prop) (hm : P.follows .mixedOrders = true) (hB : tailsB .any l.toArray n = true)
    (h0 : I (fun _ => false) a w.drew)
    (step : ∀ L a w i, i < n → I L a w → L i = false → (∀ j, Region.waitsFor .any l.toArray i j = true → L j = true) → wpOp P l.toArray Q i (I (upd L i)) a w)
    (fin : ∀ a w, (∃ L, (∀ j, j < n → L j = true) ∧ I L a w) → wpList P l.toArray Q (l.drop n) a w) : (Code.region id l.toArray true).wp P Q a w := by
  refine wp_region_any hm ?_
  have hB' := hB
  unfold tailsB at hB'
  simp only [Bool.and_eq_true, decide_eq_true_eq] at hB'
  have hn := hB'.1.1.1
  have hu : unl (Array.replicate l.toArray.size false) n = n := by
    unfold unl
    rw [List.filter_eq_self.2 (fun i _ => by rw [getD_replicate_false]; rfl), List.length_range]
  have := wpAny_inv (P := P) (md := .any) (Q := Q) (n := n) (I := I) (l := l) rfl hB step fin n (Array.replicate l.toArray.size false) a w.drew (by simp) (fun t _ => getD_replicate_false _ _) hu (by
    rw [show (fun j => (Array.replicate l.toArray.size false).getD j false) = fun _ => false from funext fun j => getD_replicate_false _ _]; exact h0)
  rwa [show n + (l.toArray.size - n) = l.toArray.size by omega] at this
/-- The same, the invariant given the act with which the region begins; no tail. -/
theorem wp_region_inv0 {Q : Exit → Act → World → Prop} {id : Nat} {a : Act} {w : World} {l : List Oper} (I : Act → (Nat → Bool) → Act → World → Prop) (hm : P.follows .mixedOrders = true) (hB : tailsB .any l.toArray l.length = true)
    (h0 : I a (fun _ => false) a w.drew)
    (step : ∀ L a' w i, i < l.length → I a L a' w → L i = false → (∀ j, Region.waitsFor .any l.toArray i j = true → L j = true) → wpOp P l.toArray Q i (I a (upd L i)) a' w)
    (fin : ∀ a' w L, (∀ j, j < l.length → L j = true) → I a L a' w → Q .normal a' w) : (Code.region id l.toArray true).wp P Q a w :=
  wp_region_inv l.length (I a) hm hB h0 step (fun a' w ⟨L, h1, h2⟩ => by rw [List.drop_length]; exact fin a' w L h1 h2)
/-- An operation of a list, that is not guarded, at its place. -/
theorem wpOp_at {l : List Oper} {i : Nat} {o : Oper} {K : Act → World → Prop} {Q : Exit → Act → World → Prop} {a : Act} {w : World} (ho : l[i]? = some o) (hg : o.guard = none)
    (h : ∀ K' : Act → World → Prop, (∀ a w, K a w → K' a w) → Oper.wp P o a w K' Q) : wpOp P l.toArray Q i K a w := by
  refine wpOp_step (by simpa using ho) (fun K' hK => ?_)
  rw [if_pos (by simp [Region.wanted, hg])]
  exact h K' hK
end
end Go.Proofs.YtpacbipencmjnaaDoor
