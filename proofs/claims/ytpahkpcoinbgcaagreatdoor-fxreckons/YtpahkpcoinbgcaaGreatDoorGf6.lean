/- Parts of the proof. -/
import Derived.Test.YtpahkpcoinbgcaaGreatDoorGf5
import Derived.Laws.AppendOwnNone
import Derived.Test.YtpahkpcoinbgcaaGreatDoorGf4
/- The document's numbers: the walk of Of. -/
namespace Go.Proofs.YtpahkpcoinbgcaaGreatDoor
open Go.RowKit
theorem div10 (N k : Nat) : N / 10 ^ k / 10 = N / 10 ^ (k + 1) := by rw [Nat.div_div_eq_div_mul, Nat.pow_succ]
theorem of_k {N k : Nat} (hN : N ≤ 9223372036854775808) (h : N / 10 ^ k ≠ 0) : k < 20 := by
 refine Nat.lt_of_not_le fun hc => h ?_
 exact Nat.div_eq_of_lt (Nat.lt_of_lt_of_le (show N < 10 ^ 20 by omega) (Nat.pow_le_pow_right (by decide) hc))
theorem neg_tm (R : Int) (h : 0 ≤ R) : (-R).tmod 10 = -(R % 10) := by rw [Int.neg_tmod, Int.tmod_eq_emod_of_nonneg h]
theorem neg_td (R : Int) (h : 0 ≤ R) : (-R).tdiv 10 = -(R / 10) := by rw [Int.neg_tdiv, Int.tdiv_eq_ediv_of_nonneg h]
set_option maxHeartbeats 3200000 in
theorem rOf_pos (N : Nat) (w : World) (hN : N ≤ 9223372036854775807) :
  Calls Tryz.prog 38 #[.int .i64 (((N : Nat) : Int))] w (PRNumF (((N : Nat) : Int)) w) := by
 obtain ⟨i0, hi0, hz0, hzz1, hzz2⟩ := info_parts Tryz.rinfo3
 have HI := Lib.hid (And.intro hi0 (And.intro hz0 (And.intro hzz1 hzz2)))
 have HN : Hid (N ≤ 9223372036854775808) := show N ≤ 9223372036854775808 by omega
 obtain ⟨R0, hR0⟩ : ∃ R0 : Int, R0 = ((N : Nat) : Int) := ⟨_, rfl⟩
 have hR1 : 0 ≤ R0 := by omega
 have hR2 : R0 ≤ 9223372036854775807 := by omega
 rw [← hR0]
 have HR0 := Lib.hid hR0
 have dneg : decide (R0 < 0) = false := decide_eq_false (by omega)
 have hR := res_one w 42
 clear hi0 hz0 hzz1 hzz2 hN hR0
 go_enter Tryz.func38, Tryz.ntmps38
 go_wp2
 generalize w.alloc (.cells #[.bool false, .slice none 0 0] 42) = w1 at *
 go_loopw [0, 3] (fun nv dv wr => ∃ k : Nat, k ≤ 20 ∧ nv = .int .i64 (((N / 10 ^ k : Nat) : Int)) ∧ wr.ownsRow w1.heap.size 3 1 dv k (vals .i64 (dig N) k) ∧ Below w1.heap.size w1 wr) (fun nv _ _ => (intOf nv).natAbs)
 case atStart => exact ⟨0, by omega, by rw [Nat.pow_zero, Nat.div_one, ← HR0.out], World.ownsRow_nil _ _ _ _, Below.refl _ _⟩
 case round =>
  obtain ⟨k, hk, rfl, how, hbl⟩ := hrel
  have hdv : N / 10 ^ k ≤ N := Nat.div_le_self _ _
  have hM := HN.out
  obtain ⟨M, hMe⟩ : ∃ M : Nat, M = N / 10 ^ k := ⟨_, rfl⟩
  rw [← hMe] at hdv ⊢
  obtain ⟨R, hRe⟩ : ∃ R : Int, R = ((M : Nat) : Int) := ⟨_, rfl⟩
  have hRa : 0 ≤ R := by omega
  have hRb : R ≤ 9223372036854775807 := by have := HR0.out; omega
  rw [← hRe]
  by_cases hz : M = 0
  ·
   have HFIN : Hid (N < 10 ^ k) := by
    rcases Nat.div_eq_zero_iff.1 (hMe.symm.trans hz) with h | h
    ·
     have := p10 k; omega
    ·
     exact h
   obtain ⟨a4, c4, rfl, hlie, hfr⟩ := owned_fresh how
   obtain rfl : R = 0 := by omega
   have hRr := hR.later hbl
   clear how hdv hM hRe hz hMe
   go_wp2_with fail
   refine (rmade_any false a4 k c4 N _ hlie HFIN.out).mono ?_
   rintro e w3 ⟨bl3, n3, c3, rfl, hnum, hb3⟩
   have hR3 := hRr.later hb3
   have rB0 := hR3.r0
   have rB1 := hR3.r1
   have fB0 := hR3.f0
   have fB1 := hR3.f1
   go_wp2
   refine bodyPost_ret (v := .agg #[.bool bl3, .slice a4 n3 c3]) (by simp [results, Tryz.results38, go_sem, rB0, rB1]) rfl ?_
   have e1 : sg false N = R0 := by rw [HR0.out]; rfl
   rw [e1] at hnum
   exact rnumf_store hnum hR3.below (Nat.le_refl _) (fun p hp => by have h1 := hfr p hp; have h2 := hR.sz; omega)
  ·
   have hk2 := of_k HN.out (fun e => hz (hMe.trans e))
   have hdl := dig_lt N k
   have HD0 : Hid (R % 10 = ((dig N k : Nat) : Int)) := by show _ = _; unfold dig; rw [← hMe]; omega
   have HQ : Hid (R / 10 = ((N / 10 ^ (k + 1) : Nat) : Int)) := by show _ = _; rw [← div10, ← hMe]; omega
   have hRp : 0 < R := by omega
   have dz : (R == 0) = false := by simp; omega
   have dz2 : (R != 0) = true := by simp; omega
   clear hdv hM hz hdl hMe hRe
   have HD := HD0
   have hm1 : ¬ R % 10 < 0 := by omega
   have hm2 : 0 ≤ R % 10 := by omega
   have HMS : Hid ((R / 10).natAbs < R.natAbs) := show (R / 10).natAbs < R.natAbs by omega
   go_wp2_with (first
    | (at_builtin; refine wpList_append_own _ rfl _ _ 40 rfl w1.heap.size 3 i0 (.int .i64 0) 1 8 Tryz.ru40 HI.out.1 HI.out.2.1 HI.out.2.2.1 HI.out.2.2.2 rfl (by decide) _ _ _ rfl (how.alloc _) ⟨wr.heap.size, 0, none⟩ 1 1 [.int .i64 (R % 10)] rfl rfl ?ac1 ?ac2 ?ac3 ?ac4 ?ac5 ?_)
    | fail)
   (try case ac1 => exact cell_one_new _ _ _)
   case ac2 => first | rfl | (intro u hu; simp at hu; subst hu; rfl)
   case ac3 => unfold maxLen; omega
   case ac4 => omega
   case ac5 => (have := hbl.size; first | omega | (simp; done) | (simp; omega))
   intro v' w3 hown' hgrow _
   have hb3 : Below w1.heap.size w1 w3 := (hbl.alloc hbl.size _).grown hgrow (by have := hbl.size; simp; omega) (fun q hq => (how.lt q hq).1)
   rw [HD.out] at hown'
   have hown2 : w3.ownsRow w1.heap.size 3 1 v' (k + 1) (vals .i64 (dig N) (k + 1)) := by rw [← vals_succ]; exact hown'
   clear hgrow how
   go_wp2
   go_roundw
   case rel => exact ⟨k + 1, by omega, by rw [HQ.out], hown2, hb3⟩
   case measure => simp only [intOf]; exact HMS.out
set_option maxHeartbeats 3200000 in
theorem rOf_neg (N : Nat) (w : World) (hN : N ≤ 9223372036854775808) (h0 : 0 < N) :
  Calls Tryz.prog 38 #[.int .i64 (-((N : Nat) : Int))] w (PRNumF (-((N : Nat) : Int)) w) := by
 obtain ⟨i0, hi0, hz0, hzz1, hzz2⟩ := info_parts Tryz.rinfo3
 have HI := Lib.hid (And.intro hi0 (And.intro hz0 (And.intro hzz1 hzz2)))
 have HN : Hid (N ≤ 9223372036854775808) := show N ≤ 9223372036854775808 by omega
 obtain ⟨R0, hR0⟩ : ∃ R0 : Int, R0 = ((N : Nat) : Int) := ⟨_, rfl⟩
 have hR1 : 0 < R0 := by omega
 have hR2 : R0 ≤ 9223372036854775808 := by omega
 rw [← hR0]
 have HR0 := Lib.hid hR0
 have dneg : decide (-R0 < 0) = true := decide_eq_true (by omega)
 have hR := res_one w 42
 clear hi0 hz0 hzz1 hzz2 hN hR0 h0
 go_enter Tryz.func38, Tryz.ntmps38
 go_wp2
 generalize w.alloc (.cells #[.bool false, .slice none 0 0] 42) = w1 at *
 go_loopw [0, 3] (fun nv dv wr => ∃ k : Nat, k ≤ 20 ∧ nv = .int .i64 (-((N / 10 ^ k : Nat) : Int)) ∧ wr.ownsRow w1.heap.size 3 1 dv k (vals .i64 (dig N) k) ∧ Below w1.heap.size w1 wr) (fun nv _ _ => (intOf nv).natAbs)
 case atStart => exact ⟨0, by omega, by rw [Nat.pow_zero, Nat.div_one, ← HR0.out], World.ownsRow_nil _ _ _ _, Below.refl _ _⟩
 case round =>
  obtain ⟨k, hk, rfl, how, hbl⟩ := hrel
  have hdv : N / 10 ^ k ≤ N := Nat.div_le_self _ _
  have hM := HN.out
  obtain ⟨M, hMe⟩ : ∃ M : Nat, M = N / 10 ^ k := ⟨_, rfl⟩
  rw [← hMe] at hdv ⊢
  obtain ⟨R, hRe⟩ : ∃ R : Int, R = ((M : Nat) : Int) := ⟨_, rfl⟩
  have hRa : 0 ≤ R := by omega
  have hRb : R ≤ 9223372036854775808 := by have := HR0.out; omega
  rw [← hRe]
  by_cases hz : M = 0
  ·
   have HFIN : Hid (N < 10 ^ k) := by
    rcases Nat.div_eq_zero_iff.1 (hMe.symm.trans hz) with h | h
    ·
     have := p10 k; omega
    ·
     exact h
   obtain ⟨a4, c4, rfl, hlie, hfr⟩ := owned_fresh how
   obtain rfl : R = 0 := by omega
   have hRr := hR.later hbl
   clear how hdv hM hRe hz hMe
   go_wp2_with fail
   refine (rmade_any true a4 k c4 N _ hlie HFIN.out).mono ?_
   rintro e w3 ⟨bl3, n3, c3, rfl, hnum, hb3⟩
   have hR3 := hRr.later hb3
   have rB0 := hR3.r0
   have rB1 := hR3.r1
   have fB0 := hR3.f0
   have fB1 := hR3.f1
   go_wp2
   refine bodyPost_ret (v := .agg #[.bool bl3, .slice a4 n3 c3]) (by simp [results, Tryz.results38, go_sem, rB0, rB1]) rfl ?_
   have e1 : sg true N = -R0 := by rw [HR0.out]; rfl
   rw [e1] at hnum
   exact rnumf_store hnum hR3.below (Nat.le_refl _) (fun p hp => by have h1 := hfr p hp; have h2 := hR.sz; omega)
  ·
   have hk2 := of_k HN.out (fun e => hz (hMe.trans e))
   have hdl := dig_lt N k
   have HD0 : Hid (R % 10 = ((dig N k : Nat) : Int)) := by show _ = _; unfold dig; rw [← hMe]; omega
   have HQ : Hid (R / 10 = ((N / 10 ^ (k + 1) : Nat) : Int)) := by show _ = _; rw [← div10, ← hMe]; omega
   have hRp : 0 < R := by omega
   have dz : (-R == 0) = false := by simp; omega
   have dz2 : (-R != 0) = true := by simp; omega
   clear hdv hM hz hdl hMe hRe
   have e1 := neg_tm R hRa
   have e2 := neg_td R hRa
   have HMS : Hid ((-(R / 10)).natAbs < (-R).natAbs) := show (-(R / 10)).natAbs < (-R).natAbs by omega
   by_cases hc : R % 10 = 0
   ·
    have HD : Hid ((0 : Int) = ((dig N k : Nat) : Int)) := by show _ = _; rw [← HD0.out]; exact hc.symm
    rw [hc] at e1
    clear hc HD0
    go_wp2_with (first
     | (at_builtin; refine wpList_append_own _ rfl _ _ 40 rfl w1.heap.size 3 i0 (.int .i64 0) 1 8 Tryz.ru40 HI.out.1 HI.out.2.1 HI.out.2.2.1 HI.out.2.2.2 rfl (by decide) _ _ _ rfl (how.alloc _) ⟨wr.heap.size, 0, none⟩ 1 1 [.int .i64 (0)] rfl rfl ?bc1 ?bc2 ?bc3 ?bc4 ?bc5 ?_)
     | fail)
    (try case bc1 => exact cell_one_new _ _ _)
    case bc2 => first | rfl | (intro u hu; simp at hu; subst hu; rfl)
    case bc3 => unfold maxLen; omega
    case bc4 => omega
    case bc5 => (have := hbl.size; first | omega | (simp; done) | (simp; omega))
    intro v' w3 hown' hgrow _
    have hb3 : Below w1.heap.size w1 w3 := (hbl.alloc hbl.size _).grown hgrow (by have := hbl.size; simp; omega) (fun q hq => (how.lt q hq).1)
    rw [HD.out] at hown'
    have hown2 : w3.ownsRow w1.heap.size 3 1 v' (k + 1) (vals .i64 (dig N) (k + 1)) := by rw [← vals_succ]; exact hown'
    clear hgrow how
    go_wp2
    go_roundw
    case rel => exact ⟨k + 1, by omega, by rw [← HQ.out], hown2, hb3⟩
    case measure => simp only [intOf]; exact HMS.out
   ·
    have HD := HD0
    have hm1 : 0 < R % 10 := by omega
    have hm2 : R % 10 ≤ 9 := by omega
    clear hc HD0
    go_wp2_with (first
     | (at_builtin; refine wpList_append_own _ rfl _ _ 40 rfl w1.heap.size 3 i0 (.int .i64 0) 1 8 Tryz.ru40 HI.out.1 HI.out.2.1 HI.out.2.2.1 HI.out.2.2.2 rfl (by decide) _ _ _ rfl (how.alloc _) ⟨wr.heap.size, 0, none⟩ 1 1 [.int .i64 (R % 10)] rfl rfl ?cc1 ?cc2 ?cc3 ?cc4 ?cc5 ?_)
     | fail)
    (try case cc1 => exact cell_one_new _ _ _)
    case cc2 => first | rfl | (intro u hu; simp at hu; subst hu; rfl)
    case cc3 => unfold maxLen; omega
    case cc4 => omega
    case cc5 => (have := hbl.size; first | omega | (simp; done) | (simp; omega))
    intro v' w3 hown' hgrow _
    have hb3 : Below w1.heap.size w1 w3 := (hbl.alloc hbl.size _).grown hgrow (by have := hbl.size; simp; omega) (fun q hq => (how.lt q hq).1)
    rw [HD.out] at hown'
    have hown2 : w3.ownsRow w1.heap.size 3 1 v' (k + 1) (vals .i64 (dig N) (k + 1)) := by rw [← vals_succ]; exact hown'
    clear hgrow how
    go_wp2
    go_roundw
    case rel => exact ⟨k + 1, by omega, by rw [← HQ.out], hown2, hb3⟩
    case measure => simp only [intOf]; exact HMS.out
theorem rOf_any (z : Int) (w : World) (h1 : -9223372036854775808 ≤ z) (h2 : z ≤ 9223372036854775807) : Calls Tryz.prog 38 #[.int .i64 z] w (PRNumF z w) := by
 by_cases hz : z < 0
 ·
  have := rOf_neg z.natAbs w (by omega) (by omega)
  rwa [show -((z.natAbs : Nat) : Int) = z from by omega] at this
 ·
  have := rOf_pos z.natAbs w (by omega)
  rwa [show ((z.natAbs : Nat) : Int) = z from by omega] at this
end Go.Proofs.YtpahkpcoinbgcaaGreatDoor

/- The document's long division, digit by digit: what one digit does to the rest and to the quotient (no walk). -/
namespace Go.Proofs.YtpahkpcoinbgcaaGreatDoor
open Go.RowKit
/-- What stands over the divisor when digit i has been brought down. -/
def partS (A B i : Nat) : Nat := 10 * (A / 10 ^ (i + 1) % B) + dig A i
/-- The quotient's row when the digits from i on are reckoned. -/
def partQ (Q i p : Nat) : Nat := if p < i then 0 else dig Q p
/-- The same within digit i, when the divisor has been taken off j times. -/
def partJ (Q i j p : Nat) : Nat := if p = i then j else partQ Q (i + 1) p
theorem part_up (A i : Nat) : A / 10 ^ i = 10 * (A / 10 ^ (i + 1)) + dig A i := by
 unfold dig
 rw [← div10]
 omega
theorem partS_lt {A B i : Nat} (hB : 0 < B) : partS A B i < 10 * B := by
 have h1 := Nat.mod_lt (A / 10 ^ (i + 1)) hB
 have h2 := dig_lt A i
 unfold partS
 omega
theorem part_whole (A B i : Nat) : A / 10 ^ i = partS A B i + B * (10 * (A / 10 ^ (i + 1) / B)) := by
 have h1 := part_up A i
 have h2 := Nat.div_add_mod (A / 10 ^ (i + 1)) B
 have h3 : B * (10 * (A / 10 ^ (i + 1) / B)) = 10 * (B * (A / 10 ^ (i + 1) / B)) := Nat.mul_left_comm _ _ _
 unfold partS
 omega
theorem partS_mod (A B i : Nat) : partS A B i % B = A / 10 ^ i % B := by
 rw [part_whole A B i, Nat.add_mul_mod_self_left]
theorem partS_div {A B i : Nat} (hB : 0 < B) : partS A B i / B = dig (A / B) i := by
 have h1 : partS A B i / B < 10 := Nat.div_lt_of_lt_mul (by rw [Nat.mul_comm]; exact partS_lt hB)
 have h2 : A / B / 10 ^ i = partS A B i / B + 10 * (A / 10 ^ (i + 1) / B) := by
  rw [Nat.div_div_eq_div_mul, Nat.mul_comm, ← Nat.div_div_eq_div_mul, part_whole A B i, Nat.add_mul_div_left _ _ hB]
 unfold dig
 rw [h2, Nat.add_mul_mod_self_left, Nat.mod_eq_of_lt h1]
/-- A round within a digit: the divisor is taken off once more. -/
theorem part_more {S B j : Nat} (h : B ≤ S - j * B) (hj : j * B ≤ S) : (j + 1) * B ≤ S ∧ S - j * B - B = S - (j + 1) * B := by
 rw [Nat.add_mul, Nat.one_mul]
 omega
theorem part_few {A B i j : Nat} (hB : 0 < B) (hj : j * B ≤ partS A B i) : j < 10 := by
 have h1 := partS_lt (A := A) (i := i) hB
 exact Nat.lt_of_mul_lt_mul_right (Nat.lt_of_le_of_lt hj h1)
/-- The end of a digit. -/
theorem part_last {A B i j : Nat} (hB : 0 < B) (hj : j * B ≤ partS A B i) (h : partS A B i - j * B < B) : j = dig (A / B) i ∧ partS A B i - j * B = A / 10 ^ i % B := by
 have e : partS A B i = (partS A B i - j * B) + B * j := by rw [Nat.mul_comm B]; omega
 constructor
 ·
  rw [← partS_div hB, e, Nat.add_mul_div_left _ _ hB, Nat.div_eq_of_lt h, Nat.zero_add]
 ·
  rw [← partS_mod A B i, e, Nat.add_mul_mod_self_left, Nat.mod_eq_of_lt h, ← e]
theorem part_first {A B n : Nat} (hA : A < 10 ^ n) : A / 10 ^ n % B = 0 := by rw [Nat.div_eq_of_lt hA, Nat.zero_mod]
theorem partQ_start (Q n : Nat) : ∀ p, p < n → partQ Q n p = 0 := fun p hp => by unfold partQ; rw [if_pos hp]
theorem partQ_end (Q n : Nat) : ∀ p, p < n → partQ Q 0 p = dig Q p := fun p _ => by unfold partQ; rw [if_neg (Nat.not_lt_zero p)]
theorem partJ_start (Q i n : Nat) : ∀ p, p < n → partQ Q (i + 1) p = partJ Q i 0 p := fun p _ => by
 unfold partJ
 split
 ·
  next h => unfold partQ; rw [if_pos (by omega)]
 ·
  rfl
theorem partJ_more (Q i j j' n : Nat) : ∀ p, p < n → p ≠ i → partJ Q i j p = partJ Q i j' p := fun p _ hne => by
 unfold partJ
 rw [if_neg hne, if_neg hne]
theorem partJ_at (Q i j : Nat) : partJ Q i j i = j := by unfold partJ; rw [if_pos rfl]
theorem partJ_end (Q i n : Nat) : ∀ p, p < n → partJ Q i (dig Q i) p = partQ Q i p := fun p _ => by
 unfold partJ partQ
 split
 ·
  next h => rw [if_neg (by omega), h]
 ·
  next h =>
  by_cases h1 : p < i
  ·
   rw [if_pos (by omega), if_pos h1]
  ·
   rw [if_neg (by omega), if_neg h1]
/-- The rest with a digit brought down: its digits. -/
theorem part_dig (R x : Nat) (hx : x < 10) : ∀ p, dig (10 * R + x) p = if p = 0 then x else dig R (p - 1) := by
 intro p
 unfold dig
 cases p with
 | zero => rw [if_pos rfl, Nat.pow_zero, Nat.div_one]; omega
 | succ p =>
  rw [if_neg (Nat.succ_ne_zero p), Nat.add_sub_cancel, Nat.pow_succ, Nat.mul_comm (10 ^ p), ← Nat.div_div_eq_div_mul]
  rw [show (10 * R + x) / 10 = R by omega]
theorem part_fit {R x n : Nat} (hx : x < 10) (h : R < 10 ^ n) : 10 * R + x < 10 ^ (n + 1) := by rw [Nat.pow_succ]; omega
end Go.Proofs.YtpahkpcoinbgcaaGreatDoor

/- The document's numbers: the walk of parted. -/
namespace Go.Proofs.YtpahkpcoinbgcaaGreatDoor
open Go.RowKit
theorem fit10_le {n M R : Nat} (h : Fit10 n R) (hM : R < 10 ^ M) : n ≤ M := by
 refine Nat.le_of_not_lt fun hc => ?_
 rcases h.2 with h0 | h0
 ·
  omega
 ·
  have h1 : 10 ^ M ≤ 10 ^ (n - 1) := Nat.pow_le_pow_right (by decide) (by omega)
  omega
theorem vals_cons (R x n : Nat) (hx : x < 10) : Value.int .i64 ((x : Nat) : Int) :: vals .i64 (dig R) n = vals .i64 (dig (10 * R + x)) (n + 1) := by
 unfold vals
 rw [List.range_succ_eq_map, List.map_cons, List.map_map, part_dig R x hx 0, if_pos rfl]
 congr 1
 refine List.map_congr_left fun i _ => ?_
 show _ = Value.int .i64 ((dig (10 * R + x) (i + 1) : Nat) : Int)
 rw [part_dig R x hx (i + 1), if_neg (Nat.succ_ne_zero i), Nat.add_sub_cancel]
theorem lie_news {w : World} {p : Addr} {n c : Nat} {f : Nat → Nat} (h : Lie .i64 w (some p) n c f) : ∀ j u, (vals .i64 f n)[j]? = some u → w.cell? (p.add j) = some u := by
 intro j u hu
 have hj : j < n := by
  have := (List.getElem?_eq_some_iff.1 hu).1
  rwa [vals_len] at this
 rw [vals_get _ _ _ _ hj] at hu
 obtain ⟨hs, _⟩ := h.spot p rfl
 have hc := h.cell p rfl j hj
 rw [← hu, ← hc]
 obtain ⟨b, o, s⟩ := p
 cases hs
 simp only [Addr.add]
 split
 ·
  next h0 => rw [h0, Nat.add_zero]
 ·
  rfl
theorem vals_one (f : Nat → Nat) (n : Nat) : ∀ u ∈ vals .i64 f n, u.oneCell' = true := by
 intro u hu
 unfold vals at hu
 obtain ⟨i, _, rfl⟩ := List.mem_map.1 hu
 rfl
theorem run_fieldD (bl : Bool) (a : Option Addr) (n c : Nat) (w : World) : Sem.run Tryz.prog (Instr.field 42 (.agg #[.bool bl, .slice a n c]) 1) w = .ok (.slice a n c) w := by kernel_rfl
attribute [local go_sem] run_fieldD
/-- append of a row that lies anywhere, or of none. -/
theorem wpList_append_lie {P : Program} {w : World} {ops : Array Oper} {rest : List Oper} {o : Oper} {a : Act} {Q : Exit → Act → World → Prop} (hgd : o.guard = none) (s x : Operand) (t : TypeId)
  (ho : o.op = .call { callee := .builtin .append, args := #[s, x], argTypes := #[t, t] })
  (base : Nat) (e : TypeId) (i : TypeInfo) (z : Value) (bytes : Nat) (ht : P.underlying t = some (.slice e)) (hi : P.info? e = some i) (hz : i.zero = some z)
  (hsize : i.size = 1) (hby : i.bytes = bytes) (hzs : z.cells.size = 1)
  (v : Value) (n : Nat) (xs : List Value) (hs : a.eval s = v) (hown : w.ownsRow base e 1 v n xs)
  (ar : Option Addr) (m c : Nat) (f : Nat → Nat) (hx : a.eval x = .slice ar m c) (hl : Lie .i64 w ar m c f)
  (h63 : n + m ≤ maxLen) (hbytes : (n + m) * bytes ≤ 140737488355328) (hbase : base ≤ w.heap.size)
  (h : ∀ v' w', w'.ownsRow base e 1 v' (n + m) (xs ++ vals .i64 f m) → w.grownBy w' v.ownBlock → wpList P ops Q rest (a.put o.dst v') w') : wpList P ops Q (o :: rest) a w := by
 cases ar with
 | none =>
  obtain ⟨rfl, rfl⟩ := hl.nil rfl
  exact wpList_append_own_none hgd s x t ho base e i 1 ht hi v n xs hs hown hx (h v w (by simpa [vals] using hown) ⟨rfl, rfl, rfl, Nat.le_refl _, fun _ _ _ => rfl⟩)
 | some p => exact wpList_append_own w hgd s x t ho base e i z 1 bytes ht hi hz hsize hby hzs (by decide) v n xs hs hown p m c (vals .i64 f m) hx (by rw [vals_len, Nat.mul_one]) (lie_news hl) (vals_one f m) h63 hbytes hbase (fun v' w' h1 h2 _ => h v' w' h1 h2)
/-- Digits with their number, in memory that is not block g. -/
structure Rst (w0 : World) (g : Nat) (w : World) (a : Option Addr) (n c R : Nat) : Prop where
 lie : Lie .i64 w a n c (dig R)
 fit : Fit10 n R
 far : ∀ p, a = some p → w0.heap.size ≤ p.block ∧ p.block ≠ g
theorem Rst.below {w0 : World} {g : Nat} {w w' : World} {a : Option Addr} {n c R : Nat} (h : Rst w0 g w a n c R) (hb : Below w.heap.size w w') : Rst w0 g w' a n c R := ⟨h.lie.below hb, h.fit, h.far⟩
theorem rst_made {w0 w v : World} {g : Nat} {bl : Bool} {a : Option Addr} {n c N : Nat} (h : RNum w bl a n c (sg false N)) (hf : ∀ p, a = some p → v.heap.size ≤ p.block) (h0 : w0.heap.size ≤ v.heap.size) (hg : g < v.heap.size) : Rst w0 g w a n c N :=
 ⟨by have := h.lie; rwa [sg_abs] at this, by have := h.fit; rwa [sg_abs] at this, fun p hp => by have := hf p hp; omega⟩
theorem pcmp_ge {A B : Nat} (h : B ≤ A) : decide (0 ≤ cmpN A B) = true := by
 refine decide_eq_true ?_
 unfold cmpN
 rw [if_neg (by omega)]
 split <;> decide
theorem pcmp_below {A B : Nat} (h : A < B) : decide (0 ≤ cmpN A B) = false := by
 refine decide_eq_false ?_
 unfold cmpN
 rw [if_pos h]
 decide
/-- How often the divisor has still to be taken off. -/
def partM (g k : Nat) (w : World) : Nat := 10 - (intOf ((w.cell? ⟨g, k, none⟩).getD (.int .i64 0))).toNat
theorem partM_own {w : World} {g n k : Nat} {e : TypeId} {f : Nat → Nat} (h : Own .i64 e w g n f) (hk : k < n) : partM g k w = 10 - f k := by
 unfold partM
 rw [h.cell k hk]
 simp [intOf]
/-- A row and digits with their number, both in new memory. -/
def PParted (A B n : Nat) (w : World) (e : Ending) (w' : World) : Prop :=
 ∃ (g : Nat) (a : Option Addr) (m c : Nat), e = .returned (.tuple #[.slice (some ⟨g, 0, none⟩) n n, .slice a m c]) ∧ w.heap.size ≤ g ∧ Own .i64 3 w' g n (dig (A / B)) ∧ Rst w g w' a m c (A % B) ∧ Below w.heap.size w w'
set_option maxHeartbeats 3200000 in
set_option maxRecDepth 4000 in
theorem rparted_any (a b : Option Addr) (n c m d A B : Nat) (w : World) (ha : Lie .i64 w a n c (dig A)) (hb : Lie .i64 w b m d (dig B)) (hA : A < 10 ^ n) (fb : Fit10 m B) (hB : 0 < B) (hn : n ≤ 1000000) (hm : m ≤ 1000000) :
  Calls Tryz.prog 50 #[.slice a n c, .slice b m d] w (PParted A B n w) := by
 obtain ⟨i0, hi0, hz0, hzz1, hzz2⟩ := info_parts Tryz.rinfo3
 have HI := Lib.hid (And.intro hi0 (And.intro hz0 (And.intro hzz1 hzz2)))
 have HA := Lib.hid hA
 have HFB := Lib.hid fb
 have HB := Lib.hid hB
 clear hi0 hz0 hzz1 hzz2 hA fb hB
 have hn4 : 8 * n ≤ 281474976710656 := by omega
 have hn6 : n ≤ 9223372036854775807 := by omega
 go_enter Tryz.func50, Tryz.ntmps50
 go_wp2_with (first | (at_make; refine wpList_mk _ rfl (.tmp 10) (.tmp 10) 40 rfl 3 .i64 8 Tryz.ru40 Tryz.rinfo3 _ _ n rfl rfl (by omega) (by omega) hn4 hn6 ?_; intro g w2 hg hown hb2))
 go_loopw [7, 8] (fun rv iv wr => ∃ (k : Nat) (ar : Option Addr) (nr cr : Nat), k ≤ n ∧ rv = .slice ar nr cr ∧ iv = .int .i64 ((k : Int) - 1) ∧ Rst w g wr ar nr cr (A / 10 ^ k % B) ∧ Own .i64 3 wr g n (partQ (A / B) k) ∧ Below w.heap.size w wr) (fun _ iv _ => (intOf iv + 1).toNat)
 case atStart => exact ⟨n, none, 0, 0, Nat.le_refl _, rfl, by go_num, ⟨lie_nil _ _ _, by rw [part_first HA.out]; exact fit10_zero, fun p hp => by cases hp⟩, hown.congr (fun p hp => (partQ_start _ _ p hp).symm), hb2⟩
 case round =>
  clear hown hb2
  obtain ⟨k, ar, nr, cr, hk, rfl, rfl, hR, hown, hbl⟩ := hrel
  cases k with
  | zero =>
   have HR : Hid (Rst w g wr ar nr cr (A % B)) := by show Rst _ _ _ _ _ _ _; rw [Nat.pow_zero, Nat.div_one] at hR; exact hR
   have HO : Hid (Own .i64 3 wr g n (dig (A / B))) := hown.congr (partQ_end _ n)
   clear hR hown
   go_wp2
   go_ret2
   exact ⟨g, ar, nr, cr, rfl, hg, HO.out, HR.out, hbl⟩
  | succ k =>
   rw [show (((k + 1 : Nat) : Int) - 1) = (k : Int) by omega]
   obtain ⟨b1, o1, rfl, hb1⟩ := ha.some_of_pos (by omega)
   have c1 := (ha.below hbl).at k (by omega)
   have hdl := dig_lt A k
   obtain ⟨R, hRe⟩ : ∃ R : Nat, R = A / 10 ^ (k + 1) % B := ⟨_, rfl⟩
   rw [← hRe] at hR
   obtain ⟨x, hx⟩ : ∃ x : Nat, x = dig A k := ⟨_, rfl⟩
   rw [← hx] at c1 hdl
   have HS : Hid (10 * R + x = partS A B k) := by show _ = _; unfold partS; rw [hRe, hx]
   have hnr : nr ≤ m := fit10_le hR.fit (Nat.lt_trans (by rw [hRe]; exact Nat.mod_lt _ HB.out) HFB.out.1)
   have hmx : nr + 1 ≤ maxLen := by unfold maxLen; omega
   have hlr := hR.lie.below ((Below.refl wr.heap.size wr).alloc (Nat.le_refl _) (.cells #[.int .i64 ((x : Nat) : Int)] 3))
   have HRF := Lib.hid hR.fit
   clear hR hRe hx
   go_wp2_with (first
    | (at_builtin; refine wpList_append_lie rfl _ _ 40 rfl wr.heap.size 3 i0 (.int .i64 0) 8 Tryz.ru40 HI.out.1 HI.out.2.1 HI.out.2.2.1 HI.out.2.2.2 rfl _ 1 [.int .i64 ((x : Nat) : Int)] rfl ?pc1 ar nr cr (dig R) rfl ?pc2 ?pc3 ?pc4 ?pc5 ?_)
    | fail)
   case pc1 => exact World.ownsRow_lit wr #[.int .i64 ((x : Nat) : Int)] 1 (Nat.le_refl _) (by unfold maxLen; omega) rfl
   case pc2 => exact hlr
   case pc3 => omega
   case pc4 => omega
   case pc5 => simp
   intro v' w3 hown' hgrow
   rw [vals_cons R x nr hdl, HS.out, Nat.add_comm 1 nr] at hown'
   have hba : Below wr.heap.size wr w3 := ((Below.refl _ _).alloc (Nat.le_refl _) _).grown hgrow (by simp) (fun q hq => by cases hq; exact Nat.le_refl _)
   obtain ⟨a4, c4, rfl, hl4, hfr4⟩ := owned_fresh hown'
   have HF : Hid (partS A B k < 10 ^ (nr + 1)) := by show _ < _; rw [← HS.out]; exact part_fit hdl HRF.out.1
   have ho3 := hown.below hba
   have hb3 : Below w.heap.size w w3 := hbl.trans (hba.mono hbl.size)
   have hgl := hown.lt
   have hsz := hbl.size
   clear hown' hgrow hba hlr hown c1
   go_wp2_with fail
   refine (rmade_any false a4 (nr + 1) c4 (partS A B k) _ hl4 HF.out).mono ?_
   rintro e w4 ⟨bl4, n4, c5, rfl, hnum, hb4⟩
   have hR4 : Rst w g w4 a4 n4 c5 (partS A B k) := rst_made hnum hfr4 hsz hgl
   have ho4 := ho3.below hb4
   have hb4' : Below w.heap.size w w4 := hb3.trans (hb4.mono hb3.size)
   clear hnum hfr4 hl4 hgl hsz ho3 hb3 hb4 hbl HRF HF HS hnr hmx hdl
   go_wp2
   go_loopw [7] (fun rv wr => ∃ (j : Nat) (ar : Option Addr) (nr cr : Nat), rv = .slice ar nr cr ∧ j * B ≤ partS A B k ∧ Rst w g wr ar nr cr (partS A B k - j * B) ∧ Own .i64 3 wr g n (partJ (A / B) k j) ∧ Below w.heap.size w wr) (fun _ wr => partM g k wr)
   case atStart => exact ⟨0, a4, n4, c5, rfl, by rw [Nat.zero_mul]; exact Nat.zero_le _, by rw [Nat.zero_mul, Nat.sub_zero]; exact hR4, ho4.congr (partJ_start _ k n), hb4'⟩
   case round =>
    clear ho4 hR4 hb4'
    obtain ⟨j, ar, nr, cr, rfl, hj, hR, hown, hbl⟩ := hrel
    have HJ := Lib.hid hj
    have hlr := hR.lie
    have hfr := hR.fit
    have hlb := hb.below hbl
    clear hj
    go_wp2_with fail
    refine (rsize_any ar b nr cr m d (partS A B k - j * B) B _ hlr hlb hfr HFB.out).mono ?_
    rintro e w5 ⟨rfl, hb5⟩
    have hR5 := hR.below hb5
    have ho5 := hown.below hb5
    have hb5' : Below w.heap.size w w5 := hbl.trans (hb5.mono hbl.size)
    have hm0 := Lib.hid (partM_own hown (show k < n by omega))
    clear hlr hlb hfr hR hown hb5 hbl
    by_cases hc : B ≤ partS A B k - j * B
    ·
     have hcd := pcmp_ge hc
     have hj10 := part_few HB.out HJ.out
     obtain ⟨HJ2, HE⟩ := part_more hc HJ.out
     have HJ2 := Lib.hid HJ2
     have HE := Lib.hid HE
     have HC := Lib.hid hc
     have hnr : nr ≤ m + 1 := fit10_le hR5.fit (Nat.lt_of_le_of_lt (Nat.sub_le _ _) (Nat.lt_trans (partS_lt HB.out) (by have := HFB.out.1; rw [Nat.pow_succ]; omega)))
     have hl5 := hR5.lie
     have hf5 := Lib.hid hR5.fit.1
     have hlb5 := hb.below hb5'
     generalize cmpN (partS A B k - j * B) B = cc at *
     clear hc hR5
     go_wp2_with fail
     refine (rless_any ar b nr cr m d (partS A B k - j * B) B _ hl5 hlb5 hf5.out HFB.out.1 HC.out (by omega) (by omega)).mono ?_
     rintro e w6 ⟨a6, m6, c6, rfl, hl6, hN6, hfr6, hb6⟩
     rw [HE.out] at hl6 hN6
     have ho6 := ho5.below hb6
     have hgl := ho5.lt
     have hsz := hb5'.size
     have hb6' : Below w.heap.size w w6 := hb5'.trans (hb6.mono hb5'.size)
     have HN6 := Lib.hid hN6
     clear hl5 hlb5 ho5 hb6 hb5' hN6
     go_wp2_with fail
     refine (rmade_any false a6 m6 c6 (partS A B k - (j + 1) * B) _ hl6 HN6.out).mono ?_
     rintro e w7 ⟨bl7, n7, c7, rfl, hnum, hb7⟩
     have hR7 : Rst w g w7 a6 n7 c7 (partS A B k - (j + 1) * B) := rst_made hnum hfr6 hsz hgl
     have ho7 := ho6.below hb7
     have hb7' : Below w.heap.size w w7 := hb6'.trans (hb7.mono hb6'.size)
     have c4 : w7.cell? ⟨g, k, none⟩ = some (.int .i64 ((j : Nat) : Int)) := by rw [ho7.cell k (by omega), partJ_at]
     have c5 := ho7.free k
     clear hl6 hfr6 hnum hb7 ho6 hb6' hgl hsz
     go_wp2
     have ho8 := ho7.put (i := k) (x := (j : Int) + 1) (F := partJ (A / B) k (j + 1)) (by omega) (by rw [partJ_at]; rfl) (partJ_more _ k j (j + 1) n)
     go_roundw
     case rel => exact ⟨j + 1, a6, n7, c7, rfl, HJ2.out, ⟨hR7.lie.only (Only.setCell _ _ _ _) (fun p hp => (hR7.far p hp).2), hR7.fit, hR7.far⟩, ho8, hb7'.setCell (p := ⟨g, k, none⟩) hg _⟩
     case measure => rw [partM_own ho8 (by omega), hm0.out, partJ_at, partJ_at]; omega
    ·
     have hcd := pcmp_below (Nat.lt_of_not_le hc)
     obtain ⟨hje, hre⟩ := part_last HB.out HJ.out (Nat.lt_of_not_le hc)
     rw [hre] at hR5
     have HO : Hid (Own .i64 3 w5 g n (partQ (A / B) k)) := by
      rw [hje] at ho5
      exact ho5.congr (partJ_end _ k n)
     generalize cmpN (partS A B k - j * B) B = cc at *
     clear ho5 hm0 hre hje hc
     go_wp2
     go_roundw
     case rel => exact ⟨k, ar, nr, cr, by omega, rfl, by go_num, hR5, HO.out, hb5'⟩
     case measure => simp [intOf]
end Go.Proofs.YtpahkpcoinbgcaaGreatDoor

/- The walk of Quo. -/
namespace Go.Proofs.YtpahkpcoinbgcaaGreatDoor
open Go.RowKit
/-- Two numbers in boxes of their own, and places for two results that hold what is said, behind what was there. -/
structure QBox (w w1 : World) (bl : Bool) (a : Option Addr) (n c : Nat) (bl' : Bool) (a' : Option Addr) (n' c' : Nat) (qb : Bool) (qa : Option Addr) (qn qc : Nat) (rb : Bool) (ra : Option Addr) (rn rc : Nat) : Prop where
  below : Below w.heap.size w w1
  k0 : w1.cell? ⟨w.heap.size, 0, none⟩ = some (.bool bl)
  k1 : w1.cell? ⟨w.heap.size, 1, none⟩ = some (.slice a n c)
  l0 : w1.cell? ⟨w.heap.size + 1, 0, none⟩ = some (.bool bl')
  l1 : w1.cell? ⟨w.heap.size + 1, 1, none⟩ = some (.slice a' n' c')
  q0 : w1.cell? ⟨w.heap.size + 2, 0, none⟩ = some (.bool qb)
  q1 : w1.cell? ⟨w.heap.size + 2, 1, none⟩ = some (.slice qa qn qc)
  r0 : w1.cell? ⟨w.heap.size + 3, 0, none⟩ = some (.bool rb)
  r1 : w1.cell? ⟨w.heap.size + 3, 1, none⟩ = some (.slice ra rn rc)
  f0 : w1.frozen? ⟨w.heap.size + 2, 0, none⟩ = false
  f1 : w1.frozen? ⟨w.heap.size + 2, 1, none⟩ = false
  g0 : w1.frozen? ⟨w.heap.size + 3, 0, none⟩ = false
  g1 : w1.frozen? ⟨w.heap.size + 3, 1, none⟩ = false
  sz : w.heap.size + 3 < w1.heap.size
theorem qbox_mk (w : World) (t : TypeId) (bl : Bool) (a : Option Addr) (n c : Nat) (bl' : Bool) (a' : Option Addr) (n' c' : Nat) :
    QBox w ((((w.alloc (.cells #[.bool bl, .slice a n c] t)).alloc (.cells #[.bool bl', .slice a' n' c'] t)).alloc (.cells #[.bool false, .slice none 0 0] t)).alloc (.cells #[.bool false, .slice none 0 0] t)) bl a n c bl' a' n' c' false none 0 0 false none 0 0 :=
  ⟨((((Below.refl w.heap.size w).alloc (Nat.le_refl _) _).alloc (by simp) _).alloc (by simp; omega) _).alloc (by simp; omega) _, by simp [go_sem], by simp [go_sem], by simp [go_sem], by simp [go_sem], by simp [go_sem], by simp [go_sem], by simp [go_sem], by simp [go_sem], by simp [go_sem], by simp [go_sem], by simp [go_sem], by simp [go_sem], by simp⟩
section
variable {w w1 w2 : World} {bl : Bool} {a : Option Addr} {n c : Nat} {bl' : Bool} {a' : Option Addr} {n' c' : Nat} {qb : Bool} {qa : Option Addr} {qn qc : Nat} {rb : Bool} {ra : Option Addr} {rn rc : Nat}
theorem QBox.later (h : QBox w w1 bl a n c bl' a' n' c' qb qa qn qc rb ra rn rc) (hb : Below w1.heap.size w1 w2) : QBox w w2 bl a n c bl' a' n' c' qb qa qn qc rb ra rn rc := by
  have hs := h.sz
  exact ⟨h.below.trans (hb.mono h.below.size), (hb.cell (p := ⟨w.heap.size, 0, none⟩) (by show w.heap.size < _; omega)).trans h.k0, (hb.cell (p := ⟨w.heap.size, 1, none⟩) (by show w.heap.size < _; omega)).trans h.k1,
    (hb.cell (p := ⟨w.heap.size + 1, 0, none⟩) (by show w.heap.size + 1 < _; omega)).trans h.l0, (hb.cell (p := ⟨w.heap.size + 1, 1, none⟩) (by show w.heap.size + 1 < _; omega)).trans h.l1,
    (hb.cell (p := ⟨w.heap.size + 2, 0, none⟩) (by show w.heap.size + 2 < _; omega)).trans h.q0, (hb.cell (p := ⟨w.heap.size + 2, 1, none⟩) (by show w.heap.size + 2 < _; omega)).trans h.q1,
    (hb.cell (p := ⟨w.heap.size + 3, 0, none⟩) hs).trans h.r0, (hb.cell (p := ⟨w.heap.size + 3, 1, none⟩) hs).trans h.r1,
    (hb.frozen (p := ⟨w.heap.size + 2, 0, none⟩) (by show w.heap.size + 2 < _; omega)).trans h.f0, (hb.frozen (p := ⟨w.heap.size + 2, 1, none⟩) (by show w.heap.size + 2 < _; omega)).trans h.f1,
    (hb.frozen (p := ⟨w.heap.size + 3, 0, none⟩) hs).trans h.g0, (hb.frozen (p := ⟨w.heap.size + 3, 1, none⟩) hs).trans h.g1, Nat.lt_of_lt_of_le hs hb.size⟩
theorem QBox.drew (h : QBox w w1 bl a n c bl' a' n' c' qb qa qn qc rb ra rn rc) : QBox w w1.drew bl a n c bl' a' n' c' qb qa qn qc rb ra rn rc := h.later (Below.refl _ _).drew
theorem near2 {W : World} {b : Nat} {u v x y : Value} (h0 : W.cell? ⟨b, 0, none⟩ = some x) (h1 : W.cell? ⟨b, 1, none⟩ = some y) :
    ((W.setCell ⟨b, 0, none⟩ u).setCell ⟨b, 1, none⟩ v).cell? ⟨b, 0, none⟩ = some u ∧ ((W.setCell ⟨b, 0, none⟩ u).setCell ⟨b, 1, none⟩ v).cell? ⟨b, 1, none⟩ = some v := by
  have e1 : (W.setCell ⟨b, 0, none⟩ u).cell? ⟨b, 1, none⟩ = some y := by rw [World.cell?_setCell_other (h := by intro e; cases e)]; exact h1
  refine ⟨?_, World.cell?_setCell_same (h := e1) ..⟩
  rw [World.cell?_setCell_other (h := by intro e; cases e)]
  exact World.cell?_setCell_same (h := h0) ..
theorem QBox.setQ (h : QBox w w1 bl a n c bl' a' n' c' qb qa qn qc rb ra rn rc) (b : Bool) (x : Option Addr) (i j : Nat) :
    QBox w ((w1.setCell ⟨w.heap.size + 2, 0, none⟩ (.bool b)).setCell ⟨w.heap.size + 2, 1, none⟩ (.slice x i j)) bl a n c bl' a' n' c' b x i j rb ra rn rc :=
  ⟨h.below.trans ((only2 _ _ _ _).below (by omega)), far2 h.k0 (by omega), far2 h.k1 (by omega), far2 h.l0 (by omega), far2 h.l1 (by omega), (near2 h.q0 h.q1).1, (near2 h.q0 h.q1).2, far2 h.r0 (by omega), far2 h.r1 (by omega),
    by simp [h.f0], by simp [h.f1], by simp [h.g0], by simp [h.g1], by rw [(only2 _ _ _ _).size]; exact h.sz⟩
theorem QBox.setR (h : QBox w w1 bl a n c bl' a' n' c' qb qa qn qc rb ra rn rc) (b : Bool) (x : Option Addr) (i j : Nat) :
    QBox w ((w1.setCell ⟨w.heap.size + 3, 0, none⟩ (.bool b)).setCell ⟨w.heap.size + 3, 1, none⟩ (.slice x i j)) bl a n c bl' a' n' c' qb qa qn qc b x i j :=
  ⟨h.below.trans ((only2 _ _ _ _).below (by omega)), far2 h.k0 (by omega), far2 h.k1 (by omega), far2 h.l0 (by omega), far2 h.l1 (by omega), far2 h.q0 (by omega), far2 h.q1 (by omega), (near2 h.r0 h.r1).1, (near2 h.r0 h.r1).2,
    by simp [h.f0], by simp [h.f1], by simp [h.g0], by simp [h.g1], by rw [(only2 _ _ _ _).size]; exact h.sz⟩
end
/-- A quotient and what is left are handed back, in new memory, and an error's number. -/
def PQ (q r er : Int) (w : World) (e : Ending) (w' : World) : Prop :=
  ∃ (b1 : Bool) (a1 : Option Addr) (n1 c1 : Nat) (b2 : Bool) (a2 : Option Addr) (n2 c2 : Nat), e = .returned (.tuple #[.agg #[.bool b1, .slice a1 n1 c1], .agg #[.bool b2, .slice a2 n2 c2], .int .i64 er]) ∧
    Num w' b1 a1 n1 c1 q ∧ Num w' b2 a2 n2 c2 r ∧ (∀ p, a1 = some p → w.heap.size ≤ p.block) ∧ (∀ p, a2 = some p → w.heap.size ≤ p.block) ∧ Below w.heap.size w w'
/-- q and r are the quotient and the rest of x and y. -/
def IsQuo (x y q r : Int) : Prop := x = q * y + r ∧ (0 < y → 0 ≤ r ∧ r < y) ∧ (y < 0 → y < r ∧ r ≤ 0)
def PQuoI (x y : Int) (w : World) (e : Ending) (w' : World) : Prop := ∃ q r : Int, IsQuo x y q r ∧ PQ q r 0 w e w'
theorem quo_parts {x y : Int} (hy : y ≠ 0) : ∃ P : Int, P = ((x.natAbs / y.natAbs : Nat) : Int) * (y.natAbs : Int) ∧ P + ((x.natAbs % y.natAbs : Nat) : Int) = (x.natAbs : Int) ∧ x.natAbs % y.natAbs < y.natAbs := by
  refine ⟨_, rfl, ?_, Nat.mod_lt _ (by omega)⟩
  have := Nat.div_add_mod x.natAbs y.natAbs
  rw [← Int.natCast_mul, Nat.mul_comm]
  omega
theorem quo_plain {x y : Int} {bl bl' : Bool} (h : bl = decide (x < 0)) (h' : bl' = decide (y < 0)) (hy : y ≠ 0) (hc : x.natAbs % y.natAbs = 0 ∨ (bl == bl') = true) :
    IsQuo x y (sg (!(bl == bl')) (x.natAbs / y.natAbs)) (sg bl (x.natAbs % y.natAbs)) := by
  obtain ⟨P, hP, h1, h2⟩ := quo_parts (x := x) hy
  generalize x.natAbs / y.natAbs = Q at *
  generalize x.natAbs % y.natAbs = R at *
  by_cases hx : x < 0 <;> by_cases hyn : y < 0
  · have e : y = -(y.natAbs : Int) := by omega
    have e2 : sg (!(bl == bl')) Q * y = -P := by rw [e, hP]; simp [h, h', hx, hyn, sg, Int.mul_neg]
    refine ⟨?_, ?_, ?_⟩ <;> (try rw [e2]) <;> simp [sg, h, hx] <;> omega
  · have e : y = (y.natAbs : Int) := by omega
    have e2 : sg (!(bl == bl')) Q * y = -P := by rw [hP]; conv => lhs; rw [e]
                                                 simp [h, h', hx, hyn, sg, Int.neg_mul]
    simp [h, h', hx, hyn] at hc
    refine ⟨?_, ?_, ?_⟩ <;> (try rw [e2]) <;> simp [sg, h, hx] <;> omega
  · have e : y = -(y.natAbs : Int) := by omega
    have e2 : sg (!(bl == bl')) Q * y = P := by rw [e, hP]; simp [h, h', hx, hyn, sg, Int.neg_mul_neg]
    simp [h, h', hx, hyn] at hc
    refine ⟨?_, ?_, ?_⟩ <;> (try rw [e2]) <;> simp [sg, h, hx] <;> omega
  · have e : y = (y.natAbs : Int) := by omega
    have e2 : sg (!(bl == bl')) Q * y = P := by rw [hP]; conv => lhs; rw [e]
                                                simp [h, h', hx, hyn, sg]
    refine ⟨?_, ?_, ?_⟩ <;> (try rw [e2]) <;> simp [sg, h, hx] <;> omega
theorem quo_fixed {x y : Int} {bl bl' : Bool} (h : bl = decide (x < 0)) (h' : bl' = decide (y < 0)) (hy : y ≠ 0) (hr : x.natAbs % y.natAbs ≠ 0) (hc : (bl == bl') = false) :
    IsQuo x y (sg (!(bl == bl')) (x.natAbs / y.natAbs) - 1) (sg bl (x.natAbs % y.natAbs) + y) := by
  obtain ⟨P, hP, h1, h2⟩ := quo_parts (x := x) hy
  generalize x.natAbs / y.natAbs = Q at *
  generalize x.natAbs % y.natAbs = R at *
  by_cases hx : x < 0 <;> by_cases hyn : y < 0
  · simp [h, h', hx, hyn] at hc
  · have e : y = (y.natAbs : Int) := by omega
    have e2 : sg (!(bl == bl')) Q * y = -P := by rw [hP]; conv => lhs; rw [e]
                                                 simp [h, h', hx, hyn, sg, Int.neg_mul]
    refine ⟨?_, ?_, ?_⟩ <;> (try rw [Int.sub_mul, e2]) <;> simp [sg, h, hx] <;> omega
  · have e : y = -(y.natAbs : Int) := by omega
    have e2 : sg (!(bl == bl')) Q * y = P := by rw [e, hP]; simp [h, h', hx, hyn, sg, Int.neg_mul_neg]
    refine ⟨?_, ?_, ?_⟩ <;> (try rw [Int.sub_mul, e2]) <;> simp [sg, h, hx] <;> omega
  · simp [h, h', hx, hyn] at hc
theorem sgn_ne {z : Int} : (sgnI z != 0) = !(decide (z = 0)) := by
  unfold sgnI
  by_cases h1 : z < 0
  · rw [if_pos h1]; simp; omega
  · rw [if_neg h1]; by_cases h2 : z = 0
    · rw [if_pos h2]; simp [h2]
    · rw [if_neg h2]; simp [h2]
theorem sg_zero {bl : Bool} {N : Nat} : sg bl N = 0 ↔ N = 0 := by unfold sg; cases bl <;> simp
theorem pq_end {w w8 : World} {bl : Bool} {a : Option Addr} {n c : Nat} {bl' : Bool} {a' : Option Addr} {n' c' : Nat} {qb : Bool} {qa : Option Addr} {qn qc : Nat} {rb : Bool} {ra : Option Addr} {rn rc : Nat} {q r : Int}
    (hX : QBox w w8 bl a n c bl' a' n' c' qb qa qn qc rb ra rn rc) (hq : Num w8 qb qa qn qc q) (hr : Num w8 rb ra rn rc r) (hQ : ∀ p, qa = some p → w.heap.size + 3 < p.block) (hR : ∀ p, ra = some p → w.heap.size + 3 < p.block) :
    PQ q r 0 w (.returned (.tuple #[.agg #[.bool qb, .slice qa qn qc], .agg #[.bool rb, .slice ra rn rc], .int .i64 0]))
      (((((w8.setCell ⟨w.heap.size + 2, 0, none⟩ (.bool qb)).setCell ⟨w.heap.size + 2, 1, none⟩ (.slice qa qn qc)).setCell ⟨w.heap.size + 3, 0, none⟩ (.bool rb)).setCell ⟨w.heap.size + 3, 1, none⟩ (.slice ra rn rc)).drew) := by
  have o1 := only2 w8 (w.heap.size + 2) (.bool qb) (.slice qa qn qc)
  have o2 := only2 ((w8.setCell ⟨w.heap.size + 2, 0, none⟩ (.bool qb)).setCell ⟨w.heap.size + 2, 1, none⟩ (.slice qa qn qc)) (w.heap.size + 3) (.bool rb) (.slice ra rn rc)
  have hd : ∀ W : World, Below W.heap.size W W.drew := fun W => (Below.refl _ _).drew
  refine ⟨qb, qa, qn, qc, rb, ra, rn, rc, rfl, ((hq.only o1 ?_).only o2 ?_).below (hd _), ((hr.only o1 ?_).only o2 ?_).below (hd _), ?_, ?_, (hX.below.trans ((o1.below (by omega)).trans (o2.below (by omega)))).drew⟩
  · intro p hp; have := hQ p hp; omega
  · intro p hp; have := hQ p hp; omega
  · intro p hp; have := hR p hp; omega
  · intro p hp; have := hR p hp; omega
  · intro p hp; have := hQ p hp; omega
  · intro p hp; have := hR p hp; omega
set_option maxRecDepth 100000 in
set_option maxHeartbeats 3200000 in
theorem Quo_any (bl : Bool) (a : Option Addr) (n c : Nat) (x : Int) (bl' : Bool) (a' : Option Addr) (n' c' : Nat) (y : Int) (w : World) (h : Num w bl a n c x) (h' : Num w bl' a' n' c' y) (hn : n ≤ 9000000) (hn' : n' ≤ 9000000) (hy : y ≠ 0) :
    Calls Tryz.prog 61 #[.agg #[.bool bl, .slice a n c], .agg #[.bool bl', .slice a' n' c']] w (PQuoI x y w) := by
  have H := Lib.hid h
  have H' := Lib.hid h'
  have HY := Lib.hid hy
  have hsy : (sgnI y == 0) = false := by unfold sgnI; (repeat' split) <;> simp_all
  clear h h' hy
  go_enter Tryz.func61, Tryz.ntmps61
  go_wp2_with fail
  have hX1 := qbox_mk w 53 bl a n c bl' a' n' c'
  generalize (((w.alloc (.cells #[.bool bl, .slice a n c] 53)).alloc (.cells #[.bool bl', .slice a' n' c'] 53)).alloc (.cells #[.bool false, .slice none 0 0] 53)).alloc (.cells #[.bool false, .slice none 0 0] 53) = w1 at *
  refine (Sign_any bl' a' n' c' y _ (H'.out.below hX1.below)).mono ?_
  rintro e w2 ⟨rfl, hb2⟩
  have hX2 := hX1.later hb2
  have hs2 := hX2.sz
  clear hX1 hb2
  have k0 := hX2.k0
  have k1 := hX2.k1
  have l0 := hX2.l0
  have l1 := hX2.l1
  go_wp2_with fail
  refine (quotient_any a a' n c n' c' x.natAbs y.natAbs _ (H.out.lie.below hX2.below) (H'.out.lie.below hX2.below) H.out.fit H'.out.fit (by omega) (by have := HY.out; omega)).mono ?_
  rintro e w3 ⟨a3, n3, c3, a4, n4, c4, rfl, ⟨hl3, hf3, hfr3⟩, ⟨hl4, hf4, hfr4⟩, hb3⟩
  have hX3 := hX2.later hb3
  clear k0 k1 l0 l1 hX2
  have k0 := hX3.k0
  have l0 := hX3.l0
  have k1 := hX3.k1
  have l1 := hX3.l1
  have F3 := Lib.hid hf3
  have F4 := Lib.hid hf4
  have R3 := Lib.hid hfr3
  have R4 := Lib.hid hfr4
  clear hf3 hf4 hfr3 hfr4
  go_wp2_with fail
  refine (made_any _ a3 n3 c3 _ _ hl3 F3.out.1).mono ?_
  rintro e w4 ⟨qb, qa, qn, qc, rfl, hq4, hqa, hb4⟩
  have hX4 := hX3.later hb4
  have hl4' := hl4.below hb4
  have hqfr : ∀ p, qa = some p → w.heap.size + 3 < p.block := fun p hp => by
    rcases hqa with h | h
    · rw [h] at hp; cases hp
    · rw [h] at hp; have := R3.out p hp; omega
  have QFR := Lib.hid hqfr
  clear k0 l0 k1 l1 hX3 hl3 hl4 hqa hqfr hb4
  have q0 := hX4.q0
  have q1 := hX4.q1
  have f0 := hX4.f0
  have f1 := hX4.f1
  have k0 := hX4.k0
  go_wp2_with fail
  have hX5 := hX4.setQ qb qa qn qc
  have hO5 := only2 w4 (w.heap.size + 2) (.bool qb) (.slice qa qn qc)
  have hq5 := hq4.only hO5 (fun p hp => by have := QFR.out p hp; omega)
  have hl5 := hl4'.only hO5 (fun p hp => by have := R4.out p hp; omega)
  have hz5 : w.heap.size + 3 < w4.heap.size := hX4.sz
  clear q0 q1 f0 f1 k0 hX4 hq4 hl4'
  generalize (w4.setCell ⟨w.heap.size + 2, 0, none⟩ (.bool qb)).setCell ⟨w.heap.size + 2, 1, none⟩ (.slice qa qn qc) = w5 at *
  refine (made_any bl a4 n4 c4 _ _ hl5 F4.out.1).mono ?_
  rintro e w6 ⟨rb, ra, rn, rc, rfl, hr6, hra, hb6⟩
  have hX6 := hX5.later hb6
  have hq6 := hq5.below hb6
  have hrfr : ∀ p, ra = some p → w.heap.size + 3 < p.block := fun p hp => by
    rcases hra with h | h
    · rw [h] at hp; cases hp
    · rw [h] at hp; have := R4.out p hp; omega
  have RFR := Lib.hid hrfr
  clear hX5 hq5 hl5 hra hrfr hb6 hO5
  have r0 := hX6.r0
  have r1 := hX6.r1
  have g0 := hX6.g0
  have g1 := hX6.g1
  go_wp2_with fail
  have hX7 := hX6.setR rb ra rn rc
  have hO7 := only2 w6 (w.heap.size + 3) (.bool rb) (.slice ra rn rc)
  have hq7 := hq6.only hO7 (fun p hp => by have := QFR.out p hp; omega)
  have hr7 := hr6.only hO7 (fun p hp => by have := RFR.out p hp; omega)
  clear r0 r1 g0 g1 hX6 hq6 hr6
  generalize (w6.setCell ⟨w.heap.size + 3, 0, none⟩ (.bool rb)).setCell ⟨w.heap.size + 3, 1, none⟩ (.slice ra rn rc) = w7 at *
  refine (Sign_any rb ra rn rc _ _ hr7).mono ?_
  rintro e w8 ⟨rfl, hb8⟩
  have hX8 := hX7.later hb8
  have hq8 := hq7.below hb8
  have hr8 := hr7.below hb8
  have hne := sgn_ne (z := sg bl (x.natAbs % y.natAbs))
  clear hX7 hq7 hr7 hb8 hO7
  have k0 := hX8.k0
  have l0 := hX8.l0
  have k1 := hX8.k1
  have l1 := hX8.l1
  have q0 := hX8.q0
  have q1 := hX8.q1
  have r0 := hX8.r0
  have r1 := hX8.r1
  have f0 := hX8.f0
  have f1 := hX8.f1
  have g0 := hX8.g0
  have g1 := hX8.g1
  by_cases hR0 : x.natAbs % y.natAbs = 0
  · have hd : (sgnI (sg bl (x.natAbs % y.natAbs)) != 0) = false := by rw [hne, decide_eq_true (sg_zero.2 hR0)]; rfl
    have HQ := Lib.hid (quo_plain H.out.sgn H'.out.sgn HY.out (.inl hR0))
    clear hne hR0
    generalize hsq : sg (!(bl == bl')) (x.natAbs / y.natAbs) = q at *
    generalize hsr : sg bl (x.natAbs % y.natAbs) = r at *
    clear hsq hsr
    generalize hcc : sgnI r = cc at *
    clear hcc
    go_wp2
    go_region
    all_goals go_wp2
    refine bodyPost_ret (v := .tuple #[.agg #[.bool qb, .slice qa qn qc], .agg #[.bool rb, .slice ra rn rc], .int .i64 0]) (by simp [results, Tryz.results61, go_sem, q0, q1, r0, r1]) rfl ?_
    exact ⟨q, r, HQ.out, pq_end hX8 hq8 hr8 QFR.out RFR.out⟩
  · have hd : (sgnI (sg bl (x.natAbs % y.natAbs)) != 0) = true := by rw [hne, decide_eq_false (fun h => hR0 (sg_zero.1 h))]; rfl
    by_cases hbb : (bl == bl') = true
    · have HQ := Lib.hid (quo_plain H.out.sgn H'.out.sgn HY.out (.inr hbb))
      clear hne hR0
      generalize hsq : sg (!(bl == bl')) (x.natAbs / y.natAbs) = q at *
      generalize hsr : sg bl (x.natAbs % y.natAbs) = r at *
      clear hsq hsr
      generalize hcc : sgnI r = cc at *
      clear hcc
      go_wp2
      go_region
      all_goals go_wp2
      refine bodyPost_ret (v := .tuple #[.agg #[.bool qb, .slice qa qn qc], .agg #[.bool rb, .slice ra rn rc], .int .i64 0]) (by simp [results, Tryz.results61, go_sem, q0, q1, r0, r1]) rfl ?_
      exact ⟨q, r, HQ.out, pq_end hX8 hq8 hr8 QFR.out RFR.out⟩
    · have hbb' : (bl == bl') = false := by simpa using hbb
      have HQ := Lib.hid (quo_fixed H.out.sgn H'.out.sgn HY.out hR0 hbb')
      have hqn : qn ≤ n := by
        have := hq8.fit
        rw [sg_abs] at this
        exact fit_le this (Nat.lt_of_le_of_lt (Nat.div_le_self _ _) H.out.fit.1)
      have hrn : rn ≤ n' := by
        have := hr8.fit
        rw [sg_abs] at this
        exact fit_le this (Nat.lt_trans (Nat.mod_lt _ (by have := HY.out; omega)) H'.out.fit.1)
      clear hne hR0 hbb
      generalize hsq : sg (!(bl == bl')) (x.natAbs / y.natAbs) = q at *
      generalize hsr : sg bl (x.natAbs % y.natAbs) = r at *
      clear hsq hsr
      generalize hcc : sgnI r = cc at *
      clear hcc
      go_wp2
      go_region_with (first
          | (go_at_call 32; refine (Of_any 1 _ (by omega) (by omega)).mono ?_; rintro e w9 ⟨b9, a9, n9, c9, rfl, hN9, hfr9, hb9⟩; have hX9 := hX8.later (below_undrew hb9); have hq9 := hq8.below (below_undrew hb9); have hr9 := hr8.below (below_undrew hb9); have q09 := hX9.q0; have q19 := hX9.q1; have hn9 : n9 ≤ 10000000 := Nat.le_trans (fit_le hN9.fit (m := 1) (by decide)) (by omega))
          | (go_at_call 84; refine (Sub_any qb qa qn qc q b9 a9 n9 c9 1 _ hq9 hN9 (by omega) hn9).mono ?_; rintro e wA ⟨bA, aA, nA, cA, rfl, hNA, hfrA, hbA⟩; have hXA := hX9.later hbA; have hrA := hr9.below hbA; have f0A := hXA.f0; have f1A := hXA.f1; have q0A := hXA.q0; have q1A := hXA.q1))
      all_goals
        have hXB := hXA.setQ bA aA nA cA
        have hOB := only2 wA (w.heap.size + 2) (.bool bA) (.slice aA nA cA)
        have hfrA' : ∀ p, aA = some p → w.heap.size + 3 < p.block := fun p hp => by have h1 := hfrA p hp; have h2 := hX9.sz; omega
        have hqB := hNA.only hOB (fun p hp => by have := hfrA' p hp; omega)
        have hrB := hrA.only hOB (fun p hp => by have := RFR.out p hp; omega)
        have HFA := Lib.hid hfrA'
        clear q09 q19 f0A f1A q0A q1A k0 l0 k1 l1 q0 q1 r0 r1 f0 f1 g0 g1 hXA hX9 hq9 hr9 hNA hrA hfrA hfrA' hX8 hq8 hr8 hOB QFR
        generalize (wA.setCell ⟨w.heap.size + 2, 0, none⟩ (.bool bA)).setCell ⟨w.heap.size + 2, 1, none⟩ (.slice aA nA cA) = wB at *
        have l0 := hXB.l0
        have l1 := hXB.l1
        have r0 := hXB.r0
        have r1 := hXB.r1
        go_wp2_with fail
        refine (Add_any rb ra rn rc r bl' a' n' c' y _ hrB (H'.out.below hXB.below) (by omega) (by omega)).mono ?_
        rintro e wC ⟨bC, aC, nC, cC, rfl, hNC, hfrC, hbC⟩
        have hXC := hXB.later hbC
        have hqC := hqB.below hbC
        have hfrC' : ∀ p, aC = some p → w.heap.size + 3 < p.block := fun p hp => by have h1 := hfrC p hp; have h2 := hXB.sz; omega
        have HFC := Lib.hid hfrC'
        clear l0 l1 r0 r1 hXB hqB hrB hbC hfrC hfrC'
        have r0 := hXC.r0
        have r1 := hXC.r1
        have g0 := hXC.g0
        have g1 := hXC.g1
        go_wp2_with fail
        have hXD := hXC.setR bC aC nC cC
        have hOD := only2 wC (w.heap.size + 3) (.bool bC) (.slice aC nC cC)
        have hqD := hqC.only hOD (fun p hp => by have := HFA.out p hp; omega)
        have hrD := hNC.only hOD (fun p hp => by have := HFC.out p hp; omega)
        clear r0 r1 g0 g1 hXC hqC hNC hOD
        generalize (wC.setCell ⟨w.heap.size + 3, 0, none⟩ (.bool bC)).setCell ⟨w.heap.size + 3, 1, none⟩ (.slice aC nC cC) = wD at *
        have q0 := hXD.q0
        have q1 := hXD.q1
        have r0 := hXD.r0
        have r1 := hXD.r1
        have f0 := hXD.f0
        have f1 := hXD.f1
        have g0 := hXD.g0
        have g1 := hXD.g1
        go_region
        all_goals go_wp2
        refine bodyPost_ret (v := .tuple #[.agg #[.bool bA, .slice aA nA cA], .agg #[.bool bC, .slice aC nC cC], .int .i64 0]) (by simp [results, Tryz.results61, go_sem, q0, q1, r0, r1]) rfl ?_
        exact ⟨q - 1, r + y, HQ.out, pq_end hXD hqD hrD HFA.out HFC.out⟩
end Go.Proofs.YtpahkpcoinbgcaaGreatDoor
