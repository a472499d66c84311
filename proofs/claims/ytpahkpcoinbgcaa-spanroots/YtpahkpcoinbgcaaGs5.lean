/- Parts of the proof. -/
import Derived.Test.YtpahkpcoinbgcaaGs4
import Derived.Laws.AppendOwnNone
import Derived.Test.YtpahkpcoinbgcaaGs3
import Derived.Test.YtpahkpcoinbgcaaGs1
/- The document's numbers: the walk of Of. -/
namespace Go.Proofs.Ytpahkpcoinbgcaa
open Go.RowKit
theorem div10 (N k : Nat) : N / 10 ^ k / 10 = N / 10 ^ (k + 1) := by rw [Nat.div_div_eq_div_mul, Nat.pow_succ]
theorem of_k {N k : Nat} (hN : N ≤ 9223372036854775808) (h : N / 10 ^ k ≠ 0) : k < 20 := by
 refine Nat.lt_of_not_le fun hc => h ?_
 exact Nat.div_eq_of_lt (Nat.lt_of_lt_of_le (show N < 10 ^ 20 by omega) (Nat.pow_le_pow_right (by decide) hc))
theorem neg_tm (R : Int) (h : 0 ≤ R) : (-R).tmod 10 = -(R % 10) := by rw [Int.neg_tmod, Int.tmod_eq_emod_of_nonneg h]
theorem neg_td (R : Int) (h : 0 ≤ R) : (-R).tdiv 10 = -(R / 10) := by rw [Int.neg_tdiv, Int.tdiv_eq_ediv_of_nonneg h]
set_option maxHeartbeats 3200000 in
theorem rOf_pos (N : Nat) (w : World) (hN : N ≤ 9223372036854775807) :
  Calls Try.prog 80 #[.int .i64 (((N : Nat) : Int))] w (PRNumF (((N : Nat) : Int)) w) := by
 obtain ⟨i0, hi0, hz0, hzz1, hzz2⟩ := info_parts Try.rinfo3
 have HI := Lib.hid (And.intro hi0 (And.intro hz0 (And.intro hzz1 hzz2)))
 have HN : Hid (N ≤ 9223372036854775808) := show N ≤ 9223372036854775808 by omega
 obtain ⟨R0, hR0⟩ : ∃ R0 : Int, R0 = ((N : Nat) : Int) := ⟨_, rfl⟩
 have hR1 : 0 ≤ R0 := by omega
 have hR2 : R0 ≤ 9223372036854775807 := by omega
 rw [← hR0]
 have HR0 := Lib.hid hR0
 have dneg : decide (R0 < 0) = false := decide_eq_false (by omega)
 have hR := res_one w 71
 clear hi0 hz0 hzz1 hzz2 hN hR0
 go_enter Try.func80, Try.ntmps80
 go_wp2
 generalize w.alloc (.cells #[.bool false, .slice none 0 0] 71) = w1 at *
 go_loopw [0, 3] (fun nv dv wr => ∃ k : Nat, k ≤ 20 ∧ nv = .int .i64 (((N / 10 ^ k : Nat) : Int)) ∧ wr.ownsRow w1.heap.size 3 1 dv k (vals .i64 (dig N) k) ∧ Below w1.heap.size w1 wr) (fun nv _ _ => (intOf nv).natAbs)
 case atStart => exact ⟨0, by omega, by rw [Nat.pow_zero, Nat.div_one, ← HR0.out], World.ownsRow_nil _ _ _ _, Below.refl _ _⟩
 case round =>
  obtain ⟨k, hk, rfl, how, hbl⟩ := hrel
  have hdv : N / 10 ^ k ≤ N := Nat.div_le_self _ _
  have hM := HN.out
  obtain ⟨M, hMe⟩ : ∃ M : Nat, M = N / 10 ^ k := ⟨_, rfl⟩
  rw [← hMe] at hdv ⊢
  obtain ⟨R, hRe⟩ : ∃ R : Int, R = ((M : Nat) : Int) := ⟨_, rfl⟩
  have hRa : 0 ≤ R := by omega
  have hRb : R ≤ 9223372036854775807 := by have := HR0.out; omega
  rw [← hRe]
  by_cases hz : M = 0
  ·
   have HFIN : Hid (N < 10 ^ k) := by
    rcases Nat.div_eq_zero_iff.1 (hMe.symm.trans hz) with h | h
    ·
     have := p10 k; omega
    ·
     exact h
   obtain ⟨a4, c4, rfl, hlie, hfr⟩ := owned_fresh how
   obtain rfl : R = 0 := by omega
   have hRr := hR.later hbl
   clear how hdv hM hRe hz hMe
   go_wp2_with fail
   refine (rmade_any false a4 k c4 N _ hlie HFIN.out).mono ?_
   rintro e w3 ⟨bl3, n3, c3, rfl, hnum, hb3⟩
   have hR3 := hRr.later hb3
   have rB0 := hR3.r0
   have rB1 := hR3.r1
   have fB0 := hR3.f0
   have fB1 := hR3.f1
   go_wp2
   refine bodyPost_ret (v := .agg #[.bool bl3, .slice a4 n3 c3]) (by simp [results, Try.results80, go_sem, rB0, rB1]) rfl ?_
   have e1 : sg false N = R0 := by rw [HR0.out]; rfl
   rw [e1] at hnum
   exact rnumf_store hnum hR3.below (Nat.le_refl _) (fun p hp => by have h1 := hfr p hp; have h2 := hR.sz; omega)
  ·
   have hk2 := of_k HN.out (fun e => hz (hMe.trans e))
   have hdl := dig_lt N k
   have HD0 : Hid (R % 10 = ((dig N k : Nat) : Int)) := by show _ = _; unfold dig; rw [← hMe]; omega
   have HQ : Hid (R / 10 = ((N / 10 ^ (k + 1) : Nat) : Int)) := by show _ = _; rw [← div10, ← hMe]; omega
   have hRp : 0 < R := by omega
   have dz : (R == 0) = false := by simp; omega
   have dz2 : (R != 0) = true := by simp; omega
   clear hdv hM hz hdl hMe hRe
   have HD := HD0
   have hm1 : ¬ R % 10 < 0 := by omega
   have hm2 : 0 ≤ R % 10 := by omega
   have HMS : Hid ((R / 10).natAbs < R.natAbs) := show (R / 10).natAbs < R.natAbs by omega
   go_wp2_with (first
    | (at_builtin; refine wpList_append_own _ rfl _ _ 69 rfl w1.heap.size 3 i0 (.int .i64 0) 1 8 Try.ru69 HI.out.1 HI.out.2.1 HI.out.2.2.1 HI.out.2.2.2 rfl (by decide) _ _ _ rfl (how.alloc _) ⟨wr.heap.size, 0, none⟩ 1 1 [.int .i64 (R % 10)] rfl rfl ?ac1 ?ac2 ?ac3 ?ac4 ?ac5 ?_)
    | fail)
   (try case ac1 => exact cell_one_new _ _ _)
   case ac2 => first | rfl | (intro u hu; simp at hu; subst hu; rfl)
   case ac3 => unfold maxLen; omega
   case ac4 => omega
   case ac5 => (have := hbl.size; first | omega | (simp; done) | (simp; omega))
   intro v' w3 hown' hgrow _
   have hb3 : Below w1.heap.size w1 w3 := (hbl.alloc hbl.size _).grown hgrow (by have := hbl.size; simp; omega) (fun q hq => (how.lt q hq).1)
   rw [HD.out] at hown'
   have hown2 : w3.ownsRow w1.heap.size 3 1 v' (k + 1) (vals .i64 (dig N) (k + 1)) := by rw [← vals_succ]; exact hown'
   clear hgrow how
   go_wp2
   go_roundw
   case rel => exact ⟨k + 1, by omega, by rw [HQ.out], hown2, hb3⟩
   case measure => simp only [intOf]; exact HMS.out
set_option maxHeartbeats 3200000 in
theorem rOf_neg (N : Nat) (w : World) (hN : N ≤ 9223372036854775808) (h0 : 0 < N) :
  Calls Try.prog 80 #[.int .i64 (-((N : Nat) : Int))] w (PRNumF (-((N : Nat) : Int)) w) := by
 obtain ⟨i0, hi0, hz0, hzz1, hzz2⟩ := info_parts Try.rinfo3
 have HI := Lib.hid (And.intro hi0 (And.intro hz0 (And.intro hzz1 hzz2)))
 have HN : Hid (N ≤ 9223372036854775808) := show N ≤ 9223372036854775808 by omega
 obtain ⟨R0, hR0⟩ : ∃ R0 : Int, R0 = ((N : Nat) : Int) := ⟨_, rfl⟩
 have hR1 : 0 < R0 := by omega
 have hR2 : R0 ≤ 9223372036854775808 := by omega
 rw [← hR0]
 have HR0 := Lib.hid hR0
 have dneg : decide (-R0 < 0) = true := decide_eq_true (by omega)
 have hR := res_one w 71
 clear hi0 hz0 hzz1 hzz2 hN hR0 h0
 go_enter Try.func80, Try.ntmps80
 go_wp2
 generalize w.alloc (.cells #[.bool false, .slice none 0 0] 71) = w1 at *
 go_loopw [0, 3] (fun nv dv wr => ∃ k : Nat, k ≤ 20 ∧ nv = .int .i64 (-((N / 10 ^ k : Nat) : Int)) ∧ wr.ownsRow w1.heap.size 3 1 dv k (vals .i64 (dig N) k) ∧ Below w1.heap.size w1 wr) (fun nv _ _ => (intOf nv).natAbs)
 case atStart => exact ⟨0, by omega, by rw [Nat.pow_zero, Nat.div_one, ← HR0.out], World.ownsRow_nil _ _ _ _, Below.refl _ _⟩
 case round =>
  obtain ⟨k, hk, rfl, how, hbl⟩ := hrel
  have hdv : N / 10 ^ k ≤ N := Nat.div_le_self _ _
  have hM := HN.out
  obtain ⟨M, hMe⟩ : ∃ M : Nat, M = N / 10 ^ k := ⟨_, rfl⟩
  rw [← hMe] at hdv ⊢
  obtain ⟨R, hRe⟩ : ∃ R : Int, R = ((M : Nat) : Int) := ⟨_, rfl⟩
  have hRa : 0 ≤ R := by omega
  have hRb : R ≤ 9223372036854775808 := by have := HR0.out; omega
  rw [← hRe]
  by_cases hz : M = 0
  ·
   have HFIN : Hid (N < 10 ^ k) := by
    rcases Nat.div_eq_zero_iff.1 (hMe.symm.trans hz) with h | h
    ·
     have := p10 k; omega
    ·
     exact h
   obtain ⟨a4, c4, rfl, hlie, hfr⟩ := owned_fresh how
   obtain rfl : R = 0 := by omega
   have hRr := hR.later hbl
   clear how hdv hM hRe hz hMe
   go_wp2_with fail
   refine (rmade_any true a4 k c4 N _ hlie HFIN.out).mono ?_
   rintro e w3 ⟨bl3, n3, c3, rfl, hnum, hb3⟩
   have hR3 := hRr.later hb3
   have rB0 := hR3.r0
   have rB1 := hR3.r1
   have fB0 := hR3.f0
   have fB1 := hR3.f1
   go_wp2
   refine bodyPost_ret (v := .agg #[.bool bl3, .slice a4 n3 c3]) (by simp [results, Try.results80, go_sem, rB0, rB1]) rfl ?_
   have e1 : sg true N = -R0 := by rw [HR0.out]; rfl
   rw [e1] at hnum
   exact rnumf_store hnum hR3.below (Nat.le_refl _) (fun p hp => by have h1 := hfr p hp; have h2 := hR.sz; omega)
  ·
   have hk2 := of_k HN.out (fun e => hz (hMe.trans e))
   have hdl := dig_lt N k
   have HD0 : Hid (R % 10 = ((dig N k : Nat) : Int)) := by show _ = _; unfold dig; rw [← hMe]; omega
   have HQ : Hid (R / 10 = ((N / 10 ^ (k + 1) : Nat) : Int)) := by show _ = _; rw [← div10, ← hMe]; omega
   have hRp : 0 < R := by omega
   have dz : (-R == 0) = false := by simp; omega
   have dz2 : (-R != 0) = true := by simp; omega
   clear hdv hM hz hdl hMe hRe
   have e1 := neg_tm R hRa
   have e2 := neg_td R hRa
   have HMS : Hid ((-(R / 10)).natAbs < (-R).natAbs) := show (-(R / 10)).natAbs < (-R).natAbs by omega
   by_cases hc : R % 10 = 0
   ·
    have HD : Hid ((0 : Int) = ((dig N k : Nat) : Int)) := by show _ = _; rw [← HD0.out]; exact hc.symm
    rw [hc] at e1
    clear hc HD0
    go_wp2_with (first
     | (at_builtin; refine wpList_append_own _ rfl _ _ 69 rfl w1.heap.size 3 i0 (.int .i64 0) 1 8 Try.ru69 HI.out.1 HI.out.2.1 HI.out.2.2.1 HI.out.2.2.2 rfl (by decide) _ _ _ rfl (how.alloc _) ⟨wr.heap.size, 0, none⟩ 1 1 [.int .i64 (0)] rfl rfl ?bc1 ?bc2 ?bc3 ?bc4 ?bc5 ?_)
     | fail)
    (try case bc1 => exact cell_one_new _ _ _)
    case bc2 => first | rfl | (intro u hu; simp at hu; subst hu; rfl)
    case bc3 => unfold maxLen; omega
    case bc4 => omega
    case bc5 => (have := hbl.size; first | omega | (simp; done) | (simp; omega))
    intro v' w3 hown' hgrow _
    have hb3 : Below w1.heap.size w1 w3 := (hbl.alloc hbl.size _).grown hgrow (by have := hbl.size; simp; omega) (fun q hq => (how.lt q hq).1)
    rw [HD.out] at hown'
    have hown2 : w3.ownsRow w1.heap.size 3 1 v' (k + 1) (vals .i64 (dig N) (k + 1)) := by rw [← vals_succ]; exact hown'
    clear hgrow how
    go_wp2
    go_roundw
    case rel => exact ⟨k + 1, by omega, by rw [← HQ.out], hown2, hb3⟩
    case measure => simp only [intOf]; exact HMS.out
   ·
    have HD := HD0
    have hm1 : 0 < R % 10 := by omega
    have hm2 : R % 10 ≤ 9 := by omega
    clear hc HD0
    go_wp2_with (first
     | (at_builtin; refine wpList_append_own _ rfl _ _ 69 rfl w1.heap.size 3 i0 (.int .i64 0) 1 8 Try.ru69 HI.out.1 HI.out.2.1 HI.out.2.2.1 HI.out.2.2.2 rfl (by decide) _ _ _ rfl (how.alloc _) ⟨wr.heap.size, 0, none⟩ 1 1 [.int .i64 (R % 10)] rfl rfl ?cc1 ?cc2 ?cc3 ?cc4 ?cc5 ?_)
     | fail)
    (try case cc1 => exact cell_one_new _ _ _)
    case cc2 => first | rfl | (intro u hu; simp at hu; subst hu; rfl)
    case cc3 => unfold maxLen; omega
    case cc4 => omega
    case cc5 => (have := hbl.size; first | omega | (simp; done) | (simp; omega))
    intro v' w3 hown' hgrow _
    have hb3 : Below w1.heap.size w1 w3 := (hbl.alloc hbl.size _).grown hgrow (by have := hbl.size; simp; omega) (fun q hq => (how.lt q hq).1)
    rw [HD.out] at hown'
    have hown2 : w3.ownsRow w1.heap.size 3 1 v' (k + 1) (vals .i64 (dig N) (k + 1)) := by rw [← vals_succ]; exact hown'
    clear hgrow how
    go_wp2
    go_roundw
    case rel => exact ⟨k + 1, by omega, by rw [← HQ.out], hown2, hb3⟩
    case measure => simp only [intOf]; exact HMS.out
theorem rOf_any (z : Int) (w : World) (h1 : -9223372036854775808 ≤ z) (h2 : z ≤ 9223372036854775807) : Calls Try.prog 80 #[.int .i64 z] w (PRNumF z w) := by
 by_cases hz : z < 0
 ·
  have := rOf_neg z.natAbs w (by omega) (by omega)
  rwa [show -((z.natAbs : Nat) : Int) = z from by omega] at this
 ·
  have := rOf_pos z.natAbs w (by omega)
  rwa [show ((z.natAbs : Nat) : Int) = z from by omega] at this
end Go.Proofs.Ytpahkpcoinbgcaa

/- The document's long division, digit by digit: what one digit does to the rest and to the quotient (no walk). -/
namespace Go.Proofs.Ytpahkpcoinbgcaa
open Go.RowKit
/-- What stands over the divisor when digit i has been brought down. -/
def partS (A B i : Nat) : Nat := 10 * (A / 10 ^ (i + 1) % B) + dig A i
/-- The quotient's row when the digits from i on are reckoned. -/
def partQ (Q i p : Nat) : Nat := if p < i then 0 else dig Q p
/-- The same within digit i, when the divisor has been taken off j times. -/
def partJ (Q i j p : Nat) : Nat := if p = i then j else partQ Q (i + 1) p
theorem part_up (A i : Nat) : A / 10 ^ i = 10 * (A / 10 ^ (i + 1)) + dig A i := by
 unfold dig
 rw [← div10]
 omega
theorem partS_lt {A B i : Nat} (hB : 0 < B) : partS A B i < 10 * B := by
 have h1 := Nat.mod_lt (A / 10 ^ (i + 1)) hB
 have h2 := dig_lt A i
 unfold partS
 omega
theorem part_whole (A B i : Nat) : A / 10 ^ i = partS A B i + B * (10 * (A / 10 ^ (i + 1) / B)) := by
 have h1 := part_up A i
 have h2 := Nat.div_add_mod (A / 10 ^ (i + 1)) B
 have h3 : B * (10 * (A / 10 ^ (i + 1) / B)) = 10 * (B * (A / 10 ^ (i + 1) / B)) := Nat.mul_left_comm _ _ _
 unfold partS
 omega
theorem partS_mod (A B i : Nat) : partS A B i % B = A / 10 ^ i % B := by
 rw [part_whole A B i, Nat.add_mul_mod_self_left]
theorem partS_div {A B i : Nat} (hB : 0 < B) : partS A B i / B = dig (A / B) i := by
 have h1 : partS A B i / B < 10 := Nat.div_lt_of_lt_mul (by rw [Nat.mul_comm]; exact partS_lt hB)
 have h2 : A / B / 10 ^ i = partS A B i / B + 10 * (A / 10 ^ (i + 1) / B) := by
  rw [Nat.div_div_eq_div_mul, Nat.mul_comm, ← Nat.div_div_eq_div_mul, part_whole A B i, Nat.add_mul_div_left _ _ hB]
 unfold dig
 rw [h2, Nat.add_mul_mod_self_left, Nat.mod_eq_of_lt h1]
/-- A round within a digit: the divisor is taken off once more. -/
theorem part_more {S B j : Nat} (h : B ≤ S - j * B) (hj : j * B ≤ S) : (j + 1) * B ≤ S ∧ S - j * B - B = S - (j + 1) * B := by
 rw [Nat.add_mul, Nat.one_mul]
 omega
theorem part_few {A B i j : Nat} (hB : 0 < B) (hj : j * B ≤ partS A B i) : j < 10 := by
 have h1 := partS_lt (A := A) (i := i) hB
 exact Nat.lt_of_mul_lt_mul_right (Nat.lt_of_le_of_lt hj h1)
/-- The end of a digit. -/
theorem part_last {A B i j : Nat} (hB : 0 < B) (hj : j * B ≤ partS A B i) (h : partS A B i - j * B < B) : j = dig (A / B) i ∧ partS A B i - j * B = A / 10 ^ i % B := by
 have e : partS A B i = (partS A B i - j * B) + B * j := by rw [Nat.mul_comm B]; omega
 constructor
 ·
  rw [← partS_div hB, e, Nat.add_mul_div_left _ _ hB, Nat.div_eq_of_lt h, Nat.zero_add]
 ·
  rw [← partS_mod A B i, e, Nat.add_mul_mod_self_left, Nat.mod_eq_of_lt h, ← e]
theorem part_first {A B n : Nat} (hA : A < 10 ^ n) : A / 10 ^ n % B = 0 := by rw [Nat.div_eq_of_lt hA, Nat.zero_mod]
theorem partQ_start (Q n : Nat) : ∀ p, p < n → partQ Q n p = 0 := fun p hp => by unfold partQ; rw [if_pos hp]
theorem partQ_end (Q n : Nat) : ∀ p, p < n → partQ Q 0 p = dig Q p := fun p _ => by unfold partQ; rw [if_neg (Nat.not_lt_zero p)]
theorem partJ_start (Q i n : Nat) : ∀ p, p < n → partQ Q (i + 1) p = partJ Q i 0 p := fun p _ => by
 unfold partJ
 split
 ·
  next h => unfold partQ; rw [if_pos (by omega)]
 ·
  rfl
theorem partJ_more (Q i j j' n : Nat) : ∀ p, p < n → p ≠ i → partJ Q i j p = partJ Q i j' p := fun p _ hne => by
 unfold partJ
 rw [if_neg hne, if_neg hne]
theorem partJ_at (Q i j : Nat) : partJ Q i j i = j := by unfold partJ; rw [if_pos rfl]
theorem partJ_end (Q i n : Nat) : ∀ p, p < n → partJ Q i (dig Q i) p = partQ Q i p := fun p _ => by
 unfold partJ partQ
 split
 ·
  next h => rw [if_neg (by omega), h]
 ·
  next h =>
  by_cases h1 : p < i
  ·
   rw [if_pos (by omega), if_pos h1]
  ·
   rw [if_neg (by omega), if_neg h1]
/-- The rest with a digit brought down: its digits. -/
theorem part_dig (R x : Nat) (hx : x < 10) : ∀ p, dig (10 * R + x) p = if p = 0 then x else dig R (p - 1) := by
 intro p
 unfold dig
 cases p with
 | zero => rw [if_pos rfl, Nat.pow_zero, Nat.div_one]; omega
 | succ p =>
  rw [if_neg (Nat.succ_ne_zero p), Nat.add_sub_cancel, Nat.pow_succ, Nat.mul_comm (10 ^ p), ← Nat.div_div_eq_div_mul]
  rw [show (10 * R + x) / 10 = R by omega]
theorem part_fit {R x n : Nat} (hx : x < 10) (h : R < 10 ^ n) : 10 * R + x < 10 ^ (n + 1) := by rw [Nat.pow_succ]; omega
end Go.Proofs.Ytpahkpcoinbgcaa

/- The document's numbers: the walk of parted. -/
namespace Go.Proofs.Ytpahkpcoinbgcaa
open Go.RowKit
theorem fit10_le {n M R : Nat} (h : Fit10 n R) (hM : R < 10 ^ M) : n ≤ M := by
 refine Nat.le_of_not_lt fun hc => ?_
 rcases h.2 with h0 | h0
 ·
  omega
 ·
  have h1 : 10 ^ M ≤ 10 ^ (n - 1) := Nat.pow_le_pow_right (by decide) (by omega)
  omega
theorem vals_cons (R x n : Nat) (hx : x < 10) : Value.int .i64 ((x : Nat) : Int) :: vals .i64 (dig R) n = vals .i64 (dig (10 * R + x)) (n + 1) := by
 unfold vals
 rw [List.range_succ_eq_map, List.map_cons, List.map_map, part_dig R x hx 0, if_pos rfl]
 congr 1
 refine List.map_congr_left fun i _ => ?_
 show _ = Value.int .i64 ((dig (10 * R + x) (i + 1) : Nat) : Int)
 rw [part_dig R x hx (i + 1), if_neg (Nat.succ_ne_zero i), Nat.add_sub_cancel]
theorem lie_news {w : World} {p : Addr} {n c : Nat} {f : Nat → Nat} (h : Lie .i64 w (some p) n c f) : ∀ j u, (vals .i64 f n)[j]? = some u → w.cell? (p.add j) = some u := by
 intro j u hu
 have hj : j < n := by
  have := (List.getElem?_eq_some_iff.1 hu).1
  rwa [vals_len] at this
 rw [vals_get _ _ _ _ hj] at hu
 obtain ⟨hs, _⟩ := h.spot p rfl
 have hc := h.cell p rfl j hj
 rw [← hu, ← hc]
 obtain ⟨b, o, s⟩ := p
 cases hs
 simp only [Addr.add]
 split
 ·
  next h0 => rw [h0, Nat.add_zero]
 ·
  rfl
theorem vals_one (f : Nat → Nat) (n : Nat) : ∀ u ∈ vals .i64 f n, u.oneCell' = true := by
 intro u hu
 unfold vals at hu
 obtain ⟨i, _, rfl⟩ := List.mem_map.1 hu
 rfl
theorem run_fieldD (bl : Bool) (a : Option Addr) (n c : Nat) (w : World) : Sem.run Try.prog (Instr.field 71 (.agg #[.bool bl, .slice a n c]) 1) w = .ok (.slice a n c) w := by kernel_rfl
attribute [local go_sem] run_fieldD
/-- append of a row that lies anywhere, or of none. -/
theorem wpList_append_lie {P : Program} {w : World} {ops : Array Oper} {rest : List Oper} {o : Oper} {a : Act} {Q : Exit → Act → World → Prop} (hgd : o.guard = none) (s x : Operand) (t : TypeId)
  (ho : o.op = .call { callee := .builtin .append, args := #[s, x], argTypes := #[t, t] })
  (base : Nat) (e : TypeId) (i : TypeInfo) (z : Value) (bytes : Nat) (ht : P.underlying t = some (.slice e)) (hi : P.info? e = some i) (hz : i.zero = some z)
  (hsize : i.size = 1) (hby : i.bytes = bytes) (hzs : z.cells.size = 1)
  (v : Value) (n : Nat) (xs : List Value) (hs : a.eval s = v) (hown : w.ownsRow base e 1 v n xs)
  (ar : Option Addr) (m c : Nat) (f : Nat → Nat) (hx : a.eval x = .slice ar m c) (hl : Lie .i64 w ar m c f)
  (h63 : n + m ≤ maxLen) (hbytes : (n + m) * bytes ≤ 140737488355328) (hbase : base ≤ w.heap.size)
  (h : ∀ v' w', w'.ownsRow base e 1 v' (n + m) (xs ++ vals .i64 f m) → w.grownBy w' v.ownBlock → wpList P ops Q rest (a.put o.dst v') w') : wpList P ops Q (o :: rest) a w := by
 cases ar with
 | none =>
  obtain ⟨rfl, rfl⟩ := hl.nil rfl
  exact wpList_append_own_none hgd s x t ho base e i 1 ht hi v n xs hs hown hx (h v w (by simpa [vals] using hown) ⟨rfl, rfl, rfl, Nat.le_refl _, fun _ _ _ => rfl⟩)
 | some p => exact wpList_append_own w hgd s x t ho base e i z 1 bytes ht hi hz hsize hby hzs (by decide) v n xs hs hown p m c (vals .i64 f m) hx (by rw [vals_len, Nat.mul_one]) (lie_news hl) (vals_one f m) h63 hbytes hbase (fun v' w' h1 h2 _ => h v' w' h1 h2)
/-- Digits with their number, in memory that is not block g. -/
structure Rst (w0 : World) (g : Nat) (w : World) (a : Option Addr) (n c R : Nat) : Prop where
 lie : Lie .i64 w a n c (dig R)
 fit : Fit10 n R
 far : ∀ p, a = some p → w0.heap.size ≤ p.block ∧ p.block ≠ g
theorem Rst.below {w0 : World} {g : Nat} {w w' : World} {a : Option Addr} {n c R : Nat} (h : Rst w0 g w a n c R) (hb : Below w.heap.size w w') : Rst w0 g w' a n c R := ⟨h.lie.below hb, h.fit, h.far⟩
theorem rst_made {w0 w v : World} {g : Nat} {bl : Bool} {a : Option Addr} {n c N : Nat} (h : RNum w bl a n c (sg false N)) (hf : ∀ p, a = some p → v.heap.size ≤ p.block) (h0 : w0.heap.size ≤ v.heap.size) (hg : g < v.heap.size) : Rst w0 g w a n c N :=
 ⟨by have := h.lie; rwa [sg_abs] at this, by have := h.fit; rwa [sg_abs] at this, fun p hp => by have := hf p hp; omega⟩
theorem pcmp_ge {A B : Nat} (h : B ≤ A) : decide (0 ≤ cmpN A B) = true := by
 refine decide_eq_true ?_
 unfold cmpN
 rw [if_neg (by omega)]
 split <;> decide
theorem pcmp_below {A B : Nat} (h : A < B) : decide (0 ≤ cmpN A B) = false := by
 refine decide_eq_false ?_
 unfold cmpN
 rw [if_pos h]
 decide
/-- How often the divisor has still to be taken off. -/
def partM (g k : Nat) (w : World) : Nat := 10 - (intOf ((w.cell? ⟨g, k, none⟩).getD (.int .i64 0))).toNat
theorem partM_own {w : World} {g n k : Nat} {e : TypeId} {f : Nat → Nat} (h : Own .i64 e w g n f) (hk : k < n) : partM g k w = 10 - f k := by
 unfold partM
 rw [h.cell k hk]
 simp [intOf]
/-- A row and digits with their number, both in new memory. -/
def PParted (A B n : Nat) (w : World) (e : Ending) (w' : World) : Prop :=
 ∃ (g : Nat) (a : Option Addr) (m c : Nat), e = .returned (.tuple #[.slice (some ⟨g, 0, none⟩) n n, .slice a m c]) ∧ w.heap.size ≤ g ∧ Own .i64 3 w' g n (dig (A / B)) ∧ Rst w g w' a m c (A % B) ∧ Below w.heap.size w w'
set_option maxHeartbeats 3200000 in
set_option maxRecDepth 4000 in
theorem rparted_any (a b : Option Addr) (n c m d A B : Nat) (w : World) (ha : Lie .i64 w a n c (dig A)) (hb : Lie .i64 w b m d (dig B)) (hA : A < 10 ^ n) (fb : Fit10 m B) (hB : 0 < B) (hn : n ≤ 1000000) (hm : m ≤ 1000000) :
  Calls Try.prog 121 #[.slice a n c, .slice b m d] w (PParted A B n w) := by
 obtain ⟨i0, hi0, hz0, hzz1, hzz2⟩ := info_parts Try.rinfo3
 have HI := Lib.hid (And.intro hi0 (And.intro hz0 (And.intro hzz1 hzz2)))
 have HA := Lib.hid hA
 have HFB := Lib.hid fb
 have HB := Lib.hid hB
 clear hi0 hz0 hzz1 hzz2 hA fb hB
 have hn4 : 8 * n ≤ 281474976710656 := by omega
 have hn6 : n ≤ 9223372036854775807 := by omega
 go_enter Try.func121, Try.ntmps121
 go_wp2_with (first | (at_make; refine wpList_mk _ rfl (.tmp 10) (.tmp 10) 69 rfl 3 .i64 8 Try.ru69 Try.rinfo3 _ _ n rfl rfl (by omega) (by omega) hn4 hn6 ?_; intro g w2 hg hown hb2))
 go_loopw [7, 8] (fun rv iv wr => ∃ (k : Nat) (ar : Option Addr) (nr cr : Nat), k ≤ n ∧ rv = .slice ar nr cr ∧ iv = .int .i64 ((k : Int) - 1) ∧ Rst w g wr ar nr cr (A / 10 ^ k % B) ∧ Own .i64 3 wr g n (partQ (A / B) k) ∧ Below w.heap.size w wr) (fun _ iv _ => (intOf iv + 1).toNat)
 case atStart => exact ⟨n, none, 0, 0, Nat.le_refl _, rfl, by go_num, ⟨lie_nil _ _ _, by rw [part_first HA.out]; exact fit10_zero, fun p hp => by cases hp⟩, hown.congr (fun p hp => (partQ_start _ _ p hp).symm), hb2⟩
 case round =>
  clear hown hb2
  obtain ⟨k, ar, nr, cr, hk, rfl, rfl, hR, hown, hbl⟩ := hrel
  cases k with
  | zero =>
   have HR : Hid (Rst w g wr ar nr cr (A % B)) := by show Rst _ _ _ _ _ _ _; rw [Nat.pow_zero, Nat.div_one] at hR; exact hR
   have HO : Hid (Own .i64 3 wr g n (dig (A / B))) := hown.congr (partQ_end _ n)
   clear hR hown
   go_wp2
   go_ret2
   exact ⟨g, ar, nr, cr, rfl, hg, HO.out, HR.out, hbl⟩
  | succ k =>
   rw [show (((k + 1 : Nat) : Int) - 1) = (k : Int) by omega]
   obtain ⟨b1, o1, rfl, hb1⟩ := ha.some_of_pos (by omega)
   have c1 := (ha.below hbl).at k (by omega)
   have hdl := dig_lt A k
   obtain ⟨R, hRe⟩ : ∃ R : Nat, R = A / 10 ^ (k + 1) % B := ⟨_, rfl⟩
   rw [← hRe] at hR
   obtain ⟨x, hx⟩ : ∃ x : Nat, x = dig A k := ⟨_, rfl⟩
   rw [← hx] at c1 hdl
   have HS : Hid (10 * R + x = partS A B k) := by show _ = _; unfold partS; rw [hRe, hx]
   have hnr : nr ≤ m := fit10_le hR.fit (Nat.lt_trans (by rw [hRe]; exact Nat.mod_lt _ HB.out) HFB.out.1)
   have hmx : nr + 1 ≤ maxLen := by unfold maxLen; omega
   have hlr := hR.lie.below ((Below.refl wr.heap.size wr).alloc (Nat.le_refl _) (.cells #[.int .i64 ((x : Nat) : Int)] 3))
   have HRF := Lib.hid hR.fit
   clear hR hRe hx
   go_wp2_with (first
    | (at_builtin; refine wpList_append_lie rfl _ _ 69 rfl wr.heap.size 3 i0 (.int .i64 0) 8 Try.ru69 HI.out.1 HI.out.2.1 HI.out.2.2.1 HI.out.2.2.2 rfl _ 1 [.int .i64 ((x : Nat) : Int)] rfl ?pc1 ar nr cr (dig R) rfl ?pc2 ?pc3 ?pc4 ?pc5 ?_)
    | fail)
   case pc1 => exact World.ownsRow_lit wr #[.int .i64 ((x : Nat) : Int)] 1 (Nat.le_refl _) (by unfold maxLen; omega) rfl
   case pc2 => exact hlr
   case pc3 => omega
   case pc4 => omega
   case pc5 => simp
   intro v' w3 hown' hgrow
   rw [vals_cons R x nr hdl, HS.out, Nat.add_comm 1 nr] at hown'
   have hba : Below wr.heap.size wr w3 := ((Below.refl _ _).alloc (Nat.le_refl _) _).grown hgrow (by simp) (fun q hq => by cases hq; exact Nat.le_refl _)
   obtain ⟨a4, c4, rfl, hl4, hfr4⟩ := owned_fresh hown'
   have HF : Hid (partS A B k < 10 ^ (nr + 1)) := by show _ < _; rw [← HS.out]; exact part_fit hdl HRF.out.1
   have ho3 := hown.below hba
   have hb3 : Below w.heap.size w w3 := hbl.trans (hba.mono hbl.size)
   have hgl := hown.lt
   have hsz := hbl.size
   clear hown' hgrow hba hlr hown c1
   go_wp2_with fail
   refine (rmade_any false a4 (nr + 1) c4 (partS A B k) _ hl4 HF.out).mono ?_
   rintro e w4 ⟨bl4, n4, c5, rfl, hnum, hb4⟩
   have hR4 : Rst w g w4 a4 n4 c5 (partS A B k) := rst_made hnum hfr4 hsz hgl
   have ho4 := ho3.below hb4
   have hb4' : Below w.heap.size w w4 := hb3.trans (hb4.mono hb3.size)
   clear hnum hfr4 hl4 hgl hsz ho3 hb3 hb4 hbl HRF HF HS hnr hmx hdl
   go_wp2
   go_loopw [7] (fun rv wr => ∃ (j : Nat) (ar : Option Addr) (nr cr : Nat), rv = .slice ar nr cr ∧ j * B ≤ partS A B k ∧ Rst w g wr ar nr cr (partS A B k - j * B) ∧ Own .i64 3 wr g n (partJ (A / B) k j) ∧ Below w.heap.size w wr) (fun _ wr => partM g k wr)
   case atStart => exact ⟨0, a4, n4, c5, rfl, by rw [Nat.zero_mul]; exact Nat.zero_le _, by rw [Nat.zero_mul, Nat.sub_zero]; exact hR4, ho4.congr (partJ_start _ k n), hb4'⟩
   case round =>
    clear ho4 hR4 hb4'
    obtain ⟨j, ar, nr, cr, rfl, hj, hR, hown, hbl⟩ := hrel
    have HJ := Lib.hid hj
    have hlr := hR.lie
    have hfr := hR.fit
    have hlb := hb.below hbl
    clear hj
    go_wp2_with fail
    refine (rsize_any ar b nr cr m d (partS A B k - j * B) B _ hlr hlb hfr HFB.out).mono ?_
    rintro e w5 ⟨rfl, hb5⟩
    have hR5 := hR.below hb5
    have ho5 := hown.below hb5
    have hb5' : Below w.heap.size w w5 := hbl.trans (hb5.mono hbl.size)
    have hm0 := Lib.hid (partM_own hown (show k < n by omega))
    clear hlr hlb hfr hR hown hb5 hbl
    by_cases hc : B ≤ partS A B k - j * B
    ·
     have hcd := pcmp_ge hc
     have hj10 := part_few HB.out HJ.out
     obtain ⟨HJ2, HE⟩ := part_more hc HJ.out
     have HJ2 := Lib.hid HJ2
     have HE := Lib.hid HE
     have HC := Lib.hid hc
     have hnr : nr ≤ m + 1 := fit10_le hR5.fit (Nat.lt_of_le_of_lt (Nat.sub_le _ _) (Nat.lt_trans (partS_lt HB.out) (by have := HFB.out.1; rw [Nat.pow_succ]; omega)))
     have hl5 := hR5.lie
     have hf5 := Lib.hid hR5.fit.1
     have hlb5 := hb.below hb5'
     generalize cmpN (partS A B k - j * B) B = cc at *
     clear hc hR5
     go_wp2_with fail
     refine (rless_any ar b nr cr m d (partS A B k - j * B) B _ hl5 hlb5 hf5.out HFB.out.1 HC.out (by omega) (by omega)).mono ?_
     rintro e w6 ⟨a6, m6, c6, rfl, hl6, hN6, hfr6, hb6⟩
     rw [HE.out] at hl6 hN6
     have ho6 := ho5.below hb6
     have hgl := ho5.lt
     have hsz := hb5'.size
     have hb6' : Below w.heap.size w w6 := hb5'.trans (hb6.mono hb5'.size)
     have HN6 := Lib.hid hN6
     clear hl5 hlb5 ho5 hb6 hb5' hN6
     go_wp2_with fail
     refine (rmade_any false a6 m6 c6 (partS A B k - (j + 1) * B) _ hl6 HN6.out).mono ?_
     rintro e w7 ⟨bl7, n7, c7, rfl, hnum, hb7⟩
     have hR7 : Rst w g w7 a6 n7 c7 (partS A B k - (j + 1) * B) := rst_made hnum hfr6 hsz hgl
     have ho7 := ho6.below hb7
     have hb7' : Below w.heap.size w w7 := hb6'.trans (hb7.mono hb6'.size)
     have c4 : w7.cell? ⟨g, k, none⟩ = some (.int .i64 ((j : Nat) : Int)) := by rw [ho7.cell k (by omega), partJ_at]
     have c5 := ho7.free k
     clear hl6 hfr6 hnum hb7 ho6 hb6' hgl hsz
     go_wp2
     have ho8 := ho7.put (i := k) (x := (j : Int) + 1) (F := partJ (A / B) k (j + 1)) (by omega) (by rw [partJ_at]; rfl) (partJ_more _ k j (j + 1) n)
     go_roundw
     case rel => exact ⟨j + 1, a6, n7, c7, rfl, HJ2.out, ⟨hR7.lie.only (Only.setCell _ _ _ _) (fun p hp => (hR7.far p hp).2), hR7.fit, hR7.far⟩, ho8, hb7'.setCell (p := ⟨g, k, none⟩) hg _⟩
     case measure => rw [partM_own ho8 (by omega), hm0.out, partJ_at, partJ_at]; omega
    ·
     have hcd := pcmp_below (Nat.lt_of_not_le hc)
     obtain ⟨hje, hre⟩ := part_last HB.out HJ.out (Nat.lt_of_not_le hc)
     rw [hre] at hR5
     have HO : Hid (Own .i64 3 w5 g n (partQ (A / B) k)) := by
      rw [hje] at ho5
      exact ho5.congr (partJ_end _ k n)
     generalize cmpN (partS A B k - j * B) B = cc at *
     clear ho5 hm0 hre hje hc
     go_wp2
     go_roundw
     case rel => exact ⟨k, ar, nr, cr, by omega, rfl, by go_num, hR5, HO.out, hb5'⟩
     case measure => simp [intOf]
end Go.Proofs.Ytpahkpcoinbgcaa

/- The walk of Quo. -/
namespace Go.Proofs.Ytpahkpcoinbgcaa
open Go.RowKit
/-- Two numbers in boxes of their own, and places for two results that hold what is said, behind what was there. -/
structure QBox (w w1 : World) (bl : Bool) (a : Option Addr) (n c : Nat) (bl' : Bool) (a' : Option Addr) (n' c' : Nat) (qb : Bool) (qa : Option Addr) (qn qc : Nat) (rb : Bool) (ra : Option Addr) (rn rc : Nat) : Prop where
  below : Below w.heap.size w w1
  k0 : w1.cell? ⟨w.heap.size, 0, none⟩ = some (.bool bl)
  k1 : w1.cell? ⟨w.heap.size, 1, none⟩ = some (.slice a n c)
  l0 : w1.cell? ⟨w.heap.size + 1, 0, none⟩ = some (.bool bl')
  l1 : w1.cell? ⟨w.heap.size + 1, 1, none⟩ = some (.slice a' n' c')
  q0 : w1.cell? ⟨w.heap.size + 2, 0, none⟩ = some (.bool qb)
  q1 : w1.cell? ⟨w.heap.size + 2, 1, none⟩ = some (.slice qa qn qc)
  r0 : w1.cell? ⟨w.heap.size + 3, 0, none⟩ = some (.bool rb)
  r1 : w1.cell? ⟨w.heap.size + 3, 1, none⟩ = some (.slice ra rn rc)
  f0 : w1.frozen? ⟨w.heap.size + 2, 0, none⟩ = false
  f1 : w1.frozen? ⟨w.heap.size + 2, 1, none⟩ = false
  g0 : w1.frozen? ⟨w.heap.size + 3, 0, none⟩ = false
  g1 : w1.frozen? ⟨w.heap.size + 3, 1, none⟩ = false
  sz : w.heap.size + 3 < w1.heap.size
section
variable {w w1 w2 : World} {bl : Bool} {a : Option Addr} {n c : Nat} {bl' : Bool} {a' : Option Addr} {n' c' : Nat} {qb : Bool} {qa : Option Addr} {qn qc : Nat} {rb : Bool} {ra : Option Addr} {rn rc : Nat}
theorem QBox.later (h : QBox w w1 bl a n c bl' a' n' c' qb qa qn qc rb ra rn rc) (hb : Below w1.heap.size w1 w2) : QBox w w2 bl a n c bl' a' n' c' qb qa qn qc rb ra rn rc := by
  have hs := h.sz
  exact ⟨h.below.trans (hb.mono h.below.size), (hb.cell (p := ⟨w.heap.size, 0, none⟩) (by show w.heap.size < _; omega)).trans h.k0, (hb.cell (p := ⟨w.heap.size, 1, none⟩) (by show w.heap.size < _; omega)).trans h.k1,
    (hb.cell (p := ⟨w.heap.size + 1, 0, none⟩) (by show w.heap.size + 1 < _; omega)).trans h.l0, (hb.cell (p := ⟨w.heap.size + 1, 1, none⟩) (by show w.heap.size + 1 < _; omega)).trans h.l1,
    (hb.cell (p := ⟨w.heap.size + 2, 0, none⟩) (by show w.heap.size + 2 < _; omega)).trans h.q0, (hb.cell (p := ⟨w.heap.size + 2, 1, none⟩) (by show w.heap.size + 2 < _; omega)).trans h.q1,
    (hb.cell (p := ⟨w.heap.size + 3, 0, none⟩) hs).trans h.r0, (hb.cell (p := ⟨w.heap.size + 3, 1, none⟩) hs).trans h.r1,
    (hb.frozen (p := ⟨w.heap.size + 2, 0, none⟩) (by show w.heap.size + 2 < _; omega)).trans h.f0, (hb.frozen (p := ⟨w.heap.size + 2, 1, none⟩) (by show w.heap.size + 2 < _; omega)).trans h.f1,
    (hb.frozen (p := ⟨w.heap.size + 3, 0, none⟩) hs).trans h.g0, (hb.frozen (p := ⟨w.heap.size + 3, 1, none⟩) hs).trans h.g1, Nat.lt_of_lt_of_le hs hb.size⟩
theorem QBox.drew (h : QBox w w1 bl a n c bl' a' n' c' qb qa qn qc rb ra rn rc) : QBox w w1.drew bl a n c bl' a' n' c' qb qa qn qc rb ra rn rc := h.later (Below.refl _ _).drew
end
/-- q and r are the quotient and the rest of x and y. -/
def IsQuo (x y q r : Int) : Prop := x = q * y + r ∧ (0 < y → 0 ≤ r ∧ r < y) ∧ (y < 0 → y < r ∧ r ≤ 0)
theorem quo_parts {x y : Int} (hy : y ≠ 0) : ∃ P : Int, P = ((x.natAbs / y.natAbs : Nat) : Int) * (y.natAbs : Int) ∧ P + ((x.natAbs % y.natAbs : Nat) : Int) = (x.natAbs : Int) ∧ x.natAbs % y.natAbs < y.natAbs := by
  refine ⟨_, rfl, ?_, Nat.mod_lt _ (by omega)⟩
  have := Nat.div_add_mod x.natAbs y.natAbs
  rw [← Int.natCast_mul, Nat.mul_comm]
  omega
theorem quo_plain {x y : Int} {bl bl' : Bool} (h : bl = decide (x < 0)) (h' : bl' = decide (y < 0)) (hy : y ≠ 0) (hc : x.natAbs % y.natAbs = 0 ∨ (bl == bl') = true) :
    IsQuo x y (sg (!(bl == bl')) (x.natAbs / y.natAbs)) (sg bl (x.natAbs % y.natAbs)) := by
  obtain ⟨P, hP, h1, h2⟩ := quo_parts (x := x) hy
  generalize x.natAbs / y.natAbs = Q at *
  generalize x.natAbs % y.natAbs = R at *
  by_cases hx : x < 0 <;> by_cases hyn : y < 0
  · have e : y = -(y.natAbs : Int) := by omega
    have e2 : sg (!(bl == bl')) Q * y = -P := by rw [e, hP]; simp [h, h', hx, hyn, sg, Int.mul_neg]
    refine ⟨?_, ?_, ?_⟩ <;> (try rw [e2]) <;> simp [sg, h, hx] <;> omega
  · have e : y = (y.natAbs : Int) := by omega
    have e2 : sg (!(bl == bl')) Q * y = -P := by rw [hP]; conv => lhs; rw [e]
                                                 simp [h, h', hx, hyn, sg, Int.neg_mul]
    simp [h, h', hx, hyn] at hc
    refine ⟨?_, ?_, ?_⟩ <;> (try rw [e2]) <;> simp [sg, h, hx] <;> omega
  · have e : y = -(y.natAbs : Int) := by omega
    have e2 : sg (!(bl == bl')) Q * y = P := by rw [e, hP]; simp [h, h', hx, hyn, sg, Int.neg_mul_neg]
    simp [h, h', hx, hyn] at hc
    refine ⟨?_, ?_, ?_⟩ <;> (try rw [e2]) <;> simp [sg, h, hx] <;> omega
  · have e : y = (y.natAbs : Int) := by omega
    have e2 : sg (!(bl == bl')) Q * y = P := by rw [hP]; conv => lhs; rw [e]
                                                simp [h, h', hx, hyn, sg]
    refine ⟨?_, ?_, ?_⟩ <;> (try rw [e2]) <;> simp [sg, h, hx] <;> omega
theorem quo_fixed {x y : Int} {bl bl' : Bool} (h : bl = decide (x < 0)) (h' : bl' = decide (y < 0)) (hy : y ≠ 0) (hr : x.natAbs % y.natAbs ≠ 0) (hc : (bl == bl') = false) :
    IsQuo x y (sg (!(bl == bl')) (x.natAbs / y.natAbs) - 1) (sg bl (x.natAbs % y.natAbs) + y) := by
  obtain ⟨P, hP, h1, h2⟩ := quo_parts (x := x) hy
  generalize x.natAbs / y.natAbs = Q at *
  generalize x.natAbs % y.natAbs = R at *
  by_cases hx : x < 0 <;> by_cases hyn : y < 0
  · simp [h, h', hx, hyn] at hc
  · have e : y = (y.natAbs : Int) := by omega
    have e2 : sg (!(bl == bl')) Q * y = -P := by rw [hP]; conv => lhs; rw [e]
                                                 simp [h, h', hx, hyn, sg, Int.neg_mul]
    refine ⟨?_, ?_, ?_⟩ <;> (try rw [Int.sub_mul, e2]) <;> simp [sg, h, hx] <;> omega
  · have e : y = -(y.natAbs : Int) := by omega
    have e2 : sg (!(bl == bl')) Q * y = P := by rw [e, hP]; simp [h, h', hx, hyn, sg, Int.neg_mul_neg]
    refine ⟨?_, ?_, ?_⟩ <;> (try rw [Int.sub_mul, e2]) <;> simp [sg, h, hx] <;> omega
  · simp [h, h', hx, hyn] at hc
theorem sg_zero {bl : Bool} {N : Nat} : sg bl N = 0 ↔ N = 0 := by unfold sg; cases bl <;> simp
end Go.Proofs.Ytpahkpcoinbgcaa

/- Numbers in variables; what a region that divides has done. No statement of the seat is proved here. -/
namespace Go.Proofs.Ytpahkpcoinbgcaa
open Go.RowKit
/-- A value is a number of package long. -/
def HN (w : World) (v : Value) (z : Int) : Prop := ∃ (b : Bool) (a : Option Addr) (n c : Nat), v = .agg #[.bool b, .slice a n c] ∧ Num w b a n c z
theorem HN.below {w w' : World} {v : Value} {z : Int} (h : HN w v z) (hb : Below w.heap.size w w') : HN w' v z := by
 obtain ⟨b, a, n, c, h1, h2⟩ := h
 exact ⟨b, a, n, c, h1, h2.below hb⟩
/-- Block k is a variable of package long's numbers that holds these. -/
def Bx (w : World) (t : TypeId) (k : Nat) (u v : Value) : Prop := w.heap[k]? = some (.cells #[u, v] t (0, 0))
theorem Bx.below {w w' : World} {t : TypeId} {k : Nat} {u v : Value} (h : Bx w t k u v) (hb : Below w.heap.size w w') : Bx w' t k u v := by
 unfold Bx at h ⊢
 rw [hb.block k (Array.getElem?_eq_some_iff.1 h).1]; exact h
theorem Bx.lt {w : World} {t : TypeId} {k : Nat} {u v : Value} (h : Bx w t k u v) : k < w.heap.size := (Array.getElem?_eq_some_iff.1 h).1
theorem Bx.cells {w : World} {t : TypeId} {k : Nat} {u v : Value} (h : Bx w t k u v) : w.cell? ⟨k, 0, none⟩ = some u ∧ w.cell? ⟨k, 1, none⟩ = some v ∧ w.frozen? ⟨k, 0, none⟩ = false ∧ w.frozen? ⟨k, 1, none⟩ = false := by
 unfold Bx at h
 refine ⟨?_, ?_, ?_, ?_⟩ <;> simp [World.cell?, World.frozen?, h]
theorem bx_new (w : World) (t : TypeId) (u v : Value) : Bx (w.alloc (.cells #[u, v] t)) t w.heap.size u v := by
 unfold Bx; rw [heap_alloc_new]
/-- Two numbers are held by variables. -/
structure Hv (w W1 : World) (i j : Nat) (b1 : Bool) (a1 : Option Addr) (n1 c1 : Nat) (x : Int) (b2 : Bool) (a2 : Option Addr) (n2 c2 : Nat) (y : Int) : Prop where
 below : Below w.heap.size w W1
 X : Bx W1 113 i (.bool b1) (.slice a1 n1 c1)
 Y : Bx W1 113 j (.bool b2) (.slice a2 n2 c2)
 nx : Num W1 b1 a1 n1 c1 x
 ny : Num W1 b2 a2 n2 c2 y
theorem Hv.later {w W1 W2 : World} {i j : Nat} {b1 : Bool} {a1 : Option Addr} {n1 c1 : Nat} {x : Int} {b2 : Bool} {a2 : Option Addr} {n2 c2 : Nat} {y : Int} (h : Hv w W1 i j b1 a1 n1 c1 x b2 a2 n2 c2 y) (hb : Below W1.heap.size W1 W2) : Hv w W2 i j b1 a1 n1 c1 x b2 a2 n2 c2 y :=
 ⟨h.below.trans (hb.mono h.below.size), h.X.below hb, h.Y.below hb, h.nx.below hb, h.ny.below hb⟩
/-- A number stays where another variable is written. -/
theorem Num.store {w : World} {bl : Bool} {a : Option Addr} {n c : Nat} {z : Int} (h : Num w bl a n c z) {t : TypeId} {k : Nat} {bk : Bool} {ak : Option Addr} {nk ck : Nat} (hk : Bx w t k (.bool bk) (.slice ak nk ck)) (u v : Value) :
  Num ((w.setCell ⟨k, 0, none⟩ u).setCell ⟨k, 1, none⟩ v) bl a n c z := by
 by_cases hn : n = 0
 ·
  subst hn
  refine ⟨⟨h.lie.cap, h.lie.capm, h.lie.nil, fun p hp => ⟨(h.lie.spot p hp).1, by rw [(only2 w k u v).size]; exact (h.lie.spot p hp).2⟩, fun p hp i hi => by omega⟩, h.fit, h.sgn⟩
 ·
  refine h.only (only2 _ _ _ _) (fun p hp e => ?_)
  have h1 := h.lie.cell p hp 0 (by omega)
  rw [e] at h1
  unfold Bx at hk
  simp only [World.cell?, hk, Nat.add_zero] at h1
  rcases hpo : p.off with _ | _ | o
  ·
   rw [hpo] at h1; simp at h1
  ·
   rw [hpo] at h1; simp at h1
  ·
   rw [hpo] at h1; simp at h1
theorem Bx.other {w : World} {t : TypeId} {k k' : Nat} {u v : Value} (h : Bx w t k u v) (hne : k ≠ k') (x y : Value) : Bx ((w.setCell ⟨k', 0, none⟩ x).setCell ⟨k', 1, none⟩ y) t k u v := by
 unfold Bx at h ⊢
 rw [(only2 w k' x y).block k hne]; exact h
theorem Bx.self {w : World} {t : TypeId} {k : Nat} {u v : Value} (h : Bx w t k u v) (x y : Value) : Bx ((w.setCell ⟨k, 0, none⟩ x).setCell ⟨k, 1, none⟩ y) t k x y := by
 unfold Bx at h ⊢
 have hlt := (Array.getElem?_eq_some_iff.1 h).1
 simp only [World.setCell, Array.getElem?_modify, if_true, h, Option.map_some]
 rfl
theorem HN.store {w : World} {v : Value} {z : Int} (h : HN w v z) {t : TypeId} {k : Nat} {bk : Bool} {ak : Option Addr} {nk ck : Nat} (hk : Bx w t k (.bool bk) (.slice ak nk ck)) (u x : Value) :
  HN ((w.setCell ⟨k, 0, none⟩ u).setCell ⟨k, 1, none⟩ x) v z := by
 obtain ⟨b, a, n, c, h1, h2⟩ := h
 exact ⟨b, a, n, c, h1, h2.store hk u x⟩
/-- A pointer to a variable that the region makes. -/
def Nw (w W : World) (i j : Nat) (v : Value) : Prop := ∃ (k : Nat) (b : Bool) (a : Option Addr) (n c : Nat), v = .pointer (some ⟨k, 0, none⟩) ∧ Bx W 113 k (.bool b) (.slice a n c) ∧ k ≠ i ∧ k ≠ j ∧ w.heap.size ≤ k
/-- A pointer to a variable that holds a number. -/
def Hd (W : World) (v : Value) (z : Int) : Prop := ∃ (k : Nat) (b : Bool) (a : Option Addr) (n c : Nat), v = .pointer (some ⟨k, 0, none⟩) ∧ Bx W 113 k (.bool b) (.slice a n c) ∧ Num W b a n c z
/-- A quotient, a rest, and no error. -/
def Tp (W : World) (v : Value) (q r : Int) : Prop := ∃ vq vr : Value, v = .tuple #[vq, vr, .int .i64 0] ∧ HN W vq q ∧ HN W vr r
theorem Nw.below {w W W' : World} {i j : Nat} {v : Value} (h : Nw w W i j v) (hb : Below W.heap.size W W') : Nw w W' i j v := by
 obtain ⟨k, b, a, n, c, h1, h2, h3⟩ := h
 exact ⟨k, b, a, n, c, h1, h2.below hb, h3⟩
theorem Hd.below {W W' : World} {v : Value} {z : Int} (h : Hd W v z) (hb : Below W.heap.size W W') : Hd W' v z := by
 obtain ⟨k, b, a, n, c, h1, h2, h3⟩ := h
 exact ⟨k, b, a, n, c, h1, h2.below hb, h3.below hb⟩
theorem Tp.below {W W' : World} {v : Value} {q r : Int} (h : Tp W v q r) (hb : Below W.heap.size W W') : Tp W' v q r := by
 obtain ⟨x, y, h1, h2, h3⟩ := h
 exact ⟨x, y, h1, h2.below hb, h3.below hb⟩
/-- What the region 'q, r, e = (x times y).Quo(t)' has done. -/
structure J6 (V : World → Prop) (w : World) (i j : Nat) (b1 : Bool) (a1 : Option Addr) (n1 c1 : Nat) (b2 : Bool) (a2 : Option Addr) (n2 c2 : Nat) (f p q r : Int) (L : Nat → Bool) (W : World) (v8 v9 v36 v37 v38 v39 v40 v41 v42 v43 v44 : Value) : Prop where
 hv : V W
 h0 : L 0 = true → v37 = .agg #[.bool b1, .slice a1 n1 c1]
 h1 : L 1 = true → HN W v38 f
 h2 : L 2 = true → HN W v39 p
 h3 : L 3 = true → v40 = .agg #[.bool b2, .slice a2 n2 c2]
 h4 : L 4 = true → Tp W v41 q r
 h5 : L 5 = true → Tp W v36 q r
 h6 : L 6 = true → HN W v42 q
 h7 : L 7 = true → HN W v43 r
 h8 : L 8 = true → v44 = .int .i64 0
 h9 : L 9 = true → Nw w W i j v8
 h10 : L 10 = true → Nw w W i j v9
 hne : L 9 = true → L 10 = true → v8 ≠ v9
 h11 : L 11 = true → Hd W v8 q
 hcl : L 11 = true → L 9 = true
 h12 : L 12 = true → Hd W v9 r
 hcl2 : L 12 = true → L 10 = true
theorem Hv.store {w W1 : World} {i j : Nat} {b1 : Bool} {a1 : Option Addr} {n1 c1 : Nat} {x : Int} {b2 : Bool} {a2 : Option Addr} {n2 c2 : Nat} {y : Int} (h : Hv w W1 i j b1 a1 n1 c1 x b2 a2 n2 c2 y) {k : Nat} {bk : Bool} {ak : Option Addr} {nk ck : Nat} (hk : Bx W1 113 k (.bool bk) (.slice ak nk ck)) (hki : k ≠ i) (hkj : k ≠ j) (hkw : w.heap.size ≤ k) (u v : Value) :
  Hv w ((W1.setCell ⟨k, 0, none⟩ u).setCell ⟨k, 1, none⟩ v) i j b1 a1 n1 c1 x b2 a2 n2 c2 y :=
 ⟨h.below.trans ((only2 _ _ _ _).below hkw), h.X.other (Ne.symm hki) _ _, h.Y.other (Ne.symm hkj) _ _, h.nx.store hk _ _, h.ny.store hk _ _⟩
theorem Tp.store {W : World} {v : Value} {q r : Int} (h : Tp W v q r) {t : TypeId} {k : Nat} {bk : Bool} {ak : Option Addr} {nk ck : Nat} (hk : Bx W t k (.bool bk) (.slice ak nk ck)) (u x : Value) : Tp ((W.setCell ⟨k, 0, none⟩ u).setCell ⟨k, 1, none⟩ x) v q r := by
 obtain ⟨y, z, h1, h2, h3⟩ := h
 exact ⟨y, z, h1, h2.store hk u x, h3.store hk u x⟩
theorem ptr_ne {v v' : Value} {k k' : Nat} (h : v = .pointer (some ⟨k, 0, none⟩)) (h' : v' = .pointer (some ⟨k', 0, none⟩)) (hne : v ≠ v') : k' ≠ k := fun e => hne (by rw [h, h', e])
theorem Nw.other {w W : World} {i j k : Nat} {v v' : Value} (h : Nw w W i j v') (hv : v = .pointer (some ⟨k, 0, none⟩)) (hne : v ≠ v') {bk : Bool} {ak : Option Addr} {nk ck : Nat} (_ : Bx W 113 k (.bool bk) (.slice ak nk ck)) (u x : Value) : Nw w ((W.setCell ⟨k, 0, none⟩ u).setCell ⟨k, 1, none⟩ x) i j v' := by
 obtain ⟨k', b, a, n, c, h1, h2, h3⟩ := h
 exact ⟨k', b, a, n, c, h1, h2.other (ptr_ne hv h1 hne) _ _, h3⟩
theorem Hd.other {W : World} {k : Nat} {v v' : Value} {z : Int} (h : Hd W v' z) (hv : v = .pointer (some ⟨k, 0, none⟩)) (hne : v ≠ v') {bk : Bool} {ak : Option Addr} {nk ck : Nat} (hk : Bx W 113 k (.bool bk) (.slice ak nk ck)) (u x : Value) : Hd ((W.setCell ⟨k, 0, none⟩ u).setCell ⟨k, 1, none⟩ x) v' z := by
 obtain ⟨k', b, a, n, c, h1, h2, h3⟩ := h
 exact ⟨k', b, a, n, c, h1, h2.other (ptr_ne hv h1 hne) _ _, h3.store hk _ _⟩
section
variable {V : World → Prop} {w : World} {i j : Nat} {b1 : Bool} {a1 : Option Addr} {n1 c1 : Nat} {b2 : Bool} {a2 : Option Addr} {n2 c2 : Nat} {f p q r : Int} {L : Nat → Bool} {W W' : World} {v8 v9 v36 v37 v38 v39 v40 v41 v42 v43 v44 : Value}
theorem J6.later (h : J6 V w i j b1 a1 n1 c1 b2 a2 n2 c2 f p q r L W v8 v9 v36 v37 v38 v39 v40 v41 v42 v43 v44) (hb : Below W.heap.size W W') (hV : V W') : J6 V w i j b1 a1 n1 c1 b2 a2 n2 c2 f p q r L W' v8 v9 v36 v37 v38 v39 v40 v41 v42 v43 v44 :=
 ⟨hV, h.h0, fun e => (h.h1 e).below hb, fun e => (h.h2 e).below hb, h.h3, fun e => (h.h4 e).below hb, fun e => (h.h5 e).below hb, fun e => (h.h6 e).below hb, fun e => (h.h7 e).below hb, h.h8, fun e => (h.h9 e).below hb, fun e => (h.h10 e).below hb, h.hne, fun e => (h.h11 e).below hb, h.hcl, fun e => (h.h12 e).below hb, h.hcl2⟩
end
end Go.Proofs.Ytpahkpcoinbgcaa

/- The document's numbers: the walk of Quo. -/
namespace Go.Proofs.Ytpahkpcoinbgcaa
open Go.RowKit
theorem RNum.store {w : World} {bl : Bool} {a : Option Addr} {n c : Nat} {z : Int} (h : RNum w bl a n c z) {t : TypeId} {k : Nat} {bk : Bool} {ak : Option Addr} {nk ck : Nat} (hk : Bx w t k (.bool bk) (.slice ak nk ck)) (u v : Value) :
  RNum ((w.setCell ⟨k, 0, none⟩ u).setCell ⟨k, 1, none⟩ v) bl a n c z := by
 by_cases hn : n = 0
 ·
  subst hn
  refine ⟨⟨h.lie.cap, h.lie.capm, h.lie.nil, fun p hp => ⟨(h.lie.spot p hp).1, by rw [(only2 w k u v).size]; exact (h.lie.spot p hp).2⟩, fun p hp i hi => by omega⟩, h.fit, h.sgn⟩
 ·
  refine h.only (only2 _ _ _ _) (fun p hp e => ?_)
  have h1 := h.lie.cell p hp 0 (by omega)
  rw [e] at h1
  unfold Bx at hk
  simp only [World.cell?, hk, Nat.add_zero] at h1
  rcases hpo : p.off with _ | _ | o
  ·
   rw [hpo] at h1; simp at h1
  ·
   rw [hpo] at h1; simp at h1
  ·
   rw [hpo] at h1; simp at h1
/-- What Quo is given, and the places of its results. -/
structure RQB (w W : World) (bl : Bool) (a : Option Addr) (n c : Nat) (bl' : Bool) (a' : Option Addr) (n' c' : Nat) : Prop where
 below : Below w.heap.size w W
 X : Bx W 71 w.heap.size (.bool bl) (.slice a n c)
 Y : Bx W 71 (w.heap.size + 1) (.bool bl') (.slice a' n' c')
 A : Bx W 71 (w.heap.size + 2) (.bool false) (.slice none 0 0)
 B : Bx W 71 (w.heap.size + 3) (.bool false) (.slice none 0 0)
section
variable {w W W' : World} {bl : Bool} {a : Option Addr} {n c : Nat} {bl' : Bool} {a' : Option Addr} {n' c' : Nat}
theorem RQB.later (h : RQB w W bl a n c bl' a' n' c') (hb : Below W.heap.size W W') : RQB w W' bl a n c bl' a' n' c' :=
 ⟨h.below.trans (hb.mono h.below.size), h.X.below hb, h.Y.below hb, h.A.below hb, h.B.below hb⟩
theorem RQB.other (h : RQB w W bl a n c bl' a' n' c') {k : Nat} (hk : w.heap.size + 3 < k) (u v : Value) : RQB w ((W.setCell ⟨k, 0, none⟩ u).setCell ⟨k, 1, none⟩ v) bl a n c bl' a' n' c' :=
 ⟨h.below.trans ((only2 _ _ _ _).below (by omega)), h.X.other (by omega) _ _, h.Y.other (by omega) _ _, h.A.other (by omega) _ _, h.B.other (by omega) _ _⟩
end
theorem rqb_mk (w : World) (bl : Bool) (a : Option Addr) (n c : Nat) (bl' : Bool) (a' : Option Addr) (n' c' : Nat) :
  RQB w ((((w.alloc (.cells #[.bool bl, .slice a n c] 71)).alloc (.cells #[.bool bl', .slice a' n' c'] 71)).alloc (.cells #[.bool false, .slice none 0 0] 71)).alloc (.cells #[.bool false, .slice none 0 0] 71)) bl a n c bl' a' n' c' := by
 have hal : ∀ (W : World) (o : Obj), Below W.heap.size W (W.alloc o) := fun W o => (Below.refl _ _).alloc (Nat.le_refl _) _
 have s1 : (w.alloc (.cells #[.bool bl, .slice a n c] 71)).heap.size = w.heap.size + 1 := by simp
 have s2 : ((w.alloc (.cells #[.bool bl, .slice a n c] 71)).alloc (.cells #[.bool bl', .slice a' n' c'] 71)).heap.size = w.heap.size + 2 := by simp
 have s3 : (((w.alloc (.cells #[.bool bl, .slice a n c] 71)).alloc (.cells #[.bool bl', .slice a' n' c'] 71)).alloc (.cells #[.bool false, .slice none 0 0] 71)).heap.size = w.heap.size + 3 := by simp
 refine ⟨((((Below.refl w.heap.size w).alloc (Nat.le_refl _) _).alloc (by simp) _).alloc (by simp; omega) _).alloc (by simp; omega) _, (((bx_new w _ _ _).below (hal _ _)).below (hal _ _)).below (hal _ _), ?_, ?_, ?_⟩
 ·
  have h := ((bx_new (w.alloc (.cells #[.bool bl, .slice a n c] 71)) 71 (.bool bl') (.slice a' n' c')).below (hal _ (.cells #[.bool false, .slice none 0 0] 71))).below (hal _ (.cells #[.bool false, .slice none 0 0] 71))
  rwa [s1] at h
 ·
  have h := (bx_new ((w.alloc (.cells #[.bool bl, .slice a n c] 71)).alloc (.cells #[.bool bl', .slice a' n' c'] 71)) 71 (.bool false) (.slice none 0 0)).below (hal _ (.cells #[.bool false, .slice none 0 0] 71))
  rwa [s2] at h
 ·
  have h := bx_new (((w.alloc (.cells #[.bool bl, .slice a n c] 71)).alloc (.cells #[.bool bl', .slice a' n' c'] 71)).alloc (.cells #[.bool false, .slice none 0 0] 71)) 71 (.bool false) (.slice none 0 0)
  rwa [s3] at h
/-- A quotient and a rest of the document's numbers are handed back, and an error's number. -/
def PRQ (q r er : Int) (w : World) (e : Ending) (w' : World) : Prop :=
 ∃ (b1 : Bool) (a1 : Option Addr) (n1 c1 : Nat) (b2 : Bool) (a2 : Option Addr) (n2 c2 : Nat), e = .returned (.tuple #[.agg #[.bool b1, .slice a1 n1 c1], .agg #[.bool b2, .slice a2 n2 c2], .int .i64 er]) ∧
  RNum w' b1 a1 n1 c1 q ∧ RNum w' b2 a2 n2 c2 r ∧ Below w.heap.size w w'
theorem rpq_end {w W : World} {bl : Bool} {a : Option Addr} {n c : Nat} {bl' : Bool} {a' : Option Addr} {n' c' : Nat} {qb : Bool} {qa : Option Addr} {qn qc : Nat} {rb : Bool} {ra : Option Addr} {rn rc : Nat} {q r : Int}
  (hX : RQB w W bl a n c bl' a' n' c') (hq : RNum W qb qa qn qc q) (hr : RNum W rb ra rn rc r) :
  PRQ q r 0 w (.returned (.tuple #[.agg #[.bool qb, .slice qa qn qc], .agg #[.bool rb, .slice ra rn rc], .int .i64 0]))
   (((((W.setCell ⟨w.heap.size + 2, 0, none⟩ (.bool qb)).setCell ⟨w.heap.size + 2, 1, none⟩ (.slice qa qn qc)).setCell ⟨w.heap.size + 3, 0, none⟩ (.bool rb)).setCell ⟨w.heap.size + 3, 1, none⟩ (.slice ra rn rc)).drew) := by
 have o1 := only2 W (w.heap.size + 2) (.bool qb) (.slice qa qn qc)
 have o2 := only2 ((W.setCell ⟨w.heap.size + 2, 0, none⟩ (.bool qb)).setCell ⟨w.heap.size + 2, 1, none⟩ (.slice qa qn qc)) (w.heap.size + 3) (.bool rb) (.slice ra rn rc)
 have hd : ∀ W : World, Below W.heap.size W W.drew := fun W => (Below.refl _ _).drew
 have hB := hX.B.other (k' := w.heap.size + 2) (by omega) (.bool qb) (.slice qa qn qc)
 exact ⟨qb, qa, qn, qc, rb, ra, rn, rc, rfl, ((hq.store hX.A _ _).store hB _ _).below (hd _), ((hr.store hX.A _ _).store hB _ _).below (hd _), (hX.below.trans ((o1.below (by omega)).trans (o2.below (by omega)))).drew⟩
set_option maxRecDepth 100000 in
set_option maxHeartbeats 3200000 in
theorem rQuo_any (bl : Bool) (a : Option Addr) (n c : Nat) (x : Int) (bl' : Bool) (a' : Option Addr) (n' c' : Nat) (y : Int) (w : World) (h : RNum w bl a n c x) (h' : RNum w bl' a' n' c' y) (hn : n ≤ 1000000) (hn' : n' ≤ 1000000) (hy : y ≠ 0) :
  Calls Try.prog 107 #[.agg #[.bool bl, .slice a n c], .agg #[.bool bl', .slice a' n' c']] w (fun e w' => ∃ q r : Int, IsQuo x y q r ∧ PRQ q r 0 w e w') := by
 have H := Lib.hid h
 have H' := Lib.hid h'
 have HY := Lib.hid hy
 have hn0 : 0 < n' := Nat.pos_of_ne_zero (fun e => hy (h'.zero_iff.1 e))
 have dn : (((n' : Nat) : Int) == 0) = false := by simp; omega
 have HB0 : Hid (0 < y.natAbs) := show 0 < y.natAbs by omega
 clear h h' hy
 have hX1 := rqb_mk w bl a n c bl' a' n' c'
 go_enter Try.func107, Try.ntmps107
 go_wp2_with fail
 generalize (((w.alloc (.cells #[.bool bl, .slice a n c] 71)).alloc (.cells #[.bool bl', .slice a' n' c'] 71)).alloc (.cells #[.bool false, .slice none 0 0] 71)).alloc (.cells #[.bool false, .slice none 0 0] 71) = w1 at *
 refine (rparted_any a a' n c n' c' x.natAbs y.natAbs _ (H.out.lie.below hX1.below) (H'.out.lie.below hX1.below) H.out.fit.1 H'.out.fit HB0.out hn hn').mono ?_
 rintro e w2 ⟨g2, a3, n3, c3, rfl, hg2, hO2, hR2, hb2⟩
 have hX2 := hX1.later hb2
 have HFQ : Hid (x.natAbs / y.natAbs < 10 ^ n) := Nat.lt_of_le_of_lt (Nat.div_le_self _ _) H.out.fit.1
 obtain ⟨k0, k1, _, _⟩ := hX2.X.cells
 obtain ⟨l0, l1, _, _⟩ := hX2.Y.cells
 go_wp2_with fail
 refine (rmade_any _ _ n n _ _ (hO2.lie (Nat.le_refl _) (by unfold maxLen; omega)) HFQ.out).mono ?_
 rintro e w3 ⟨qb, qn, qc, rfl, hq3, hb3⟩
 have hX3 := hX2.later hb3
 have hR3 := hR2.below hb3
 clear k0 k1 l0 l1
 have hal : Below w3.heap.size w3 (w3.alloc (.cells #[.bool qb, .slice (some ⟨g2, 0, none⟩) qn qc] 71)) := (Below.refl _ _).alloc (Nat.le_refl _) _
 have hX4 := hX3.later hal
 have hR4 := hR3.below hal
 have hq4 := hq3.below hal
 have hQ4 := bx_new w3 71 (.bool qb) (.slice (some ⟨g2, 0, none⟩) qn qc)
 have hgq : w.heap.size + 3 < w3.heap.size := hX3.B.lt
 obtain ⟨k0, k1, _, _⟩ := hX4.X.cells
 clear hX2 hR2 hO2 hX3 hR3 hq3 hal hb3 hX1 hg2
 go_wp2_with fail
 generalize hw4 : w3.alloc (.cells #[.bool qb, .slice (some ⟨g2, 0, none⟩) qn qc] 71) = w4 at *
 generalize w3.heap.size = gq at *
 refine (rmade_any bl a3 n3 c3 _ _ hR4.lie hR4.fit.1).mono ?_
 rintro e w5 ⟨rb, rn, rc, rfl, hr5, hb5⟩
 have hal : Below w5.heap.size w5 (w5.alloc (.cells #[.bool rb, .slice a3 rn rc] 71)) := (Below.refl _ _).alloc (Nat.le_refl _) _
 have hX6 := (hX4.later hb5).later hal
 have hq6 := (hq4.below hb5).below hal
 have hQ6 := (hQ4.below hb5).below hal
 have hr6 := hr5.below hal
 have hR6 := bx_new w5 71 (.bool rb) (.slice a3 rn rc)
 have hgr : gq < w5.heap.size := (hQ4.below hb5).lt
 obtain ⟨l0, l1, _, _⟩ := hX6.Y.cells
 obtain ⟨r0, r1, r2, r3⟩ := hR6.cells
 obtain ⟨q0, q1, q2, q3⟩ := hQ6.cells
 clear hX4 hR4 hq4 hQ4 hr5 hb5 hal k0 k1 hw4
 by_cases hR0 : x.natAbs % y.natAbs = 0
 ·
  have hrn0 : rn = 0 := by
   have := hr6.zero_iff.2 (sg_zero.2 hR0)
   exact this
  have HQ := Lib.hid (quo_plain H.out.sgn H'.out.sgn HY.out (.inl hR0))
  subst hrn0
  generalize hsq : sg (!(bl == bl')) (x.natAbs / y.natAbs) = q at *
  generalize hsr : sg bl (x.natAbs % y.natAbs) = r at *
  clear hsq hsr hR0
  go_wp2
  generalize w5.alloc (.cells #[.bool rb, .slice a3 0 rc] 71) = w6 at *
  generalize w5.heap.size = gr at *
  obtain ⟨s0, s1, s2, s3⟩ := hX6.A.cells
  obtain ⟨t0, t1, t2, t3⟩ := hX6.B.cells
  go_region
  all_goals go_wp2
  refine bodyPost_ret (v := .tuple #[.agg #[.bool qb, .slice (some ⟨g2, 0, none⟩) qn qc], .agg #[.bool rb, .slice a3 0 rc], .int .i64 0]) (by simp [results, Try.results107, go_sem, s0, s1, t0, t1]) rfl ?_
  exact ⟨q, r, HQ.out, rpq_end hX6 hq6 hr6⟩
 ·
  have hrb : rb = bl := by
   have h := hr6.sgn
   rw [sg_neg _ _ (Nat.pos_of_ne_zero hR0)] at h
   exact h
  have hrp : 0 < rn := Nat.pos_of_ne_zero (fun e => hR0 (sg_zero.1 (hr6.zero_iff.1 e)))
  have dr : decide ((0 : Int) < ((rn : Nat) : Int)) = true := decide_eq_true (by omega)
  subst hrb
  by_cases hbb : (rb == bl') = true
  ·
   have HQ := Lib.hid (quo_plain H.out.sgn H'.out.sgn HY.out (.inr hbb))
   generalize hsq : sg (!(rb == bl')) (x.natAbs / y.natAbs) = q at *
   generalize hsr : sg rb (x.natAbs % y.natAbs) = r at *
   clear hsq hsr hR0
   go_wp2
   generalize w5.alloc (.cells #[.bool rb, .slice a3 rn rc] 71) = w6 at *
   generalize w5.heap.size = gr at *
   obtain ⟨s0, s1, s2, s3⟩ := hX6.A.cells
   obtain ⟨t0, t1, t2, t3⟩ := hX6.B.cells
   go_region
   all_goals go_wp2
   refine bodyPost_ret (v := .tuple #[.agg #[.bool qb, .slice (some ⟨g2, 0, none⟩) qn qc], .agg #[.bool rb, .slice a3 rn rc], .int .i64 0]) (by simp [results, Try.results107, go_sem, s0, s1, t0, t1]) rfl ?_
   exact ⟨q, r, HQ.out, rpq_end hX6 hq6 hr6⟩
  ·
   have hbb' : (rb == bl') = false := by simpa using hbb
   have HQ := Lib.hid (quo_fixed H.out.sgn H'.out.sgn HY.out hR0 hbb')
   have hqn : qn ≤ n := by
    have := hq6.fit
    rw [sg_abs] at this
    exact fit10_le this HFQ.out
   have hrn : rn ≤ n' := by
    have := hr6.fit
    rw [sg_abs] at this
    exact fit10_le this (Nat.lt_trans (Nat.mod_lt _ HB0.out) H'.out.fit.1)
   generalize hsq : sg (!(rb == bl')) (x.natAbs / y.natAbs) = q at *
   generalize hsr : sg rb (x.natAbs % y.natAbs) = r at *
   clear hsq hsr hR0 hbb
   go_wp2
   generalize w5.alloc (.cells #[.bool rb, .slice a3 rn rc] 71) = w6 at *
   generalize w5.heap.size = gr at *
   go_region_with (first
     | (go_at_call 80; refine (rOf_any 1 _ (by omega) (by omega)).mono ?_; rintro e w9 ⟨b9, a9, n9, c9, rfl, hN9, hfr9, hb9⟩; have hX9 := hX6.later (below_undrew hb9); have hq9 := hq6.below (below_undrew hb9); have hr9 := hr6.below (below_undrew hb9); have hQ9 := hQ6.below (below_undrew hb9); have hR9 := hR6.below (below_undrew hb9); have hn9 : n9 ≤ 10000000 := Nat.le_trans (fit10_le hN9.fit (M := 1) (by decide)) (by omega); have q09 := hQ9.cells.1; have q19 := hQ9.cells.2.1)
     | (go_at_call 122; refine (rSub_any qb (some ⟨g2, 0, none⟩) qn qc q b9 a9 n9 c9 1 _ hq9 hN9 (by omega) hn9).mono ?_; rintro e wA ⟨bA, aA, nA, cA, rfl, hNA, hfrA, hbA⟩; have hXA := hX9.later hbA; have hrA := hr9.below hbA; have hQA := hQ9.below hbA; have hRA := hR9.below hbA; obtain ⟨q0A, q1A, f0A, f1A⟩ := hQA.cells))
   all_goals
    have hXB := hXA.other hgq (.bool bA) (.slice aA nA cA)
    have hqB := hNA.store hQA (.bool bA) (.slice aA nA cA)
    have hrB := hrA.store hQA (.bool bA) (.slice aA nA cA)
    have hQB := hQA.self (.bool bA) (.slice aA nA cA)
    have hRB := hRA.other (show gr ≠ gq by omega) (.bool bA) (.slice aA nA cA)
    clear hXA hNA hrA hQA hRA q0A q1A f0A f1A hX9 hq9 hr9 hQ9 hR9 hX6 hq6 hr6 hQ6 hR6 l0 l1 q0 q1 q2 q3 r0 r1 r2 r3 hfrA hbA hb9 hfr9 hN9
    generalize (wA.setCell ⟨gq, 0, none⟩ (.bool bA)).setCell ⟨gq, 1, none⟩ (.slice aA nA cA) = wB at *
    obtain ⟨l0, l1, _, _⟩ := hXB.Y.cells
    obtain ⟨r0, r1, _, _⟩ := hRB.cells
    go_wp2_with fail
    refine (rAdd_any rb a3 rn rc r bl' a' n' c' y _ hrB (H'.out.below hXB.below) (by omega) (by omega)).mono ?_
    rintro e wC ⟨bC, aC, nC, cC, rfl, hNC, _, hbC⟩
    have hXC := hXB.later hbC
    have hqC := hqB.below hbC
    have hQC := hQB.below hbC
    have hRC := hRB.below hbC
    clear l0 l1 r0 r1 hXB hqB hrB hQB hRB hbC
    obtain ⟨r0, r1, r2, r3⟩ := hRC.cells
    go_wp2_with fail
    have hXD := hXC.other (show w.heap.size + 3 < gr by omega) (.bool bC) (.slice aC nC cC)
    have hqD := hqC.store hRC (.bool bC) (.slice aC nC cC)
    have hrD := hNC.store hRC (.bool bC) (.slice aC nC cC)
    have hQD := hQC.other (show gq ≠ gr by omega) (.bool bC) (.slice aC nC cC)
    have hRD := hRC.self (.bool bC) (.slice aC nC cC)
    clear r0 r1 r2 r3 hXC hqC hNC hQC hRC
    generalize (wC.setCell ⟨gr, 0, none⟩ (.bool bC)).setCell ⟨gr, 1, none⟩ (.slice aC nC cC) = wD at *
    obtain ⟨q0, q1, _, _⟩ := hQD.cells
    obtain ⟨r0, r1, _, _⟩ := hRD.cells
    obtain ⟨s0, s1, s2, s3⟩ := hXD.A.cells
    obtain ⟨t0, t1, t2, t3⟩ := hXD.B.cells
    go_region
    all_goals go_wp2
    refine bodyPost_ret (v := .tuple #[.agg #[.bool bA, .slice aA nA cA], .agg #[.bool bC, .slice aC nC cC], .int .i64 0]) (by simp [results, Try.results107, go_sem, s0, s1, t0, t1]) rfl ?_
    exact ⟨q - 1, r + y, HQ.out, rpq_end hXD hqD hrD⟩
end Go.Proofs.Ytpahkpcoinbgcaa
