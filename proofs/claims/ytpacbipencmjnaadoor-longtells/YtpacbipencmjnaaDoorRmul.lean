/- The document's numbers: the walks of Sub, Mul. -/
import Derived.Test.YtpacbipencmjnaaDoorRarith
import Derived.IntWalk
namespace Go.Proofs.YtpacbipencmjnaaDoor
open Go.RowKit

theorem fit10_uniq {n m N : Nat} (h : Fit10 n N) (k : Fit10 m N) : n = m := by
  have key : ∀ a b : Nat, Fit10 a N → Fit10 b N → ¬ a < b := by
    intro a b ha hb hlt
    rcases hb.2 with h0 | h0
    · omega
    · have h1 : 10 ^ a ≤ 10 ^ (b - 1) := Nat.pow_le_pow_right (by decide) (by omega)
      have := ha.1
      omega
  have h1 := key n m h k
  have h2 := key m n k h
  omega
set_option maxHeartbeats 1600000 in
theorem rSub_any (bl : Bool) (a : Option Addr) (n c : Nat) (x : Int) (bl' : Bool) (a' : Option Addr) (n' c' : Nat) (y : Int) (w : World) (h : RNum w bl a n c x) (h' : RNum w bl' a' n' c' y) (hn : n ≤ 10000000) (hn' : n' ≤ 10000000) :
    Calls Tryd.prog 52 #[.agg #[.bool bl, .slice a n c], .agg #[.bool bl', .slice a' n' c']] w (PRNumF (x - y) w) := by
  have H := Lib.hid h
  have H' := Lib.hid h'
  clear h h'
  go_enter Tryd.func52, Tryd.ntmps52
  go_wp2
  have hX1 := boxed_mk w 28 bl a n c bl' a' n' c'
  generalize ((w.alloc (.cells #[.bool bl, .slice a n c] 28)).alloc (.cells #[.bool bl', .slice a' n' c'] 28)).alloc (.cells #[.bool false, .slice none 0 0] 28) = w1 at *
  go_region_held3 (fun w' => w'.cell? ⟨w.heap.size, 0, none⟩ = some (.bool bl) ∧ w'.cell? ⟨w.heap.size, 1, none⟩ = some (.slice a n c) ∧ w'.cell? ⟨w.heap.size + 1, 0, none⟩ = some (.bool bl') ∧ w'.cell? ⟨w.heap.size + 1, 1, none⟩ = some (.slice a' n' c'))
    (first | exact hX1.drew.hs | exact hX1.hs | exact hX2.hs | exact hX3.hs | exact hX3.hs2 _ _)
    (first
      | (go_at_call 66; refine (rMinus_any bl' a' n' c' y _ (H'.out.below hX1.drew.below)).mono ?_; rintro e w2 ⟨bl2, a2, n2, c2, rfl, hN2, hb2⟩; have hX2 := hX1.later (below_undrew hb2); have hn2 : n2 ≤ 10000000 := Nat.le_trans (Nat.le_of_eq (fit10_uniq hN2.fit (by rw [Int.natAbs_neg]; exact H'.out.fit))) hn')
      | (go_at_call 53; refine (rAdd_any bl a n c x bl2 a2 n2 c2 (-y) _ (H.out.below hX2.below) hN2 hn hn2).mono ?_; rintro e w3 ⟨bl3, a3, n3, c3, rfl, hnum, hfr3, hb3⟩; have hX3 := hX2.later hb3; have rB0 := hX3.r0; have rB1 := hX3.r1; have fB0 := hX3.f0; have fB1 := hX3.f1))
  go_wp2
  rw [← Int.sub_eq_add_neg] at hnum
  refine bodyPost_ret (v := .agg #[.bool bl3, .slice a3 n3 c3]) (by simp [results, Tryd.results52, go_sem, rB0, rB1]) rfl ?_
  exact rnumf_store hnum hX3.below (by omega) (fun p hp => by have h1 := hfr3 p hp; have h2 := hX2.sz; omega)
/-- Parts below q out of S, the others out of T. -/
def tmixF (S T q : Nat) (p : Nat) : Nat := if p < q then dig S p else dig T p
/-- What is reached within a row: the rows ahead, and j parts of this one. -/
def trowS (A B i j : Nat) : Nat := (A % 10 ^ i) * B + 10 ^ i * (dig A i * (B % 10 ^ j))
/-- What is carried within a row. -/
def trowC (A B i j : Nat) : Nat := trowS A B i j / 10 ^ (i + j) - (A % 10 ^ i) * B / 10 ^ (i + j)

theorem trowS_zero (A B i : Nat) : trowS A B i 0 = (A % 10 ^ i) * B := by simp [trowS, Nat.mod_one]
theorem trowC_zero (A B i : Nat) : trowC A B i 0 = 0 := by simp [trowC, trowS_zero]
theorem trowS_next (A B i j : Nat) : trowS A B i (j + 1) = trowS A B i j + 10 ^ (i + j) * (dig A i * dig B j) := by
  unfold trowS
  rw [tmod_succ, Nat.pow_add]
  generalize dig A i = x
  generalize dig B j = y
  rw [Nat.mul_add, Nat.mul_add, ← Nat.add_assoc]
  congr 1
  simp only [Nat.mul_assoc, Nat.mul_left_comm, Nat.mul_comm]
theorem trowS_le (A B i j : Nat) : (A % 10 ^ i) * B ≤ trowS A B i j := Nat.le_add_right _ _
theorem trowC_eq (A B i j : Nat) : trowS A B i j / 10 ^ (i + j) = trowC A B i j + (A % 10 ^ i) * B / 10 ^ (i + j) := by
  unfold trowC
  have := Nat.div_le_div_right (c := 10 ^ (i + j)) (trowS_le A B i j)
  omega
theorem trowC_lt (A B i j : Nat) : trowC A B i j < 10 := by
  have hlt : trowS A B i j < (A % 10 ^ i) * B + 10 ^ (i + j) * 9 + 1 := by
    have h1 : dig A i * (B % 10 ^ j) ≤ 9 * 10 ^ j := Nat.mul_le_mul (by have := dig_lt A i; omega) (Nat.le_of_lt (Nat.mod_lt _ (p10 j)))
    have h2 : 10 ^ i * (dig A i * (B % 10 ^ j)) ≤ 10 ^ i * (9 * 10 ^ j) := Nat.mul_le_mul_left _ h1
    have h3 : 10 ^ i * (9 * 10 ^ j) = 10 ^ (i + j) * 9 := by rw [Nat.pow_add, Nat.mul_comm 9, Nat.mul_assoc]
    unfold trowS
    omega
  have hle : trowS A B i j / 10 ^ (i + j) ≤ (A % 10 ^ i) * B / 10 ^ (i + j) + 9 := by
    rw [← Nat.add_mul_div_left _ _ (p10 (i + j))]
    exact Nat.div_le_div_right (by omega)
  unfold trowC
  omega
theorem trowC_step (A B i j : Nat) :
    (trowC A B i j + (dig A i * dig B j + dig ((A % 10 ^ i) * B) (i + j))) % 10 = dig (trowS A B i (j + 1)) (i + j) ∧
    (trowC A B i j + (dig A i * dig B j + dig ((A % 10 ^ i) * B) (i + j))) / 10 = trowC A B i (j + 1) := by
  have e1 : trowS A B i (j + 1) / 10 ^ (i + j) = trowC A B i j + (A % 10 ^ i) * B / 10 ^ (i + j) + dig A i * dig B j := by
    rw [trowS_next, Nat.add_mul_div_left _ _ (p10 _), trowC_eq]
  have e2 := trowC_eq A B i (j + 1)
  rw [show i + (j + 1) = (i + j) + 1 from by omega, Nat.pow_succ, ← Nat.div_div_eq_div_mul, ← Nat.div_div_eq_div_mul, e1] at e2
  constructor
  · show _ = trowS A B i (j + 1) / 10 ^ (i + j) % 10
    rw [e1]
    show (_ + (_ + (A % 10 ^ i) * B / 10 ^ (i + j) % 10)) % 10 = _
    omega
  · show (_ + (_ + (A % 10 ^ i) * B / 10 ^ (i + j) % 10)) / 10 = _
    omega
theorem tdig_add_hi (S x q p : Nat) (h : p < q) : dig (S + 10 ^ q * x) p = dig S p := by
  unfold dig
  obtain ⟨d, rfl⟩ : ∃ d, q = p + 1 + d := ⟨q - (p + 1), by omega⟩
  rw [Nat.pow_add, Nat.pow_succ, Nat.mul_assoc, Nat.mul_assoc, Nat.add_mul_div_left _ _ (p10 p), Nat.add_mul_mod_self_left]
theorem tmix_next (A B i j n : Nat) : ∀ p, p < n → p ≠ i + j → tmixF (trowS A B i j) ((A % 10 ^ i) * B) (i + j) p = tmixF (trowS A B i (j + 1)) ((A % 10 ^ i) * B) (i + (j + 1)) p := by
  intro p _ hne
  unfold tmixF
  by_cases h1 : p < i + j
  · rw [if_pos h1, if_pos (by omega), trowS_next, tdig_add_hi _ _ _ _ h1]
  · rw [if_neg h1, if_neg (by omega)]
theorem trowS_end (A B i m : Nat) (hB : B < 10 ^ m) : trowS A B i m = (A % 10 ^ (i + 1)) * B := by
  unfold trowS
  rw [Nat.mod_eq_of_lt hB, tmod_succ, Nat.add_mul, Nat.mul_assoc]
theorem trow_lt (A B i m : Nat) (hB : B < 10 ^ m) : (A % 10 ^ i) * B < 10 ^ (i + m) := by
  rw [Nat.pow_add]
  exact Nat.mul_lt_mul'' (Nat.mod_lt _ (p10 i)) hB
theorem trowC_end (A B i m : Nat) (hB : B < 10 ^ m) : trowC A B i m = dig ((A % 10 ^ (i + 1)) * B) (i + m) := by
  unfold trowC
  rw [trowS_end A B i m hB, Nat.div_eq_of_lt (trow_lt A B i m hB), Nat.sub_zero]
  have h : (A % 10 ^ (i + 1)) * B < 10 ^ (i + m + 1) := by
    have := trow_lt A B (i + 1) m hB
    rwa [show i + 1 + m = i + m + 1 from by omega] at this
  rw [dig_top h]
theorem tmix_end (A B i m n : Nat) (hB : B < 10 ^ m) : ∀ p, p < n → p ≠ i + m → tmixF (trowS A B i m) ((A % 10 ^ i) * B) (i + m) p = dig ((A % 10 ^ (i + 1)) * B) p := by
  intro p _ hne
  unfold tmixF
  by_cases h1 : p < i + m
  · rw [if_pos h1, trowS_end A B i m hB]
  · rw [if_neg h1, tlmb_zero (trow_lt A B i m hB) (by omega)]
    have := trow_lt A B (i + 1) m hB
    rw [tlmb_zero this (by omega)]


theorem mul_10 {x y : Nat} (hx : x < 10) (hy : y < 10) : (0 : Int) ≤ (x : Int) * (y : Int) ∧ (x : Int) * (y : Int) ≤ 81 := by
  have := Nat.mul_le_mul (show x ≤ 9 by omega) (show y ≤ 9 by omega)
  rw [← Int.natCast_mul]
  omega

set_option maxHeartbeats 3200000 in
theorem rMul_any (bl : Bool) (a : Option Addr) (n c : Nat) (x : Int) (bl' : Bool) (a' : Option Addr) (m d : Nat) (y : Int) (w : World) (h : RNum w bl a n c x) (h' : RNum w bl' a' m d y) (hn : n ≤ 1000000000) (hm : m ≤ 1000000000) :
    Calls Tryd.prog 22 #[.agg #[.bool bl, .slice a n c], .agg #[.bool bl', .slice a' m d]] w (PRNumF (x * y) w) := by
  have HA := Lib.hid h.fit.1
  have HB := Lib.hid h'.fit.1
  have HSG := Lib.hid (sg_mul h.sgn h'.sgn)
  have hl := h.lie
  have hl' := h'.lie
  clear h h'
  generalize hAe : x.natAbs = A at *
  generalize hBe : y.natAbs = B at *
  clear hAe hBe
  have hn4 : 8 * (n + m + 1) ≤ 281474976710656 := by omega
  have hn6 : n + m + 1 ≤ 9223372036854775807 := by omega
  have hX1 := boxed_mk w 28 bl a n c bl' a' m d
  go_enter Tryd.func22, Tryd.ntmps22
  go_wp2_with (first | (at_make; refine wpList_mk _ rfl (.tmp 17) (.tmp 17) 26 rfl 3 .i64 8 Tryd.ru26 Tryd.rinfo3 _ _ (n + m + 1) rfl rfl (by omega) (by omega) hn4 hn6 ?_; intro g w2 hg hown hb2))
  generalize ((w.alloc (.cells #[.bool bl, .slice a n c] 28)).alloc (.cells #[.bool bl', .slice a' m d] 28)).alloc (.cells #[.bool false, .slice none 0 0] 28) = w1 at hX1 hg hb2
  have hlA := hl.below hX1.below
  have hlB := hl'.below hX1.below
  clear hl hl'
  go_loopw [6] (fun i wr => ∃ k : Nat, k ≤ n ∧ i = .int .i64 k ∧ Own .i64 3 wr g (n + m + 1) (dig ((A % 10 ^ k) * B)) ∧ Below w1.heap.size w1 wr) (fun i _ => n - (intOf i).toNat)
  case atStart => exact ⟨0, Nat.zero_le _, rfl, hown.congr (fun j hj => by simp [Nat.mod_one, dig]), hb2⟩
  case round =>
    obtain ⟨k, hk, rfl, hown, hbl⟩ := hrel
    have hXr := hX1.later hbl
    have x1 := hXr.k1
    by_cases hlt : k < n
    · obtain ⟨b1, o1, rfl, hb1'⟩ := hlA.some_of_pos (by omega)
      obtain ⟨wo, rfl⟩ : ∃ wo : World, wo = wr := ⟨_, rfl⟩
      go_wp2
      clear x1 hXr
      go_loopw [7, 8] (fun cv jv wr => ∃ j : Nat, jv = .int .i64 j ∧ Below w1.heap.size w1 wr ∧ ((j ≤ m ∧ cv = .int .i64 (trowC A B k j) ∧ Own .i64 3 wr g (n + m + 1) (tmixF (trowS A B k j) ((A % 10 ^ k) * B) (k + j))) ∨ (j = m + 1 ∧ cv = .int .i64 0 ∧ Own .i64 3 wr g (n + m + 1) (dig ((A % 10 ^ (k + 1)) * B))))) (fun _ jv _ => m + 1 - (intOf jv).toNat)
      case atStart => exact ⟨0, rfl, hbl, .inl ⟨Nat.zero_le _, by rw [trowC_zero]; rfl, hown.congr (fun p hp => by unfold tmixF; rw [trowS_zero]; split <;> rfl)⟩⟩
      case round =>
        clear hown hbl
        obtain ⟨j, rfl, hbl2, hcase⟩ := hrel
        have hXr := hX1.later hbl2
        have x1 := hXr.k1
        have y1 := hXr.l1
        rcases hcase with ⟨hj, rfl, hown2⟩ | ⟨rfl, rfl, hown2⟩
        · have hcl := trowC_lt A B k j
          have hst := Lib.hid (trowC_step A B k j)
          have hla := dig_lt A k
          have hlb := dig_lt B j
          have hlt2 := dig_lt ((A % 10 ^ k) * B) (k + j)
          by_cases hjm : j < m
          · obtain ⟨b2, o2, rfl, hb2'⟩ := hlB.some_of_pos (by omega)
            have c1 := (hlA.below hbl2).at k hlt
            have c3 := (hlB.below hbl2).at j hjm
            have c4 : wr.cell? ⟨g, k + j, none⟩ = some (.int .i64 (dig ((A % 10 ^ k) * B) (k + j))) := by rw [hown2.cell (k + j) (by omega)]; simp [tmixF]
            have c5 := hown2.free (k + j)
            obtain ⟨X, hX⟩ : ∃ X : Int, X = ((dig A k : Nat) : Int) := ⟨_, rfl⟩
            obtain ⟨Y, hY⟩ : ∃ Y : Int, Y = ((dig B j : Nat) : Int) := ⟨_, rfl⟩
            obtain ⟨O, hO⟩ : ∃ O : Int, O = ((dig ((A % 10 ^ k) * B) (k + j) : Nat) : Int) := ⟨_, rfl⟩
            obtain ⟨C, hC⟩ : ∃ C : Int, C = ((trowC A B k j : Nat) : Int) := ⟨_, rfl⟩
            obtain ⟨hpm0, hpm⟩ := mul_10 hla hlb
            rw [← hX, ← hY] at hpm0 hpm
            have HX : Hid ((O + C + X * Y) % 10 = ((dig (trowS A B k (j + 1)) (k + j) : Nat) : Int) ∧ (O + C + X * Y) / 10 = ((trowC A B k (j + 1) : Nat) : Int)) := by
              have := hst.out; show _ ∧ _; rw [hX, hY, hO, hC, ← Int.natCast_mul]; omega
            have hX0 : 0 ≤ X := by omega
            have hX1' : X ≤ 9 := by omega
            have hY0 : 0 ≤ Y := by omega
            have hY1' : Y ≤ 9 := by omega
            have hO0 : 0 ≤ O := by omega
            have hO1 : O ≤ 9 := by omega
            have hC0 : 0 ≤ C := by omega
            have hC1 : C ≤ 9 := by omega
            rw [← hX] at c1
            rw [← hY] at c3
            rw [← hO] at c4
            rw [← hC]
            have hw1 : IntKind.i64.wrap (X * Y) = X * Y := IntWalk.i64_in _ (by omega)
            have hw2 : IntKind.i64.wrap (O + C + X * Y) = O + C + X * Y := IntWalk.i64_in _ (by omega)
            have d1 : decide ((j : Int) < (m : Int)) = true := decide_eq_true (by omega)
            have hbs := fun v => hbl2.setCell (p := ⟨g, k + j, none⟩) hg v
            clear hst hla hlb hlt2 hcl hX hY hO hC
            go_wp2
            go_quiet (fail)
            have hownq : Own .i64 3 (wr.drewN nq) g (n + m + 1) (tmixF (trowS A B k j) ((A % 10 ^ k) * B) (k + j)) := hown2
            have c4q : (wr.drewN nq).cell? ⟨g, k + j, none⟩ = some (.int .i64 O) := c4
            have c5q : (wr.drewN nq).frozen? ⟨g, k + j, none⟩ = false := c5
            have hbs' := fun v => (below_drewN hbl2 nq).setCell (p := ⟨g, k + j, none⟩) hg v
            clear c1 c3 c4 c5 x1 y1 hXr hown2 hbs hbl2
            generalize wr.drewN nq = wq at *
            go_wp2
            go_roundw
            case rel => exact ⟨j + 1, by go_num, hbs' _, .inl ⟨by omega, by rw [HX.out.2], hownq.put (by omega) (by rw [HX.out.1]; rw [tmixF, if_pos (by omega)]) (tmix_next A B k j (n + m + 1))⟩⟩
            case measure => simp [intOf]; omega
          · obtain rfl : j = m := by omega
            have hE := Lib.hid (trowC_end A B k j HB.out)
            have d1 : decide ((j : Int) < (j : Int)) = false := decide_eq_false (by omega)
            have HZ : Hid (dig ((A % 10 ^ k) * B) (k + j) = 0) := dig_zero (trow_lt A B k j HB.out) (Nat.le_refl _)
            by_cases hc0 : trowC A B k j = 0
            · rw [hc0]
              have HO : Hid (Own .i64 3 wr g (n + j + 1) (dig ((A % 10 ^ (k + 1)) * B))) := by
                refine hown2.congr (fun p hp => ?_)
                by_cases hpe : p = k + j
                · subst hpe
                  rw [← hE.out, hc0]
                  unfold tmixF; rw [if_neg (by omega)]; exact HZ.out
                · exact tmix_end A B k j (n + j + 1) HB.out p hp hpe
              clear hst hla hlb hlt2 hcl hown2 hc0
              go_wp2
              go_roundw
              case rel => exact ⟨k + 1, by omega, by go_num, HO.out, hbl2⟩
              case measure => simp [intOf]; omega
            · have c4 : wr.cell? ⟨g, k + j, none⟩ = some (.int .i64 0) := by rw [hown2.cell (k + j) (by omega)]; simp only [tmixF]; rw [if_neg (by omega), HZ.out]; rfl
              have c5 := hown2.free (k + j)
              obtain ⟨C, hC⟩ : ∃ C : Int, C = ((trowC A B k j : Nat) : Int) := ⟨_, rfl⟩
              have hC0 : 0 < C := by omega
              have hC1 : C ≤ 9 := by omega
              have d2 : decide (0 < C) = true := decide_eq_true hC0
              have HM : Hid (C % 10 = ((dig ((A % 10 ^ (k + 1)) * B) (k + j) : Nat) : Int) ∧ C / 10 = 0) := by
                show _ ∧ _
                rw [← hE.out]; omega
              rw [← hC]
              have hbs := fun v => hbl2.setCell (p := ⟨g, k + j, none⟩) hg v
              clear hst hla hlb hlt2 hcl hc0 hC hXr
              go_wp2
              go_roundw
              case rel => exact ⟨j + 1, by go_num, hbs _, .inr ⟨rfl, by rw [HM.out.2], hown2.put (by omega) (by rw [HM.out.1]) (tmix_end A B k j (n + j + 1) HB.out)⟩⟩
              case measure => simp [intOf]
        · have d1 : decide (((m + 1 : Nat) : Int) < (m : Int)) = false := decide_eq_false (by omega)
          have d1' : decide ((m : Int) + 1 < (m : Int)) = false := decide_eq_false (by omega)
          go_wp2
          go_roundw
          case rel => exact ⟨k + 1, by omega, by go_num, hown2, hbl2⟩
          case measure => simp [intOf]; omega
    · obtain rfl : k = n := by omega
      have hO : Own .i64 3 wr g (k + m + 1) (dig (A * B)) := by rw [Nat.mod_eq_of_lt HA.out] at hown; exact hown
      have hAB : A * B < 10 ^ (k + m + 1) := Nat.lt_of_lt_of_le (by rw [Nat.pow_add]; exact Nat.mul_lt_mul'' HA.out HB.out) (Nat.pow_le_pow_right (by decide) (Nat.le_succ (k + m)))
      have HAB := Lib.hid hAB
      have k0 := hXr.k0
      have l0 := hXr.l0
      clear hlA hlB hAB hown
      go_wp2_with fail
      refine (rmade_any (!(bl == bl')) _ _ _ (A * B) _ (hO.lie (Nat.le_refl _) (by unfold maxLen; omega)) HAB.out).mono ?_
      rintro e w3 ⟨bl3, n3, c3, rfl, hnum, hb3⟩
      have hX3 := hXr.later hb3
      have rB0 := hX3.r0
      have rB1 := hX3.r1
      have fB0 := hX3.f0
      have fB1 := hX3.f1
      go_wp2
      rw [HSG.out] at hnum
      refine bodyPost_ret (v := .agg #[.bool bl3, .slice (some ⟨g, 0, none⟩) n3 c3]) (by simp [results, Tryd.results22, go_sem, rB0, rB1]) rfl ?_
      exact rnumf_store hnum hX3.below (by omega) (fun p hp => by cases hp; have := hX1.sz; show _ < g; omega)
end Go.Proofs.YtpacbipencmjnaaDoor
