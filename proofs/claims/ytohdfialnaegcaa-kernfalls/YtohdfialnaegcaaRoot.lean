/- The walks of bitCount, powerOfTwo and root. -/
import Derived.Test.YtohdfialnaegcaaQuom
import Derived.Deep.LoopGhost
namespace Go.Proofs.Ytohdfialnaegcaa
open Go.RowKit

/-- How many binary digits a number has. -/
def bitsN (N : Nat) : Nat := if N = 0 then 0 else Nat.log2 N + 1
theorem bitsN_of {N k : Nat} (h1 : 2 ^ k ≤ N) (h2 : N < 2 ^ (k + 1)) : bitsN N = k + 1 := by
  have h0 : N ≠ 0 := fun h => by subst h; have := Nat.pow_pos (n := k) (show 0 < 2 by decide); omega
  have a1 := (Nat.le_log2 h0).2 h1
  have a2 := (Nat.log2_lt h0).2 h2
  unfold bitsN
  rw [if_neg h0]
  omega
theorem BB_pow (k : Nat) : BB ^ k = 2 ^ (32 * k) := by rw [Nat.pow_mul]; rfl
theorem bits_top {N n : Nat} (hN : Fit n N) (hn : 1 ≤ n) : bitsN N = 32 * (n - 1) + Lib.bitLen (lmb N (n - 1)) ∧ 1 ≤ lmb N (n - 1) ∧ 1 ≤ Lib.bitLen (lmb N (n - 1)) ∧ Lib.bitLen (lmb N (n - 1)) ≤ 32 := by
  obtain ⟨m, rfl⟩ : ∃ m, n = m + 1 := ⟨n - 1, by omega⟩
  simp only [Nat.add_sub_cancel]
  have hN1 := hN.1
  have hN2 : BB ^ m ≤ N := by rcases hN.2 with h | h <;> simp at h ⊢; exact h
  have htop : 1 ≤ lmb N m := by rw [lmb_top hN1]; exact Nat.div_pos hN2 (BBp _)
  obtain ⟨h1, h2, h3, h4⟩ := bitLen_in htop (lmb_lt N m)
  refine ⟨?_, htop, h1, h2⟩
  generalize hL : Lib.bitLen (lmb N m) = L at *
  obtain ⟨l, rfl⟩ : ∃ l, L = l + 1 := ⟨L - 1, by omega⟩
  simp only [Nat.add_sub_cancel] at h3
  rw [lmb_top hN1] at h3 h4
  rw [← Nat.add_assoc]
  apply bitsN_of
  · rw [Nat.pow_add, ← BB_pow, Nat.mul_comm]
    exact (Nat.le_div_iff_mul_le (BBp m)).1 h3
  · rw [Nat.add_assoc, Nat.pow_add, ← BB_pow, Nat.mul_comm]
    exact (Nat.div_lt_iff_lt_mul (BBp m)).1 h4

set_option maxHeartbeats 400000 in
theorem bitCount_any (a : Option Addr) (n c N : Nat) (w : World) (ha : Lie .u32 w a n c (lmb N)) (fa : Fit n N) (hn : n ≤ 100000000) :
    Calls Try.prog 110 #[.slice a n c] w (PVal (.int .i64 (bitsN N)) w) := by
  by_cases h0 : n = 0
  · subst h0
    obtain rfl := (fit_pos fa).1 rfl
    go_enter Try.func110, Try.ntmps110
    go_wp2
    go_ret
    exact ⟨ret_int rfl, Below.refl _ _⟩
  · obtain ⟨b, o, rfl, hb⟩ := ha.some_of_pos (by omega)
    have c1 := ha.at (n - 1) (by omega)
    obtain ⟨e1, e2, e3, e4⟩ := bits_top fa (by omega)
    have hl := lmb_lt N (n - 1)
    have h0' : ((n : Int) == 0) = false := by simpa using h0
    have hn1 : 1 ≤ n := by omega
    have H1 := Lib.hid e1
    have HE : Hid (((lmb N (n - 1) : Int)).toNat = lmb N (n - 1)) := Int.toNat_natCast _
    clear e1 ha fa h0
    go_enter Try.func110, Try.ntmps110
    go_wp2_with fail
    refine (Try.bits_Len32 _ _ (by omega) (by omega)).mono ?_
    rintro e w1 ⟨rfl, hww⟩
    subst hww
    rw [HE.out]
    go_wp2
    go_ret
    exact ⟨ret_int (by rw [H1.out]; omega), Below.refl _ _⟩

theorem pow_part (k j : Nat) : lmb (2 ^ k) j = if j = k / 32 then 2 ^ (k % 32) else 0 := by
  have hk := Nat.div_add_mod k 32
  have hr := Nat.mod_lt k (show 0 < 32 by decide)
  unfold lmb
  rw [BB_pow]
  by_cases h : j = k / 32
  · subst h
    rw [if_pos rfl, Nat.pow_div (by omega) (by decide), show k - 32 * (k / 32) = k % 32 from by omega]
    exact Nat.mod_eq_of_lt (Nat.pow_lt_pow_right (by decide) hr)
  · rw [if_neg h]
    by_cases h2 : j < k / 32
    · rw [Nat.pow_div (by omega) (by decide), show k - 32 * j = 32 + (k - 32 * j - 32) from by omega, Nat.pow_add]
      exact Nat.mul_mod_right _ _
    · rw [Nat.div_eq_of_lt (Nat.pow_lt_pow_right (by decide) (by omega))]; rfl
theorem pow_fit (k : Nat) : Fit (k / 32 + 1) (2 ^ k) := by
  have hk := Nat.div_add_mod k 32
  have hr := Nat.mod_lt k (show 0 < 32 by decide)
  refine ⟨?_, .inr ?_⟩
  · rw [BB_pow]; exact Nat.pow_lt_pow_right (by decide) (by omega)
  · rw [Nat.add_sub_cancel, BB_pow]; exact Nat.pow_le_pow_right (by decide) (by omega)

set_option maxHeartbeats 400000 in
theorem powerOfTwo_any (k : Nat) (w : World) (hk : k ≤ 32000000000) :
    Calls Try.prog 109 #[.int .i64 k] w (PNew .u32 103 (k / 32 + 1) (lmb (2 ^ k)) w) := by
  have hn4 : 4 * (k / 32 + 1) ≤ 281474976710656 := by omega
  have hn6 : k / 32 + 1 ≤ 9223372036854775807 := by omega
  have hp : (2 : Int) ^ (k % 32) < 4294967296 := by
    have : 2 ^ (k % 32) < 2 ^ 32 := Nat.pow_lt_pow_right (by decide) (Nat.mod_lt k (by decide))
    have h2 : ((2 ^ (k % 32) : Nat) : Int) = (2 : Int) ^ (k % 32) := by rw [Int.natCast_pow]; rfl
    omega
  have hp0 : (0 : Int) < (2 : Int) ^ (k % 32) := Int.pow_pos (by decide)
  go_enter Try.func109, Try.ntmps109
  go_wp2_with (first | (at_make; refine wpList_mk _ rfl (.tmp 6) (.tmp 6) 79 rfl 103 .u32 4 Try.u79 Try.info103 _ _ (k / 32 + 1) rfl rfl (by omega) (by omega) hn4 hn6 ?_; intro g w1 hg hown hb1; have c1 := hown.cell (k / 32) (by omega); have c2 := hown.free (k / 32)))
  go_ret
  refine ⟨g, rfl, hg, hown.put (by omega) ?_ (fun j hj hne => by rw [pow_part, if_neg hne]), hb1.setCell (p := ⟨g, k / 32, none⟩) hg _⟩
  rw [pow_part, if_pos rfl, Int.natCast_pow]; rfl

/-- The greatest number whose square is not above N: its parts are handed back. -/
def PRoot (N : Nat) (w : World) (e : Ending) (w' : World) : Prop := ∃ R : Nat, R * R ≤ N ∧ N < (R + 1) * (R + 1) ∧ PPart R w e w'

theorem newton_stop {N G : Nat} (hG : 0 < G) (h : G ≤ (G + N / G) / 2) : G * G ≤ N := by
  have h1 : G ≤ N / G := by omega
  exact (Nat.le_div_iff_mul_le hG).1 h1
theorem newton_go {N G : Nat} (hG : 0 < G) (hN : 0 < N) (h : N < (G + 1) * (G + 1)) : N < ((G + N / G) / 2 + 1) * ((G + N / G) / 2 + 1) ∧ 0 < (G + N / G) / 2 := by
  have key : ∀ r : Nat, r * r ≤ N → r ≤ (G + N / G) / 2 := by
    intro r hr
    have h1 : 2 * r ≤ G + N / G := by
      by_cases hle : 2 * r ≤ G
      · exact Nat.le_trans hle (Nat.le_add_right _ _)
      · have h2 : 2 * r - G ≤ N / G := by
          refine (Nat.le_div_iff_mul_le hG).2 (Nat.le_trans ?_ hr)
          have e : ((2 * r - G : Nat) : Int) = 2 * (r : Int) - (G : Int) := by omega
          have : ((2 * r - G : Nat) : Int) * (G : Int) ≤ (r : Int) * (r : Int) := by
            rw [e]
            have hsq : 0 ≤ ((r : Int) - (G : Int)) * ((r : Int) - (G : Int)) := by
              rcases Int.le_total 0 ((r : Int) - (G : Int)) with h | h
              · exact Int.mul_nonneg h h
              · exact Int.mul_nonneg_of_nonpos_of_nonpos h h
            have e2 : ((r : Int) - (G : Int)) * ((r : Int) - (G : Int)) = (r : Int) * r - (2 * (r : Int) - G) * G := by
              simp only [Int.sub_mul, Int.mul_sub, Int.mul_assoc, Int.mul_comm (G : Int) r]; omega
            omega
          exact_mod_cast this
        omega
    omega
  refine ⟨Nat.lt_of_not_le fun hc => ?_, ?_⟩
  · have := key _ hc
    omega
  · have := key 1 (by omega)
    omega
theorem guess_first {N n : Nat} (hN : 0 < N) (hf : Fit n N) : N < (2 ^ ((bitsN N + 1) / 2) + 1) * (2 ^ ((bitsN N + 1) / 2) + 1) ∧ 2 ^ ((bitsN N + 1) / 2) < BB ^ (n + 1) ∧ (bitsN N + 1) / 2 ≤ 32 * n := by
  have h0 : N ≠ 0 := by omega
  have hb : bitsN N = Nat.log2 N + 1 := by unfold bitsN; rw [if_neg h0]
  have h1 : N < 2 ^ bitsN N := by rw [hb]; exact Nat.lt_log2_self
  have h2 : 2 ^ (Nat.log2 N) ≤ N := Nat.log2_self_le h0
  have h3 : Nat.log2 N < 32 * n := (Nat.log2_lt h0).2 (by rw [← BB_pow]; exact hf.1)
  refine ⟨?_, ?_, by omega⟩
  · refine Nat.lt_of_lt_of_le h1 ?_
    have : 2 ^ bitsN N ≤ 2 ^ ((bitsN N + 1) / 2) * 2 ^ ((bitsN N + 1) / 2) := by
      rw [← Nat.pow_add]; exact Nat.pow_le_pow_right (by decide) (by omega)
    refine Nat.le_trans this (Nat.mul_le_mul (by omega) (by omega))
  · rw [BB_pow]; exact Nat.pow_lt_pow_right (by decide) (by omega)
theorem cmp_ge {A B : Nat} : decide (0 ≤ cmpN A B) = decide (B ≤ A) := by
  unfold cmpN
  by_cases h : A < B
  · rw [if_pos h]; simp; omega
  · rw [if_neg h]; by_cases h2 : B < A
    · rw [if_pos h2]; simp; omega
    · rw [if_neg h2]; simp; omega

set_option maxHeartbeats 1600000 in
theorem root_any (a : Option Addr) (n c N : Nat) (w : World) (ha : Lie .u32 w a n c (lmb N)) (fa : Fit n N) (hn : n ≤ 10000000) :
    Calls Try.prog 100 #[.slice a n c] w (PRoot N w) := by
  by_cases h0 : n = 0
  · subst h0
    obtain rfl := (fit_pos fa).1 rfl
    go_enter Try.func100, Try.ntmps100
    go_wp2
    go_ret
    exact ⟨0, by omega, by omega, none, 0, 0, rfl, lie_nil _ _ _, fit_zero, (fun p hp => by cases hp), Below.refl _ _⟩
  · have hN : 0 < N := Nat.pos_of_ne_zero fun h => h0 ((fit_pos fa).2 h)
    have hn1 : 1 ≤ n := by omega
    obtain ⟨g1, g2, g3⟩ := guess_first hN fa
    have h0' : ((n : Int) == 0) = false := by simpa using h0
    have H1 := Lib.hid g1
    have H2 := Lib.hid g2
    have HF := Lib.hid fa
    have hcm := ha.capm
    have hnc := ha.cap
    unfold maxLen at hcm
    clear h0 g1 g2 fa
    have hbb : bitsN N ≤ 64 * n + 1 := by omega
    go_enter Try.func100, Try.ntmps100
    go_wp2_with fail
    refine (bitCount_any a n c N _ ha HF.out (by omega)).mono ?_
    rintro e w1 ⟨rfl, hb1⟩
    have HB : Hid (((bitsN N : Int) + 1) / 2 = (((bitsN N + 1) / 2 : Nat) : Int)) := by show _ = _; omega
    go_wp2_with fail
    rw [HB.out]
    refine (powerOfTwo_any ((bitsN N + 1) / 2) _ (by omega)).mono ?_
    rintro e w2 ⟨g, rfl, hg, hown, hb2⟩
    have hfit := pow_fit ((bitsN N + 1) / 2)
    have hb02 : Below w.heap.size w w2 := hb1.trans (hb2.mono hb1.size)
    have hg0 : w.heap.size ≤ g := Nat.le_trans hb1.size hg
    generalize hGe : (2 : Nat) ^ ((bitsN N + 1) / 2) = G0 at *
    generalize (bitsN N + 1) / 2 / 32 + 1 = m0 at *
    have hG0 : 0 < G0 := by rw [← hGe]; exact Nat.pow_pos (by decide)
    have hm0 := fit_le hfit H2.out
    have HGE := Lib.hid hGe
    clear hGe HB
    go_wp2
    go_loopg [3] G0 (fun G v wr => ∃ (a1 : Option Addr) (m c1 : Nat), v = .slice a1 m c1 ∧ Lie .u32 wr a1 m c1 (lmb G) ∧ Fit m G ∧ m ≤ n + 1 ∧ 0 < G ∧ N < (G + 1) * (G + 1) ∧ (∀ p, a1 = some p → w.heap.size ≤ p.block) ∧ Below w.heap.size w wr)
    case atStart => exact ⟨some ⟨g, 0, none⟩, m0, m0, rfl, hown.lie (Nat.le_refl _) (by unfold maxLen; omega), hfit, hm0, hG0, H1.out, (fun p hp => by cases hp; exact hg0), hb02⟩
    case round =>
      obtain ⟨a1, m, c1, rfl, hl, hf, hm, hG, hlt, hfr, hbl⟩ := hrel
      have haw := ha.below hbl
      have HL := Lib.hid hlt
      have HFR := Lib.hid hfr
      have HM := Lib.hid hf
      clear hlt hfr hf
      go_wp2_with fail
      refine (quotient_any a a1 n c m c1 N gk _ haw hl HF.out HM.out (by omega) hG).mono ?_
      rintro e w3 ⟨a3, n3, c3, a4, n4, c4, rfl, ⟨hl3, hf3, hfr3⟩, _, hb3⟩
      have hl' := hl.below hb3
      have hn3 : n3 ≤ n := fit_le hf3 (Nat.lt_of_le_of_lt (Nat.div_le_self _ _) HF.out.1)
      have H3 := Lib.hid hf3
      clear hl haw hf3 hfr3
      go_wp2_with fail
      refine (sum_any a1 a3 m c1 n3 c3 gk (N / gk) _ hl' hl3 HM.out H3.out (by omega) (by omega)).mono ?_
      rintro e w4 ⟨a5, n5, c5, rfl, hl5, hf5, hfr5, hb4⟩
      have hl'' := hl'.below hb4
      have hn5 : n5 ≤ n + 2 := by
        refine fit_le hf5 ?_
        have q1 : gk < BB ^ (n + 1) := fit_mono HM.out.1 hm
        have q2 : N / gk < BB ^ (n + 1) := fit_mono (Nat.lt_of_le_of_lt (Nat.div_le_self _ _) HF.out.1) (by omega)
        exact (cy_end q1 q2).2
      have H5 := Lib.hid hf5
      clear hl' hl3 hf5 hfr5
      go_wp2_with fail
      refine (lowered_any a5 n5 c5 (gk + N / gk) 1 _ hl5 H5.out.1 (by omega) (by omega)).mono ?_
      rintro e w5 ⟨a6, n6, c6, rfl, hl6, hf6, hfr6, hb5⟩
      have hl7 := hl''.below hb5
      rw [Nat.pow_one] at hl6 hf6
      have H6 := Lib.hid hf6
      have HR6 := Lib.hid hfr6
      clear hl'' hl5 hf6 hfr6
      have hbA : Below w.heap.size w w4 := (hbl.trans (hb3.mono hbl.size)).trans (hb4.mono (Nat.le_trans hbl.size hb3.size))
      have hbB : Below w.heap.size w w5 := hbA.trans (hb5.mono hbA.size)
      go_wp2_with fail
      refine (compare_any a6 a1 n6 c6 m c1 ((gk + N / gk) / 2) gk _ hl6 hl7 H6.out HM.out).mono ?_
      rintro e w6 ⟨rfl, hb6⟩
      have hge := cmp_ge (A := (gk + N / gk) / 2) (B := gk)
      have hbC : Below w.heap.size w w6 := hbB.trans (hb6.mono hbB.size)
      by_cases hc : gk ≤ (gk + N / gk) / 2
      · have hd : decide (0 ≤ cmpN ((gk + N / gk) / 2) gk) = true := by rw [hge]; exact decide_eq_true hc
        have HS := Lib.hid (newton_stop hG hc)
        clear hge hc
        generalize cmpN ((gk + N / gk) / 2) gk = cc at *
        go_wp2
        go_ret
        exact ⟨gk, HS.out, HL.out, a1, m, c1, rfl, hl7.below hb6, HM.out, HFR.out, hbC⟩
      · have hd : decide (0 ≤ cmpN ((gk + N / gk) / 2) gk) = false := by rw [hge]; exact decide_eq_false hc
        have HS := Lib.hid (newton_go hG hN HL.out)
        have HC := Lib.hid hc
        clear hge hc
        have hn6 : n6 ≤ n + 1 := fit_le H6.out (Nat.lt_of_lt_of_le (Nat.lt_of_not_le HC.out) (Nat.le_of_lt (fit_mono HM.out.1 hm)))
        generalize hcc : cmpN ((gk + N / gk) / 2) gk = cc at *
        clear hcc
        go_wp2
        go_roundg ((gk + N / gk) / 2)
        case measure => exact Nat.lt_of_not_le HC.out
        case rel => exact ⟨a6, n6, c6, rfl, hl6.below hb6, H6.out, hn6, HS.out.2, HS.out.1, (fun p hp => Nat.le_trans hbA.size (HR6.out p hp)), hbC⟩
end Go.Proofs.Ytohdfialnaegcaa
