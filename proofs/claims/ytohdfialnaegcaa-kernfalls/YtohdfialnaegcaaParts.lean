/- The walks of compare, sum, difference, product. -/
import Derived.Test.YtohdfialnaegcaaTrim
namespace Go.Proofs.Ytohdfialnaegcaa
open Go.RowKit

set_option maxHeartbeats 800000 in
theorem compare_any (a b : Option Addr) (n c m d A B : Nat) (w : World) (ha : Lie .u32 w a n c (lmb A)) (hb : Lie .u32 w b m d (lmb B)) (fa : Fit n A) (fb : Fit m B) :
    Calls Try.prog 103 #[.slice a n c, .slice b m d] w (PVal (.int .i64 (cmpN A B)) w) := by
  have hcm := ha.capm
  have hnc := ha.cap
  have hdm := hb.capm
  have hmd := hb.cap
  unfold maxLen at hcm hdm
  rcases Nat.lt_trichotomy n m with hlt | heq | hgt
  · have hR := Lib.hid (cmp_len_lt fa fb hlt)
    clear fa fb ha hb
    go_enter Try.func103, Try.ntmps103
    go_wp2
    go_ret
    exact ⟨ret_int hR.out.symm, Below.refl _ _⟩
  · subst heq
    go_enter Try.func103, Try.ntmps103
    have HA := Lib.hid fa
    have HB := Lib.hid fb
    clear fa fb
    go_wp2
    go_loopw [5] (fun i wr => ∃ k : Nat, k ≤ n ∧ i = .int .i64 ((k : Int) - 1) ∧ A / BB ^ k = B / BB ^ k ∧ Below w.heap.size w wr) (fun i _ => (intOf i + 1).toNat)
    case atStart => exact ⟨n, Nat.le_refl _, rfl, by rw [Nat.div_eq_of_lt HA.out.1, Nat.div_eq_of_lt HB.out.1], Below.refl _ _⟩
    case round =>
      obtain ⟨k, hk, rfl, hup, hbl⟩ := hrel
      have HU := Lib.hid hup
      clear hup
      by_cases hp : 0 < k
      · obtain ⟨j, rfl⟩ : ∃ j, k = j + 1 := ⟨k - 1, by omega⟩
        obtain ⟨b1, o1, rfl, hb1⟩ := ha.some_of_pos (by omega)
        obtain ⟨b2, o2, rfl, hb2⟩ := hb.some_of_pos (by omega)
        have c1 := (ha.below hbl).at j (by omega)
        have c2 := (hb.below hbl).at j (by omega)
        rcases Nat.lt_trichotomy (lmb A j) (lmb B j) with hlt | heq | hgt
        · have hR := Lib.hid ((cmp_up HU.out).1 hlt)
          clear ha hb
          go_wp2
          go_quiet (fail)
          go_wp2
          go_ret
          exact ⟨ret_int hR.out.symm, below_drewN hbl _⟩
        · have hR := Lib.hid ((cmp_up HU.out).2.2 heq)
          have h1 : ¬ lmb A j < lmb B j := by omega
          have h2 : ¬ lmb B j < lmb A j := by omega
          have HE := Lib.hid heq
          clear ha hb heq
          go_wp2
          go_quiet (fail)
          go_wp2
          go_quiet (fail)
          go_wp2
          go_roundw
          case rel => exact ⟨j, by omega, by go_num, hR.out, below_drewN hbl _⟩
          case measure => simp [intOf]
        · have hR := Lib.hid ((cmp_up HU.out).2.1 hgt)
          have h1 : ¬ lmb A j < lmb B j := by omega
          clear ha hb
          go_wp2
          go_quiet (fail)
          go_wp2
          go_quiet (fail)
          go_wp2
          go_ret
          exact ⟨ret_int hR.out.symm, below_drewN (below_drewN hbl _) _⟩
      · obtain rfl : k = 0 := by omega
        have hR := Lib.hid (cmp_all HU.out)
        clear ha hb
        go_wp2
        go_ret
        exact ⟨ret_int hR.out.symm, hbl⟩
  · have hR := Lib.hid (cmp_len_gt fa fb hgt)
    clear fa fb ha hb
    go_enter Try.func103, Try.ntmps103
    go_wp2
    go_ret
    exact ⟨ret_int hR.out.symm, Below.refl _ _⟩

def sumF (A B n i : Nat) (j : Nat) : Nat := if j < i then lmb (A + B) j else if j < n then lmb A j else 0
set_option maxHeartbeats 800000 in
theorem sum_core (sw : Bool) (a b : Option Addr) (n c m d A B : Nat) (w : World) (ha : Lie .u32 w a n c (lmb A)) (hb : Lie .u32 w b m d (lmb B)) (fa : Fit n A) (fb : Fit m B) (hmn : m ≤ n) (hsw : sw = true → m < n) (hn : n ≤ 1000000000) :
    Calls Try.prog 102 (if sw then #[.slice b m d, .slice a n c] else #[.slice a n c, .slice b m d]) w (PPart (A + B) w) := by
  have hcm := ha.capm
  have hnc := ha.cap
  have hdm := hb.capm
  have hmd := hb.cap
  unfold maxLen at hcm hdm
  have hn4 : 4 * (n + 1) ≤ 281474976710656 := by omega
  have hn6 : n + 1 ≤ 9223372036854775807 := by omega
  have HA := Lib.hid fa
  have HB := Lib.hid fb
  clear fa fb
  cases sw
  all_goals
    simp only [if_true, if_false, Bool.false_eq_true]
    try (have hsw' := hsw rfl)
    clear hsw
    go_enter Try.func102, Try.ntmps102
    go_wp2_with (first | (at_make; refine wpList_mk _ rfl (.tmp 17) (.tmp 17) 79 rfl 103 .u32 4 Try.u79 Try.info103 _ _ (n + 1) rfl rfl (by omega) (by omega) hn4 hn6 ?_; intro g w1 hg hown hb1; have hl1 := ha.below hb1) | (with_reducible refine wpList_cp rfl (.tmp 19) (.tmp 20) 79 rfl 103 Try.u79 Try.size103 g (n + 1) (n + 1) .u32 _ (lmb A) a n c rfl rfl hown hl1 (by omega) ?_; intro w2 hown2 ho2))
    have hbw := hb1.trans (ho2.below hg)
    have hB2 := hb.below hbw
    have hb0 := hb
    clear hl1 hown ha hb
    go_loopw [6, 24] (fun cv i wr => ∃ k : Nat, k ≤ n ∧ i = .int .i64 k ∧ cv = .int .u64 (cy A B k) ∧ Own .u32 103 wr g (n + 1) (sumF A B n k) ∧ Below w.heap.size w wr) (fun _ i _ => n - (intOf i).toNat)
    case atStart => exact ⟨0, Nat.zero_le _, rfl, by rw [cy_zero]; rfl, hown2.congr (fun j hj => by simp [sumF]), hbw⟩
    case round =>
      obtain ⟨k, hk, rfl, rfl, hown, hbl⟩ := hrel
      have hcb := cy_le A B k
      have hst := Lib.hid (cy_step A B k)
      have hla := lmb_lt A k
      have hlb := lmb_lt B k
      by_cases hlt : k < n
      · have c1 : wr.cell? ⟨g, k, none⟩ = some (.int .u32 (lmb A k)) := by rw [hown.cell k (by omega)]; simp [sumF, hlt]
        have c2 := hown.free k
        have hbs := hbl.setCell (p := ⟨g, k, none⟩) hg
        by_cases hm : k < m
        · obtain ⟨b2, o2, rfl, hb2⟩ := hB2.some_of_pos (by omega)
          have c3 := (hb0.below hbl).at k hm
          have HX : Hid (((cy A B k : Int) + (lmb A k : Int) + (lmb B k : Int)) % 4294967296 = ((lmb (A + B) k : Nat) : Int) ∧ ((cy A B k : Int) + (lmb A k : Int) + (lmb B k : Int)) / 4294967296 = ((cy A B (k + 1) : Nat) : Int)) := by
            have := hst.out; show _ ∧ _; omega
          clear hst hB2
          go_wp2
          go_roundw
          case rel => exact ⟨k + 1, by omega, by go_num, by rw [HX.out.2], hown.put (by omega) (by rw [HX.out.1]; simp [sumF]) (fun j hj hne => by unfold sumF; by_cases h1 : j < k <;> by_cases h2 : j < k + 1 <;> simp [h1, h2] <;> omega), hbs _⟩
          case measure => simp [intOf]; omega
        · have HX : Hid (((cy A B k : Int) + (lmb A k : Int)) % 4294967296 = ((lmb (A + B) k : Nat) : Int) ∧ ((cy A B k : Int) + (lmb A k : Int)) / 4294967296 = ((cy A B (k + 1) : Nat) : Int)) := by
            have := hst.out; have h0 := lmb_zero HB.out.1 (i := k) (by omega); rw [h0] at this; show _ ∧ _; omega
          clear hst hB2
          go_wp2
          go_roundw
          case rel => exact ⟨k + 1, by omega, by go_num, by rw [HX.out.2], hown.put (by omega) (by rw [HX.out.1]; simp [sumF]) (fun j hj hne => by unfold sumF; by_cases h1 : j < k <;> by_cases h2 : j < k + 1 <;> simp [h1, h2] <;> omega), hbs _⟩
          case measure => simp [intOf]; omega
      · obtain rfl : k = n := by omega
        have c1 : wr.cell? ⟨g, k, none⟩ = some (.int .u32 (0 : Nat)) := by rw [hown.cell k (by omega)]; simp [sumF]
        have c2 := hown.free k
        have hE := Lib.hid (cy_end HA.out.1 (fit_mono HB.out.1 hmn))
        clear hst
        go_wp2_with fail
        have hO : Own .u32 103 (wr.setCell ⟨g, k, none⟩ (.int .u32 (cy A B k))) g (k + 1) (lmb (A + B)) := hown.put (by omega) (by rw [hE.out.1]) (fun j hj hne => by rw [sumF, if_pos (by omega)])
        refine (trimmed_any _ _ _ (A + B) _ (hO.lie (Nat.le_refl _) (by unfold maxLen; omega)) hE.out.2).mono ?_
        rintro e w3 ⟨mm, rfl, hmm, hfit, rfl⟩
        have hbs := hbl.setCell (p := ⟨g, k, none⟩) hg (.int .u32 (cy A B k))
        go_wp2
        go_ret
        exact ppart_own hO hg hbs hmm hn6 hfit

theorem sum_any (a b : Option Addr) (n c m d A B : Nat) (w : World) (ha : Lie .u32 w a n c (lmb A)) (hb : Lie .u32 w b m d (lmb B)) (fa : Fit n A) (fb : Fit m B) (hn : n ≤ 1000000000) (hm : m ≤ 1000000000) :
    Calls Try.prog 102 #[.slice a n c, .slice b m d] w (PPart (A + B) w) := by
  by_cases h : n < m
  · have := sum_core true b a m d n c B A w hb ha fb fa (by omega) (fun _ => h) hm
    rw [Nat.add_comm]
    simpa using this
  · simpa using sum_core false a b n c m d A B w ha hb fa fb (by omega) (fun h => by cases h) hn

end Go.Proofs.Ytohdfialnaegcaa
