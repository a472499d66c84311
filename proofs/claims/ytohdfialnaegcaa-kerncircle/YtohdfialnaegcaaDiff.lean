/- The walk of difference. -/
import Derived.Test.YtohdfialnaegcaaParts
namespace Go.Proofs.Ytohdfialnaegcaa
open Go.RowKit
def difF (A B i : Nat) (j : Nat) : Nat := if j < i then lmb (A - B) j else lmb A j
theorem difF_next {A B n : Nat} (k : Nat) : ∀ j, j < n → j ≠ k → difF A B k j = difF A B (k + 1) j := by
  intro j _ hne
  unfold difF
  by_cases h1 : j < k <;> by_cases h2 : j < k + 1 <;> simp [h1, h2] <;> omega
set_option maxHeartbeats 800000 in
theorem difference_any (a b : Option Addr) (n c m d A B : Nat) (w : World) (ha : Lie .u32 w a n c (lmb A)) (hb : Lie .u32 w b m d (lmb B)) (fa : Fit n A) (fb : Fit m B) (hBA : B ≤ A) (hn : n ≤ 1000000000) :
    Calls Try.prog 104 #[.slice a n c, .slice b m d] w (PPart (A - B) w) := by
  have hcm := ha.capm
  have hnc := ha.cap
  have hdm := hb.capm
  have hmd := hb.cap
  unfold maxLen at hcm hdm
  have hn6 : n ≤ 9223372036854775807 := by omega
  have HA := Lib.hid fa
  have HB := Lib.hid fb
  clear fa fb
  go_enter Try.func104, Try.ntmps104
  go_wp2_with fail
  refine (copied_any a n c (lmb A) _ ha hn).mono ?_
  rintro e w1 ⟨g, rfl, hg, hown1, hb1⟩
  go_wp2
  go_loopw [6, 13] (fun bv i wr => ∃ k : Nat, k ≤ n ∧ i = .int .i64 k ∧ bv = .int .u32 (bw A B k) ∧ Own .u32 103 wr g n (difF A B k) ∧ Below w.heap.size w wr) (fun _ i _ => n - (intOf i).toNat)
  case atStart => exact ⟨0, Nat.zero_le _, rfl, by rw [bw_zero]; rfl, hown1.congr (fun j hj => by simp [difF]), hb1⟩
  case round =>
    obtain ⟨k, hk, rfl, rfl, hown, hbl⟩ := hrel
    have hcb := bw_le A B k
    have hst := Lib.hid (bw_part hBA k)
    have hsn := Lib.hid (bw_next A B k)
    have hla := lmb_lt A k
    have hlb := lmb_lt B k
    by_cases hlt : k < n
    · have c1 : wr.cell? ⟨g, k, none⟩ = some (.int .u32 (lmb A k)) := by rw [hown.cell k (by omega)]; simp [difF]
      have c2 := hown.free k
      have hbs := hbl.setCell (p := ⟨g, k, none⟩) hg
      by_cases hm : k < m
      · obtain ⟨b2, o2, rfl, hb2⟩ := hb.some_of_pos (by omega)
        have c3 := (hb.below hbl).at k hm
        by_cases ht : lmb A k < bw A B k + lmb B k
        · have HX : Hid (((lmb A k : Int) - ((bw A B k : Int) + (lmb B k : Int))) % 4294967296 = ((lmb (A - B) k : Nat) : Int) ∧ bw A B (k + 1) = 1) := by
            have h1 := hst.out; have h2 := hsn.out; rw [if_pos ht] at h2; show _ ∧ _; omega
          clear hst hsn hb
          go_wp2
          go_roundw
          case rel => exact ⟨k + 1, by omega, by go_num, by rw [HX.out.2]; rfl, hown.put (by omega) (by rw [HX.out.1]; simp [difF]) (difF_next k), hbs _⟩
          case measure => simp [intOf]; omega
        · have HX : Hid ((lmb A k : Int) - ((bw A B k : Int) + (lmb B k : Int)) = ((lmb (A - B) k : Nat) : Int) ∧ bw A B (k + 1) = 0) := by
            have h1 := hst.out; have h2 := hsn.out; rw [if_neg ht] at h2; show _ ∧ _; omega
          clear hst hsn hb
          go_wp2
          go_roundw
          case rel => exact ⟨k + 1, by omega, by go_num, by rw [HX.out.2]; rfl, hown.put (by omega) (by rw [HX.out.1]; simp [difF]) (difF_next k), hbs _⟩
          case measure => simp [intOf]; omega
      · have h0 := lmb_zero HB.out.1 (i := k) (by omega)
        by_cases ht : lmb A k < bw A B k
        · have HX : Hid (((lmb A k : Int) - (bw A B k : Int)) % 4294967296 = ((lmb (A - B) k : Nat) : Int) ∧ bw A B (k + 1) = 1) := by
            have h1 := hst.out; have h2 := hsn.out; rw [if_pos (by omega)] at h2; show _ ∧ _; omega
          clear hst hsn hb h0
          go_wp2
          go_roundw
          case rel => exact ⟨k + 1, by omega, by go_num, by rw [HX.out.2]; rfl, hown.put (by omega) (by rw [HX.out.1]; simp [difF]) (difF_next k), hbs _⟩
          case measure => simp [intOf]; omega
        · have HX : Hid ((lmb A k : Int) - (bw A B k : Int) = ((lmb (A - B) k : Nat) : Int) ∧ bw A B (k + 1) = 0) := by
            have h1 := hst.out; have h2 := hsn.out; rw [if_neg (by omega)] at h2; show _ ∧ _; omega
          clear hst hsn hb h0
          go_wp2
          go_roundw
          case rel => exact ⟨k + 1, by omega, by go_num, by rw [HX.out.2]; rfl, hown.put (by omega) (by rw [HX.out.1]; simp [difF]) (difF_next k), hbs _⟩
          case measure => simp [intOf]; omega
    · obtain rfl : k = n := by omega
      have hO : Own .u32 103 wr g k (lmb (A - B)) := hown.congr (fun j hj => by rw [difF, if_pos hj])
      clear hst hsn hb
      go_wp2_with fail
      refine (trimmed_any _ _ _ (A - B) _ (hO.lie (Nat.le_refl _) (by unfold maxLen; omega)) (Nat.lt_of_le_of_lt (Nat.sub_le _ _) HA.out.1)).mono ?_
      rintro e w3 ⟨mm, rfl, hmm, hfit, rfl⟩
      go_wp2
      go_ret
      exact ppart_own hO hg hbl hmm hn6 hfit
end Go.Proofs.Ytohdfialnaegcaa
