/- The walk of the law KernHalves, for any number. -/
import Derived.Test.YtohdfialnaegcaaLkh
import Derived.Test.YtohdfialnaegcaaKaf
namespace Go.Proofs.Ytohdfialnaegcaa
open Go.RowKit

theorem m_shift (k : Nat) : mN 0 (k + 1) = mN 2 k := by
  unfold mN
  rw [show 0 + 2 * (k + 1) = 2 + 2 * k by omega]
theorem u_shift : ∀ k, uN 0 (k + 1) = 1048576 * uN 2 k
  | 0 => by decide
  | k + 1 => by
    show uN 0 (k + 1) * mN 0 (k + 1) = 1048576 * (uN 2 k * mN 2 k)
    rw [u_shift k, m_shift, Nat.mul_assoc]
theorem half_id (s : Int) : ∀ k, tV 0 s (k + 1) = ((uN 0 (k + 1) : Nat) : Int) - s * tV 2 s k
  | 0 => by
    show (1 : Int) * ((mN 0 0 : Nat) : Int) + (-s) ^ 1 = ((1 * mN 0 0 : Nat) : Int) - s * 1
    rw [Int.pow_succ, Int.pow_zero]
    omega
  | k + 1 => by
    show tV 0 s (k + 1) * ((mN 0 (k + 1) : Nat) : Int) + (-s) ^ (k + 1 + 1) = ((uN 0 (k + 1) * mN 0 (k + 1) : Nat) : Int) - s * (tV 2 s k * ((mN 2 k : Nat) : Int) + (-s) ^ (k + 1))
    rw [half_id s k, m_shift, Int.pow_succ (-s) (k + 1), Int.sub_mul, Int.mul_add, Int.natCast_mul, Int.mul_neg, Int.mul_comm ((-s) ^ (k + 1)) s, Int.mul_assoc s]
    omega
theorem halves_meet (s : Int) : meetB (encS 0 (ofS s s)) (subS (ofS 1048576 1048576) (mulS (ofS s s) (encS 2 (ofS s s)))) = true := by
  refine meet_of fun hc hq => ?_
  have hin := in_of_enc hc
  obtain ⟨_, hm⟩ := sub_of hq
  have e1 : ofS 1048576 1048576 = ⟨1048576, 1048576, false⟩ := rfl
  rcases of_one (n := s) with e | ⟨_, e, _⟩
  · rw [e] at hin; cases hin
  · obtain ⟨_, h0, h1, h4⟩ := four_of hin
    rw [e] at hin hq hm h0 h4 ⊢
    have rc := rin_top (c := 0) (n := s) (by omega) hin (Int.le_refl s) (Int.le_refl s)
    have rb := rin_low (c := 2) (n := s) (by omega) hin (Int.le_refl s) (Int.le_refl s)
    have rp : Rin ⟨s, s, false⟩ s 1 := ⟨by show s * 1 ≤ s; omega, by show s ≤ s * 1; omega⟩
    have rm := rin_mulS hm (by decide) (uN_pos' 2 11) rp rb
    rw [Int.one_mul] at rm
    have eD : ((uN 2 11 : Nat) : Int) * 1048576 = ((uN 0 12 : Nat) : Int) := by
      rw [u_shift 11, Int.natCast_mul, Int.mul_comm]
      rfl
    rw [eD] at rm
    have r1 : Rin (ofS 1048576 1048576) (1048576 * ((uN 0 12 : Nat) : Int)) ((uN 0 12 : Nat) : Int) := by
      rw [e1]
      exact ⟨Int.le_refl _, Int.le_refl _⟩
    have rq := rin_sub hq r1 rm
    have hid := half_id s 11
    have eN : tV 0 s 12 * 1048576 = 1048576 * ((uN 0 12 : Nat) : Int) - s * (tV 2 s 11 * 1048576) := by
      rw [show tV 0 s 12 = _ from hid, Int.sub_mul, Int.mul_comm ((uN 0 12 : Nat) : Int), Int.mul_assoc s]
    rw [← eN] at rq
    have hD := uN_pos' 0 12
    exact ⟨rin_le hD rc rq (by omega), rin_le hD rq rc (by omega)⟩
theorem KernHalves_any (s : Int) (w : World) : Calls Try.prog 8 #[.int .i64 s] w (PVal (.bool true) w) :=
  Halves_w s _ _ _ _ _ _ _ kawake_any (sOf_any s s) (kC_any _) (sOf_any _ _) (kB_any _) (sMul_any _ _) (sSub_any _ _) (kMeet_at (halves_meet s)) w
end Go.Proofs.Ytohdfialnaegcaa
