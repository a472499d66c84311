/- The walk of Small. -/
import Derived.Test.YtohdfialnaegcaaOf
namespace Go.Proofs.Ytohdfialnaegcaa
open Go.RowKit

/-- A number as an int64, and whether it is one. -/
def smallV (z : Int) : Int := if -9223372036854775808 ≤ z ∧ z ≤ 9223372036854775807 then z else 0
def smallB (z : Int) : Bool := decide (-9223372036854775808 ≤ z ∧ z ≤ 9223372036854775807)

theorem ret2 {k : IntKind} {a b : Int} {c d : Bool} (h : a = b) (h' : c = d) : Ending.returned (.tuple #[.int k a, .bool c]) = .returned (.tuple #[.int k b, .bool d]) := by rw [h, h']
theorem or_first (x : Nat) (h : x < 4294967296) : bits .or .u64 0 (x : Int) = (x : Int) := by
  have := u64_or_nat 0 x (by omega) (by omega)
  simpa using this
theorem or_second {x y : Nat} (h : x < 4294967296) (h' : y < 4294967296) : bits .or .u64 (x : Int) ((y : Int) * 4294967296) = ((x + 4294967296 * y : Nat) : Int) := by
  have e : ((y * 4294967296 : Nat) : Int) = (y : Int) * 4294967296 := by omega
  rw [← e, u64_or_nat x (y * 4294967296) (by omega) (by omega)]
  have h2 := Nat.two_pow_add_eq_or_of_lt (b := x) (i := 32) (by omega) y
  rw [show (2 : Nat) ^ 32 = 4294967296 from rfl] at h2
  rw [Nat.mul_comm y, Nat.or_comm, ← h2]
  omega

set_option maxRecDepth 100000 in
set_option maxHeartbeats 800000 in
theorem Small_long (bl : Bool) (a : Option Addr) (n c : Nat) (w : World) (hn : 2 < n) (hn' : n ≤ 10000000) :
    Calls Try.prog 93 #[.agg #[.bool bl, .slice a n c]] w (PVal2 (.int .i64 0) (.bool false) w) := by
  go_enter Try.func93, Try.ntmps93
  go_wp2
  go_ret2
  exact ⟨rfl, (Below.refl w.heap.size w).alloc (Nat.le_refl _) _⟩

set_option maxRecDepth 100000 in
set_option maxHeartbeats 1600000 in
theorem Small_short (bl : Bool) (a : Option Addr) (n c : Nat) (z : Int) (w : World) (h : Num w bl a n c z) (hn : n ≤ 2) :
    Calls Try.prog 93 #[.agg #[.bool bl, .slice a n c]] w (PVal2 (.int .i64 (smallV z)) (.bool (smallB z)) w) := by
  have hB := (Below.refl w.heap.size w).alloc (Nat.le_refl _) (.cells #[.bool bl, .slice a n c] 81)
  have hl := h.lie.below hB
  have hN : z.natAbs < BB ^ n := h.fit.1
  have hN2 : z.natAbs < BB ^ 2 := fit_mono hN hn
  have hs := h.sgn
  have HN := Lib.hid hN
  have HN2 := Lib.hid hN2
  have HS := Lib.hid hs
  clear h hN hN2 hs
  go_enter Try.func93, Try.ntmps93
  go_wp2
  go_loop [4, 15] (fun sv iv => ∃ k : Nat, k ≤ n ∧ iv = .int .i64 k ∧ sv = .int .u64 ((z.natAbs % BB ^ k : Nat) : Int)) (fun _ iv => n - (intOf iv).toNat)
  case atStart => exact ⟨0, Nat.zero_le _, rfl, by simp [Nat.mod_one]⟩
  case round =>
    obtain ⟨k, hk, rfl, rfl⟩ := hrel
    by_cases hlt : k < n
    · obtain ⟨b1, o1, rfl, hb1⟩ := hl.some_of_pos (by omega)
      have c1 := hl.at k hlt
      have hla := lmb_lt z.natAbs k
      have hk2 : k = 0 ∨ k = 1 := by omega
      rcases hk2 with rfl | rfl
      · have ho := or_first _ hla
        have HM : Hid (z.natAbs % BB ^ 1 = lmb z.natAbs 0) := by show _ = _; rw [mod_succ]; simp [Nat.mod_one]
        simp only [Nat.pow_zero, Nat.mod_one]
        rw [Nat.add_zero] at c1
        clear hl
        go_wp2
        go_round
        case rel => exact ⟨1, by omega, by go_num, by rw [HM.out]⟩
        case measure => simp [intOf]; omega
      · have HM : Hid (z.natAbs % BB ^ 1 = lmb z.natAbs 0) := by show _ = _; rw [mod_succ]; simp [Nat.mod_one]
        have hl0 := lmb_lt z.natAbs 0
        have ho := or_second hl0 hla
        have HM2 : Hid (z.natAbs % BB ^ 2 = lmb z.natAbs 0 + 4294967296 * lmb z.natAbs 1) := by show _ = _; rw [mod_succ, HM.out, Nat.pow_one]; rfl
        rw [HM.out]
        rw [← HM2.out] at ho
        clear hl
        go_wp2
        go_round
        case rel => exact ⟨2, by omega, rfl, by rw [Int.natCast_emod, Int.natCast_pow]⟩
        case measure => simp [intOf]; omega
    · obtain rfl : k = n := by omega
      rw [Nat.mod_eq_of_lt HN.out]
      have hNb : z.natAbs < 18446744073709551616 := HN2.out
      obtain ⟨N, hNe⟩ : ∃ N, N = z.natAbs := ⟨_, rfl⟩
      rw [← hNe] at hNb ⊢
      have HNE := Lib.hid hNe
      clear hNe hl
      cases bl
      · by_cases hc : N ≤ 9223372036854775807
        · have hd : decide ((9223372036854775807 : Int) < (N : Int)) = false := by simp; omega
          have HR : Hid ((N : Int) = smallV z ∧ smallB z = true) := by
            have h1 := HNE.out; have h2 := HS.out; simp at h2; show _ ∧ _; unfold smallV smallB; rw [if_pos (by omega)]; simp; omega
          have hNI : (N : Int) ≤ 9223372036854775807 := by omega
          clear hc
          go_wp2
          go_ret2
          exact ⟨by rw [← HR.out.1, HR.out.2]; rfl, hB⟩
        · have hd : decide ((9223372036854775807 : Int) < (N : Int)) = true := by simp; omega
          have HR : Hid (smallV z = 0 ∧ smallB z = false) := by
            have h1 := HNE.out; have h2 := HS.out; simp at h2; show _ ∧ _; unfold smallV smallB; rw [if_neg (by omega)]; simp; omega
          clear hc
          go_wp2
          go_ret2
          exact ⟨by rw [HR.out.1, HR.out.2]; rfl, hB⟩
      · by_cases hc : N ≤ 9223372036854775808
        · have hd : decide ((9223372036854775808 : Int) < (N : Int)) = false := by simp; omega
          have HR : Hid (-(N : Int) = smallV z ∧ smallB z = true) := by
            have h1 := HNE.out; have h2 := HS.out; simp at h2; show _ ∧ _; unfold smallV smallB; rw [if_pos (by omega)]; simp; omega
          have hNI : (N : Int) ≤ 9223372036854775808 := by omega
          clear hc
          have HW : Hid (wrap64 (IntKind.u64.wrap (-(N : Int))) = -(N : Int)) := by show _ = _; rw [IntKind.wrap_u64]; unfold wrap64; omega
          go_wp2
          go_ret2
          exact ⟨ret2 (HW.out.trans HR.out.1) HR.out.2.symm, hB⟩
        · have hd : decide ((9223372036854775808 : Int) < (N : Int)) = true := by simp; omega
          have HR : Hid (smallV z = 0 ∧ smallB z = false) := by
            have h1 := HNE.out; have h2 := HS.out; simp at h2; show _ ∧ _; unfold smallV smallB; rw [if_neg (by omega)]; simp; omega
          clear hc
          go_wp2
          go_ret2
          exact ⟨by rw [HR.out.1, HR.out.2]; rfl, hB⟩

theorem Small_any (bl : Bool) (a : Option Addr) (n c : Nat) (z : Int) (w : World) (h : Num w bl a n c z) (hn : n ≤ 10000000) :
    Calls Try.prog 93 #[.agg #[.bool bl, .slice a n c]] w (PVal2 (.int .i64 (smallV z)) (.bool (smallB z)) w) := by
  by_cases h2 : n ≤ 2
  · exact Small_short bl a n c z w h h2
  · have h3 : BB ^ 2 ≤ z.natAbs := by
      rcases h.fit.2 with h0 | h0
      · omega
      · exact Nat.le_trans (Nat.pow_le_pow_right BB_pos (by omega)) h0
    have h4 : (18446744073709551616 : Nat) ≤ z.natAbs := h3
    have e1 : smallV z = 0 := by unfold smallV; rw [if_neg (by omega)]
    have e2 : smallB z = false := by unfold smallB; simp; omega
    rw [e1, e2]
    exact Small_long bl a n c w (by omega) hn
end Go.Proofs.Ytohdfialnaegcaa
