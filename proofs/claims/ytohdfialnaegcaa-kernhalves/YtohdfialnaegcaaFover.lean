/- Fixed numbers: the walk of over, the greatest whole number not above a quotient. -/
import Derived.Test.YtohdfialnaegcaaFclamp
import Derived.Test.YtohdfialnaegcaaParts
import Derived.IntWalk
namespace Go.Proofs.Ytohdfialnaegcaa
open Go.RowKit

/-- A value is handed back, and the world is as it was but for the count of draws. -/
def PQuiet (v : Value) (w : World) (e : Ending) (w' : World) : Prop := e = .returned v ∧ ∃ n, w' = w.drewN n
/-- The greatest whole number not above a / b. -/
def flo (a b : Int) : Int := if 0 < b then a / b else (-a) / (-b)
theorem tq (a b : Int) : b * a.tdiv b + a.tmod b = a := Int.mul_tdiv_add_tmod a b
theorem tr_abs (a b : Int) (h : b ≠ 0) : (a.tmod b).natAbs < b.natAbs := by
  rw [Int.natAbs_tmod]; exact Nat.mod_lt _ (by omega)
theorem tr_pos (a b : Int) (h : 0 ≤ a) : 0 ≤ a.tmod b := Int.tmod_nonneg b h
theorem tr_neg (a b : Int) (h : a ≤ 0) : a.tmod b ≤ 0 := by
  have := Int.tmod_nonneg (a := -a) b (by omega)
  rw [Int.neg_tmod] at this; omega
theorem flo_of {a b q r : Int} (h : b * q + r = a) (hp : 0 < b → 0 ≤ r ∧ r < b) (hn : b < 0 → b < r ∧ r ≤ 0) (hb : b ≠ 0) : flo a b = q := by
  unfold flo
  split
  · rename_i h0
    exact ((Int.ediv_emod_unique h0).2 ⟨by rw [Int.add_comm]; exact h, hp h0⟩).1
  · have h0 : 0 < -b := by omega
    have := hn (by omega)
    exact ((Int.ediv_emod_unique (r := -r) h0).2 ⟨by rw [Int.neg_mul]; omega, by omega, by omega⟩).1
theorem flo_same {a b : Int} (hb : b ≠ 0) (h : a.tmod b = 0 ∨ (a.tmod b < 0 ↔ b < 0)) : flo a b = a.tdiv b := by
  have := tr_abs a b hb
  refine flo_of (tq a b) (fun h0 => ?_) (fun h0 => ?_) hb
  · rcases h with h | h <;> omega
  · rcases h with h | h <;> omega
theorem flo_less {a b : Int} (hb : b ≠ 0) (h0 : a.tmod b ≠ 0) (h : ¬ (a.tmod b < 0 ↔ b < 0)) : flo a b = a.tdiv b - 1 := by
  have := tr_abs a b hb
  refine flo_of (r := a.tmod b + b) (by have := tq a b; rw [Int.mul_sub]; omega) (fun h0 => ?_) (fun h0 => ?_) hb <;> omega
theorem tdiv_bd (a b : Int) (h1 : -4611686018427387904 ≤ a) (h2 : a ≤ 4611686018427387904) : -4611686018427387904 ≤ a.tdiv b ∧ a.tdiv b ≤ 4611686018427387904 := by
  have h : (a.tdiv b).natAbs ≤ a.natAbs := by rw [Int.natAbs_tdiv]; exact Nat.div_le_self _ _
  omega

set_option maxHeartbeats 800000 in
theorem over_any (a b : Int) (w : World) (hb : ¬ b = 0) (h1 : -4611686018427387904 ≤ a) (h2 : a ≤ 4611686018427387904) :
    Calls Try.prog 73 #[.int .i64 a, .int .i64 b] w (PQuiet (.int .i64 (flo a b)) w) := by
  have hs := @flo_same a b hb
  have hl := @flo_less a b hb
  have hbd := tdiv_bd a b h1 h2
  obtain ⟨q, hq⟩ : ∃ q, a.tdiv b = q := ⟨_, rfl⟩
  obtain ⟨r, hr⟩ : ∃ r, a.tmod b = r := ⟨_, rfl⟩
  rw [hq] at hs hl hbd
  rw [hr] at hs hl
  obtain ⟨hq1, hq2⟩ := hbd
  have hw : IntKind.i64.wrap q = q := IntWalk.i64_in _ (by omega)
  have HS := Lib.hid hs
  have HL := Lib.hid hl
  clear hs hl
  go_enter Try.func73, Try.ntmps73
  go_wp2_with fail
  go_quiet (fail)
  clear hq hr hw
  rcases Int.lt_trichotomy r 0 with h | h | h
  · have r0 : (r == 0) = false := by simp; omega
    have r0' : (r != 0) = true := by simp; omega
    have hd : decide (r < 0) = true := decide_eq_true h
    rcases Int.lt_or_le b 0 with k | k
    · have hdb : decide (b < 0) = true := decide_eq_true k
      have HE : Hid (flo a b = q) := HS.out (.inr ⟨fun _ => k, fun _ => h⟩)
      go_wp2
      go_ret
      exact ⟨ret_int HE.out.symm, nq, rfl⟩
    · have hdb : decide (b < 0) = false := decide_eq_false (by omega)
      have HE : Hid (flo a b = q - 1) := HL.out (by omega) (fun e => by have := e.1 h; omega)
      go_wp2
      go_ret
      exact ⟨ret_int HE.out.symm, nq, rfl⟩
  · subst h
    have HE : Hid (flo a b = q) := HS.out (.inl rfl)
    go_wp2
    go_ret
    exact ⟨ret_int HE.out.symm, nq, rfl⟩
  · have r0 : (r == 0) = false := by simp; omega
    have r0' : (r != 0) = true := by simp; omega
    have hd : decide (r < 0) = false := decide_eq_false (by omega)
    rcases Int.lt_or_le b 0 with k | k
    · have hdb : decide (b < 0) = true := decide_eq_true k
      have HE : Hid (flo a b = q - 1) := HL.out (by omega) (fun e => by have := e.2 k; omega)
      go_wp2
      go_ret
      exact ⟨ret_int HE.out.symm, nq, rfl⟩
    · have hdb : decide (b < 0) = false := decide_eq_false (by omega)
      have HE : Hid (flo a b = q) := HS.out (.inr ⟨fun x => by omega, fun x => by omega⟩)
      go_wp2
      go_ret
      exact ⟨ret_int HE.out.symm, nq, rfl⟩
end Go.Proofs.Ytohdfialnaegcaa
