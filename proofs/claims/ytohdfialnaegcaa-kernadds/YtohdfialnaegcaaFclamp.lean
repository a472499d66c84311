/- Fixed numbers: the walks of Clamp, clampBoth. -/
import Derived.Test.YtohdfialnaegcaaFcut
namespace Go.Proofs.Ytohdfialnaegcaa
open Go.RowKit

set_option maxHeartbeats 800000 in
theorem Clamp_any (n : Int) (w : World) : Calls Try.prog 88 #[.int .i64 n] w (PVal2 (.int .i64 (cutI n)) (.bool (cutB n)) w) := by
  go_enter_defers Try.func88, Try.ntmps88
  go_wp2
  refine door w.heap.size w.heap.size (w.heap.size + 1) n false _ (by simp [go_sem]) (by simp [go_sem]) (by omega) (by simp [go_sem]) (by simp [go_sem]) (Nat.le_refl _) (by omega) (fun w' hp hq hb => ?_)
  exact ⟨.tuple #[.int .i64 (cutI n), .bool (cutB n)], by simp [results, Try.results88, go_sem, hp, hq], rfl, (((Below.refl _ _).alloc (Nat.le_refl _) _).alloc (by simp) _).trans hb⟩

set_option maxHeartbeats 800000 in
theorem clampBoth_any (a b : Int) (w : World) : Calls Try.prog 71 #[.int .i64 a, .int .i64 b] w (PVal3 (.int .i64 (cutI a)) (.int .i64 (cutI b)) (.bool (cutB a || cutB b)) w) := by
  go_enter Try.func71, Try.ntmps71
  go_wp2_with fail
  refine (Clamp_any a _).mono ?_
  rintro e w1 ⟨rfl, hB1⟩
  go_wp2_with fail
  refine (Clamp_any b _).mono ?_
  rintro e w2 ⟨rfl, hB2⟩
  obtain ⟨A, hA⟩ : ∃ A, cutB a = A := ⟨_, rfl⟩
  rw [hA]
  have HA := Lib.hid hA
  clear hA
  cases A
  all_goals
    go_wp2
    go_ret3
    exact ⟨by rw [HA.out]; rfl, hB1.trans (hB2.mono hB1.size)⟩
end Go.Proofs.Ytohdfialnaegcaa
