/- Parts of the proof. -/
import Derived.Test.YtolpfibihialkaaGreatDoorGq4
import Derived.Defers
import Derived.Lib.MinMax
/- Fixed numbers: how what comes of a call is cut by its deferred function. -/
namespace Go.Proofs.YtolpfibihialkaaGreatDoor
open Go.RowKit
/-- A number, cut. -/
def cutI (n : Int) : Int := max (-2147483647) (min n 2147483647)
/-- Is a number changed when it is cut? -/
def cutB (n : Int) : Bool := decide (n < -2147483647 ∨ 2147483647 < n)
theorem cut_bd (n : Int) : -2147483647 ≤ cutI n ∧ cutI n ≤ 2147483647 := by unfold cutI; omega
theorem cut_in {n : Int} (h1 : -2147483647 ≤ n) (h2 : n ≤ 2147483647) : cutI n = n ∧ cutB n = false := by
 unfold cutI cutB; exact ⟨by omega, by simp; omega⟩
theorem cut_hi {n : Int} (h : 2147483647 < n) : cutI n = 2147483647 ∧ cutB n = true := by
 unfold cutI cutB; exact ⟨by omega, by simp; omega⟩
theorem cut_lo {n : Int} (h : n < -2147483647) : cutI n = -2147483647 ∧ cutB n = true := by
 unfold cutI cutB; exact ⟨by omega, by simp; omega⟩
set_option maxHeartbeats 800000 in
theorem cut_d (p q : Nat) (n : Int) (c : Bool) (u : FrameMode) (w : World) (hp : w.cell? ⟨p, 0, none⟩ = some (.int .i64 n)) (hq : w.cell? ⟨q, 0, none⟩ = some (.bool c)) (hne : ¬ p = q)
  (fp : w.frozen? ⟨p, 0, none⟩ = false) (fq : w.frozen? ⟨q, 0, none⟩ = false) :
  CallsD Tryz.prog 31 #[.pointer (some ⟨p, 0, none⟩), .pointer (some ⟨q, 0, none⟩)] u w fun e u' w' => u' = u ∧ (e = .returned (.tuple #[]) ∧ w' = (w.setCell ⟨p, 0, none⟩ (.int .i64 (cutI n))).setCell ⟨q, 0, none⟩ (.bool (c || cutB n))) := by
 have hqp : ¬ q = p := fun h => hne h.symm
 rcases Int.lt_or_le n (-2147483647) with h1 | h1
 ·
  have e1 : min n 2147483647 = n := by omega
  have e2 : max (-2147483647) n = -2147483647 := by omega
  have e3 : ((-2147483647 : Int) != n) = true := by simp; omega
  have HE := Lib.hid (cut_lo h1)
  cases c
  all_goals
   go_enter_d Tryz.func31, Tryz.ntmps31
   go_wp2
   go_end0
   exact ⟨rfl, by rw [HE.out.1, HE.out.2]; rfl⟩
 ·
  rcases Int.lt_or_le 2147483647 n with h2 | h2
  ·
   have e1 : min n 2147483647 = 2147483647 := by omega
   have e2 : max (-2147483647) (2147483647 : Int) = 2147483647 := by omega
   have e3 : ((2147483647 : Int) != n) = true := by simp; omega
   have HE := Lib.hid (cut_hi h2)
   cases c
   all_goals
    go_enter_d Tryz.func31, Tryz.ntmps31
    go_wp2
    go_end0
    exact ⟨rfl, by rw [HE.out.1, HE.out.2]; rfl⟩
  ·
   have e1 : min n 2147483647 = n := by omega
   have e2 : max (-2147483647) n = n := by omega
   have HE := Lib.hid (cut_in h1 h2)
   cases c
   all_goals
    go_enter_d Tryz.func31, Tryz.ntmps31
    go_wp2
    go_end0
    exact ⟨rfl, by rw [HE.out.1, HE.out.2]; rfl⟩
/-- Behind the deferred call: two cells turned. -/
theorem door {fn : Func} {tmps : Array Value} {R : Ending → World → Prop} (B p q : Nat) (n : Int) (c : Bool) (w : World) (hp : w.cell? ⟨p, 0, none⟩ = some (.int .i64 n)) (hq : w.cell? ⟨q, 0, none⟩ = some (.bool c)) (hne : ¬ p = q)
  (fp : w.frozen? ⟨p, 0, none⟩ = false) (fq : w.frozen? ⟨q, 0, none⟩ = false) (hBp : B ≤ p) (hBq : B ≤ q)
  (h : ∀ w' : World, w'.cell? ⟨p, 0, none⟩ = some (.int .i64 (cutI n)) → w'.cell? ⟨q, 0, none⟩ = some (.bool (c || cutB n)) → Below B w w' → Leaves Tryz.prog fn tmps R [] .returning w') :
  Leaves Tryz.prog fn tmps R [{ target := .fn (.func 31) #[], args := #[.pointer (some ⟨p, 0, none⟩), .pointer (some ⟨q, 0, none⟩)] }] .returning w := by
 refine leaves_cons (f := 31) (args := #[.pointer (some ⟨p, 0, none⟩), .pointer (some ⟨q, 0, none⟩)]) (by simp) (by simp [go_sem]) ?_
 refine (cut_d p q n c .returning _ hp hq hne fp fq).mono ?_
 rintro e u' w' ⟨rfl, rfl, rfl⟩
 have hqp : ¬ q = p := fun h => hne h.symm
 exact h _ (by simp [go_sem, hp, hq, hne, hqp]) (by simp [go_sem, hp, hq, hne, hqp]) (((Below.refl _ _).setCell hBp _).setCell hBq _)
end Go.Proofs.YtolpfibihialkaaGreatDoor

/- Fixed numbers: the walks of Clamp, clampBoth. -/
namespace Go.Proofs.YtolpfibihialkaaGreatDoor
open Go.RowKit
set_option maxHeartbeats 800000 in
theorem Clamp_any (n : Int) (w : World) : Calls Tryz.prog 65 #[.int .i64 n] w (PVal2 (.int .i64 (cutI n)) (.bool (cutB n)) w) := by
 go_enter_defers Tryz.func65, Tryz.ntmps65
 go_wp2
 refine door w.heap.size w.heap.size (w.heap.size + 1) n false _ (by simp [go_sem]) (by simp [go_sem]) (by omega) (by simp [go_sem]) (by simp [go_sem]) (Nat.le_refl _) (by omega) (fun w' hp hq hb => ?_)
 exact ⟨.tuple #[.int .i64 (cutI n), .bool (cutB n)], by simp [results, Tryz.results65, go_sem, hp, hq], rfl, (((Below.refl _ _).alloc (Nat.le_refl _) _).alloc (by simp) _).trans hb⟩
set_option maxHeartbeats 800000 in
theorem clampBoth_any (a b : Int) (w : World) : Calls Tryz.prog 63 #[.int .i64 a, .int .i64 b] w (PVal3 (.int .i64 (cutI a)) (.int .i64 (cutI b)) (.bool (cutB a || cutB b)) w) := by
 go_enter Tryz.func63, Tryz.ntmps63
 go_wp2_with fail
 refine (Clamp_any a _).mono ?_
 rintro e w1 ⟨rfl, hB1⟩
 go_wp2_with fail
 refine (Clamp_any b _).mono ?_
 rintro e w2 ⟨rfl, hB2⟩
 obtain ⟨A, hA⟩ : ∃ A, cutB a = A := ⟨_, rfl⟩
 rw [hA]
 have HA := Lib.hid hA
 clear hA
 cases A
 all_goals
  go_wp2
  go_ret3
  exact ⟨by rw [HA.out]; rfl, hB1.trans (hB2.mono hB1.size)⟩
end Go.Proofs.YtolpfibihialkaaGreatDoor
