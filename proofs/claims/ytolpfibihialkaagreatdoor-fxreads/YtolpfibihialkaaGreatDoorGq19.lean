/- Parts of the proof. -/
import Derived.Test.YtolpfibihialkaaGreatDoorGq18
import Derived.Test.YtolpfibihialkaaGreatDoorGq4
import Derived.IntWalk
/- Fixed numbers: the walk of over, the greatest whole number not above a quotient. -/
namespace Go.Proofs.YtolpfibihialkaaGreatDoor
open Go.RowKit
/-- A value is handed back, and the world is as it was but for the count of draws. -/
def PQuiet (v : Value) (w : World) (e : Ending) (w' : World) : Prop := e = .returned v ∧ ∃ n, w' = w.drewN n
/-- The greatest whole number not above a / b. -/
def flo (a b : Int) : Int := if 0 < b then a / b else (-a) / (-b)
theorem tq (a b : Int) : b * a.tdiv b + a.tmod b = a := Int.mul_tdiv_add_tmod a b
theorem tr_abs (a b : Int) (h : b ≠ 0) : (a.tmod b).natAbs < b.natAbs := by
 rw [Int.natAbs_tmod]; exact Nat.mod_lt _ (by omega)
theorem flo_of {a b q r : Int} (h : b * q + r = a) (hp : 0 < b → 0 ≤ r ∧ r < b) (hn : b < 0 → b < r ∧ r ≤ 0) (hb : b ≠ 0) : flo a b = q := by
 unfold flo
 split
 ·
  rename_i h0
  exact ((Int.ediv_emod_unique h0).2 ⟨by rw [Int.add_comm]; exact h, hp h0⟩).1
 ·
  have h0 : 0 < -b := by omega
  have := hn (by omega)
  exact ((Int.ediv_emod_unique (r := -r) h0).2 ⟨by rw [Int.neg_mul]; omega, by omega, by omega⟩).1
theorem flo_same {a b : Int} (hb : b ≠ 0) (h : a.tmod b = 0 ∨ (a.tmod b < 0 ↔ b < 0)) : flo a b = a.tdiv b := by
 have := tr_abs a b hb
 refine flo_of (tq a b) (fun h0 => ?_) (fun h0 => ?_) hb
 ·
  rcases h with h | h <;> omega
 ·
  rcases h with h | h <;> omega
theorem flo_less {a b : Int} (hb : b ≠ 0) (h0 : a.tmod b ≠ 0) (h : ¬ (a.tmod b < 0 ↔ b < 0)) : flo a b = a.tdiv b - 1 := by
 have := tr_abs a b hb
 refine flo_of (r := a.tmod b + b) (by have := tq a b; rw [Int.mul_sub]; omega) (fun h0 => ?_) (fun h0 => ?_) hb <;> omega
theorem tdiv_bd (a b : Int) (h1 : -4611686018427387904 ≤ a) (h2 : a ≤ 4611686018427387904) : -4611686018427387904 ≤ a.tdiv b ∧ a.tdiv b ≤ 4611686018427387904 := by
 have h : (a.tdiv b).natAbs ≤ a.natAbs := by rw [Int.natAbs_tdiv]; exact Nat.div_le_self _ _
 omega
set_option maxHeartbeats 800000 in
theorem over_any (a b : Int) (w : World) (hb : ¬ b = 0) (h1 : -4611686018427387904 ≤ a) (h2 : a ≤ 4611686018427387904) :
  Calls Tryz.prog 64 #[.int .i64 a, .int .i64 b] w (PQuiet (.int .i64 (flo a b)) w) := by
 have hs := @flo_same a b hb
 have hl := @flo_less a b hb
 have hbd := tdiv_bd a b h1 h2
 obtain ⟨q, hq⟩ : ∃ q, a.tdiv b = q := ⟨_, rfl⟩
 obtain ⟨r, hr⟩ : ∃ r, a.tmod b = r := ⟨_, rfl⟩
 rw [hq] at hs hl hbd
 rw [hr] at hs hl
 obtain ⟨hq1, hq2⟩ := hbd
 have hw : IntKind.i64.wrap q = q := IntWalk.i64_in _ (by omega)
 have HS := Lib.hid hs
 have HL := Lib.hid hl
 clear hs hl
 go_enter Tryz.func64, Tryz.ntmps64
 go_wp2_with fail
 go_quiet (fail)
 clear hq hr hw
 rcases Int.lt_trichotomy r 0 with h | h | h
 ·
  have r0 : (r == 0) = false := by simp; omega
  have r0' : (r != 0) = true := by simp; omega
  have hd : decide (r < 0) = true := decide_eq_true h
  rcases Int.lt_or_le b 0 with k | k
  ·
   have hdb : decide (b < 0) = true := decide_eq_true k
   have HE : Hid (flo a b = q) := HS.out (.inr ⟨fun _ => k, fun _ => h⟩)
   go_wp2
   go_ret
   exact ⟨ret_int HE.out.symm, nq, rfl⟩
  ·
   have hdb : decide (b < 0) = false := decide_eq_false (by omega)
   have HE : Hid (flo a b = q - 1) := HL.out (by omega) (fun e => by have := e.1 h; omega)
   go_wp2
   go_ret
   exact ⟨ret_int HE.out.symm, nq, rfl⟩
 ·
  subst h
  have HE : Hid (flo a b = q) := HS.out (.inl rfl)
  go_wp2
  go_ret
  exact ⟨ret_int HE.out.symm, nq, rfl⟩
 ·
  have r0 : (r == 0) = false := by simp; omega
  have r0' : (r != 0) = true := by simp; omega
  have hd : decide (r < 0) = false := decide_eq_false (by omega)
  rcases Int.lt_or_le b 0 with k | k
  ·
   have hdb : decide (b < 0) = true := decide_eq_true k
   have HE : Hid (flo a b = q - 1) := HL.out (by omega) (fun e => by have := e.2 k; omega)
   go_wp2
   go_ret
   exact ⟨ret_int HE.out.symm, nq, rfl⟩
  ·
   have hdb : decide (b < 0) = false := decide_eq_false (by omega)
   have HE : Hid (flo a b = q) := HS.out (.inr ⟨fun x => by omega, fun x => by omega⟩)
   go_wp2
   go_ret
   exact ⟨ret_int HE.out.symm, nq, rfl⟩
end Go.Proofs.YtolpfibihialkaaGreatDoor

/- Fixed numbers: the walks of Add, Sub, Mul, Div. -/
namespace Go.Proofs.YtolpfibihialkaaGreatDoor
open Go.RowKit
/-- Two places for a call's results, behind what was there. -/
structure Two (w w1 : World) (v : Value) (c : Bool) : Prop where
 below : Below w.heap.size w w1
 p : w1.cell? ⟨w.heap.size, 0, none⟩ = some v
 q : w1.cell? ⟨w.heap.size + 1, 0, none⟩ = some (.bool c)
 fp : w1.frozen? ⟨w.heap.size, 0, none⟩ = false
 fq : w1.frozen? ⟨w.heap.size + 1, 0, none⟩ = false
 sz : w.heap.size + 1 < w1.heap.size
theorem two_mk (w : World) (s t : TypeId) : Two w ((w.alloc (.cells #[.int .i64 0] s)).alloc (.cells #[.bool false] t)) (.int .i64 0) false :=
 ⟨((Below.refl _ _).alloc (Nat.le_refl _) _).alloc (by simp) _, by simp [go_sem], by simp [go_sem], by simp [go_sem], by simp [go_sem], by simp⟩
theorem Two.later {w w1 w2 : World} {v : Value} {c : Bool} (h : Two w w1 v c) (hb : Below w1.heap.size w1 w2) : Two w w2 v c :=
 ⟨h.below.trans (hb.mono h.below.size), (hb.cell (p := ⟨w.heap.size, 0, none⟩) (by have := h.sz; show w.heap.size < _; omega)).trans h.p, (hb.cell (p := ⟨w.heap.size + 1, 0, none⟩) h.sz).trans h.q,
  (hb.frozen (p := ⟨w.heap.size, 0, none⟩) (by have := h.sz; show w.heap.size < _; omega)).trans h.fp, (hb.frozen (p := ⟨w.heap.size + 1, 0, none⟩) h.sz).trans h.fq, Nat.lt_of_lt_of_le h.sz hb.size⟩
theorem Two.putq {w w1 : World} {v : Value} {c : Bool} (h : Two w w1 v c) (c' : Bool) : Two w (w1.setCell ⟨w.heap.size + 1, 0, none⟩ (.bool c')) v c' := by
 have hp := h.p
 have hq := h.q
 have fp := h.fp
 have fq := h.fq
 exact ⟨h.below.setCell (p := ⟨w.heap.size + 1, 0, none⟩) (Nat.le_succ _) _, by simp [go_sem, hp, hq], by simp [go_sem, hp, hq], by simp [go_sem, fp], by simp [go_sem, fq], by simpa [go_sem] using h.sz⟩
theorem Two.putp {w w1 : World} {v : Value} {c : Bool} (h : Two w w1 v c) (v' : Value) : Two w (w1.setCell ⟨w.heap.size, 0, none⟩ v') v' c := by
 have hp := h.p
 have hq := h.q
 have fp := h.fp
 have fq := h.fq
 exact ⟨h.below.setCell (p := ⟨w.heap.size, 0, none⟩) (Nat.le_refl _) _, by simp [go_sem, hp, hq], by simp [go_sem, hp, hq], by simp [go_sem, fp], by simp [go_sem, fq], by simpa [go_sem] using h.sz⟩
theorem Two.drewN {w w1 : World} {v : Value} {c : Bool} (h : Two w w1 v c) (n : Nat) : Two w (w1.drewN n) v c := ⟨below_drewN h.below n, h.p, h.q, h.fp, h.fq, h.sz⟩
theorem Two.drew {w w1 : World} {v : Value} {c : Bool} (h : Two w w1 v c) : Two w w1.drew v c := ⟨h.below.drew, h.p, h.q, h.fp, h.fq, h.sz⟩
/-- The door of a call that hands back two results. -/
theorem Two.door {w w1 : World} {n : Int} {c : Bool} (h : Two w w1 (.int .i64 n) c) {fn : Func} {tmps : Array Value} {R : Ending → World → Prop}
  (k : ∀ w' : World, w'.cell? ⟨w.heap.size, 0, none⟩ = some (.int .i64 (cutI n)) → w'.cell? ⟨w.heap.size + 1, 0, none⟩ = some (.bool (c || cutB n)) → Below w.heap.size w w' → Leaves Tryz.prog fn tmps R [] .returning w') :
  Leaves Tryz.prog fn tmps R [{ target := .fn (.func 31) #[], args := #[.pointer (some ⟨w.heap.size, 0, none⟩), .pointer (some ⟨w.heap.size + 1, 0, none⟩)] }] .returning w1 :=
 Go.Proofs.YtolpfibihialkaaGreatDoor.door w.heap.size w.heap.size (w.heap.size + 1) n c w1 h.p h.q (by omega) h.fp h.fq (Nat.le_refl _) (by omega) (fun w' hp hq hb => k w' hp hq (h.below.trans hb))
theorem mul_bd {x y : Int} (bx1 : -2147483647 ≤ x) (bx2 : x ≤ 2147483647) (by1 : -2147483647 ≤ y) (by2 : y ≤ 2147483647) : -4611686018427387904 ≤ x * y ∧ x * y ≤ 4611686018427387904 := by
 have h : (x * y).natAbs ≤ 2147483647 * 2147483647 := by rw [Int.natAbs_mul]; exact Nat.mul_le_mul (by omega) (by omega)
 omega
set_option maxHeartbeats 1600000 in
theorem fxMul_any (a b : Int) (w : World) : Calls Tryz.prog 27 #[.int .i64 a, .int .i64 b] w (PVal2 (.int .i64 (cutI (flo (cutI a * cutI b) 1048576))) (.bool (cutB a || cutB b || cutB (flo (cutI a * cutI b) 1048576))) w) := by
 go_enter_defers Tryz.func27, Tryz.ntmps27
 go_wp2_with fail
 have hT := two_mk w 2 4
 generalize (w.alloc (.cells #[.int .i64 0] 2)).alloc (.cells #[.bool false] 4) = w0 at *
 refine (clampBoth_any a b _).mono ?_
 rintro e w1 ⟨rfl, hB1⟩
 have hT1 := hT.later hB1
 clear hT hB1
 obtain ⟨x, hx⟩ : ∃ x, cutI a = x := ⟨_, rfl⟩
 obtain ⟨y, hy⟩ : ∃ y, cutI b = y := ⟨_, rfl⟩
 obtain ⟨c, hc⟩ : ∃ c, (cutB a || cutB b) = c := ⟨_, rfl⟩
 have bx := cut_bd a
 have by' := cut_bd b
 rw [hx] at bx
 rw [hy] at by'
 rw [hx, hy, hc]
 obtain ⟨bm1, bm2⟩ := mul_bd bx.1 bx.2 by'.1 by'.2
 have HX := Lib.hid hx
 have HY := Lib.hid hy
 have HC := Lib.hid hc
 clear hx hy hc bx by'
 have hw : IntKind.i64.wrap (x * y) = x * y := IntWalk.i64_in _ (by omega)
 have hp := hT1.p
 have hq := hT1.q
 have fp := hT1.fp
 have fq := hT1.fq
 go_wp2_with fail
 have hT2 := hT1.putq c
 clear hp hq fp fq hT1
 generalize w1.setCell ⟨w.heap.size + 1, 0, none⟩ (.bool c) = w2 at *
 have hq := hT2.q
 have fp := hT2.fp
 have fq := hT2.fq
 have hp := hT2.p
 refine wp_region_noPanic ?_
 go_region_with (go_at_call 64; (with_reducible refine (over_any (x * y) 1048576 _ (by decide) bm1 bm2).mono ?_); rintro e w2 ⟨rfl, nq, rfl⟩)
 all_goals
  refine NoPanic.normal ?_
  have hT3 := (((hT2.drewN (1 + nq)).putp (.int .i64 (flo (x * y) 1048576))).putq c)
  clear hp hq fp fq
  generalize ((w2.drewN (1 + nq)).setCell ⟨w.heap.size, 0, none⟩ (.int .i64 (flo (x * y) 1048576))).setCell ⟨w.heap.size + 1, 0, none⟩ (.bool c) = w3 at *
  go_wp2
  refine hT3.door (fun w' kp kq hb => ?_)
  exact ⟨.tuple #[.int .i64 (cutI (flo (x * y) 1048576)), .bool (c || cutB (flo (x * y) 1048576))], by simp [results, Tryz.results27, go_sem, kp, kq], by rw [HX.out, HY.out, HC.out], hb⟩
end Go.Proofs.YtolpfibihialkaaGreatDoor
