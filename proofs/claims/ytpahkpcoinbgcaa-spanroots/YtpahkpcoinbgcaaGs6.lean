/- Parts of the proof. -/
import Derived.Test.YtpahkpcoinbgcaaGs1
import Derived.Defers
import Derived.Lib.MinMax
import Derived.Test.YtpahkpcoinbgcaaGs2
import Derived.IntWalk
import Derived.Test.YtpahkpcoinbgcaaGs3
import Derived.Laws.StructEq
/- Fixed numbers: how what comes of a call is cut by its deferred function. -/
namespace Go.Proofs.Ytpahkpcoinbgcaa
open Go.RowKit
/-- A number, cut. -/
def cutI (n : Int) : Int := max (-2147483647) (min n 2147483647)
/-- Is a number changed when it is cut? -/
def cutB (n : Int) : Bool := decide (n < -2147483647 ∨ 2147483647 < n)
theorem cut_bd (n : Int) : -2147483647 ≤ cutI n ∧ cutI n ≤ 2147483647 := by unfold cutI; omega
theorem cut_in {n : Int} (h1 : -2147483647 ≤ n) (h2 : n ≤ 2147483647) : cutI n = n ∧ cutB n = false := by
 unfold cutI cutB; exact ⟨by omega, by simp; omega⟩
theorem cut_hi {n : Int} (h : 2147483647 < n) : cutI n = 2147483647 ∧ cutB n = true := by
 unfold cutI cutB; exact ⟨by omega, by simp; omega⟩
theorem cut_lo {n : Int} (h : n < -2147483647) : cutI n = -2147483647 ∧ cutB n = true := by
 unfold cutI cutB; exact ⟨by omega, by simp; omega⟩
theorem cut_false {n : Int} (h : cutB n = false) : cutI n = n := by
 have : -2147483647 ≤ n ∧ n ≤ 2147483647 := by unfold cutB at h; simp at h; omega
 exact (cut_in this.1 this.2).1
set_option maxHeartbeats 800000 in
theorem cut_d (p q : Nat) (n : Int) (c : Bool) (u : FrameMode) (w : World) (hp : w.cell? ⟨p, 0, none⟩ = some (.int .i64 n)) (hq : w.cell? ⟨q, 0, none⟩ = some (.bool c)) (hne : ¬ p = q)
  (fp : w.frozen? ⟨p, 0, none⟩ = false) (fq : w.frozen? ⟨q, 0, none⟩ = false) :
  CallsD Try.prog 103 #[.pointer (some ⟨p, 0, none⟩), .pointer (some ⟨q, 0, none⟩)] u w fun e u' w' => u' = u ∧ (e = .returned (.tuple #[]) ∧ w' = (w.setCell ⟨p, 0, none⟩ (.int .i64 (cutI n))).setCell ⟨q, 0, none⟩ (.bool (c || cutB n))) := by
 have hqp : ¬ q = p := fun h => hne h.symm
 rcases Int.lt_or_le n (-2147483647) with h1 | h1
 ·
  have e1 : min n 2147483647 = n := by omega
  have e2 : max (-2147483647) n = -2147483647 := by omega
  have e3 : ((-2147483647 : Int) != n) = true := by simp; omega
  have HE := Lib.hid (cut_lo h1)
  cases c
  all_goals
   go_enter_d Try.func103, Try.ntmps103
   go_wp2
   go_end0
   exact ⟨rfl, by rw [HE.out.1, HE.out.2]; rfl⟩
 ·
  rcases Int.lt_or_le 2147483647 n with h2 | h2
  ·
   have e1 : min n 2147483647 = 2147483647 := by omega
   have e2 : max (-2147483647) (2147483647 : Int) = 2147483647 := by omega
   have e3 : ((2147483647 : Int) != n) = true := by simp; omega
   have HE := Lib.hid (cut_hi h2)
   cases c
   all_goals
    go_enter_d Try.func103, Try.ntmps103
    go_wp2
    go_end0
    exact ⟨rfl, by rw [HE.out.1, HE.out.2]; rfl⟩
  ·
   have e1 : min n 2147483647 = n := by omega
   have e2 : max (-2147483647) n = n := by omega
   have HE := Lib.hid (cut_in h1 h2)
   cases c
   all_goals
    go_enter_d Try.func103, Try.ntmps103
    go_wp2
    go_end0
    exact ⟨rfl, by rw [HE.out.1, HE.out.2]; rfl⟩
/-- Behind the deferred call: two cells turned. -/
theorem door {fn : Func} {tmps : Array Value} {R : Ending → World → Prop} (B p q : Nat) (n : Int) (c : Bool) (w : World) (hp : w.cell? ⟨p, 0, none⟩ = some (.int .i64 n)) (hq : w.cell? ⟨q, 0, none⟩ = some (.bool c)) (hne : ¬ p = q)
  (fp : w.frozen? ⟨p, 0, none⟩ = false) (fq : w.frozen? ⟨q, 0, none⟩ = false) (hBp : B ≤ p) (hBq : B ≤ q)
  (h : ∀ w' : World, w'.cell? ⟨p, 0, none⟩ = some (.int .i64 (cutI n)) → w'.cell? ⟨q, 0, none⟩ = some (.bool (c || cutB n)) → Below B w w' → Leaves Try.prog fn tmps R [] .returning w') :
  Leaves Try.prog fn tmps R [{ target := .fn (.func 103) #[], args := #[.pointer (some ⟨p, 0, none⟩), .pointer (some ⟨q, 0, none⟩)] }] .returning w := by
 refine leaves_cons (f := 103) (args := #[.pointer (some ⟨p, 0, none⟩), .pointer (some ⟨q, 0, none⟩)]) (by simp) (by simp [go_sem]) ?_
 refine (cut_d p q n c .returning _ hp hq hne fp fq).mono ?_
 rintro e u' w' ⟨rfl, rfl, rfl⟩
 have hqp : ¬ q = p := fun h => hne h.symm
 exact h _ (by simp [go_sem, hp, hq, hne, hqp]) (by simp [go_sem, hp, hq, hne, hqp]) (((Below.refl _ _).setCell hBp _).setCell hBq _)
end Go.Proofs.Ytpahkpcoinbgcaa

/- Fixed numbers: the walks of Clamp, clampBoth. -/
namespace Go.Proofs.Ytpahkpcoinbgcaa
open Go.RowKit
set_option maxHeartbeats 800000 in
theorem Clamp_any (n : Int) (w : World) : Calls Try.prog 120 #[.int .i64 n] w (PVal2 (.int .i64 (cutI n)) (.bool (cutB n)) w) := by
 go_enter_defers Try.func120, Try.ntmps120
 go_wp2
 refine door w.heap.size w.heap.size (w.heap.size + 1) n false _ (by simp [go_sem]) (by simp [go_sem]) (by omega) (by simp [go_sem]) (by simp [go_sem]) (Nat.le_refl _) (by omega) (fun w' hp hq hb => ?_)
 exact ⟨.tuple #[.int .i64 (cutI n), .bool (cutB n)], by simp [results, Try.results120, go_sem, hp, hq], rfl, (((Below.refl _ _).alloc (Nat.le_refl _) _).alloc (by simp) _).trans hb⟩
set_option maxHeartbeats 800000 in
theorem clampBoth_any (a b : Int) (w : World) : Calls Try.prog 104 #[.int .i64 a, .int .i64 b] w (PVal3 (.int .i64 (cutI a)) (.int .i64 (cutI b)) (.bool (cutB a || cutB b)) w) := by
 go_enter Try.func104, Try.ntmps104
 go_wp2_with fail
 refine (Clamp_any a _).mono ?_
 rintro e w1 ⟨rfl, hB1⟩
 go_wp2_with fail
 refine (Clamp_any b _).mono ?_
 rintro e w2 ⟨rfl, hB2⟩
 obtain ⟨A, hA⟩ : ∃ A, cutB a = A := ⟨_, rfl⟩
 rw [hA]
 have HA := Lib.hid hA
 clear hA
 cases A
 all_goals
  go_wp2
  go_ret3
  exact ⟨by rw [HA.out]; rfl, hB1.trans (hB2.mono hB1.size)⟩
end Go.Proofs.Ytpahkpcoinbgcaa

/- Fixed numbers: the walk of over, the greatest whole number not above a quotient. -/
namespace Go.Proofs.Ytpahkpcoinbgcaa
open Go.RowKit
/-- A value is handed back, and the world is as it was but for the count of draws. -/
def PQuiet (v : Value) (w : World) (e : Ending) (w' : World) : Prop := e = .returned v ∧ ∃ n, w' = w.drewN n
/-- The greatest whole number not above a / b. -/
def flo (a b : Int) : Int := if 0 < b then a / b else (-a) / (-b)
theorem tq (a b : Int) : b * a.tdiv b + a.tmod b = a := Int.mul_tdiv_add_tmod a b
theorem tr_abs (a b : Int) (h : b ≠ 0) : (a.tmod b).natAbs < b.natAbs := by
 rw [Int.natAbs_tmod]; exact Nat.mod_lt _ (by omega)
theorem flo_of {a b q r : Int} (h : b * q + r = a) (hp : 0 < b → 0 ≤ r ∧ r < b) (hn : b < 0 → b < r ∧ r ≤ 0) (hb : b ≠ 0) : flo a b = q := by
 unfold flo
 split
 ·
  rename_i h0
  exact ((Int.ediv_emod_unique h0).2 ⟨by rw [Int.add_comm]; exact h, hp h0⟩).1
 ·
  have h0 : 0 < -b := by omega
  have := hn (by omega)
  exact ((Int.ediv_emod_unique (r := -r) h0).2 ⟨by rw [Int.neg_mul]; omega, by omega, by omega⟩).1
theorem flo_same {a b : Int} (hb : b ≠ 0) (h : a.tmod b = 0 ∨ (a.tmod b < 0 ↔ b < 0)) : flo a b = a.tdiv b := by
 have := tr_abs a b hb
 refine flo_of (tq a b) (fun h0 => ?_) (fun h0 => ?_) hb
 ·
  rcases h with h | h <;> omega
 ·
  rcases h with h | h <;> omega
theorem flo_less {a b : Int} (hb : b ≠ 0) (h0 : a.tmod b ≠ 0) (h : ¬ (a.tmod b < 0 ↔ b < 0)) : flo a b = a.tdiv b - 1 := by
 have := tr_abs a b hb
 refine flo_of (r := a.tmod b + b) (by have := tq a b; rw [Int.mul_sub]; omega) (fun h0 => ?_) (fun h0 => ?_) hb <;> omega
theorem tdiv_bd (a b : Int) (h1 : -4611686018427387904 ≤ a) (h2 : a ≤ 4611686018427387904) : -4611686018427387904 ≤ a.tdiv b ∧ a.tdiv b ≤ 4611686018427387904 := by
 have h : (a.tdiv b).natAbs ≤ a.natAbs := by rw [Int.natAbs_tdiv]; exact Nat.div_le_self _ _
 omega
set_option maxHeartbeats 800000 in
theorem over_any (a b : Int) (w : World) (hb : ¬ b = 0) (h1 : -4611686018427387904 ≤ a) (h2 : a ≤ 4611686018427387904) :
  Calls Try.prog 106 #[.int .i64 a, .int .i64 b] w (PQuiet (.int .i64 (flo a b)) w) := by
 have hs := @flo_same a b hb
 have hl := @flo_less a b hb
 have hbd := tdiv_bd a b h1 h2
 obtain ⟨q, hq⟩ : ∃ q, a.tdiv b = q := ⟨_, rfl⟩
 obtain ⟨r, hr⟩ : ∃ r, a.tmod b = r := ⟨_, rfl⟩
 rw [hq] at hs hl hbd
 rw [hr] at hs hl
 obtain ⟨hq1, hq2⟩ := hbd
 have hw : IntKind.i64.wrap q = q := IntWalk.i64_in _ (by omega)
 have HS := Lib.hid hs
 have HL := Lib.hid hl
 clear hs hl
 go_enter Try.func106, Try.ntmps106
 go_wp2_with fail
 go_quiet (fail)
 clear hq hr hw
 rcases Int.lt_trichotomy r 0 with h | h | h
 ·
  have r0 : (r == 0) = false := by simp; omega
  have r0' : (r != 0) = true := by simp; omega
  have hd : decide (r < 0) = true := decide_eq_true h
  rcases Int.lt_or_le b 0 with k | k
  ·
   have hdb : decide (b < 0) = true := decide_eq_true k
   have HE : Hid (flo a b = q) := HS.out (.inr ⟨fun _ => k, fun _ => h⟩)
   go_wp2
   go_ret
   exact ⟨ret_int HE.out.symm, nq, rfl⟩
  ·
   have hdb : decide (b < 0) = false := decide_eq_false (by omega)
   have HE : Hid (flo a b = q - 1) := HL.out (by omega) (fun e => by have := e.1 h; omega)
   go_wp2
   go_ret
   exact ⟨ret_int HE.out.symm, nq, rfl⟩
 ·
  subst h
  have HE : Hid (flo a b = q) := HS.out (.inl rfl)
  go_wp2
  go_ret
  exact ⟨ret_int HE.out.symm, nq, rfl⟩
 ·
  have r0 : (r == 0) = false := by simp; omega
  have r0' : (r != 0) = true := by simp; omega
  have hd : decide (r < 0) = false := decide_eq_false (by omega)
  rcases Int.lt_or_le b 0 with k | k
  ·
   have hdb : decide (b < 0) = true := decide_eq_true k
   have HE : Hid (flo a b = q - 1) := HL.out (by omega) (fun e => by have := e.2 k; omega)
   go_wp2
   go_ret
   exact ⟨ret_int HE.out.symm, nq, rfl⟩
  ·
   have hdb : decide (b < 0) = false := decide_eq_false (by omega)
   have HE : Hid (flo a b = q) := HS.out (.inr ⟨fun x => by omega, fun x => by omega⟩)
   go_wp2
   go_ret
   exact ⟨ret_int HE.out.symm, nq, rfl⟩
end Go.Proofs.Ytpahkpcoinbgcaa

/- Fixed numbers: the walks of Add, Sub, Mul, Div. -/
namespace Go.Proofs.Ytpahkpcoinbgcaa
open Go.RowKit
/-- Two places for a call's results, behind what was there. -/
structure Two (w w1 : World) (v : Value) (c : Bool) : Prop where
 below : Below w.heap.size w w1
 p : w1.cell? ⟨w.heap.size, 0, none⟩ = some v
 q : w1.cell? ⟨w.heap.size + 1, 0, none⟩ = some (.bool c)
 fp : w1.frozen? ⟨w.heap.size, 0, none⟩ = false
 fq : w1.frozen? ⟨w.heap.size + 1, 0, none⟩ = false
 sz : w.heap.size + 1 < w1.heap.size
theorem two_mk (w : World) (s t : TypeId) : Two w ((w.alloc (.cells #[.int .i64 0] s)).alloc (.cells #[.bool false] t)) (.int .i64 0) false :=
 ⟨((Below.refl _ _).alloc (Nat.le_refl _) _).alloc (by simp) _, by simp [go_sem], by simp [go_sem], by simp [go_sem], by simp [go_sem], by simp⟩
theorem Two.later {w w1 w2 : World} {v : Value} {c : Bool} (h : Two w w1 v c) (hb : Below w1.heap.size w1 w2) : Two w w2 v c :=
 ⟨h.below.trans (hb.mono h.below.size), (hb.cell (p := ⟨w.heap.size, 0, none⟩) (by have := h.sz; show w.heap.size < _; omega)).trans h.p, (hb.cell (p := ⟨w.heap.size + 1, 0, none⟩) h.sz).trans h.q,
  (hb.frozen (p := ⟨w.heap.size, 0, none⟩) (by have := h.sz; show w.heap.size < _; omega)).trans h.fp, (hb.frozen (p := ⟨w.heap.size + 1, 0, none⟩) h.sz).trans h.fq, Nat.lt_of_lt_of_le h.sz hb.size⟩
theorem Two.putq {w w1 : World} {v : Value} {c : Bool} (h : Two w w1 v c) (c' : Bool) : Two w (w1.setCell ⟨w.heap.size + 1, 0, none⟩ (.bool c')) v c' := by
 have hp := h.p
 have hq := h.q
 have fp := h.fp
 have fq := h.fq
 exact ⟨h.below.setCell (p := ⟨w.heap.size + 1, 0, none⟩) (Nat.le_succ _) _, by simp [go_sem, hp, hq], by simp [go_sem, hp, hq], by simp [go_sem, fp], by simp [go_sem, fq], by simpa [go_sem] using h.sz⟩
theorem Two.putp {w w1 : World} {v : Value} {c : Bool} (h : Two w w1 v c) (v' : Value) : Two w (w1.setCell ⟨w.heap.size, 0, none⟩ v') v' c := by
 have hp := h.p
 have hq := h.q
 have fp := h.fp
 have fq := h.fq
 exact ⟨h.below.setCell (p := ⟨w.heap.size, 0, none⟩) (Nat.le_refl _) _, by simp [go_sem, hp, hq], by simp [go_sem, hp, hq], by simp [go_sem, fp], by simp [go_sem, fq], by simpa [go_sem] using h.sz⟩
theorem Two.drewN {w w1 : World} {v : Value} {c : Bool} (h : Two w w1 v c) (n : Nat) : Two w (w1.drewN n) v c := ⟨below_drewN h.below n, h.p, h.q, h.fp, h.fq, h.sz⟩
theorem Two.drew {w w1 : World} {v : Value} {c : Bool} (h : Two w w1 v c) : Two w w1.drew v c := ⟨h.below.drew, h.p, h.q, h.fp, h.fq, h.sz⟩
/-- The door of a call that hands back two results. -/
theorem Two.door {w w1 : World} {n : Int} {c : Bool} (h : Two w w1 (.int .i64 n) c) {fn : Func} {tmps : Array Value} {R : Ending → World → Prop}
  (k : ∀ w' : World, w'.cell? ⟨w.heap.size, 0, none⟩ = some (.int .i64 (cutI n)) → w'.cell? ⟨w.heap.size + 1, 0, none⟩ = some (.bool (c || cutB n)) → Below w.heap.size w w' → Leaves Try.prog fn tmps R [] .returning w') :
  Leaves Try.prog fn tmps R [{ target := .fn (.func 103) #[], args := #[.pointer (some ⟨w.heap.size, 0, none⟩), .pointer (some ⟨w.heap.size + 1, 0, none⟩)] }] .returning w1 :=
 Go.Proofs.Ytpahkpcoinbgcaa.door w.heap.size w.heap.size (w.heap.size + 1) n c w1 h.p h.q (by omega) h.fp h.fq (Nat.le_refl _) (by omega) (fun w' hp hq hb => k w' hp hq (h.below.trans hb))
theorem Two.sets {w w1 w' : World} {v : Value} {c : Bool} (h : Two w w1 v c) {u1 u2 u3 : Value} (hb : Below w.heap.size (((w1.setCell ⟨w.heap.size + 1, 0, none⟩ u1).setCell ⟨w.heap.size, 0, none⟩ u2).setCell ⟨w.heap.size + 1, 0, none⟩ u3) w') : Below w.heap.size w w' :=
 h.below.trans ((((Below.refl w.heap.size w1).setCell (p := ⟨w.heap.size + 1, 0, none⟩) (Nat.le_succ _) _).setCell (p := ⟨w.heap.size, 0, none⟩) (Nat.le_refl _) _).setCell (p := ⟨w.heap.size + 1, 0, none⟩) (Nat.le_succ _) _ |>.trans hb)
set_option maxHeartbeats 800000 in
theorem fxAdd_any (a b : Int) (w : World) : Calls Try.prog 72 #[.int .i64 a, .int .i64 b] w (PVal2 (.int .i64 (cutI (cutI a + cutI b))) (.bool (cutB a || cutB b || cutB (cutI a + cutI b))) w) := by
 go_enter_defers Try.func72, Try.ntmps72
 go_wp2_with fail
 have hT := two_mk w 2 4
 generalize (w.alloc (.cells #[.int .i64 0] 2)).alloc (.cells #[.bool false] 4) = w0 at *
 refine (clampBoth_any a b _).mono ?_
 rintro e w1 ⟨rfl, hB1⟩
 have hT1 := hT.later hB1
 clear hT hB1
 obtain ⟨x, hx⟩ : ∃ x, cutI a = x := ⟨_, rfl⟩
 obtain ⟨y, hy⟩ : ∃ y, cutI b = y := ⟨_, rfl⟩
 obtain ⟨c, hc⟩ : ∃ c, (cutB a || cutB b) = c := ⟨_, rfl⟩
 have bx := cut_bd a
 have by' := cut_bd b
 rw [hx] at bx
 rw [hy] at by'
 rw [hx, hy, hc]
 obtain ⟨bx1, bx2⟩ := bx
 obtain ⟨by1, by2⟩ := by'
 have HX := Lib.hid hx
 have HY := Lib.hid hy
 have HC := Lib.hid hc
 clear hx hy hc
 have hp := hT1.p
 have hq := hT1.q
 have fp := hT1.fp
 have fq := hT1.fq
 go_wp2
 refine door w.heap.size w.heap.size (w.heap.size + 1) (x + y) c _ (by simp [go_sem, hp, hq]) (by simp [go_sem, hp, hq]) (by omega) (by simp [go_sem, fp, fq]) (by simp [go_sem, fp, fq]) (Nat.le_refl _) (by omega) (fun w' kp kq hb => ?_)
 exact ⟨.tuple #[.int .i64 (cutI (x + y)), .bool (c || cutB (x + y))], by simp [results, Try.results72, go_sem, kp, kq], by rw [HX.out, HY.out, HC.out], hT1.sets hb⟩
theorem mul_bd {x y : Int} (bx1 : -2147483647 ≤ x) (bx2 : x ≤ 2147483647) (by1 : -2147483647 ≤ y) (by2 : y ≤ 2147483647) : -4611686018427387904 ≤ x * y ∧ x * y ≤ 4611686018427387904 := by
 have h : (x * y).natAbs ≤ 2147483647 * 2147483647 := by rw [Int.natAbs_mul]; exact Nat.mul_le_mul (by omega) (by omega)
 omega
set_option maxHeartbeats 1600000 in
theorem fxMul_any (a b : Int) (w : World) : Calls Try.prog 105 #[.int .i64 a, .int .i64 b] w (PVal2 (.int .i64 (cutI (flo (cutI a * cutI b) 1048576))) (.bool (cutB a || cutB b || cutB (flo (cutI a * cutI b) 1048576))) w) := by
 go_enter_defers Try.func105, Try.ntmps105
 go_wp2_with fail
 have hT := two_mk w 2 4
 generalize (w.alloc (.cells #[.int .i64 0] 2)).alloc (.cells #[.bool false] 4) = w0 at *
 refine (clampBoth_any a b _).mono ?_
 rintro e w1 ⟨rfl, hB1⟩
 have hT1 := hT.later hB1
 clear hT hB1
 obtain ⟨x, hx⟩ : ∃ x, cutI a = x := ⟨_, rfl⟩
 obtain ⟨y, hy⟩ : ∃ y, cutI b = y := ⟨_, rfl⟩
 obtain ⟨c, hc⟩ : ∃ c, (cutB a || cutB b) = c := ⟨_, rfl⟩
 have bx := cut_bd a
 have by' := cut_bd b
 rw [hx] at bx
 rw [hy] at by'
 rw [hx, hy, hc]
 obtain ⟨bm1, bm2⟩ := mul_bd bx.1 bx.2 by'.1 by'.2
 have HX := Lib.hid hx
 have HY := Lib.hid hy
 have HC := Lib.hid hc
 clear hx hy hc bx by'
 have hw : IntKind.i64.wrap (x * y) = x * y := IntWalk.i64_in _ (by omega)
 have hp := hT1.p
 have hq := hT1.q
 have fp := hT1.fp
 have fq := hT1.fq
 go_wp2_with fail
 have hT2 := hT1.putq c
 clear hp hq fp fq hT1
 generalize w1.setCell ⟨w.heap.size + 1, 0, none⟩ (.bool c) = w2 at *
 have hq := hT2.q
 have fp := hT2.fp
 have fq := hT2.fq
 have hp := hT2.p
 refine wp_region_noPanic ?_
 go_region_with (go_at_call 106; (with_reducible refine (over_any (x * y) 1048576 _ (by decide) bm1 bm2).mono ?_); rintro e w2 ⟨rfl, nq, rfl⟩)
 all_goals
  refine NoPanic.normal ?_
  have hT3 := (((hT2.drewN (1 + nq)).putp (.int .i64 (flo (x * y) 1048576))).putq c)
  clear hp hq fp fq
  generalize ((w2.drewN (1 + nq)).setCell ⟨w.heap.size, 0, none⟩ (.int .i64 (flo (x * y) 1048576))).setCell ⟨w.heap.size + 1, 0, none⟩ (.bool c) = w3 at *
  go_wp2
  refine hT3.door (fun w' kp kq hb => ?_)
  exact ⟨.tuple #[.int .i64 (cutI (flo (x * y) 1048576)), .bool (c || cutB (flo (x * y) 1048576))], by simp [results, Try.results105, go_sem, kp, kq], by rw [HX.out, HY.out, HC.out], hb⟩
end Go.Proofs.Ytpahkpcoinbgcaa

/- The walk of Small. -/
namespace Go.Proofs.Ytpahkpcoinbgcaa
open Go.RowKit
/-- A number as an int64, and whether it is one. -/
def smallV (z : Int) : Int := if -9223372036854775808 ≤ z ∧ z ≤ 9223372036854775807 then z else 0
def smallB (z : Int) : Bool := decide (-9223372036854775808 ≤ z ∧ z ≤ 9223372036854775807)
theorem ret2 {k : IntKind} {a b : Int} {c d : Bool} (h : a = b) (h' : c = d) : Ending.returned (.tuple #[.int k a, .bool c]) = .returned (.tuple #[.int k b, .bool d]) := by rw [h, h']
theorem or_first (x : Nat) (h : x < 4294967296) : bits .or .u64 0 (x : Int) = (x : Int) := by
 have := u64_or_nat 0 x (by omega) (by omega)
 simpa using this
theorem or_second {x y : Nat} (h : x < 4294967296) (h' : y < 4294967296) : bits .or .u64 (x : Int) ((y : Int) * 4294967296) = ((x + 4294967296 * y : Nat) : Int) := by
 have e : ((y * 4294967296 : Nat) : Int) = (y : Int) * 4294967296 := by omega
 rw [← e, u64_or_nat x (y * 4294967296) (by omega) (by omega)]
 have h2 := Nat.two_pow_add_eq_or_of_lt (b := x) (i := 32) (by omega) y
 rw [show (2 : Nat) ^ 32 = 4294967296 from rfl] at h2
 rw [Nat.mul_comm y, Nat.or_comm, ← h2]
 omega
set_option maxRecDepth 100000 in
set_option maxHeartbeats 800000 in
theorem Small_long (bl : Bool) (a : Option Addr) (n c : Nat) (w : World) (hn : 2 < n) (hn' : n ≤ 10000000) :
  Calls Try.prog 125 #[.agg #[.bool bl, .slice a n c]] w (PVal2 (.int .i64 0) (.bool false) w) := by
 go_enter Try.func125, Try.ntmps125
 go_wp2
 go_ret2
 exact ⟨rfl, (Below.refl w.heap.size w).alloc (Nat.le_refl _) _⟩
set_option maxRecDepth 100000 in
set_option maxHeartbeats 1600000 in
theorem Small_short (bl : Bool) (a : Option Addr) (n c : Nat) (z : Int) (w : World) (h : Num w bl a n c z) (hn : n ≤ 2) :
  Calls Try.prog 125 #[.agg #[.bool bl, .slice a n c]] w (PVal2 (.int .i64 (smallV z)) (.bool (smallB z)) w) := by
 have hB := (Below.refl w.heap.size w).alloc (Nat.le_refl _) (.cells #[.bool bl, .slice a n c] 113)
 have hl := h.lie.below hB
 have hN : z.natAbs < BB ^ n := h.fit.1
 have hN2 : z.natAbs < BB ^ 2 := fit_mono hN hn
 have hs := h.sgn
 have HN := Lib.hid hN
 have HN2 := Lib.hid hN2
 have HS := Lib.hid hs
 clear h hN hN2 hs
 go_enter Try.func125, Try.ntmps125
 go_wp2
 go_loop [4, 15] (fun sv iv => ∃ k : Nat, k ≤ n ∧ iv = .int .i64 k ∧ sv = .int .u64 ((z.natAbs % BB ^ k : Nat) : Int)) (fun _ iv => n - (intOf iv).toNat)
 case atStart => exact ⟨0, Nat.zero_le _, rfl, by simp [Nat.mod_one]⟩
 case round =>
  obtain ⟨k, hk, rfl, rfl⟩ := hrel
  by_cases hlt : k < n
  ·
   obtain ⟨b1, o1, rfl, hb1⟩ := hl.some_of_pos (by omega)
   have c1 := hl.at k hlt
   have hla := lmb_lt z.natAbs k
   have hk2 : k = 0 ∨ k = 1 := by omega
   rcases hk2 with rfl | rfl
   ·
    have ho := or_first _ hla
    have HM : Hid (z.natAbs % BB ^ 1 = lmb z.natAbs 0) := by show _ = _; rw [mod_succ]; simp [Nat.mod_one]
    simp only [Nat.pow_zero, Nat.mod_one]
    rw [Nat.add_zero] at c1
    clear hl
    go_wp2
    go_round
    case rel => exact ⟨1, by omega, by go_num, by rw [HM.out]⟩
    case measure => simp [intOf]; omega
   ·
    have HM : Hid (z.natAbs % BB ^ 1 = lmb z.natAbs 0) := by show _ = _; rw [mod_succ]; simp [Nat.mod_one]
    have hl0 := lmb_lt z.natAbs 0
    have ho := or_second hl0 hla
    have HM2 : Hid (z.natAbs % BB ^ 2 = lmb z.natAbs 0 + 4294967296 * lmb z.natAbs 1) := by show _ = _; rw [mod_succ, HM.out, Nat.pow_one]; rfl
    rw [HM.out]
    rw [← HM2.out] at ho
    clear hl
    go_wp2
    go_round
    case rel => exact ⟨2, by omega, rfl, by rw [Int.natCast_emod, Int.natCast_pow]⟩
    case measure => simp [intOf]; omega
  ·
   obtain rfl : k = n := by omega
   rw [Nat.mod_eq_of_lt HN.out]
   have hNb : z.natAbs < 18446744073709551616 := HN2.out
   obtain ⟨N, hNe⟩ : ∃ N, N = z.natAbs := ⟨_, rfl⟩
   rw [← hNe] at hNb ⊢
   have HNE := Lib.hid hNe
   clear hNe hl
   cases bl
   ·
    by_cases hc : N ≤ 9223372036854775807
    ·
     have hd : decide ((9223372036854775807 : Int) < (N : Int)) = false := by simp; omega
     have HR : Hid ((N : Int) = smallV z ∧ smallB z = true) := by
      have h1 := HNE.out; have h2 := HS.out; simp at h2; show _ ∧ _; unfold smallV smallB; rw [if_pos (by omega)]; simp; omega
     have hNI : (N : Int) ≤ 9223372036854775807 := by omega
     clear hc
     go_wp2
     go_ret2
     exact ⟨by rw [← HR.out.1, HR.out.2]; rfl, hB⟩
    ·
     have hd : decide ((9223372036854775807 : Int) < (N : Int)) = true := by simp; omega
     have HR : Hid (smallV z = 0 ∧ smallB z = false) := by
      have h1 := HNE.out; have h2 := HS.out; simp at h2; show _ ∧ _; unfold smallV smallB; rw [if_neg (by omega)]; simp; omega
     clear hc
     go_wp2
     go_ret2
     exact ⟨by rw [HR.out.1, HR.out.2]; rfl, hB⟩
   ·
    by_cases hc : N ≤ 9223372036854775808
    ·
     have hd : decide ((9223372036854775808 : Int) < (N : Int)) = false := by simp; omega
     have HR : Hid (-(N : Int) = smallV z ∧ smallB z = true) := by
      have h1 := HNE.out; have h2 := HS.out; simp at h2; show _ ∧ _; unfold smallV smallB; rw [if_pos (by omega)]; simp; omega
     have hNI : (N : Int) ≤ 9223372036854775808 := by omega
     clear hc
     have HW : Hid (wrap64 (IntKind.u64.wrap (-(N : Int))) = -(N : Int)) := by show _ = _; rw [IntKind.wrap_u64]; unfold wrap64; omega
     go_wp2
     go_ret2
     exact ⟨ret2 (HW.out.trans HR.out.1) HR.out.2.symm, hB⟩
    ·
     have hd : decide ((9223372036854775808 : Int) < (N : Int)) = true := by simp; omega
     have HR : Hid (smallV z = 0 ∧ smallB z = false) := by
      have h1 := HNE.out; have h2 := HS.out; simp at h2; show _ ∧ _; unfold smallV smallB; rw [if_neg (by omega)]; simp; omega
     clear hc
     go_wp2
     go_ret2
     exact ⟨by rw [HR.out.1, HR.out.2]; rfl, hB⟩
theorem Small_any (bl : Bool) (a : Option Addr) (n c : Nat) (z : Int) (w : World) (h : Num w bl a n c z) (hn : n ≤ 10000000) :
  Calls Try.prog 125 #[.agg #[.bool bl, .slice a n c]] w (PVal2 (.int .i64 (smallV z)) (.bool (smallB z)) w) := by
 by_cases h2 : n ≤ 2
 ·
  exact Small_short bl a n c z w h h2
 ·
  have h3 : BB ^ 2 ≤ z.natAbs := by
   rcases h.fit.2 with h0 | h0
   ·
    omega
   ·
    exact Nat.le_trans (Nat.pow_le_pow_right BB_pos (by omega)) h0
  have h4 : (18446744073709551616 : Nat) ≤ z.natAbs := h3
  have e1 : smallV z = 0 := by unfold smallV; rw [if_neg (by omega)]
  have e2 : smallB z = false := by unfold smallB; simp; omega
  rw [e1, e2]
  exact Small_long bl a n c w (by omega) hn
end Go.Proofs.Ytpahkpcoinbgcaa

/- Fixed numbers: the walks of Div, Sqrt. -/
namespace Go.Proofs.Ytpahkpcoinbgcaa
open Go.RowKit
theorem cut_nz {b : Int} (h : b ≠ 0) : cutI b ≠ 0 := by unfold cutI; omega
theorem scale_bd {x : Int} (h1 : -2147483647 ≤ x) (h2 : x ≤ 2147483647) : -2251799812636672 ≤ x * 1048576 ∧ x * 1048576 ≤ 2251799812636672 := by omega
set_option maxHeartbeats 1600000 in
theorem fxDiv_any (a b : Int) (w : World) (hb0 : b ≠ 0) : Calls Try.prog 77 #[.int .i64 a, .int .i64 b] w
  (PVal3 (.int .i64 (cutI (flo (cutI a * 1048576) (cutI b)))) (.bool (cutB a || cutB b || cutB (flo (cutI a * 1048576) (cutI b)))) (.int .i64 0) w) := by
 have hy0 := cut_nz hb0
 go_enter_defers Try.func77, Try.ntmps77
 go_wp2_with fail
 have hT := two_mk w 2 4
 generalize (w.alloc (.cells #[.int .i64 0] 2)).alloc (.cells #[.bool false] 4) = w0 at *
 refine (clampBoth_any a b _).mono ?_
 rintro e w1 ⟨rfl, hB1⟩
 have hT1 := hT.later hB1
 clear hT hB1
 obtain ⟨x, hx⟩ : ∃ x, cutI a = x := ⟨_, rfl⟩
 obtain ⟨y, hy⟩ : ∃ y, cutI b = y := ⟨_, rfl⟩
 obtain ⟨c, hc⟩ : ∃ c, (cutB a || cutB b) = c := ⟨_, rfl⟩
 have bx := cut_bd a
 rw [hx] at bx
 rw [hy] at hy0
 rw [hx, hy, hc]
 obtain ⟨bx1, bx2⟩ := bx
 obtain ⟨bm1, bm2⟩ := scale_bd bx1 bx2
 have HX := Lib.hid hx
 have HY := Lib.hid hy
 have HC := Lib.hid hc
 clear hx hy hc
 have hw : IntKind.i64.wrap (x * 1048576) = x * 1048576 := IntWalk.i64_in _ (by omega)
 have hyd : (y == 0) = false := by simpa using hy0
 have hy1 : ¬ y = 0 := hy0
 have hp := hT1.p
 have hq := hT1.q
 have fp := hT1.fp
 have fq := hT1.fq
 go_wp2_with fail
 have hT2 := hT1.putq c
 clear hp hq fp fq hT1
 generalize w1.setCell ⟨w.heap.size + 1, 0, none⟩ (.bool c) = w2 at *
 have hp := hT2.p
 have hq := hT2.q
 have fp := hT2.fp
 have fq := hT2.fq
 refine wp_region_noPanic ?_
 go_region_with (go_at_call 106; (with_reducible refine (over_any (x * 1048576) y _ hy1 (by omega) (by omega)).mono ?_); rintro e w2 ⟨rfl, nq, rfl⟩)
 all_goals
  refine NoPanic.normal ?_
  have hT3 := (((hT2.drewN (1 + nq)).putp (.int .i64 (flo (x * 1048576) y))).putq c)
  clear hp hq fp fq
  generalize ((w2.drewN (1 + nq)).setCell ⟨w.heap.size, 0, none⟩ (.int .i64 (flo (x * 1048576) y))).setCell ⟨w.heap.size + 1, 0, none⟩ (.bool c) = w3 at *
  go_wp2
  refine hT3.door (fun w' kp kq hb => ?_)
  exact ⟨.tuple #[.int .i64 (cutI (flo (x * 1048576) y)), .bool (c || cutB (flo (x * 1048576) y)), .int .i64 0], by simp [results, Try.results77, go_sem, kp, kq], by rw [HX.out, HY.out, HC.out], hb⟩
/-- The square root of a number of steps, and no error, are handed back. -/
def PSqrt (a : Int) (w : World) (e : Ending) (w' : World) : Prop :=
 ∃ R : Nat, R * R ≤ (cutI a * 1048576).natAbs ∧ (cutI a * 1048576).natAbs < (R + 1) * (R + 1) ∧ R ≤ 47453132 ∧ e = .returned (.tuple #[.int .i64 R, .bool (cutB a), .int .i64 0]) ∧ Below w.heap.size w w'
theorem root_bd {R N : Nat} (h : R * R ≤ N) (hN : N ≤ 2251799812636672) : R ≤ 47453132 := by
 refine Nat.le_of_not_lt fun hlt => ?_
 have := Nat.mul_le_mul (show 47453133 ≤ R from hlt) (show 47453133 ≤ R from hlt)
 omega
theorem cut_sign {a : Int} : (cutI a < 0 ↔ a < 0) := by unfold cutI; omega
theorem len_two {w : World} {bl : Bool} {a : Option Addr} {n c : Nat} {z : Int} (h : Num w bl a n c z) (hz : z.natAbs < 18446744073709551616) : n ≤ 10000000 :=
 Nat.le_trans (fit_le h.fit (two_lt hz)) (by omega)
theorem small_is {z : Int} (h1 : -9223372036854775808 ≤ z) (h2 : z ≤ 9223372036854775807) : smallV z = z ∧ smallB z = true := by
 unfold smallV smallB
 exact ⟨if_pos ⟨h1, h2⟩, decide_eq_true ⟨h1, h2⟩⟩
theorem new_below (w : World) (o : Obj) : Below w.heap.size w (w.alloc o) := (Below.refl _ _).alloc (Nat.le_refl _) _
set_option maxHeartbeats 1600000 in
theorem fxSqrt_pos (a : Int) (w : World) (ha : 0 ≤ a) : Calls Try.prog 111 #[.int .i64 a] w (PSqrt a w) := by
 have bx := cut_bd a
 have hx0 : ¬ cutI a < 0 := by rw [cut_sign]; omega
 go_enter_defers Try.func111, Try.ntmps111
 go_wp2_with fail
 have hT := two_mk w 2 4
 generalize (w.alloc (.cells #[.int .i64 0] 2)).alloc (.cells #[.bool false] 4) = w0 at *
 refine (Clamp_any a _).mono ?_
 rintro e w1 ⟨rfl, hB1⟩
 have hT1 := hT.later hB1
 clear hT hB1
 obtain ⟨x, hx⟩ : ∃ x, cutI a = x := ⟨_, rfl⟩
 obtain ⟨c, hc⟩ : ∃ c, cutB a = c := ⟨_, rfl⟩
 rw [hx] at bx hx0
 rw [hx, hc]
 obtain ⟨bx1, bx2⟩ := bx
 obtain ⟨bm1, bm2⟩ := scale_bd bx1 bx2
 have HX := Lib.hid hx
 have HC := Lib.hid hc
 clear hx hc
 have hp := hT1.p
 have hq := hT1.q
 have fp := hT1.fp
 have fq := hT1.fq
 go_wp2_with fail
 have hT2 := hT1.putq c
 clear hp hq fp fq hT1
 generalize w1.setCell ⟨w.heap.size + 1, 0, none⟩ (.bool c) = w2 at *
 refine (Of_any (x * 1048576) _ (by omega) (by omega)).mono ?_
 rintro e w3 ⟨b3, a3, n3, c3, rfl, hN3, _, hB3⟩
 have hb3 : b3 = false := by rw [hN3.sgn]; simp; omega
 subst hb3
 have hT3 := hT2.later hB3
 clear hT2 hB3
 go_wp2_with fail
 refine (Root_pos a3 n3 c3 _ _ hN3 (len_two hN3 (by omega))).mono ?_
 rintro e w4 ⟨R, hR1, hR2, b4, a4, n4, c4, rfl, hN4, _, hB4⟩
 have hRb := root_bd hR1 (by omega)
 have HR := Lib.hid (And.intro hR1 hR2)
 clear hR1 hR2
 have hT4 := hT3.later (hB4.trans ((new_below w4 (.cells #[.bool b4, .slice a4 n4 c4] 113)).mono hB4.size))
 have hM4 := hN4.below (new_below w4 (.cells #[.bool b4, .slice a4 n4 c4] 113))
 have hn4 := len_two hN4 (by omega)
 clear hT3 hB4 hN3 hN4
 go_wp2_with fail
 generalize w4.alloc (.cells #[.bool b4, .slice a4 n4 c4] 113) = w5 at *
 refine (Small_any b4 a4 n4 c4 (R : Int) _ hM4 hn4).mono ?_
 rintro e w6 ⟨rfl, hB6⟩
 rw [(small_is (z := (R : Int)) (by omega) (by omega)).1, (small_is (z := (R : Int)) (by omega) (by omega)).2]
 have hT6 := hT4.later hB6
 have hp := hT6.p
 have hq := hT6.q
 have fp := hT6.fp
 have fq := hT6.fq
 clear hT4 hB6 hM4
 go_wp2
 have hT7 := ((hT6.putp (.int .i64 R)).putp (.int .i64 R)).putq c
 refine hT7.door (fun w' kp kq hb => ?_)
 have hcR := cut_in (n := (R : Int)) (by omega) (by omega)
 rw [hcR.1] at kp
 rw [hcR.2, Bool.or_false] at kq
 exact ⟨.tuple #[.int .i64 R, .bool c, .int .i64 0], by simp [results, Try.results111, go_sem, kp, kq], R, by rw [HX.out]; exact HR.out.1, by rw [HX.out]; exact HR.out.2, hRb, by rw [HC.out], hb⟩
end Go.Proofs.Ytpahkpcoinbgcaa

/- Spans: what comes of them, as numbers (no walk). -/
namespace Go.Proofs.Ytpahkpcoinbgcaa
open Go.RowKit
/-- A span, by its fields. -/
structure Sp where
 lo : Int
 hi : Int
 all : Bool
/-- The whole line. -/
def lineS : Sp := ⟨0, 0, true⟩
/-- May a span be, and is it not the whole line? -/
def okB (x : Sp) : Bool := decide (-2147483647 ≤ x.lo) && decide (x.lo ≤ x.hi) && decide (x.hi ≤ 2147483647) && !x.all
theorem ok_of {x : Sp} (h : okB x = true) : -2147483647 ≤ x.lo ∧ x.lo ≤ x.hi ∧ x.hi ≤ 2147483647 ∧ x.all = false := by
 unfold okB at h
 simp only [Bool.and_eq_true, decide_eq_true_eq, Bool.not_eq_true'] at h
 exact ⟨h.1.1.1, h.1.1.2, h.1.2, h.2⟩
theorem ok_mk {x : Sp} (h1 : -2147483647 ≤ x.lo) (h2 : x.lo ≤ x.hi) (h3 : x.hi ≤ 2147483647) (h4 : x.all = false) : okB x = true := by
 unfold okB
 simp only [Bool.and_eq_true, decide_eq_true_eq, Bool.not_eq_true']
 exact ⟨⟨⟨h1, h2⟩, h3⟩, h4⟩
/-- A span as all calls take it. -/
def mkS (x : Sp) : Sp := if okB x then x else lineS
theorem mkS_ok {x : Sp} (h : okB x = true) : mkS x = x := if_pos h
theorem mkS_no {x : Sp} (h : okB x = false) : mkS x = lineS := by unfold mkS; rw [h]; rfl
theorem okB_mk (x : Sp) : okB (mkS x) = okB x := by
 cases h : okB x
 ·
  rw [mkS_no h]; rfl
 ·
  rw [mkS_ok h, h]
def ofS (a b : Int) : Sp := mkS ⟨min a b, max a b, false⟩
theorem ofS_le {a b : Int} (h : a ≤ b) : ofS a b = mkS ⟨a, b, false⟩ := by
 unfold ofS
 rw [Int.min_eq_left h, Int.max_eq_right h]
theorem ofS_ge {a b : Int} (h : b ≤ a) : ofS a b = mkS ⟨b, a, false⟩ := by
 unfold ofS
 rw [Int.min_eq_right h, Int.max_eq_left h]
def hasB (x : Sp) (n : Int) : Bool := !okB x || (decide (x.lo ≤ n) && decide (n ≤ x.hi))
def joinS (x y : Sp) : Sp := if okB x && okB y then ⟨min x.lo y.lo, max x.hi y.hi, false⟩ else lineS
def midS (x : Sp) : Int := if okB x then (x.lo + x.hi) / 2 else 0
def radS (x : Sp) : Int := if okB x then x.hi - (x.lo + x.hi) / 2 else 2147483647
def negS (x : Sp) : Sp := if okB x then ⟨-x.hi, -x.lo, false⟩ else lineS
def min4 (x y : Sp) : Int := min (min (min (x.lo * y.lo) (x.lo * y.hi)) (x.hi * y.lo)) (x.hi * y.hi)
def max4 (x y : Sp) : Int := max (max (max (x.lo * y.lo) (x.lo * y.hi)) (x.hi * y.lo)) (x.hi * y.hi)
/-- What comes of two spans by a rule, from their ends. -/
def endsS (R : Int → Int → Sp) (x y : Sp) : Sp := if okB x && okB y then joinS (joinS (joinS (joinS (R x.lo y.lo) (R x.lo y.lo)) (R x.lo y.hi)) (R x.hi y.lo)) (R x.hi y.hi) else lineS
/-- The span of a sum; of a product; of a quotient. -/
def addR (a b : Int) : Sp := mkS ⟨a + b, a + b, false⟩
def mulR (a b : Int) : Sp := mkS ⟨a * b / 1048576, -(-(a * b) / 1048576), false⟩
def divR (a b : Int) : Sp := mkS ⟨flo (a * 1048576) b, -flo (-(a * 1048576)) b, false⟩
def addS (x y : Sp) : Sp := endsS addR x y
def mulS (x y : Sp) : Sp := endsS mulR x y
def divS (x y : Sp) : Sp := if hasB y 0 then lineS else endsS divR x y
def sqrS (x : Sp) : Sp := if okB x then (if x.lo ≤ 0 ∧ 0 ≤ x.hi then joinS (joinS (mulR x.lo x.lo) (mulR x.hi x.hi)) ⟨0, 0, false⟩ else joinS (mulR x.lo x.lo) (mulR x.hi x.hi)) else lineS
theorem okB_join {x y : Sp} : okB (joinS x y) = (okB x && okB y) := by
 unfold joinS
 cases hx : okB x
 ·
  rfl
 ·
  cases hy : okB y
  ·
   rfl
  ·
   obtain ⟨a1, a2, a3, _⟩ := ok_of hx
   obtain ⟨b1, b2, b3, _⟩ := ok_of hy
   refine ok_mk ?_ ?_ ?_ rfl
   ·
    show _ ≤ min x.lo y.lo; omega
   ·
    show min x.lo y.lo ≤ max x.hi y.hi; omega
   ·
    show max x.hi y.hi ≤ _; omega
theorem join_ok {x y : Sp} (hx : okB x = true) (hy : okB y = true) : joinS x y = ⟨min x.lo y.lo, max x.hi y.hi, false⟩ := by unfold joinS; rw [hx, hy]; rfl
theorem join_no {x y : Sp} (h : (okB x && okB y) = false) : joinS x y = lineS := by unfold joinS; rw [h]; rfl
/-- Four spans of ends, joined: the whole line, or the least and the greatest. -/
theorem ends_ok {R : Int → Int → Sp} {x y : Sp} (hx : okB x = true) (hy : okB y = true) (h1 : okB (R x.lo y.lo) = true) (h2 : okB (R x.lo y.hi) = true) (h3 : okB (R x.hi y.lo) = true) (h4 : okB (R x.hi y.hi) = true) :
  endsS R x y = ⟨min (min (min (R x.lo y.lo).lo (R x.lo y.hi).lo) (R x.hi y.lo).lo) (R x.hi y.hi).lo, max (max (max (R x.lo y.lo).hi (R x.lo y.hi).hi) (R x.hi y.lo).hi) (R x.hi y.hi).hi, false⟩ := by
 unfold endsS
 rw [hx, hy]
 have e1 : okB (joinS (R x.lo y.lo) (R x.lo y.lo)) = true := by rw [okB_join, h1]; rfl
 have e2 : okB (joinS (joinS (R x.lo y.lo) (R x.lo y.lo)) (R x.lo y.hi)) = true := by rw [okB_join, e1, h2]; rfl
 have e3 : okB (joinS (joinS (joinS (R x.lo y.lo) (R x.lo y.lo)) (R x.lo y.hi)) (R x.hi y.lo)) = true := by rw [okB_join, e2, h3]; rfl
 show joinS _ _ = _
 rw [join_ok e3 h4, join_ok e2 h3, join_ok e1 h2, join_ok h1 h1]
 show Sp.mk (min (min (min (min _ _) _) _) _) (max (max (max (max _ _) _) _) _) _ = _
 rw [Int.min_self, Int.max_self]
theorem ends_no {R : Int → Int → Sp} {x y : Sp} (h : (okB x && okB y && okB (R x.lo y.lo) && okB (R x.lo y.hi) && okB (R x.hi y.lo) && okB (R x.hi y.hi)) = false) : endsS R x y = lineS := by
 unfold endsS
 cases hx : okB x
 ·
  rfl
 ·
  cases hy : okB y
  ·
   rfl
  ·
   show joinS _ _ = _
   refine join_no ?_
   rw [okB_join, okB_join, okB_join]
   rw [hx, hy] at h
   revert h
   cases okB (R x.lo y.lo) <;> cases okB (R x.lo y.hi) <;> cases okB (R x.hi y.lo) <;> cases okB (R x.hi y.hi) <;> simp
theorem ends_cases (R : Int → Int → Sp) (x y : Sp) : endsS R x y = lineS ∨ (okB (endsS R x y) = true ∧ okB x = true ∧ okB y = true ∧ okB (R x.lo y.lo) = true ∧ okB (R x.lo y.hi) = true ∧ okB (R x.hi y.lo) = true ∧ okB (R x.hi y.hi) = true ∧
  endsS R x y = ⟨min (min (min (R x.lo y.lo).lo (R x.lo y.hi).lo) (R x.hi y.lo).lo) (R x.hi y.hi).lo, max (max (max (R x.lo y.lo).hi (R x.lo y.hi).hi) (R x.hi y.lo).hi) (R x.hi y.hi).hi, false⟩) := by
 cases h0 : (okB x && okB y && okB (R x.lo y.lo) && okB (R x.lo y.hi) && okB (R x.hi y.lo) && okB (R x.hi y.hi))
 ·
  exact .inl (ends_no h0)
 ·
  simp only [Bool.and_eq_true] at h0
  have e := ends_ok h0.1.1.1.1.1 h0.1.1.1.1.2 h0.1.1.1.2 h0.1.1.2 h0.1.2 h0.2
  refine .inr ⟨?_, h0.1.1.1.1.1, h0.1.1.1.1.2, h0.1.1.1.2, h0.1.1.2, h0.1.2, h0.2, e⟩
  rw [e]
  obtain ⟨a1, a2, a3, _⟩ := ok_of h0.1.1.1.2
  obtain ⟨b1, b2, b3, _⟩ := ok_of h0.1.1.2
  obtain ⟨c1, c2, c3, _⟩ := ok_of h0.1.2
  obtain ⟨d1, d2, d3, _⟩ := ok_of h0.2
  refine ok_mk ?_ ?_ ?_ rfl
  ·
   show _ ≤ min (min (min _ _) _) _; omega
  ·
   show min (min (min _ _) _) _ ≤ max (max (max _ _) _) _; omega
  ·
   show max (max (max _ _) _) _ ≤ _; omega
/-- Products of what lies between ends lie between those of the ends. -/
theorem mul_ends {a lo hi b : Int} (h1 : lo ≤ a) (h2 : a ≤ hi) : min (lo * b) (hi * b) ≤ a * b ∧ a * b ≤ max (lo * b) (hi * b) := by
 rcases Int.le_total 0 b with h | h
 ·
  have e1 := Int.mul_le_mul_of_nonneg_right h1 h
  have e2 := Int.mul_le_mul_of_nonneg_right h2 h
  omega
 ·
  have e1 := Int.mul_le_mul_of_nonpos_right h1 h
  have e2 := Int.mul_le_mul_of_nonpos_right h2 h
  omega
theorem bil {x y : Sp} {a b : Int} (h1 : x.lo ≤ a) (h2 : a ≤ x.hi) (h3 : y.lo ≤ b) (h4 : b ≤ y.hi) : min4 x y ≤ a * b ∧ a * b ≤ max4 x y := by
 have e1 := mul_ends (b := b) h1 h2
 have e2 := mul_ends (b := x.lo) h3 h4
 have e3 := mul_ends (b := x.hi) h3 h4
 rw [Int.mul_comm y.lo, Int.mul_comm y.hi, Int.mul_comm b] at e2 e3
 unfold min4 max4
 omega
theorem mulR_of {a b : Int} (h : okB (mulR a b) = true) : mulR a b = ⟨a * b / 1048576, -(-(a * b) / 1048576), false⟩ := by
 unfold mulR at h ⊢
 rw [okB_mk] at h
 exact mkS_ok h
theorem mul_cases (x y : Sp) : mulS x y = lineS ∨ (okB (mulS x y) = true ∧ okB x = true ∧ okB y = true ∧ mulS x y = ⟨min4 x y / 1048576, -(-max4 x y / 1048576), false⟩) := by
 unfold mulS
 rcases ends_cases mulR x y with h | ⟨h, hx, hy, h1, h2, h3, h4, e⟩
 ·
  exact .inl h
 ·
  refine .inr ⟨h, hx, hy, ?_⟩
  rw [e, mulR_of h1, mulR_of h2, mulR_of h3, mulR_of h4]
  unfold min4 max4
  generalize x.lo * y.lo = p
  generalize x.lo * y.hi = q
  generalize x.hi * y.lo = r
  generalize x.hi * y.hi = s
  congr 1
  ·
   show min (min (min (_ / _) (_ / _)) (_ / _)) (_ / _) = _; omega
  ·
   show max (max (max (-(_ / _)) (-(_ / _))) (-(_ / _))) (-(_ / _)) = _; omega
theorem flo_pos {a b : Int} (h : 0 < b) : flo a b = a / b := if_pos h
theorem sq_pos (a : Int) : 0 ≤ a * a := by
 rcases Int.le_total 0 a with h0 | h0
 ·
  exact Int.mul_nonneg h0 h0
 ·
  have := Int.mul_nonneg (a := -a) (b := -a) (by omega) (by omega)
  rw [Int.neg_mul_neg] at this
  exact this
/-- The root: the greatest number whose square is not above. -/
def isq : Nat → Nat
 | 0 => 0
 | n + 1 => if (isq n + 1) * (isq n + 1) ≤ n + 1 then isq n + 1 else isq n
theorem isq_spec (N : Nat) : isq N * isq N ≤ N ∧ N < (isq N + 1) * (isq N + 1) := by
 induction N with
 | zero => exact ⟨Nat.le_refl _, by decide⟩
 | succ n ih =>
  unfold isq
  generalize isq n = r at *
  have e1 : (r + 1 + 1) * (r + 1 + 1) = (r + 1) * (r + 1) + 2 * r + 3 := by rw [Nat.add_mul (r + 1) 1, Nat.mul_add (r + 1) (r + 1)]; omega
  split
  ·
   next h => exact ⟨h, by omega⟩
  ·
   next h => exact ⟨by omega, by omega⟩
theorem isq_uniq {N R : Nat} (h1 : R * R ≤ N) (h2 : N < (R + 1) * (R + 1)) : R = isq N := by
 obtain ⟨k1, k2⟩ := isq_spec N
 have key : ∀ a b : Nat, a * a ≤ N → N < (b + 1) * (b + 1) → a ≤ b := by
  intro a b ha hb
  refine Nat.le_of_not_lt fun hc => ?_
  have := Nat.mul_le_mul (show b + 1 ≤ a from hc) (show b + 1 ≤ a from hc)
  omega
 have := key R _ h1 k2
 have := key _ R k1 h2
 omega
/-- The root of a fixed number not below 0, rounded down, and up. -/
def rtN (a : Int) : Nat := isq (a * 1048576).natAbs
def rootS (a : Int) : Sp := if ((rtN a : Nat) : Int) * ((rtN a : Nat) : Int) = a * 1048576 then mkS ⟨rtN a, rtN a, false⟩ else mkS ⟨rtN a, rtN a + 1, false⟩
def sqrtS (x : Sp) : Sp := if okB x && decide (0 ≤ x.hi) then joinS (rootS (max x.lo 0)) (rootS x.hi) else lineS
theorem rt_of {a : Int} (h : 0 ≤ a) : ((rtN a : Nat) : Int) * ((rtN a : Nat) : Int) ≤ a * 1048576 ∧ a * 1048576 < (((rtN a : Nat) : Int) + 1) * (((rtN a : Nat) : Int) + 1) := by
 obtain ⟨k1, k2⟩ := isq_spec (a * 1048576).natAbs
 unfold rtN
 generalize isq (a * 1048576).natAbs = r at *
 have e1 : ((r : Int) + 1) * ((r : Int) + 1) = (((r + 1) * (r + 1) : Nat) : Int) := by rw [Int.natCast_mul]; rfl
 rw [← Int.natCast_mul, e1]
 omega
theorem rt_le {a : Int} (h : 0 ≤ a) (h2 : a ≤ 2147483647) : rtN a ≤ 47453132 := by
 obtain ⟨k1, _⟩ := isq_spec (a * 1048576).natAbs
 refine Nat.le_of_not_lt fun hlt => ?_
 have := Nat.mul_le_mul (show 47453133 ≤ rtN a from hlt) (show 47453133 ≤ rtN a from hlt)
 unfold rtN at this
 omega
theorem root_of {a : Int} (h : 0 ≤ a) (h2 : a ≤ 2147483647) : okB (rootS a) = true ∧ 0 ≤ (rootS a).lo ∧ (rootS a).lo * (rootS a).lo ≤ a * 1048576 ∧ 0 ≤ (rootS a).hi ∧ a * 1048576 ≤ (rootS a).hi * (rootS a).hi := by
 have hl := rt_le h h2
 have hr := rt_of h
 unfold rootS
 generalize rtN a = r at *
 split
 ·
  next he =>
  have hk : okB ⟨(r : Int), r, false⟩ = true := ok_mk (by show _ ≤ (r : Int); omega) (Int.le_refl _) (by show (r : Int) ≤ _; omega) rfl
  rw [mkS_ok hk]
  exact ⟨hk, by show 0 ≤ (r : Int); omega, hr.1, by show 0 ≤ (r : Int); omega, by show _ ≤ (r : Int) * r; omega⟩
 ·
  next he =>
  have hk : okB ⟨(r : Int), (r : Int) + 1, false⟩ = true := ok_mk (by show _ ≤ (r : Int); omega) (by show (r : Int) ≤ (r : Int) + 1; omega) (by show (r : Int) + 1 ≤ _; omega) rfl
  rw [mkS_ok hk]
  exact ⟨hk, by show 0 ≤ (r : Int); omega, hr.1, by show 0 ≤ (r : Int) + 1; omega, by show _ ≤ ((r : Int) + 1) * ((r : Int) + 1); omega⟩
end Go.Proofs.Ytpahkpcoinbgcaa

/- Spans in memory: boxes of three cells, one behind the other. -/
namespace Go.Proofs.Ytpahkpcoinbgcaa
open Go.RowKit
/-- A span's box. -/
def B3 (w : World) (k : Nat) (x : Sp) : Prop := w.heap[k]? = some (.cells #[.int .i64 x.lo, .int .i64 x.hi, .bool x.all] 23 (0, 0))
theorem B3.below {w w' : World} {k : Nat} {x : Sp} (h : B3 w k x) (hb : Below w.heap.size w w') : B3 w' k x := by
 unfold B3 at h ⊢
 rw [hb.block k (Array.getElem?_eq_some_iff.1 h).1, h]
theorem B3.cells {w : World} {k : Nat} {x : Sp} (h : B3 w k x) : w.cell? ⟨k, 0, none⟩ = some (.int .i64 x.lo) ∧ w.cell? ⟨k, 1, none⟩ = some (.int .i64 x.hi) ∧ w.cell? ⟨k, 2, none⟩ = some (.bool x.all) ∧ w.frozen? ⟨k, 0, none⟩ = false ∧ w.frozen? ⟨k, 1, none⟩ = false ∧ w.frozen? ⟨k, 2, none⟩ = false := by
 unfold B3 at h
 simp [World.cell?, World.frozen?, h]
theorem heap_new (w : World) (o : Obj) : (w.alloc o).heap[w.heap.size]? = some o := by rw [heap_alloc_new]
theorem b3_new (w : World) (x : Sp) : B3 (w.alloc (.cells #[.int .i64 x.lo, .int .i64 x.hi, .bool x.all] 23)) w.heap.size x := heap_new w _
theorem heap_set3 {w : World} {k : Nat} {u v x a b c : Value} {t : TypeId} (h : w.heap[k]? = some (.cells #[u, v, x] t (0, 0))) :
  (((w.setCell ⟨k, 0, none⟩ a).setCell ⟨k, 1, none⟩ b).setCell ⟨k, 2, none⟩ c).heap[k]? = some (.cells #[a, b, c] t (0, 0)) := by
 simp only [World.setCell, Array.getElem?_modify, if_true, h, Option.map_some]
 rfl
theorem heap_set_ne (w : World) {k k' o : Nat} (v : Value) (h : k ≠ k') : (w.setCell ⟨k', o, none⟩ v).heap[k]? = w.heap[k]? := by
 simp only [World.setCell, Array.getElem?_modify]
 rw [if_neg (fun e => h e.symm)]
theorem B3.self {w : World} {k : Nat} {x : Sp} (h : B3 w k x) (y : Sp) : B3 (((w.setCell ⟨k, 0, none⟩ (.int .i64 y.lo)).setCell ⟨k, 1, none⟩ (.int .i64 y.hi)).setCell ⟨k, 2, none⟩ (.bool y.all)) k y := heap_set3 h
theorem B3.other {w : World} {k k' : Nat} {x : Sp} (h : B3 w k x) (hne : k ≠ k') (a b c : Value) : B3 (((w.setCell ⟨k', 0, none⟩ a).setCell ⟨k', 1, none⟩ b).setCell ⟨k', 2, none⟩ c) k x := by
 unfold B3 at h ⊢
 rw [heap_set_ne _ _ hne, heap_set_ne _ _ hne, heap_set_ne _ _ hne, h]
/-- Boxes one behind the other, behind what was there. -/
structure Bs (w W : World) (xs : List Sp) : Prop where
 below : Below w.heap.size w W
 at' : ∀ i x, xs[i]? = some x → B3 W (w.heap.size + i) x
theorem Bs.later {w W W' : World} {xs : List Sp} (h : Bs w W xs) (hb : Below W.heap.size W W') : Bs w W' xs := ⟨h.below.trans (hb.mono h.below.size), fun i x hx => (h.at' i x hx).below hb⟩
theorem Bs.drew {w W : World} {xs : List Sp} (h : Bs w W xs) : Bs w W.drew xs := ⟨h.below.drew, h.at'⟩
theorem bs_nil (w : World) : Bs w w [] := ⟨Below.refl _ _, nofun⟩
theorem Bs.put {w W : World} {xs : List Sp} (h : Bs w W xs) (i : Nat) (hi : i < xs.length) (y : Sp) :
  Bs w (((W.setCell ⟨w.heap.size + i, 0, none⟩ (.int .i64 y.lo)).setCell ⟨w.heap.size + i, 1, none⟩ (.int .i64 y.hi)).setCell ⟨w.heap.size + i, 2, none⟩ (.bool y.all)) (xs.set i y) := by
 refine ⟨((h.below.setCell (p := ⟨w.heap.size + i, 0, none⟩) (Nat.le_add_right _ _) _).setCell (p := ⟨w.heap.size + i, 1, none⟩) (Nat.le_add_right _ _) _).setCell (p := ⟨w.heap.size + i, 2, none⟩) (Nat.le_add_right _ _) _, fun j x hj => ?_⟩
 by_cases h0 : i = j
 ·
  subst h0
  rw [List.getElem?_set_self hi] at hj
  cases hj
  exact (h.at' i _ (List.getElem?_eq_getElem hi)).self y
 ·
  rw [List.getElem?_set_ne h0] at hj
  exact (h.at' j x hj).other (by omega) _ _ _
/-- What has been made, in one block more. -/
theorem Bs.more {w W : World} {xs : List Sp} (h : Bs w W xs) (hs : W.heap.size = w.heap.size + xs.length) (x : Sp) : Bs w (W.alloc (.cells #[.int .i64 x.lo, .int .i64 x.hi, .bool x.all] 23)) (xs ++ [x]) := by
 refine ⟨h.below.alloc h.below.size _, fun j y hj => ?_⟩
 by_cases h0 : j < xs.length
 ·
  rw [List.getElem?_append_left h0] at hj
  exact (h.at' j y hj).below ((Below.refl _ _).alloc (Nat.le_refl _) _)
 ·
  rw [List.getElem?_append_right (by omega)] at hj
  have e : j = xs.length := by
   have := (List.getElem?_eq_some_iff.1 hj).1
   simp at this
   omega
  subst e
  rw [Nat.sub_self] at hj
  cases hj
  rw [← hs]
  exact b3_new W x
theorem bs1 (w : World) (a b : Int) (c : Bool) : Bs w (w.alloc (.cells #[.int .i64 a, .int .i64 b, .bool c] 23)) [⟨a, b, c⟩] := (bs_nil w).more rfl ⟨a, b, c⟩
theorem bs2 (w : World) (a b : Int) (c : Bool) (a' b' : Int) (c' : Bool) : Bs w ((w.alloc (.cells #[.int .i64 a, .int .i64 b, .bool c] 23)).alloc (.cells #[.int .i64 a', .int .i64 b', .bool c'] 23)) [⟨a, b, c⟩, ⟨a', b', c'⟩] := (bs1 w a b c).more (by simp) ⟨a', b', c'⟩
theorem bs3 (w : World) (a b : Int) (c : Bool) (a' b' : Int) (c' : Bool) (a2 b2 : Int) (c2 : Bool) : Bs w (((w.alloc (.cells #[.int .i64 a, .int .i64 b, .bool c] 23)).alloc (.cells #[.int .i64 a', .int .i64 b', .bool c'] 23)).alloc (.cells #[.int .i64 a2, .int .i64 b2, .bool c2] 23)) [⟨a, b, c⟩, ⟨a', b', c'⟩, ⟨a2, b2, c2⟩] := (bs2 w a b c a' b' c').more (by simp) ⟨a2, b2, c2⟩
theorem Bs.c0 {w W : World} {x : Sp} {xs : List Sp} (h : Bs w W (x :: xs)) : W.cell? ⟨w.heap.size, 0, none⟩ = some (.int .i64 x.lo) ∧ W.cell? ⟨w.heap.size, 1, none⟩ = some (.int .i64 x.hi) ∧ W.cell? ⟨w.heap.size, 2, none⟩ = some (.bool x.all) ∧ W.frozen? ⟨w.heap.size, 0, none⟩ = false ∧ W.frozen? ⟨w.heap.size, 1, none⟩ = false ∧ W.frozen? ⟨w.heap.size, 2, none⟩ = false := (h.at' 0 x rfl).cells
theorem Bs.c1 {w W : World} {y x : Sp} {xs : List Sp} (h : Bs w W (y :: x :: xs)) : W.cell? ⟨w.heap.size + 1, 0, none⟩ = some (.int .i64 x.lo) ∧ W.cell? ⟨w.heap.size + 1, 1, none⟩ = some (.int .i64 x.hi) ∧ W.cell? ⟨w.heap.size + 1, 2, none⟩ = some (.bool x.all) ∧ W.frozen? ⟨w.heap.size + 1, 0, none⟩ = false ∧ W.frozen? ⟨w.heap.size + 1, 1, none⟩ = false ∧ W.frozen? ⟨w.heap.size + 1, 2, none⟩ = false := (h.at' 1 x rfl).cells
theorem Bs.c2 {w W : World} {y z x : Sp} {xs : List Sp} (h : Bs w W (y :: z :: x :: xs)) : W.cell? ⟨w.heap.size + 2, 0, none⟩ = some (.int .i64 x.lo) ∧ W.cell? ⟨w.heap.size + 2, 1, none⟩ = some (.int .i64 x.hi) ∧ W.cell? ⟨w.heap.size + 2, 2, none⟩ = some (.bool x.all) ∧ W.frozen? ⟨w.heap.size + 2, 0, none⟩ = false ∧ W.frozen? ⟨w.heap.size + 2, 1, none⟩ = false ∧ W.frozen? ⟨w.heap.size + 2, 2, none⟩ = false := (h.at' 2 x rfl).cells
/-- A span is handed back, and nothing that was there has turned. -/
def PSp (x : Sp) (w : World) (e : Ending) (w' : World) : Prop := e = .returned (.agg #[.int .i64 x.lo, .int .i64 x.hi, .bool x.all]) ∧ Below w.heap.size w w'
/-- Are two spans' fields the same? -/
def eqS (a b : Int) (c : Bool) (a' b' : Int) (c' : Bool) : Bool := a == a' && (b == b' && c == c')
theorem run_eqS (a b : Int) (c : Bool) (a' b' : Int) (c' : Bool) (w : World) : (Op.equalIn 10000 23 (.agg #[.int .i64 a, .int .i64 b, .bool c]) (.agg #[.int .i64 a', .int .i64 b', .bool c'])).run Try.prog w = .ok (eqS a b c a' b' c') w := by
 have ht : Try.prog.underlying 23 = some (.struct (Try.prog.fieldsOf 23)) := by kernel_rfl
 have hp : Try.prog.stoodInHeld 23 = false := by kernel_rfl
 have u1 := Try.underlying2
 have u2 := Try.underlying4
 have a1 := Try.isAgg2
 have a2 := Try.isAgg4
 have z1 := Try.sizeOf2
 have z2 := Try.sizeOf4
 rw [show (10000 : Nat) = 9999 + 1 from rfl, run_equalIn_struct w 9999 23 _ _ ht hp]
 simp only [Program.fieldsOf, Try.underlying23]
 unfold eqS
 go_simp
 by_cases h1 : a = a' <;> by_cases h2 : b = b' <;> cases c <;> cases c' <;> simp [h1, h2]
theorem run_eqlS (a b : Int) (c : Bool) (a' b' : Int) (c' : Bool) (w : World) : (binOp .eql 23 (.agg #[.int .i64 a, .int .i64 b, .bool c]) (.agg #[.int .i64 a', .int .i64 b', .bool c'])).run Try.prog w = .ok (.bool (eqS a b c a' b' c')) w := by
 rw [run_eql_struct, run_eqS]
 rfl
theorem run_neqS (a b : Int) (c : Bool) (a' b' : Int) (c' : Bool) (w : World) : (binOp .neq 23 (.agg #[.int .i64 a, .int .i64 b, .bool c]) (.agg #[.int .i64 a', .int .i64 b', .bool c'])).run Try.prog w = .ok (.bool (!eqS a b c a' b' c')) w := by
 rw [run_neq_struct, run_eqS]
 rfl
end Go.Proofs.Ytpahkpcoinbgcaa

/- Variables of spans, wherever they lie. No statement of the seat is proved here. -/
namespace Go.Proofs.Ytpahkpcoinbgcaa
open Go Go.RowKit
section
variable {P : Program}
def OpZ (P : Program) (Q : Exit → Act → World → Prop) (o : Oper) (ops : Array Oper) (A : Act) (VP : Nat → Value → World → Prop) (J : World → Prop) (n i : Nat) (u : Nat → Value) (W : World) : Prop :=
 (Region.wanted o (yielded ops A.tmps) = false ∧ VP i undef W) ∨
 (Region.wanted o (yielded ops A.tmps) = true ∧ ∀ K' : Act → World → Prop, (∀ v W', J W' → VP i v W' → (∀ j, j < n → VP j (u j) W → VP j (u j) W') → K' (A.put o.dst v) W') → Oper.wp P o A W K' Q)
theorem wp_region_z {Q : Exit → Act → World → Prop} {id : Nat} {a : Act} {w : World} {l : List Oper} (n : Nat) (ds : List (Option Tmp)) (VP : Nat → Value → World → Prop) (J : World → Prop) (hm : P.follows .mixedOrders = true) (hB : tailsB2 .any l.toArray n = true) (hds : ds = (l.take n).map (·.dst)) (hs : slotsB ds = true)
  (hz : ds.all (fun d => match d with | some t => decide (t < a.tmps.size) | none => true) = true)
  (h0 : J w.drew)
  (step : ∀ i (hi : i < l.length), i < n → ∀ (u : Nat → Value) (W : World) (A : Act), J W → (∀ j, j < n → Region.waitsFor .any l.toArray i j = true → VP j (u j) W) →
   (∀ t, some t ∉ ds → A.tmps[t]? = a.tmps[t]?) → (∀ j d, ds[j]? = some (some d) → A.tmps[d]? = some (u j)) → OpZ P Q l[i] l.toArray A VP J n i u W)
  (fin : ∀ (u : Nat → Value) (W : World), J W → (∀ j, j < n → VP j (u j) W) → wpList P l.toArray Q (l.drop n) (layS a ds u 0) W) : (Code.region id l.toArray true).wp P Q a w := by
 have hl : n ≤ l.length := by
  have hB' := hB
  unfold tailsB2 at hB'
  simp only [Bool.and_eq_true, decide_eq_true_eq] at hB'
  simpa using hB'.1.1.1
 have hlen : ds.length = n := by rw [hds]; simp; omega
 refine wp_region_inv2 n (fun L a' W => ∃ u : Nat → Value, J W ∧ (∀ j, j < n → L j = true → VP j (u j) W) ∧ a' = layS a ds u 0) hm hB ⟨fun k => ((ds.getD k none).map fun t => a.tmps.getD t undef).getD undef, h0, nofun, ?_⟩ ?_ ?_
 ·
  refine (layS_self a ds _ 0 (fun j d hj => ?_)).symm
  have : ds.getD (0 + j) none = d := by rw [Nat.zero_add, List.getD_eq_getElem?_getD, hj]; rfl
  rw [this]
 ·
  rintro L a' W i hi ⟨u, hJ, hu, rfl⟩ _ hw
  have hil : i < l.length := Nat.lt_of_lt_of_le hi hl
  have hid : ds[i]? = some l[i].dst := by
   rw [hds]
   simp [List.getElem?_take, hi, hil]
  have hinn : ∀ j d, ds[j]? = some (some d) → (layS a ds u 0).tmps[d]? = some (u j) := by
   intro j d hj
   have hd' : d < a.tmps.size := by
    have := List.all_eq_true.1 hz _ (List.mem_of_getElem? hj)
    simpa using this
   have h1 := layS_in ds a u 0 j d hs hj hd'
   rwa [Nat.zero_add] at h1
  refine wpOp_step (o := l[i]) (by simp [hil]) (fun K' hK => ?_)
  have key : ∀ W' v, J W' → VP i v W' → (∀ j, j < n → VP j (u j) W → VP j (u j) W') → K' ((layS a ds u 0).put l[i].dst v) W' := by
   intro W' v hj hv hb
   rw [layS_put hs hid]
   refine hK _ _ ⟨updV u i v, hj, fun j hjn hLj => ?_, rfl⟩
   unfold updV
   by_cases h : j = i
   ·
    rw [if_pos h, h]; exact hv
   ·
    rw [if_neg h]
    rw [upd_ne h] at hLj
    exact hb j hjn (hu j hjn hLj)
  rcases step i hil hi u W _ hJ (fun j hjn hj => hu j hjn (hw j hj)) (fun t ht => layS_out _ _ _ _ _ ht) hinn with ⟨h1, h2⟩ | ⟨h1, h2⟩
  ·
   rw [if_neg (by rw [h1]; decide)]
   exact key W undef hJ h2 (fun _ _ h => h)
  ·
   rw [if_pos h1]
   exact h2 K' (fun v W' hj hv hb => key W' v hj hv hb)
 ·
  rintro a' W ⟨L, hL, u, hJ, hu, rfl⟩
  exact fin u W hJ (fun j hj => hu j hj (hL j hj))
end
structure Bl (w W : World) (l : List (Nat × Sp)) : Prop where
 below : Below w.heap.size w W
 at' : ∀ p, p ∈ l → B3 W p.1 p.2
theorem Bl.later {w W W' : World} {l : List (Nat × Sp)} (h : Bl w W l) (hb : Below W.heap.size W W') : Bl w W' l := ⟨h.below.trans (hb.mono h.below.size), fun p hp => (h.at' p hp).below hb⟩
theorem Bl.drew {w W : World} {l : List (Nat × Sp)} (h : Bl w W l) : Bl w W.drew l := ⟨h.below.drew, h.at'⟩
theorem Bl.new {w W : World} {l : List (Nat × Sp)} (h : Bl w W l) (x : Sp) : Bl w (W.alloc (.cells #[.int .i64 x.lo, .int .i64 x.hi, .bool x.all] 23)) ((W.heap.size, x) :: l) := by
 have hb : Below W.heap.size W (W.alloc (.cells #[.int .i64 x.lo, .int .i64 x.hi, .bool x.all] 23)) := (Below.refl _ _).alloc (Nat.le_refl _) _
 refine ⟨(h.later hb).below, fun p hp => ?_⟩
 rcases List.mem_cons.1 hp with rfl | hp
 ·
  exact b3_new W x
 ·
  exact (h.later hb).at' p hp
theorem Bl.lt {w W : World} {l : List (Nat × Sp)} (h : Bl w W l) : ∀ p, p ∈ l → p.1 < W.heap.size := fun p hp => (Array.getElem?_eq_some_iff.1 (h.at' p hp)).1
/-- In a region: the variables, all of them ahead of m. -/
structure Bm (w : World) (m : Nat) (l : List (Nat × Sp)) (W : World) : Prop where
 bl : Bl w W l
 le : m ≤ W.heap.size
 lt : ∀ p, p ∈ l → p.1 < m
 ge : w.heap.size ≤ m
theorem Bm.later {w W W' : World} {m : Nat} {l : List (Nat × Sp)} (h : Bm w m l W) (hb : Below W.heap.size W W') : Bm w m l W' := ⟨h.bl.later hb, Nat.le_trans h.le hb.size, h.lt, h.ge⟩
theorem Bm.far {w W : World} {m b : Nat} {l : List (Nat × Sp)} (h : Bm w m l W) (hb : m ≤ b) (x y z : Value) : Bm w m l (((W.setCell ⟨b, 0, none⟩ x).setCell ⟨b, 1, none⟩ y).setCell ⟨b, 2, none⟩ z) := by
 have h1 := h.le
 have h2 := h.ge
 refine ⟨⟨((h.bl.below.setCell (p := ⟨b, 0, none⟩) (by show w.heap.size ≤ b; omega) _).setCell (p := ⟨b, 1, none⟩) (by show w.heap.size ≤ b; omega) _).setCell (p := ⟨b, 2, none⟩) (by show w.heap.size ≤ b; omega) _, fun p hp => (h.bl.at' p hp).other (by have := h.lt p hp; omega) _ _ _⟩, ?_, h.lt, h.ge⟩
 rw [World.size_setCell, World.size_setCell, World.size_setCell]
 exact h1
/-- A value is a new variable's place. -/
def Pbox (m : Nat) (v : Value) (W : World) : Prop := ∃ (b : Nat) (x : Sp), v = .pointer (some ⟨b, 0, none⟩) ∧ m ≤ b ∧ B3 W b x
theorem Pbox.later {m : Nat} {v : Value} {W W' : World} (h : Pbox m v W) (hb : Below W.heap.size W W') : Pbox m v W' := by
 obtain ⟨b, x, e, h1, h2⟩ := h
 exact ⟨b, x, e, h1, h2.below hb⟩
theorem B3.any {W : World} {k b : Nat} {x y : Sp} (h : B3 W k x) (h' : B3 W b y) (z : Sp) : ∃ x', B3 (((W.setCell ⟨b, 0, none⟩ (.int .i64 z.lo)).setCell ⟨b, 1, none⟩ (.int .i64 z.hi)).setCell ⟨b, 2, none⟩ (.bool z.all)) k x' := by
 by_cases e : k = b
 ·
  subst e; exact ⟨z, h.self z⟩
 ·
  exact ⟨x, h.other e _ _ _⟩
end Go.Proofs.Ytpahkpcoinbgcaa
