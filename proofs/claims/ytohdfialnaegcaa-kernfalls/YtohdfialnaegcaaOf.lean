/- The walks of Of, Root, Quo, Small. -/
import Derived.Test.YtohdfialnaegcaaArith
namespace Go.Proofs.Ytohdfialnaegcaa
open Go.RowKit

theorem lmb0 (N : Nat) : lmb N 0 = N % 4294967296 := by unfold lmb; simp; rfl
theorem lmb1 {N : Nat} (h : N < 18446744073709551616) : lmb N 1 = N / 4294967296 := by
  unfold lmb; rw [Nat.pow_one]; exact Nat.mod_eq_of_lt (Nat.div_lt_of_lt_mul h)
theorem two_lt {N : Nat} (h : N < 18446744073709551616) : N < BB ^ 2 := h

/-- A place for a number that is a result, behind what was there. -/
structure ResAt (w w1 : World) (r : Nat) : Prop where
  below : Below w.heap.size w w1
  r0 : w1.cell? ⟨r, 0, none⟩ = some (.bool false)
  r1 : w1.cell? ⟨r, 1, none⟩ = some (.slice none 0 0)
  f0 : w1.frozen? ⟨r, 0, none⟩ = false
  f1 : w1.frozen? ⟨r, 1, none⟩ = false
  lo : w.heap.size ≤ r
  sz : r < w1.heap.size
theorem ResAt.later {w w1 w2 : World} {r : Nat} (h : ResAt w w1 r) (hb : Below w1.heap.size w1 w2) : ResAt w w2 r :=
  ⟨h.below.trans (hb.mono h.below.size), (hb.cell (p := ⟨r, 0, none⟩) h.sz).trans h.r0, (hb.cell (p := ⟨r, 1, none⟩) h.sz).trans h.r1, (hb.frozen (p := ⟨r, 0, none⟩) h.sz).trans h.f0, (hb.frozen (p := ⟨r, 1, none⟩) h.sz).trans h.f1, h.lo, Nat.lt_of_lt_of_le h.sz hb.size⟩
theorem res_mk (w : World) (t : TypeId) (o : Obj) : ResAt w ((w.alloc (.cells #[.bool false, .slice none 0 0] t)).alloc o) w.heap.size :=
  ResAt.later (w1 := w.alloc (.cells #[.bool false, .slice none 0 0] t)) ⟨(Below.refl w.heap.size w).alloc (Nat.le_refl _) _, by simp [go_sem], by simp [go_sem], by simp [go_sem], by simp [go_sem], Nat.le_refl _, by simp⟩ ((Below.refl _ _).alloc (Nat.le_refl _) _)

theorem of_neg {z : Int} (hz : z < 0) (h1 : -9223372036854775808 ≤ z) : IntKind.u64.wrap (-IntKind.u64.wrap z) % 4294967296 = ((lmb z.natAbs 0 : Nat) : Int) ∧ IntKind.u64.wrap (-IntKind.u64.wrap z) / 4294967296 % 4294967296 = ((lmb z.natAbs 1 : Nat) : Int) := by
  rw [IntKind.wrap_u64, IntKind.wrap_u64, lmb0, lmb1 (by omega)]
  omega
theorem of_pos {z : Int} (hz : ¬ z < 0) (h2 : z ≤ 9223372036854775807) : z % 4294967296 = ((lmb z.natAbs 0 : Nat) : Int) ∧ z / 4294967296 = ((lmb z.natAbs 1 : Nat) : Int) := by
  rw [lmb0, lmb1 (by omega)]
  omega

set_option maxRecDepth 100000 in
set_option maxHeartbeats 800000 in
theorem Of_any (z : Int) (w : World) (h1 : -9223372036854775808 ≤ z) (h2 : z ≤ 9223372036854775807) :
    Calls Try.prog 91 #[.int .i64 z] w (PNum z w) := by
  by_cases hz : z < 0
  · have HE := Lib.hid (of_neg hz h1)
    go_enter Try.func91, Try.ntmps91
    go_wp2_with fail
    rw [HE.out.1, HE.out.2]
    have hO := own_lit2 .u32 103 (w.alloc (.cells #[.bool false, .slice none 0 0] 81)) (lmb z.natAbs 0) (lmb z.natAbs 1) (lmb z.natAbs) rfl rfl
    rw [show (w.alloc (.cells #[.bool false, .slice none 0 0] 81)).heap.size = w.heap.size + 1 from by simp] at hO
    have hR := res_mk w 81 (.cells #[.int .u32 (lmb z.natAbs 0), .int .u32 (lmb z.natAbs 1)] 103)
    generalize (w.alloc (.cells #[.bool false, .slice none 0 0] 81)).alloc (.cells #[.int .u32 (lmb z.natAbs 0), .int .u32 (lmb z.natAbs 1)] 103) = w1 at *
    refine (made_any true _ 2 2 z.natAbs _ (hO.lie (Nat.le_refl _) (by unfold maxLen; omega)) (two_lt (by omega))).mono ?_
    rintro e w3 ⟨bl3, a3, n3, c3, rfl, hnum, haa, hb3⟩
    have hR3 := hR.later hb3
    have rB0 := hR3.r0
    have rB1 := hR3.r1
    have fB0 := hR3.f0
    have fB1 := hR3.f1
    go_wp2
    rw [show sg true z.natAbs = z from by simp [sg]; omega] at hnum
    refine bodyPost_ret (v := .agg #[.bool bl3, .slice a3 n3 c3]) (by simp [results, Try.results91, go_sem, rB0, rB1]) rfl ?_
    refine pnum_store hnum hR3.below (Nat.le_refl _) (fun p hp => ?_)
    rcases haa with h | h
    · rw [h] at hp; cases hp
    · rw [h] at hp; cases hp; show _ < w.heap.size + 1; omega
  · have HE := Lib.hid (of_pos hz h2)
    go_enter Try.func91, Try.ntmps91
    go_wp2_with fail
    rw [HE.out.1, HE.out.2]
    have hO := own_lit2 .u32 103 (w.alloc (.cells #[.bool false, .slice none 0 0] 81)) (lmb z.natAbs 0) (lmb z.natAbs 1) (lmb z.natAbs) rfl rfl
    rw [show (w.alloc (.cells #[.bool false, .slice none 0 0] 81)).heap.size = w.heap.size + 1 from by simp] at hO
    have hR := res_mk w 81 (.cells #[.int .u32 (lmb z.natAbs 0), .int .u32 (lmb z.natAbs 1)] 103)
    generalize (w.alloc (.cells #[.bool false, .slice none 0 0] 81)).alloc (.cells #[.int .u32 (lmb z.natAbs 0), .int .u32 (lmb z.natAbs 1)] 103) = w1 at *
    refine (made_any false _ 2 2 z.natAbs _ (hO.lie (Nat.le_refl _) (by unfold maxLen; omega)) (two_lt (by omega))).mono ?_
    rintro e w3 ⟨bl3, a3, n3, c3, rfl, hnum, haa, hb3⟩
    have hR3 := hR.later hb3
    have rB0 := hR3.r0
    have rB1 := hR3.r1
    have fB0 := hR3.f0
    have fB1 := hR3.f1
    go_wp2
    rw [show sg false z.natAbs = z from by simp [sg]; omega] at hnum
    refine bodyPost_ret (v := .agg #[.bool bl3, .slice a3 n3 c3]) (by simp [results, Try.results91, go_sem, rB0, rB1]) rfl ?_
    refine pnum_store hnum hR3.below (Nat.le_refl _) (fun p hp => ?_)
    rcases haa with h | h
    · rw [h] at hp; cases hp
    · rw [h] at hp; cases hp; show _ < w.heap.size + 1; omega
end Go.Proofs.Ytohdfialnaegcaa
