/- The walks of package long's methods Sign, Cmp, Bits, Neg, Add, Mul. -/
import Derived.Test.YtohdfialnaegcaaRoot
import Derived.Test.YtohdfialnaegcaaDiff
namespace Go.Proofs.Ytohdfialnaegcaa
open Go.RowKit

/-- -1, 0, 1. -/
def sgnI (z : Int) : Int := if z < 0 then -1 else if z = 0 then 0 else 1

theorem Num.zero_iff {w : World} {bl : Bool} {a : Option Addr} {n c : Nat} {z : Int} (h : Num w bl a n c z) : n = 0 ↔ z = 0 := by
  rw [fit_pos h.fit]; omega

set_option maxHeartbeats 400000 in
theorem Sign_any (bl : Bool) (a : Option Addr) (n c : Nat) (z : Int) (w : World) (h : Num w bl a n c z) :
    Calls Try.prog 105 #[.agg #[.bool bl, .slice a n c]] w (PVal (.int .i64 (sgnI z)) w) := by
  have h1 := h.zero_iff
  have h2 := h.sgn
  clear h
  have hB := (Below.refl w.heap.size w).alloc (Nat.le_refl _) (.cells #[.bool bl, .slice a n c] 81)
  cases bl
  · have hz : ¬ z < 0 := by simpa using h2.symm
    by_cases h0 : n = 0
    · subst h0
      have HR : Hid (sgnI z = 0) := by show _ = _; unfold sgnI; rw [if_neg hz, if_pos (h1.1 rfl)]
      clear h1 h2 hz
      go_enter Try.func105, Try.ntmps105
      go_wp2
      go_ret
      exact ⟨ret_int HR.out.symm, hB⟩
    · have HR : Hid (sgnI z = 1) := by show _ = _; unfold sgnI; rw [if_neg hz, if_neg (fun e => h0 (h1.2 e))]
      have h0' : ((n : Int) == 0) = false := by simpa using h0
      clear h1 h2 hz h0
      go_enter Try.func105, Try.ntmps105
      go_wp2
      go_ret
      exact ⟨ret_int HR.out.symm, hB⟩
  · have hz : z < 0 := by simpa using h2.symm
    have HR : Hid (sgnI z = -1) := by show _ = _; unfold sgnI; rw [if_pos hz]
    clear h1 h2 hz
    go_enter Try.func105, Try.ntmps105
    go_wp2
    go_ret
    exact ⟨ret_int HR.out.symm, hB⟩

/-- How two numbers stand to one another: -1, 0, 1. -/
def cmpI (x y : Int) : Int := if x < y then -1 else if y < x then 1 else 0

theorem only2 (w : World) (b : Nat) (u v : Value) : Only b w ((w.setCell ⟨b, 0, none⟩ u).setCell ⟨b, 1, none⟩ v) := (Only.setCell w b 0 u).trans (Only.setCell _ b 1 v)
theorem far2 {w : World} {b b' o : Nat} {u v x : Value} (h : w.cell? ⟨b, o, none⟩ = some x) (hne : b ≠ b') : ((w.setCell ⟨b', 0, none⟩ u).setCell ⟨b', 1, none⟩ v).cell? ⟨b, o, none⟩ = some x :=
  (World.cell?_of_block (w := w) (a := ⟨b, o, none⟩) ((only2 w b' u v).block b hne)).trans h
theorem Num.only {w w' : World} {bl : Bool} {a : Option Addr} {n c g : Nat} {z : Int} (h : Num w bl a n c z) (ho : Only g w w') (hg : ∀ p, a = some p → p.block ≠ g) : Num w' bl a n c z := ⟨h.lie.only ho hg, h.fit, h.sgn⟩
theorem sg_not {bl : Bool} {z : Int} (h : bl = decide (z < 0)) : sg (!bl) z.natAbs = -z := by
  subst h
  by_cases hz : z < 0
  · simp [sg, hz]; omega
  · simp [sg, hz]; omega
/-- Behind a store of a number into a result's block: it is handed back. -/
theorem pnum_store {w w3 : World} {bl : Bool} {a : Option Addr} {n c r : Nat} {z : Int} (hn : Num w3 bl a n c z) (hB : Below w.heap.size w w3) (hr : w.heap.size ≤ r) (hfr : ∀ p, a = some p → r < p.block) :
    PNum z w (.returned (.agg #[.bool bl, .slice a n c])) ((w3.setCell ⟨r, 0, none⟩ (.bool bl)).setCell ⟨r, 1, none⟩ (.slice a n c)) :=
  ⟨bl, a, n, c, rfl, hn.only (only2 _ _ _ _) (fun p hp => by have := hfr p hp; omega), (fun p hp => by have := hfr p hp; omega), hB.trans ((only2 _ _ _ _).below hr)⟩

set_option maxHeartbeats 800000 in
theorem Neg_any (bl : Bool) (a : Option Addr) (n c : Nat) (z : Int) (w : World) (h : Num w bl a n c z) (hn : n ≤ 10000000) :
    Calls Try.prog 84 #[.agg #[.bool bl, .slice a n c]] w (PNum (-z) w) := by
  have hl := h.lie
  have hf := Lib.hid h.fit
  have hsg := Lib.hid h.sgn
  clear h
  go_enter Try.func84, Try.ntmps84
  go_wp2
  have hB := ((Below.refl w.heap.size w).alloc (Nat.le_refl _) (.cells #[.bool bl, .slice a n c] 81)).alloc (by simp) (.cells #[.bool false, .slice none 0 0] 81)
  obtain ⟨w1, hw1⟩ : ∃ w1, w1 = (w.alloc (.cells #[.bool bl, .slice a n c] 81)).alloc (.cells #[.bool false, .slice none 0 0] 81) := ⟨_, rfl⟩
  have k0 : w1.cell? ⟨w.heap.size, 0, none⟩ = some (.bool bl) := by rw [hw1]; simp
  have k1 : w1.cell? ⟨w.heap.size, 1, none⟩ = some (.slice a n c) := by rw [hw1]; simp
  have r0 : w1.cell? ⟨w.heap.size + 1, 0, none⟩ = some (.bool false) := by rw [hw1]; simp
  have r1 : w1.cell? ⟨w.heap.size + 1, 1, none⟩ = some (.slice none 0 0) := by rw [hw1]; simp
  have f0 : w1.frozen? ⟨w.heap.size + 1, 0, none⟩ = false := by rw [hw1]; simp
  have f1 : w1.frozen? ⟨w.heap.size + 1, 1, none⟩ = false := by rw [hw1]; simp
  have hsz : w1.heap.size = w.heap.size + 2 := by rw [hw1]; simp
  rw [← hw1] at hB ⊢
  clear hw1
  have hsz' : w.heap.size + 1 < w1.heap.size := by omega
  clear hsz
  go_region_held3 (fun w' => w'.cell? ⟨w.heap.size, 0, none⟩ = some (.bool bl) ∧ w'.cell? ⟨w.heap.size, 1, none⟩ = some (.slice a n c) ∧ Below w.heap.size w w')
    (first | exact ⟨k0, k1, hB.drew⟩ | exact ⟨kA0, kA1, hBA⟩ | exact ⟨kB0, kB1, hBB⟩ | exact ⟨far2 kB0 (by omega), far2 kB1 (by omega), hBB.trans ((only2 _ _ _ _).below (by omega))⟩)
    (first
      | (go_at_call 99; refine (copied_any a n c (lmb z.natAbs) _ (hl.below hB.drew) (by omega)).mono ?_; rintro e w2 ⟨g, rfl, hg, hown, hb2⟩; have hb2' : Below w1.heap.size w1 w2 := ⟨hb2.os, hb2.tape, hb2.output, hb2.size, hb2.block⟩; have kA0 := (hb2'.cell (p := ⟨w.heap.size, 0, none⟩) (by show w.heap.size < _; omega)).trans k0; have kA1 := (hb2'.cell (p := ⟨w.heap.size, 1, none⟩) (by show w.heap.size < _; omega)).trans k1; have hBA := hB.trans (hb2'.mono hB.size))
      | (go_at_call 98; refine (made_any (!bl) _ n n z.natAbs _ (hown.lie (Nat.le_refl _) (by unfold maxLen; omega)) hf.out.1).mono ?_; rintro e w3 ⟨bl', a', n', c', rfl, hnum, haa, hb3⟩; have hb13 := hb2'.trans (hb3.mono hb2'.size); have kB0 := (hb13.cell (p := ⟨w.heap.size, 0, none⟩) (by show w.heap.size < _; omega)).trans k0; have kB1 := (hb13.cell (p := ⟨w.heap.size, 1, none⟩) (by show w.heap.size < _; omega)).trans k1; have hBB := hB.trans (hb13.mono hB.size); have rB0 := (hb13.cell (p := ⟨w.heap.size + 1, 0, none⟩) hsz').trans r0; have rB1 := (hb13.cell (p := ⟨w.heap.size + 1, 1, none⟩) hsz').trans r1; have fB0 := (hb13.frozen (p := ⟨w.heap.size + 1, 0, none⟩) hsz').trans f0; have fB1 := (hb13.frozen (p := ⟨w.heap.size + 1, 1, none⟩) hsz').trans f1))
  go_wp2
  rw [sg_not hsg.out] at hnum
  refine bodyPost_ret (v := .agg #[.bool bl', .slice a' n' c']) (by simp [results, Try.results84, go_sem, rB0, rB1]) rfl ?_
  refine pnum_store hnum hBB (by omega) (fun p hp => ?_)
  rcases haa with h | h
  · rw [h] at hp; cases hp
  · rw [h] at hp; cases hp; have := hb2'.size; show _ < g; have hg' : w1.heap.size ≤ g := hg; omega
end Go.Proofs.Ytohdfialnaegcaa
