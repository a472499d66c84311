/- The walks of Mul, Add, Sub. -/
import Derived.Test.YtohdfialnaegcaaInts
namespace Go.Proofs.Ytohdfialnaegcaa
open Go.RowKit

/-- Two numbers in boxes of their own, and a place for the result, behind what was there. -/
structure Boxed (w w1 : World) (bl : Bool) (a : Option Addr) (n c : Nat) (bl' : Bool) (a' : Option Addr) (n' c' : Nat) : Prop where
  below : Below w.heap.size w w1
  k0 : w1.cell? ⟨w.heap.size, 0, none⟩ = some (.bool bl)
  k1 : w1.cell? ⟨w.heap.size, 1, none⟩ = some (.slice a n c)
  l0 : w1.cell? ⟨w.heap.size + 1, 0, none⟩ = some (.bool bl')
  l1 : w1.cell? ⟨w.heap.size + 1, 1, none⟩ = some (.slice a' n' c')
  r0 : w1.cell? ⟨w.heap.size + 2, 0, none⟩ = some (.bool false)
  r1 : w1.cell? ⟨w.heap.size + 2, 1, none⟩ = some (.slice none 0 0)
  f0 : w1.frozen? ⟨w.heap.size + 2, 0, none⟩ = false
  f1 : w1.frozen? ⟨w.heap.size + 2, 1, none⟩ = false
  sz : w.heap.size + 2 < w1.heap.size

theorem boxed_mk (w : World) (t : TypeId) (bl : Bool) (a : Option Addr) (n c : Nat) (bl' : Bool) (a' : Option Addr) (n' c' : Nat) :
    Boxed w (((w.alloc (.cells #[.bool bl, .slice a n c] t)).alloc (.cells #[.bool bl', .slice a' n' c'] t)).alloc (.cells #[.bool false, .slice none 0 0] t)) bl a n c bl' a' n' c' :=
  ⟨(((Below.refl w.heap.size w).alloc (Nat.le_refl _) _).alloc (by simp) _).alloc (by simp; omega) _, by simp [go_sem], by simp [go_sem], by simp [go_sem], by simp [go_sem], by simp [go_sem], by simp [go_sem], by simp [go_sem], by simp [go_sem], by simp⟩
theorem Boxed.later {w w1 w2 : World} {bl : Bool} {a : Option Addr} {n c : Nat} {bl' : Bool} {a' : Option Addr} {n' c' : Nat} (h : Boxed w w1 bl a n c bl' a' n' c') (hb : Below w1.heap.size w1 w2) : Boxed w w2 bl a n c bl' a' n' c' := by
  have hs := h.sz
  exact ⟨h.below.trans (hb.mono h.below.size), (hb.cell (p := ⟨w.heap.size, 0, none⟩) (by show w.heap.size < _; omega)).trans h.k0, (hb.cell (p := ⟨w.heap.size, 1, none⟩) (by show w.heap.size < _; omega)).trans h.k1,
    (hb.cell (p := ⟨w.heap.size + 1, 0, none⟩) (by show w.heap.size + 1 < _; omega)).trans h.l0, (hb.cell (p := ⟨w.heap.size + 1, 1, none⟩) (by show w.heap.size + 1 < _; omega)).trans h.l1,
    (hb.cell (p := ⟨w.heap.size + 2, 0, none⟩) hs).trans h.r0, (hb.cell (p := ⟨w.heap.size + 2, 1, none⟩) hs).trans h.r1, (hb.frozen (p := ⟨w.heap.size + 2, 0, none⟩) hs).trans h.f0, (hb.frozen (p := ⟨w.heap.size + 2, 1, none⟩) hs).trans h.f1,
    Nat.lt_of_lt_of_le hs hb.size⟩
theorem below_undrew {B : Nat} {w w' : World} (h : Below B w.drew w') : Below B w w' := ⟨h.os, h.tape, h.output, h.size, h.block⟩
theorem Boxed.drew {w w1 : World} {bl : Bool} {a : Option Addr} {n c : Nat} {bl' : Bool} {a' : Option Addr} {n' c' : Nat} (h : Boxed w w1 bl a n c bl' a' n' c') : Boxed w w1.drew bl a n c bl' a' n' c' := h.later (Below.refl _ _).drew
/-- What the loads of a region read, in a world of its run. -/
def HS (w : World) (bl : Bool) (a : Option Addr) (n c : Nat) (bl' : Bool) (a' : Option Addr) (n' c' : Nat) (w' : World) : Prop :=
  w'.cell? ⟨w.heap.size, 0, none⟩ = some (.bool bl) ∧ w'.cell? ⟨w.heap.size, 1, none⟩ = some (.slice a n c) ∧ w'.cell? ⟨w.heap.size + 1, 0, none⟩ = some (.bool bl') ∧ w'.cell? ⟨w.heap.size + 1, 1, none⟩ = some (.slice a' n' c')
theorem Boxed.hs {w w1 : World} {bl : Bool} {a : Option Addr} {n c : Nat} {bl' : Bool} {a' : Option Addr} {n' c' : Nat} (h : Boxed w w1 bl a n c bl' a' n' c') : HS w bl a n c bl' a' n' c' w1 := ⟨h.k0, h.k1, h.l0, h.l1⟩
theorem Boxed.hs2 {w w1 : World} {bl : Bool} {a : Option Addr} {n c : Nat} {bl' : Bool} {a' : Option Addr} {n' c' : Nat} (h : Boxed w w1 bl a n c bl' a' n' c') (u v : Value) : HS w bl a n c bl' a' n' c' ((w1.setCell ⟨w.heap.size + 2, 0, none⟩ u).setCell ⟨w.heap.size + 2, 1, none⟩ v) :=
  ⟨far2 h.k0 (by omega), far2 h.k1 (by omega), far2 h.l0 (by omega), far2 h.l1 (by omega)⟩
theorem sg_mul {bl bl' : Bool} {x y : Int} (h : bl = decide (x < 0)) (h' : bl' = decide (y < 0)) : sg (!(bl == bl')) (x.natAbs * y.natAbs) = x * y := by
  rw [← Int.natAbs_mul]
  unfold sg
  have e : (x * y).natAbs = x.natAbs * y.natAbs := Int.natAbs_mul x y
  by_cases hx : x < 0 <;> by_cases hy : y < 0
  · have : 0 ≤ x * y := Int.mul_nonneg_of_nonpos_of_nonpos (by omega) (by omega)
    simp [h, h', hx, hy]; omega
  · have : x * y ≤ 0 := Int.mul_nonpos_of_nonpos_of_nonneg (by omega) (by omega)
    simp [h, h', hx, hy]; omega
  · have : x * y ≤ 0 := Int.mul_nonpos_of_nonneg_of_nonpos (by omega) (by omega)
    simp [h, h', hx, hy]; omega
  · have : 0 ≤ x * y := Int.mul_nonneg (by omega) (by omega)
    simp [h, h', hx, hy]; omega

set_option maxHeartbeats 1600000 in
theorem Mul_any (bl : Bool) (a : Option Addr) (n c : Nat) (x : Int) (bl' : Bool) (a' : Option Addr) (n' c' : Nat) (y : Int) (w : World) (h : Num w bl a n c x) (h' : Num w bl' a' n' c' y) (hn : n ≤ 10000000) (hn' : n' ≤ 10000000) :
    Calls Try.prog 95 #[.agg #[.bool bl, .slice a n c], .agg #[.bool bl', .slice a' n' c']] w (PNum (x * y) w) := by
  have hfx := Lib.hid h.fit
  have hfy := Lib.hid h'.fit
  have hsg := Lib.hid (sg_mul h.sgn h'.sgn)
  have hl := h.lie
  have hl' := h'.lie
  clear h h'
  go_enter Try.func95, Try.ntmps95
  go_wp2
  have hX1 := boxed_mk w 81 bl a n c bl' a' n' c'
  generalize ((w.alloc (.cells #[.bool bl, .slice a n c] 81)).alloc (.cells #[.bool bl', .slice a' n' c'] 81)).alloc (.cells #[.bool false, .slice none 0 0] 81) = w1 at *
  go_region_held3 (fun w' => w'.cell? ⟨w.heap.size, 0, none⟩ = some (.bool bl) ∧ w'.cell? ⟨w.heap.size, 1, none⟩ = some (.slice a n c) ∧ w'.cell? ⟨w.heap.size + 1, 0, none⟩ = some (.bool bl') ∧ w'.cell? ⟨w.heap.size + 1, 1, none⟩ = some (.slice a' n' c'))
    (first | exact hX1.drew.hs | exact hX1.hs | exact hX2.hs | exact hX3.hs | exact hX3.hs2 _ _)
    (first
      | (go_at_call 101; refine (product_any a a' n c n' c' x.natAbs y.natAbs _ (hl.below hX1.drew.below) (hl'.below hX1.drew.below) hfx.out hfy.out (by omega) (by omega)).mono ?_; rintro e w2 ⟨a2, n2, c2, rfl, hl2, hf2, hfr2, hb2⟩; have hX2 := hX1.later (below_undrew hb2))
      | (go_at_call 98; refine (made_any _ _ n2 c2 _ _ hl2 hf2.1).mono ?_; rintro e w3 ⟨bl3, a3, n3, c3, rfl, hnum, haa, hb3⟩; have hX3 := hX2.later hb3; have rB0 := hX3.r0; have rB1 := hX3.r1; have fB0 := hX3.f0; have fB1 := hX3.f1))
  go_wp2
  rw [hsg.out] at hnum
  refine bodyPost_ret (v := .agg #[.bool bl3, .slice a3 n3 c3]) (by simp [results, Try.results95, go_sem, rB0, rB1]) rfl ?_
  refine pnum_store hnum hX3.below (by omega) (fun p hp => ?_)
  rcases haa with h | h
  · rw [h] at hp; cases hp
  · rw [h] at hp; have h1 := hfr2 p hp; have h2 := hX1.sz; have h3 : w1.heap.size ≤ p.block := h1; omega

theorem sg_add1 {bl bl' : Bool} {x y : Int} (h : bl = decide (x < 0)) (h' : bl' = decide (y < 0)) (hb : (bl == bl') = true) : sg bl (x.natAbs + y.natAbs) = x + y := by
  by_cases hx : x < 0 <;> by_cases hy : y < 0 <;> simp [h, h', hx, hy] at hb <;> simp [sg, h, hx] <;> omega
theorem sg_add2 {bl bl' : Bool} {x y : Int} (h : bl = decide (x < 0)) (h' : bl' = decide (y < 0)) (hb : (bl == bl') = false) (hc : x.natAbs < y.natAbs) : sg bl' (y.natAbs - x.natAbs) = x + y := by
  by_cases hx : x < 0 <;> by_cases hy : y < 0 <;> simp [h, h', hx, hy] at hb <;> simp [sg, h', hy] <;> omega
theorem sg_add3 {bl bl' : Bool} {x y : Int} (h : bl = decide (x < 0)) (h' : bl' = decide (y < 0)) (hb : (bl == bl') = false) (hc : ¬ x.natAbs < y.natAbs) : sg bl (x.natAbs - y.natAbs) = x + y := by
  by_cases hx : x < 0 <;> by_cases hy : y < 0 <;> simp [h, h', hx, hy] at hb <;> simp [sg, h, hx] <;> omega
theorem cmp_lt {A B : Nat} : decide (cmpN A B < 0) = decide (A < B) := by
  unfold cmpN
  by_cases h : A < B
  · rw [if_pos h]; simp [h]
  · rw [if_neg h]; by_cases h2 : B < A
    · rw [if_pos h2]; simp; omega
    · rw [if_neg h2]; simp; omega

set_option maxHeartbeats 1600000 in
theorem Add_any (bl : Bool) (a : Option Addr) (n c : Nat) (x : Int) (bl' : Bool) (a' : Option Addr) (n' c' : Nat) (y : Int) (w : World) (h : Num w bl a n c x) (h' : Num w bl' a' n' c' y) (hn : n ≤ 10000000) (hn' : n' ≤ 10000000) :
    Calls Try.prog 96 #[.agg #[.bool bl, .slice a n c], .agg #[.bool bl', .slice a' n' c']] w (PNum (x + y) w) := by
  have hfx := Lib.hid h.fit
  have hfy := Lib.hid h'.fit
  have hsx := Lib.hid h.sgn
  have hsy := Lib.hid h'.sgn
  have hl := h.lie
  have hl' := h'.lie
  clear h h'
  by_cases hbb : (bl == bl') = true
  · have hsg := Lib.hid (sg_add1 hsx.out hsy.out hbb)
    go_enter Try.func96, Try.ntmps96
    go_wp2
    have hX1 := boxed_mk w 81 bl a n c bl' a' n' c'
    generalize ((w.alloc (.cells #[.bool bl, .slice a n c] 81)).alloc (.cells #[.bool bl', .slice a' n' c'] 81)).alloc (.cells #[.bool false, .slice none 0 0] 81) = w1 at *
    go_region_held3 (fun w' => w'.cell? ⟨w.heap.size, 0, none⟩ = some (.bool bl) ∧ w'.cell? ⟨w.heap.size, 1, none⟩ = some (.slice a n c) ∧ w'.cell? ⟨w.heap.size + 1, 0, none⟩ = some (.bool bl') ∧ w'.cell? ⟨w.heap.size + 1, 1, none⟩ = some (.slice a' n' c'))
      (first | exact hX1.drew.hs | exact hX1.hs | exact hX2.hs | exact hX3.hs | exact hX3.hs2 _ _)
      (first
        | (go_at_call 102; refine (sum_any a a' n c n' c' x.natAbs y.natAbs _ (hl.below hX1.drew.below) (hl'.below hX1.drew.below) hfx.out hfy.out (by omega) (by omega)).mono ?_; rintro e w2 ⟨a2, n2, c2, rfl, hl2, hf2, hfr2, hb2⟩; have hX2 := hX1.later (below_undrew hb2))
        | (go_at_call 98; refine (made_any _ _ n2 c2 _ _ hl2 hf2.1).mono ?_; rintro e w3 ⟨bl3, a3, n3, c3, rfl, hnum, haa, hb3⟩; have hX3 := hX2.later hb3; have rB0 := hX3.r0; have rB1 := hX3.r1; have fB0 := hX3.f0; have fB1 := hX3.f1))
    go_wp2
    rw [hsg.out] at hnum
    refine bodyPost_ret (v := .agg #[.bool bl3, .slice a3 n3 c3]) (by simp [results, Try.results96, go_sem, rB0, rB1]) rfl ?_
    refine pnum_store hnum hX3.below (by omega) (fun p hp => ?_)
    rcases haa with h | h
    · rw [h] at hp; cases hp
    · rw [h] at hp; have h1 := hfr2 p hp; have h2 := hX1.sz; have h3 : w1.heap.size ≤ p.block := h1; omega
  · have hbb' : (bl == bl') = false := by simpa using hbb
    clear hbb
    go_enter Try.func96, Try.ntmps96
    go_wp2_with fail
    have hX1 := boxed_mk w 81 bl a n c bl' a' n' c'
    generalize ((w.alloc (.cells #[.bool bl, .slice a n c] 81)).alloc (.cells #[.bool bl', .slice a' n' c'] 81)).alloc (.cells #[.bool false, .slice none 0 0] 81) = w1 at *
    refine (compare_any a a' n c n' c' x.natAbs y.natAbs _ (hl.below hX1.below) (hl'.below hX1.below) hfx.out hfy.out).mono ?_
    rintro e w1' ⟨rfl, hbc⟩
    have hX1' := hX1.later hbc
    have hcl := cmp_lt (A := x.natAbs) (B := y.natAbs)
    clear hX1 hbc
    by_cases hc : x.natAbs < y.natAbs
    · have hcd : decide (cmpN x.natAbs y.natAbs < 0) = true := by rw [hcl]; exact decide_eq_true hc
      have hsg := Lib.hid (sg_add2 hsx.out hsy.out hbb' hc)
      have HC := Lib.hid hc
      clear hcl hc
      generalize hcc : cmpN x.natAbs y.natAbs = cc at *
      clear hcc
      go_wp2
      go_region_held3 (fun w' => w'.cell? ⟨w.heap.size, 0, none⟩ = some (.bool bl) ∧ w'.cell? ⟨w.heap.size, 1, none⟩ = some (.slice a n c) ∧ w'.cell? ⟨w.heap.size + 1, 0, none⟩ = some (.bool bl') ∧ w'.cell? ⟨w.heap.size + 1, 1, none⟩ = some (.slice a' n' c'))
        (first | exact hX1'.drew.hs | exact hX1'.hs | exact hX2.hs | exact hX3.hs | exact hX3.hs2 _ _)
        (first
          | (go_at_call 104; refine (difference_any a' a n' c' n c y.natAbs x.natAbs _ (hl'.below hX1'.drew.below) (hl.below hX1'.drew.below) hfy.out hfx.out (Nat.le_of_lt HC.out) (by omega)).mono ?_; rintro e w2 ⟨a2, n2, c2, rfl, hl2, hf2, hfr2, hb2⟩; have hX2 := hX1'.later (below_undrew hb2))
          | (go_at_call 98; refine (made_any _ _ n2 c2 _ _ hl2 hf2.1).mono ?_; rintro e w3 ⟨bl3, a3, n3, c3, rfl, hnum, haa, hb3⟩; have hX3 := hX2.later hb3; have rB0 := hX3.r0; have rB1 := hX3.r1; have fB0 := hX3.f0; have fB1 := hX3.f1))
      go_wp2
      rw [hsg.out] at hnum
      refine bodyPost_ret (v := .agg #[.bool bl3, .slice a3 n3 c3]) (by simp [results, Try.results96, go_sem, rB0, rB1]) rfl ?_
      refine pnum_store hnum hX3.below (by omega) (fun p hp => ?_)
      rcases haa with h | h
      · rw [h] at hp; cases hp
      · rw [h] at hp; have h1 := hfr2 p hp; have h2 := hX1'.sz; have h3 : w1'.heap.size ≤ p.block := h1; omega
    · have hcd : decide (cmpN x.natAbs y.natAbs < 0) = false := by rw [hcl]; exact decide_eq_false hc
      have hsg := Lib.hid (sg_add3 hsx.out hsy.out hbb' hc)
      have HC := Lib.hid hc
      clear hcl hc
      generalize hcc : cmpN x.natAbs y.natAbs = cc at *
      clear hcc
      go_wp2
      go_region_held3 (fun w' => w'.cell? ⟨w.heap.size, 0, none⟩ = some (.bool bl) ∧ w'.cell? ⟨w.heap.size, 1, none⟩ = some (.slice a n c) ∧ w'.cell? ⟨w.heap.size + 1, 0, none⟩ = some (.bool bl') ∧ w'.cell? ⟨w.heap.size + 1, 1, none⟩ = some (.slice a' n' c'))
        (first | exact hX1'.drew.hs | exact hX1'.hs | exact hX2.hs | exact hX3.hs | exact hX3.hs2 _ _)
        (first
          | (go_at_call 104; refine (difference_any a a' n c n' c' x.natAbs y.natAbs _ (hl.below hX1'.drew.below) (hl'.below hX1'.drew.below) hfx.out hfy.out (Nat.le_of_not_lt HC.out) (by omega)).mono ?_; rintro e w2 ⟨a2, n2, c2, rfl, hl2, hf2, hfr2, hb2⟩; have hX2 := hX1'.later (below_undrew hb2))
          | (go_at_call 98; refine (made_any _ _ n2 c2 _ _ hl2 hf2.1).mono ?_; rintro e w3 ⟨bl3, a3, n3, c3, rfl, hnum, haa, hb3⟩; have hX3 := hX2.later hb3; have rB0 := hX3.r0; have rB1 := hX3.r1; have fB0 := hX3.f0; have fB1 := hX3.f1))
      go_wp2
      rw [hsg.out] at hnum
      refine bodyPost_ret (v := .agg #[.bool bl3, .slice a3 n3 c3]) (by simp [results, Try.results96, go_sem, rB0, rB1]) rfl ?_
      refine pnum_store hnum hX3.below (by omega) (fun p hp => ?_)
      rcases haa with h | h
      · rw [h] at hp; cases hp
      · rw [h] at hp; have h1 := hfr2 p hp; have h2 := hX1'.sz; have h3 : w1'.heap.size ≤ p.block := h1; omega

set_option maxHeartbeats 1600000 in
theorem Sub_any (bl : Bool) (a : Option Addr) (n c : Nat) (x : Int) (bl' : Bool) (a' : Option Addr) (n' c' : Nat) (y : Int) (w : World) (h : Num w bl a n c x) (h' : Num w bl' a' n' c' y) (hn : n ≤ 10000000) (hn' : n' ≤ 10000000) :
    Calls Try.prog 107 #[.agg #[.bool bl, .slice a n c], .agg #[.bool bl', .slice a' n' c']] w (PNum (x - y) w) := by
  have H := Lib.hid h
  have H' := Lib.hid h'
  clear h h'
  go_enter Try.func107, Try.ntmps107
  go_wp2
  have hX1 := boxed_mk w 81 bl a n c bl' a' n' c'
  generalize ((w.alloc (.cells #[.bool bl, .slice a n c] 81)).alloc (.cells #[.bool bl', .slice a' n' c'] 81)).alloc (.cells #[.bool false, .slice none 0 0] 81) = w1 at *
  go_region_held3 (fun w' => w'.cell? ⟨w.heap.size, 0, none⟩ = some (.bool bl) ∧ w'.cell? ⟨w.heap.size, 1, none⟩ = some (.slice a n c) ∧ w'.cell? ⟨w.heap.size + 1, 0, none⟩ = some (.bool bl') ∧ w'.cell? ⟨w.heap.size + 1, 1, none⟩ = some (.slice a' n' c'))
    (first | exact hX1.drew.hs | exact hX1.hs | exact hX2.hs | exact hX3.hs | exact hX3.hs2 _ _)
    (first
      | (go_at_call 84; refine (Neg_any bl' a' n' c' y _ (H'.out.below hX1.drew.below) hn').mono ?_; rintro e w2 ⟨bl2, a2, n2, c2, rfl, hN2, hfr2, hb2⟩; have hX2 := hX1.later (below_undrew hb2); have hn2 : n2 ≤ 10000000 := Nat.le_trans (Nat.le_of_eq (fit_uniq hN2.fit (by rw [Int.natAbs_neg]; exact H'.out.fit))) hn')
      | (go_at_call 96; refine (Add_any bl a n c x bl2 a2 n2 c2 (-y) _ (H.out.below hX2.below) hN2 hn hn2).mono ?_; rintro e w3 ⟨bl3, a3, n3, c3, rfl, hnum, hfr3, hb3⟩; have hX3 := hX2.later hb3; have rB0 := hX3.r0; have rB1 := hX3.r1; have fB0 := hX3.f0; have fB1 := hX3.f1))
  go_wp2
  rw [← Int.sub_eq_add_neg] at hnum
  refine bodyPost_ret (v := .agg #[.bool bl3, .slice a3 n3 c3]) (by simp [results, Try.results107, go_sem, rB0, rB1]) rfl ?_
  refine pnum_store hnum hX3.below (by omega) (fun p hp => ?_)
  have h1 := hfr3 p hp; have h2 := hX2.sz; omega
end Go.Proofs.Ytohdfialnaegcaa
