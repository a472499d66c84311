/- The walks of Mul, Add, Sub. -/
import Derived.Test.YtpacbipencmjnaaDoorGr4
import Derived.Test.YtpacbipencmjnaaDoorGr3
namespace Go.Proofs.YtpacbipencmjnaaDoor
open Go.RowKit

/-- Two numbers in boxes of their own, and a place for the result, behind what was there. -/
structure Boxed (w w1 : World) (bl : Bool) (a : Option Addr) (n c : Nat) (bl' : Bool) (a' : Option Addr) (n' c' : Nat) : Prop where
  below : Below w.heap.size w w1
  k0 : w1.cell? ⟨w.heap.size, 0, none⟩ = some (.bool bl)
  k1 : w1.cell? ⟨w.heap.size, 1, none⟩ = some (.slice a n c)
  l0 : w1.cell? ⟨w.heap.size + 1, 0, none⟩ = some (.bool bl')
  l1 : w1.cell? ⟨w.heap.size + 1, 1, none⟩ = some (.slice a' n' c')
  r0 : w1.cell? ⟨w.heap.size + 2, 0, none⟩ = some (.bool false)
  r1 : w1.cell? ⟨w.heap.size + 2, 1, none⟩ = some (.slice none 0 0)
  f0 : w1.frozen? ⟨w.heap.size + 2, 0, none⟩ = false
  f1 : w1.frozen? ⟨w.heap.size + 2, 1, none⟩ = false
  sz : w.heap.size + 2 < w1.heap.size

theorem boxed_mk (w : World) (t : TypeId) (bl : Bool) (a : Option Addr) (n c : Nat) (bl' : Bool) (a' : Option Addr) (n' c' : Nat) :
    Boxed w (((w.alloc (.cells #[.bool bl, .slice a n c] t)).alloc (.cells #[.bool bl', .slice a' n' c'] t)).alloc (.cells #[.bool false, .slice none 0 0] t)) bl a n c bl' a' n' c' :=
  ⟨(((Below.refl w.heap.size w).alloc (Nat.le_refl _) _).alloc (by simp) _).alloc (by simp; omega) _, by simp [go_sem], by simp [go_sem], by simp [go_sem], by simp [go_sem], by simp [go_sem], by simp [go_sem], by simp [go_sem], by simp [go_sem], by simp⟩
theorem Boxed.later {w w1 w2 : World} {bl : Bool} {a : Option Addr} {n c : Nat} {bl' : Bool} {a' : Option Addr} {n' c' : Nat} (h : Boxed w w1 bl a n c bl' a' n' c') (hb : Below w1.heap.size w1 w2) : Boxed w w2 bl a n c bl' a' n' c' := by
  have hs := h.sz
  exact ⟨h.below.trans (hb.mono h.below.size), (hb.cell (p := ⟨w.heap.size, 0, none⟩) (by show w.heap.size < _; omega)).trans h.k0, (hb.cell (p := ⟨w.heap.size, 1, none⟩) (by show w.heap.size < _; omega)).trans h.k1,
    (hb.cell (p := ⟨w.heap.size + 1, 0, none⟩) (by show w.heap.size + 1 < _; omega)).trans h.l0, (hb.cell (p := ⟨w.heap.size + 1, 1, none⟩) (by show w.heap.size + 1 < _; omega)).trans h.l1,
    (hb.cell (p := ⟨w.heap.size + 2, 0, none⟩) hs).trans h.r0, (hb.cell (p := ⟨w.heap.size + 2, 1, none⟩) hs).trans h.r1, (hb.frozen (p := ⟨w.heap.size + 2, 0, none⟩) hs).trans h.f0, (hb.frozen (p := ⟨w.heap.size + 2, 1, none⟩) hs).trans h.f1,
    Nat.lt_of_lt_of_le hs hb.size⟩
theorem below_undrew {B : Nat} {w w' : World} (h : Below B w.drew w') : Below B w w' := ⟨h.os, h.tape, h.output, h.size, h.block⟩
theorem Boxed.drew {w w1 : World} {bl : Bool} {a : Option Addr} {n c : Nat} {bl' : Bool} {a' : Option Addr} {n' c' : Nat} (h : Boxed w w1 bl a n c bl' a' n' c') : Boxed w w1.drew bl a n c bl' a' n' c' := h.later (Below.refl _ _).drew
/-- What the loads of a region read, in a world of its run. -/
def HS (w : World) (bl : Bool) (a : Option Addr) (n c : Nat) (bl' : Bool) (a' : Option Addr) (n' c' : Nat) (w' : World) : Prop :=
  w'.cell? ⟨w.heap.size, 0, none⟩ = some (.bool bl) ∧ w'.cell? ⟨w.heap.size, 1, none⟩ = some (.slice a n c) ∧ w'.cell? ⟨w.heap.size + 1, 0, none⟩ = some (.bool bl') ∧ w'.cell? ⟨w.heap.size + 1, 1, none⟩ = some (.slice a' n' c')
theorem Boxed.hs {w w1 : World} {bl : Bool} {a : Option Addr} {n c : Nat} {bl' : Bool} {a' : Option Addr} {n' c' : Nat} (h : Boxed w w1 bl a n c bl' a' n' c') : HS w bl a n c bl' a' n' c' w1 := ⟨h.k0, h.k1, h.l0, h.l1⟩
theorem Boxed.hs2 {w w1 : World} {bl : Bool} {a : Option Addr} {n c : Nat} {bl' : Bool} {a' : Option Addr} {n' c' : Nat} (h : Boxed w w1 bl a n c bl' a' n' c') (u v : Value) : HS w bl a n c bl' a' n' c' ((w1.setCell ⟨w.heap.size + 2, 0, none⟩ u).setCell ⟨w.heap.size + 2, 1, none⟩ v) :=
  ⟨far2 h.k0 (by omega), far2 h.k1 (by omega), far2 h.l0 (by omega), far2 h.l1 (by omega)⟩
theorem sg_mul {bl bl' : Bool} {x y : Int} (h : bl = decide (x < 0)) (h' : bl' = decide (y < 0)) : sg (!(bl == bl')) (x.natAbs * y.natAbs) = x * y := by
  rw [← Int.natAbs_mul]
  unfold sg
  have e : (x * y).natAbs = x.natAbs * y.natAbs := Int.natAbs_mul x y
  by_cases hx : x < 0 <;> by_cases hy : y < 0
  · have : 0 ≤ x * y := Int.mul_nonneg_of_nonpos_of_nonpos (by omega) (by omega)
    simp [h, h', hx, hy]; omega
  · have : x * y ≤ 0 := Int.mul_nonpos_of_nonpos_of_nonneg (by omega) (by omega)
    simp [h, h', hx, hy]; omega
  · have : x * y ≤ 0 := Int.mul_nonpos_of_nonneg_of_nonpos (by omega) (by omega)
    simp [h, h', hx, hy]; omega
  · have : 0 ≤ x * y := Int.mul_nonneg (by omega) (by omega)
    simp [h, h', hx, hy]; omega

set_option maxHeartbeats 1600000 in
theorem Mul_any (bl : Bool) (a : Option Addr) (n c : Nat) (x : Int) (bl' : Bool) (a' : Option Addr) (n' c' : Nat) (y : Int) (w : World) (h : Num w bl a n c x) (h' : Num w bl' a' n' c' y) (hn : n ≤ 10000000) (hn' : n' ≤ 10000000) :
    Calls Tryd.prog 15 #[.agg #[.bool bl, .slice a n c], .agg #[.bool bl', .slice a' n' c']] w (PNum (x * y) w) := by
  have hfx := Lib.hid h.fit
  have hfy := Lib.hid h'.fit
  have hsg := Lib.hid (sg_mul h.sgn h'.sgn)
  have hl := h.lie
  have hl' := h'.lie
  clear h h'
  go_enter Tryd.func15, Tryd.ntmps15
  go_wp2
  have hX1 := boxed_mk w 25 bl a n c bl' a' n' c'
  generalize ((w.alloc (.cells #[.bool bl, .slice a n c] 25)).alloc (.cells #[.bool bl', .slice a' n' c'] 25)).alloc (.cells #[.bool false, .slice none 0 0] 25) = w1 at *
  go_region_held3 (fun w' => w'.cell? ⟨w.heap.size, 0, none⟩ = some (.bool bl) ∧ w'.cell? ⟨w.heap.size, 1, none⟩ = some (.slice a n c) ∧ w'.cell? ⟨w.heap.size + 1, 0, none⟩ = some (.bool bl') ∧ w'.cell? ⟨w.heap.size + 1, 1, none⟩ = some (.slice a' n' c'))
    (first | exact hX1.drew.hs | exact hX1.hs | exact hX2.hs | exact hX3.hs | exact hX3.hs2 _ _)
    (first
      | (go_at_call 34; refine (product_any a a' n c n' c' x.natAbs y.natAbs _ (hl.below hX1.drew.below) (hl'.below hX1.drew.below) hfx.out hfy.out (by omega) (by omega)).mono ?_; rintro e w2 ⟨a2, n2, c2, rfl, hl2, hf2, hfr2, hb2⟩; have hX2 := hX1.later (below_undrew hb2))
      | (go_at_call 19; refine (made_any _ _ n2 c2 _ _ hl2 hf2.1).mono ?_; rintro e w3 ⟨bl3, a3, n3, c3, rfl, hnum, haa, hb3⟩; have hX3 := hX2.later hb3; have rB0 := hX3.r0; have rB1 := hX3.r1; have fB0 := hX3.f0; have fB1 := hX3.f1))
  go_wp2
  rw [hsg.out] at hnum
  refine bodyPost_ret (v := .agg #[.bool bl3, .slice a3 n3 c3]) (by simp [results, Tryd.results15, go_sem, rB0, rB1]) rfl ?_
  refine pnum_store hnum hX3.below (by omega) (fun p hp => ?_)
  rcases haa with h | h
  · rw [h] at hp; cases hp
  · rw [h] at hp; have h1 := hfr2 p hp; have h2 := hX1.sz; have h3 : w1.heap.size ≤ p.block := h1; omega

theorem sg_add1 {bl bl' : Bool} {x y : Int} (h : bl = decide (x < 0)) (h' : bl' = decide (y < 0)) (hb : (bl == bl') = true) : sg bl (x.natAbs + y.natAbs) = x + y := by
  by_cases hx : x < 0 <;> by_cases hy : y < 0 <;> simp [h, h', hx, hy] at hb <;> simp [sg, h, hx] <;> omega
theorem sg_add2 {bl bl' : Bool} {x y : Int} (h : bl = decide (x < 0)) (h' : bl' = decide (y < 0)) (hb : (bl == bl') = false) (hc : x.natAbs < y.natAbs) : sg bl' (y.natAbs - x.natAbs) = x + y := by
  by_cases hx : x < 0 <;> by_cases hy : y < 0 <;> simp [h, h', hx, hy] at hb <;> simp [sg, h', hy] <;> omega
theorem sg_add3 {bl bl' : Bool} {x y : Int} (h : bl = decide (x < 0)) (h' : bl' = decide (y < 0)) (hb : (bl == bl') = false) (hc : ¬ x.natAbs < y.natAbs) : sg bl (x.natAbs - y.natAbs) = x + y := by
  by_cases hx : x < 0 <;> by_cases hy : y < 0 <;> simp [h, h', hx, hy] at hb <;> simp [sg, h, hx] <;> omega
theorem cmp_lt {A B : Nat} : decide (cmpN A B < 0) = decide (A < B) := by
  unfold cmpN
  by_cases h : A < B
  · rw [if_pos h]; simp [h]
  · rw [if_neg h]; by_cases h2 : B < A
    · rw [if_pos h2]; simp; omega
    · rw [if_neg h2]; simp; omega

set_option maxHeartbeats 1600000 in
theorem Add_any (bl : Bool) (a : Option Addr) (n c : Nat) (x : Int) (bl' : Bool) (a' : Option Addr) (n' c' : Nat) (y : Int) (w : World) (h : Num w bl a n c x) (h' : Num w bl' a' n' c' y) (hn : n ≤ 10000000) (hn' : n' ≤ 10000000) :
    Calls Tryd.prog 37 #[.agg #[.bool bl, .slice a n c], .agg #[.bool bl', .slice a' n' c']] w (PNum (x + y) w) := by
  have hfx := Lib.hid h.fit
  have hfy := Lib.hid h'.fit
  have hsx := Lib.hid h.sgn
  have hsy := Lib.hid h'.sgn
  have hl := h.lie
  have hl' := h'.lie
  clear h h'
  by_cases hbb : (bl == bl') = true
  · have hsg := Lib.hid (sg_add1 hsx.out hsy.out hbb)
    go_enter Tryd.func37, Tryd.ntmps37
    go_wp2
    have hX1 := boxed_mk w 25 bl a n c bl' a' n' c'
    generalize ((w.alloc (.cells #[.bool bl, .slice a n c] 25)).alloc (.cells #[.bool bl', .slice a' n' c'] 25)).alloc (.cells #[.bool false, .slice none 0 0] 25) = w1 at *
    go_region_held3 (fun w' => w'.cell? ⟨w.heap.size, 0, none⟩ = some (.bool bl) ∧ w'.cell? ⟨w.heap.size, 1, none⟩ = some (.slice a n c) ∧ w'.cell? ⟨w.heap.size + 1, 0, none⟩ = some (.bool bl') ∧ w'.cell? ⟨w.heap.size + 1, 1, none⟩ = some (.slice a' n' c'))
      (first | exact hX1.drew.hs | exact hX1.hs | exact hX2.hs | exact hX3.hs | exact hX3.hs2 _ _)
      (first
        | (go_at_call 41; refine (sum_any a a' n c n' c' x.natAbs y.natAbs _ (hl.below hX1.drew.below) (hl'.below hX1.drew.below) hfx.out hfy.out (by omega) (by omega)).mono ?_; rintro e w2 ⟨a2, n2, c2, rfl, hl2, hf2, hfr2, hb2⟩; have hX2 := hX1.later (below_undrew hb2))
        | (go_at_call 19; refine (made_any _ _ n2 c2 _ _ hl2 hf2.1).mono ?_; rintro e w3 ⟨bl3, a3, n3, c3, rfl, hnum, haa, hb3⟩; have hX3 := hX2.later hb3; have rB0 := hX3.r0; have rB1 := hX3.r1; have fB0 := hX3.f0; have fB1 := hX3.f1))
    go_wp2
    rw [hsg.out] at hnum
    refine bodyPost_ret (v := .agg #[.bool bl3, .slice a3 n3 c3]) (by simp [results, Tryd.results37, go_sem, rB0, rB1]) rfl ?_
    refine pnum_store hnum hX3.below (by omega) (fun p hp => ?_)
    rcases haa with h | h
    · rw [h] at hp; cases hp
    · rw [h] at hp; have h1 := hfr2 p hp; have h2 := hX1.sz; have h3 : w1.heap.size ≤ p.block := h1; omega
  · have hbb' : (bl == bl') = false := by simpa using hbb
    clear hbb
    go_enter Tryd.func37, Tryd.ntmps37
    go_wp2_with fail
    have hX1 := boxed_mk w 25 bl a n c bl' a' n' c'
    generalize ((w.alloc (.cells #[.bool bl, .slice a n c] 25)).alloc (.cells #[.bool bl', .slice a' n' c'] 25)).alloc (.cells #[.bool false, .slice none 0 0] 25) = w1 at *
    refine (compare_any a a' n c n' c' x.natAbs y.natAbs _ (hl.below hX1.below) (hl'.below hX1.below) hfx.out hfy.out).mono ?_
    rintro e w1' ⟨rfl, hbc⟩
    have hX1' := hX1.later hbc
    have hcl := cmp_lt (A := x.natAbs) (B := y.natAbs)
    clear hX1 hbc
    by_cases hc : x.natAbs < y.natAbs
    · have hcd : decide (cmpN x.natAbs y.natAbs < 0) = true := by rw [hcl]; exact decide_eq_true hc
      have hsg := Lib.hid (sg_add2 hsx.out hsy.out hbb' hc)
      have HC := Lib.hid hc
      clear hcl hc
      generalize hcc : cmpN x.natAbs y.natAbs = cc at *
      clear hcc
      go_wp2
      go_region_held3 (fun w' => w'.cell? ⟨w.heap.size, 0, none⟩ = some (.bool bl) ∧ w'.cell? ⟨w.heap.size, 1, none⟩ = some (.slice a n c) ∧ w'.cell? ⟨w.heap.size + 1, 0, none⟩ = some (.bool bl') ∧ w'.cell? ⟨w.heap.size + 1, 1, none⟩ = some (.slice a' n' c'))
        (first | exact hX1'.drew.hs | exact hX1'.hs | exact hX2.hs | exact hX3.hs | exact hX3.hs2 _ _)
        (first
          | (go_at_call 61; refine (difference_any a' a n' c' n c y.natAbs x.natAbs _ (hl'.below hX1'.drew.below) (hl.below hX1'.drew.below) hfy.out hfx.out (Nat.le_of_lt HC.out) (by omega)).mono ?_; rintro e w2 ⟨a2, n2, c2, rfl, hl2, hf2, hfr2, hb2⟩; have hX2 := hX1'.later (below_undrew hb2))
          | (go_at_call 19; refine (made_any _ _ n2 c2 _ _ hl2 hf2.1).mono ?_; rintro e w3 ⟨bl3, a3, n3, c3, rfl, hnum, haa, hb3⟩; have hX3 := hX2.later hb3; have rB0 := hX3.r0; have rB1 := hX3.r1; have fB0 := hX3.f0; have fB1 := hX3.f1))
      go_wp2
      rw [hsg.out] at hnum
      refine bodyPost_ret (v := .agg #[.bool bl3, .slice a3 n3 c3]) (by simp [results, Tryd.results37, go_sem, rB0, rB1]) rfl ?_
      refine pnum_store hnum hX3.below (by omega) (fun p hp => ?_)
      rcases haa with h | h
      · rw [h] at hp; cases hp
      · rw [h] at hp; have h1 := hfr2 p hp; have h2 := hX1'.sz; have h3 : w1'.heap.size ≤ p.block := h1; omega
    · have hcd : decide (cmpN x.natAbs y.natAbs < 0) = false := by rw [hcl]; exact decide_eq_false hc
      have hsg := Lib.hid (sg_add3 hsx.out hsy.out hbb' hc)
      have HC := Lib.hid hc
      clear hcl hc
      generalize hcc : cmpN x.natAbs y.natAbs = cc at *
      clear hcc
      go_wp2
      go_region_held3 (fun w' => w'.cell? ⟨w.heap.size, 0, none⟩ = some (.bool bl) ∧ w'.cell? ⟨w.heap.size, 1, none⟩ = some (.slice a n c) ∧ w'.cell? ⟨w.heap.size + 1, 0, none⟩ = some (.bool bl') ∧ w'.cell? ⟨w.heap.size + 1, 1, none⟩ = some (.slice a' n' c'))
        (first | exact hX1'.drew.hs | exact hX1'.hs | exact hX2.hs | exact hX3.hs | exact hX3.hs2 _ _)
        (first
          | (go_at_call 61; refine (difference_any a a' n c n' c' x.natAbs y.natAbs _ (hl.below hX1'.drew.below) (hl'.below hX1'.drew.below) hfx.out hfy.out (Nat.le_of_not_lt HC.out) (by omega)).mono ?_; rintro e w2 ⟨a2, n2, c2, rfl, hl2, hf2, hfr2, hb2⟩; have hX2 := hX1'.later (below_undrew hb2))
          | (go_at_call 19; refine (made_any _ _ n2 c2 _ _ hl2 hf2.1).mono ?_; rintro e w3 ⟨bl3, a3, n3, c3, rfl, hnum, haa, hb3⟩; have hX3 := hX2.later hb3; have rB0 := hX3.r0; have rB1 := hX3.r1; have fB0 := hX3.f0; have fB1 := hX3.f1))
      go_wp2
      rw [hsg.out] at hnum
      refine bodyPost_ret (v := .agg #[.bool bl3, .slice a3 n3 c3]) (by simp [results, Tryd.results37, go_sem, rB0, rB1]) rfl ?_
      refine pnum_store hnum hX3.below (by omega) (fun p hp => ?_)
      rcases haa with h | h
      · rw [h] at hp; cases hp
      · rw [h] at hp; have h1 := hfr2 p hp; have h2 := hX1'.sz; have h3 : w1'.heap.size ≤ p.block := h1; omega

set_option maxHeartbeats 1600000 in
theorem Sub_any (bl : Bool) (a : Option Addr) (n c : Nat) (x : Int) (bl' : Bool) (a' : Option Addr) (n' c' : Nat) (y : Int) (w : World) (h : Num w bl a n c x) (h' : Num w bl' a' n' c' y) (hn : n ≤ 10000000) (hn' : n' ≤ 10000000) :
    Calls Tryd.prog 36 #[.agg #[.bool bl, .slice a n c], .agg #[.bool bl', .slice a' n' c']] w (PNum (x - y) w) := by
  have H := Lib.hid h
  have H' := Lib.hid h'
  clear h h'
  go_enter Tryd.func36, Tryd.ntmps36
  go_wp2
  have hX1 := boxed_mk w 25 bl a n c bl' a' n' c'
  generalize ((w.alloc (.cells #[.bool bl, .slice a n c] 25)).alloc (.cells #[.bool bl', .slice a' n' c'] 25)).alloc (.cells #[.bool false, .slice none 0 0] 25) = w1 at *
  go_region_held3 (fun w' => w'.cell? ⟨w.heap.size, 0, none⟩ = some (.bool bl) ∧ w'.cell? ⟨w.heap.size, 1, none⟩ = some (.slice a n c) ∧ w'.cell? ⟨w.heap.size + 1, 0, none⟩ = some (.bool bl') ∧ w'.cell? ⟨w.heap.size + 1, 1, none⟩ = some (.slice a' n' c'))
    (first | exact hX1.drew.hs | exact hX1.hs | exact hX2.hs | exact hX3.hs | exact hX3.hs2 _ _)
    (first
      | (go_at_call 60; refine (Neg_any bl' a' n' c' y _ (H'.out.below hX1.drew.below) hn').mono ?_; rintro e w2 ⟨bl2, a2, n2, c2, rfl, hN2, hfr2, hb2⟩; have hX2 := hX1.later (below_undrew hb2); have hn2 : n2 ≤ 10000000 := Nat.le_trans (Nat.le_of_eq (fit_uniq hN2.fit (by rw [Int.natAbs_neg]; exact H'.out.fit))) hn')
      | (go_at_call 37; refine (Add_any bl a n c x bl2 a2 n2 c2 (-y) _ (H.out.below hX2.below) hN2 hn hn2).mono ?_; rintro e w3 ⟨bl3, a3, n3, c3, rfl, hnum, hfr3, hb3⟩; have hX3 := hX2.later hb3; have rB0 := hX3.r0; have rB1 := hX3.r1; have fB0 := hX3.f0; have fB1 := hX3.f1))
  go_wp2
  rw [← Int.sub_eq_add_neg] at hnum
  refine bodyPost_ret (v := .agg #[.bool bl3, .slice a3 n3 c3]) (by simp [results, Tryd.results36, go_sem, rB0, rB1]) rfl ?_
  refine pnum_store hnum hX3.below (by omega) (fun p hp => ?_)
  have h1 := hfr3 p hp; have h2 := hX2.sz; omega
end Go.Proofs.YtpacbipencmjnaaDoor

/- The walks of Of, Root, Quo, Small. -/
namespace Go.Proofs.YtpacbipencmjnaaDoor
open Go.RowKit

theorem lmb0 (N : Nat) : lmb N 0 = N % 4294967296 := by unfold lmb; simp; rfl
theorem lmb1 {N : Nat} (h : N < 18446744073709551616) : lmb N 1 = N / 4294967296 := by
  unfold lmb; rw [Nat.pow_one]; exact Nat.mod_eq_of_lt (Nat.div_lt_of_lt_mul h)
theorem two_lt {N : Nat} (h : N < 18446744073709551616) : N < BB ^ 2 := h

/-- A place for a number that is a result, behind what was there. -/
structure ResAt (w w1 : World) (r : Nat) : Prop where
  below : Below w.heap.size w w1
  r0 : w1.cell? ⟨r, 0, none⟩ = some (.bool false)
  r1 : w1.cell? ⟨r, 1, none⟩ = some (.slice none 0 0)
  f0 : w1.frozen? ⟨r, 0, none⟩ = false
  f1 : w1.frozen? ⟨r, 1, none⟩ = false
  lo : w.heap.size ≤ r
  sz : r < w1.heap.size
theorem ResAt.later {w w1 w2 : World} {r : Nat} (h : ResAt w w1 r) (hb : Below w1.heap.size w1 w2) : ResAt w w2 r :=
  ⟨h.below.trans (hb.mono h.below.size), (hb.cell (p := ⟨r, 0, none⟩) h.sz).trans h.r0, (hb.cell (p := ⟨r, 1, none⟩) h.sz).trans h.r1, (hb.frozen (p := ⟨r, 0, none⟩) h.sz).trans h.f0, (hb.frozen (p := ⟨r, 1, none⟩) h.sz).trans h.f1, h.lo, Nat.lt_of_lt_of_le h.sz hb.size⟩
theorem res_mk (w : World) (t : TypeId) (o : Obj) : ResAt w ((w.alloc (.cells #[.bool false, .slice none 0 0] t)).alloc o) w.heap.size :=
  ResAt.later (w1 := w.alloc (.cells #[.bool false, .slice none 0 0] t)) ⟨(Below.refl w.heap.size w).alloc (Nat.le_refl _) _, by simp [go_sem], by simp [go_sem], by simp [go_sem], by simp [go_sem], Nat.le_refl _, by simp⟩ ((Below.refl _ _).alloc (Nat.le_refl _) _)

theorem of_neg {z : Int} (hz : z < 0) (h1 : -9223372036854775808 ≤ z) : IntKind.u64.wrap (-IntKind.u64.wrap z) % 4294967296 = ((lmb z.natAbs 0 : Nat) : Int) ∧ IntKind.u64.wrap (-IntKind.u64.wrap z) / 4294967296 % 4294967296 = ((lmb z.natAbs 1 : Nat) : Int) := by
  rw [IntKind.wrap_u64, IntKind.wrap_u64, lmb0, lmb1 (by omega)]
  omega
theorem of_pos {z : Int} (hz : ¬ z < 0) (h2 : z ≤ 9223372036854775807) : z % 4294967296 = ((lmb z.natAbs 0 : Nat) : Int) ∧ z / 4294967296 = ((lmb z.natAbs 1 : Nat) : Int) := by
  rw [lmb0, lmb1 (by omega)]
  omega

set_option maxRecDepth 100000 in
set_option maxHeartbeats 800000 in
theorem Of_any (z : Int) (w : World) (h1 : -9223372036854775808 ≤ z) (h2 : z ≤ 9223372036854775807) :
    Calls Tryd.prog 16 #[.int .i64 z] w (PNum z w) := by
  by_cases hz : z < 0
  · have HE := Lib.hid (of_neg hz h1)
    go_enter Tryd.func16, Tryd.ntmps16
    go_wp2_with fail
    rw [HE.out.1, HE.out.2]
    have hO := own_lit2 .u32 56 (w.alloc (.cells #[.bool false, .slice none 0 0] 25)) (lmb z.natAbs 0) (lmb z.natAbs 1) (lmb z.natAbs) rfl rfl
    rw [show (w.alloc (.cells #[.bool false, .slice none 0 0] 25)).heap.size = w.heap.size + 1 from by simp] at hO
    have hR := res_mk w 25 (.cells #[.int .u32 (lmb z.natAbs 0), .int .u32 (lmb z.natAbs 1)] 56)
    generalize (w.alloc (.cells #[.bool false, .slice none 0 0] 25)).alloc (.cells #[.int .u32 (lmb z.natAbs 0), .int .u32 (lmb z.natAbs 1)] 56) = w1 at *
    refine (made_any true _ 2 2 z.natAbs _ (hO.lie (Nat.le_refl _) (by unfold maxLen; omega)) (two_lt (by omega))).mono ?_
    rintro e w3 ⟨bl3, a3, n3, c3, rfl, hnum, haa, hb3⟩
    have hR3 := hR.later hb3
    have rB0 := hR3.r0
    have rB1 := hR3.r1
    have fB0 := hR3.f0
    have fB1 := hR3.f1
    go_wp2
    rw [show sg true z.natAbs = z from by simp [sg]; omega] at hnum
    refine bodyPost_ret (v := .agg #[.bool bl3, .slice a3 n3 c3]) (by simp [results, Tryd.results16, go_sem, rB0, rB1]) rfl ?_
    refine pnum_store hnum hR3.below (Nat.le_refl _) (fun p hp => ?_)
    rcases haa with h | h
    · rw [h] at hp; cases hp
    · rw [h] at hp; cases hp; show _ < w.heap.size + 1; omega
  · have HE := Lib.hid (of_pos hz h2)
    go_enter Tryd.func16, Tryd.ntmps16
    go_wp2_with fail
    rw [HE.out.1, HE.out.2]
    have hO := own_lit2 .u32 56 (w.alloc (.cells #[.bool false, .slice none 0 0] 25)) (lmb z.natAbs 0) (lmb z.natAbs 1) (lmb z.natAbs) rfl rfl
    rw [show (w.alloc (.cells #[.bool false, .slice none 0 0] 25)).heap.size = w.heap.size + 1 from by simp] at hO
    have hR := res_mk w 25 (.cells #[.int .u32 (lmb z.natAbs 0), .int .u32 (lmb z.natAbs 1)] 56)
    generalize (w.alloc (.cells #[.bool false, .slice none 0 0] 25)).alloc (.cells #[.int .u32 (lmb z.natAbs 0), .int .u32 (lmb z.natAbs 1)] 56) = w1 at *
    refine (made_any false _ 2 2 z.natAbs _ (hO.lie (Nat.le_refl _) (by unfold maxLen; omega)) (two_lt (by omega))).mono ?_
    rintro e w3 ⟨bl3, a3, n3, c3, rfl, hnum, haa, hb3⟩
    have hR3 := hR.later hb3
    have rB0 := hR3.r0
    have rB1 := hR3.r1
    have fB0 := hR3.f0
    have fB1 := hR3.f1
    go_wp2
    rw [show sg false z.natAbs = z from by simp [sg]; omega] at hnum
    refine bodyPost_ret (v := .agg #[.bool bl3, .slice a3 n3 c3]) (by simp [results, Tryd.results16, go_sem, rB0, rB1]) rfl ?_
    refine pnum_store hnum hR3.below (Nat.le_refl _) (fun p hp => ?_)
    rcases haa with h | h
    · rw [h] at hp; cases hp
    · rw [h] at hp; cases hp; show _ < w.heap.size + 1; omega
end Go.Proofs.YtpacbipencmjnaaDoor

/- The walk of Root. -/
namespace Go.Proofs.YtpacbipencmjnaaDoor
open Go.RowKit

/-- A number in new memory, and an error's number, are handed back. -/
def PNumE (z : Int) (er : Int) (w : World) (e : Ending) (w' : World) : Prop :=
  ∃ (bl : Bool) (a' : Option Addr) (n c : Nat), e = .returned (.tuple #[.agg #[.bool bl, .slice a' n c], .int .i64 er]) ∧ Num w' bl a' n c z ∧ (∀ p, a' = some p → w.heap.size ≤ p.block) ∧ Below w.heap.size w w'
theorem pnume_store {w w3 : World} {bl : Bool} {a : Option Addr} {n c r : Nat} {z er : Int} (hn : Num w3 bl a n c z) (hB : Below w.heap.size w w3) (hr : w.heap.size ≤ r) (hfr : ∀ p, a = some p → r < p.block) :
    PNumE z er w (.returned (.tuple #[.agg #[.bool bl, .slice a n c], .int .i64 er])) ((w3.setCell ⟨r, 0, none⟩ (.bool bl)).setCell ⟨r, 1, none⟩ (.slice a n c)) :=
  ⟨bl, a, n, c, rfl, hn.only (only2 _ _ _ _) (fun p hp => by have := hfr p hp; omega), (fun p hp => by have := hfr p hp; omega), hB.trans ((only2 _ _ _ _).below hr)⟩
theorem box_res (w : World) (t : TypeId) (o : Obj) : ResAt w ((w.alloc o).alloc (.cells #[.bool false, .slice none 0 0] t)) (w.heap.size + 1) :=
  ⟨((Below.refl w.heap.size w).alloc (Nat.le_refl _) _).alloc (by simp) _, by simp [go_sem], by simp [go_sem], by simp [go_sem], by simp [go_sem], by omega, by simp⟩

set_option maxHeartbeats 800000 in
theorem Root_neg (a : Option Addr) (n c : Nat) (w : World) :
    Calls Tryd.prog 6 #[.agg #[.bool true, .slice a n c]] w (PNumE 0 12 w) := by
  go_enter Tryd.func6, Tryd.ntmps6
  go_wp2
  refine bodyPost_ret (v := .tuple #[.agg #[.bool false, .slice none 0 0], .int .i64 12]) (by simp [results, Tryd.results6, go_sem]) rfl ?_
  exact ⟨false, none, 0, 0, rfl, num_zero _, (fun p hp => by cases hp), ((Below.refl w.heap.size w).alloc (Nat.le_refl _) _).alloc (by simp) _⟩

/-- The root of a number is handed back. -/
def PIroot (N : Nat) (w : World) (e : Ending) (w' : World) : Prop := ∃ R : Nat, R * R ≤ N ∧ N < (R + 1) * (R + 1) ∧ PNumE (R : Int) 0 w e w'

set_option maxHeartbeats 800000 in
theorem Root_pos (a : Option Addr) (n c : Nat) (z : Int) (w : World) (h : Num w false a n c z) (hn : n ≤ 10000000) :
    Calls Tryd.prog 6 #[.agg #[.bool false, .slice a n c]] w (PIroot z.natAbs w) := by
  have hl := h.lie
  have hf := Lib.hid h.fit
  clear h
  go_enter Tryd.func6, Tryd.ntmps6
  go_wp2_with fail
  have hR := box_res w 25 (.cells #[.bool false, .slice a n c] 25)
  generalize (w.alloc (.cells #[.bool false, .slice a n c] 25)).alloc (.cells #[.bool false, .slice none 0 0] 25) = w1 at *
  refine (root_any a n c z.natAbs _ (hl.below hR.below) hf.out hn).mono ?_
  rintro e w2 ⟨R, hR1, hR2, a2, n2, c2, rfl, hl2, hf2, hfr2, hb2⟩
  have HR := Lib.hid (And.intro hR1 hR2)
  have HF2 := Lib.hid hf2
  have HFR := Lib.hid hfr2
  clear hR1 hR2 hf2 hfr2
  have hX2 := hR.later hb2
  go_wp2_with fail
  refine (made_any false _ n2 c2 R _ hl2 HF2.out.1).mono ?_
  rintro e w3 ⟨bl3, a3, n3, c3, rfl, hnum, haa, hb3⟩
  have hR3 := hX2.later hb3
  have rB0 := hR3.r0
  have rB1 := hR3.r1
  have fB0 := hR3.f0
  have fB1 := hR3.f1
  go_wp2
  rw [show sg false R = (R : Int) from rfl] at hnum
  refine bodyPost_ret (v := .tuple #[.agg #[.bool bl3, .slice a3 n3 c3], .int .i64 0]) (by simp [results, Tryd.results6, go_sem, rB0, rB1]) rfl ?_
  refine ⟨R, HR.out.1, HR.out.2, pnume_store hnum hR3.below (by omega) (fun p hp => ?_)⟩
  rcases haa with h | h
  · rw [h] at hp; cases hp
  · rw [h] at hp; have h1 := HFR.out p hp; have h2 := hR.sz; omega
end Go.Proofs.YtpacbipencmjnaaDoor

/- The walk of Parse. -/
namespace Go.Proofs.YtpacbipencmjnaaDoor
open Go.RowKit

/-- Has a text a sign ahead? -/
def pB (l : List UInt8) : Bool := Lib.hasPrefix l [45]
/-- A text's digits. -/
def pD (l : List UInt8) : List UInt8 := Lib.trimPrefix l [45]
/-- Is a text a number? -/
def parsesB (l : List UInt8) : Bool := wwB (pD l) (pB l)
/-- The number that a text tells. -/
def zval (l : List UInt8) : Int := sg (pB l) (dval (pD l))

theorem pD_le (l : List UInt8) : (pD l).length ≤ l.length := by
  unfold pD Lib.trimPrefix
  split
  · rw [List.length_drop]; omega
  · omega
theorem res_one (w : World) (t : TypeId) : ResAt w (w.alloc (.cells #[.bool false, .slice none 0 0] t)) w.heap.size :=
  ⟨(Below.refl w.heap.size w).alloc (Nat.le_refl _) _, by simp [go_sem], by simp [go_sem], by simp [go_sem], by simp [go_sem], Nat.le_refl _, by simp⟩

set_option maxHeartbeats 800000 in
theorem Parse_long (s : ByteArray) (w : World) (hs : 2000 < s.size) (hs' : s.size ≤ maxLen) :
    Calls Tryd.prog 14 #[.string s] w (PNumE 0 2 w) := by
  unfold maxLen at hs'
  go_enter Tryd.func14, Tryd.ntmps14
  go_wp2
  refine bodyPost_ret (v := .tuple #[.agg #[.bool false, .slice none 0 0], .int .i64 2]) (by simp [results, Tryd.results14, go_sem]) rfl ?_
  exact ⟨false, none, 0, 0, rfl, num_zero _, (fun p hp => by cases hp), (Below.refl w.heap.size w).alloc (Nat.le_refl _) _⟩

set_option maxHeartbeats 800000 in
theorem Parse_bad (s : ByteArray) (w : World) (hs : s.size ≤ 2000) (hp : parsesB s.data.toList = false) :
    Calls Tryd.prog 14 #[.string s] w (PNumE 0 10 w) := by
  have HP := Lib.hid hp
  clear hp
  go_enter Tryd.func14, Tryd.ntmps14
  go_wp2_with fail
  refine (Tryd.strings_CutPrefix s ⟨#[45]⟩ _).mono ?_
  rintro e w1 ⟨rfl, hw⟩
  subst hw
  have e1 : Lib.trimPrefix s.data.toList (⟨#[45]⟩ : ByteArray).data.toList = pD s.data.toList := rfl
  have e2 : Lib.hasPrefix s.data.toList (⟨#[45]⟩ : ByteArray).data.toList = pB s.data.toList := rfl
  rw [e1, e2]
  have hle := pD_le s.data.toList
  rw [size_list] at hle
  have HE : Hid (wwB (⟨(pD s.data.toList).toArray⟩ : ByteArray).data.toList (pB s.data.toList) = false) := HP.out
  have hsz : (⟨(pD s.data.toList).toArray⟩ : ByteArray).size ≤ 2000 := by
    rw [← size_list]; show (pD s.data.toList).length ≤ _; omega
  clear e1 e2 hle
  generalize (⟨(pD s.data.toList).toArray⟩ : ByteArray) = sd at *
  generalize pB s.data.toList = bl at *
  go_wp2_with fail
  refine (wellWritten_any sd bl _ hsz).mono ?_
  rintro e w2 ⟨rfl, rfl⟩
  rw [HE.out]
  go_wp2
  refine bodyPost_ret (v := .tuple #[.agg #[.bool false, .slice none 0 0], .int .i64 10]) (by simp [results, Tryd.results14, go_sem]) rfl ?_
  exact ⟨false, none, 0, 0, rfl, num_zero _, (fun p hp => by cases hp), (Below.refl w.heap.size w).alloc (Nat.le_refl _) _⟩

theorem wwB_dig {l : List UInt8} {b : Bool} (h : wwB l b = true) : l.all isDig = true := by
  unfold wwB at h
  simp only [Bool.and_eq_true] at h
  exact h.1.2

set_option maxHeartbeats 800000 in
theorem Parse_good (s : ByteArray) (w : World) (hs : s.size ≤ 2000) (hp : parsesB s.data.toList = true) :
    Calls Tryd.prog 14 #[.string s] w (PNumE (zval s.data.toList) 0 w) := by
  have HP := Lib.hid hp
  clear hp
  go_enter Tryd.func14, Tryd.ntmps14
  go_wp2_with fail
  refine (Tryd.strings_CutPrefix s ⟨#[45]⟩ _).mono ?_
  rintro e w1 ⟨rfl, hw⟩
  subst hw
  have e1 : Lib.trimPrefix s.data.toList (⟨#[45]⟩ : ByteArray).data.toList = pD s.data.toList := rfl
  have e2 : Lib.hasPrefix s.data.toList (⟨#[45]⟩ : ByteArray).data.toList = pB s.data.toList := rfl
  rw [e1, e2]
  have hle := pD_le s.data.toList
  rw [size_list] at hle
  have HE : Hid (wwB (⟨(pD s.data.toList).toArray⟩ : ByteArray).data.toList (pB s.data.toList) = true) := HP.out
  have hsz : (⟨(pD s.data.toList).toArray⟩ : ByteArray).size ≤ 2000 := by
    rw [← size_list]; show (pD s.data.toList).length ≤ _; omega
  clear e1 e2 hle HP
  have HZ : Hid (zval s.data.toList = sg (pB s.data.toList) (dval (⟨(pD s.data.toList).toArray⟩ : ByteArray).data.toList)) := rfl
  generalize (⟨(pD s.data.toList).toArray⟩ : ByteArray) = sd at *
  generalize pB s.data.toList = bl at *
  have hR := res_one w 25
  generalize w.alloc (.cells #[.bool false, .slice none 0 0] 25) = w1 at *
  go_wp2_with fail
  refine (wellWritten_any sd bl _ hsz).mono ?_
  rintro e w2 ⟨rfl, rfl⟩
  rw [HE.out]
  go_wp2_with fail
  refine (readDigits_any sd _ hsz (wwB_dig HE.out)).mono ?_
  rintro e w2 ⟨a2, n2, c2, rfl, hl2, hf2, hfr2, hb2⟩
  have HF2 := Lib.hid hf2
  have HFR := Lib.hid hfr2
  clear hf2 hfr2
  have hX2 := hR.later hb2
  go_wp2_with fail
  refine (made_any bl a2 n2 c2 _ _ hl2 HF2.out.1).mono ?_
  rintro e w3 ⟨bl3, a3, n3, c3, rfl, hnum, haa, hb3⟩
  have hR3 := hX2.later hb3
  have rB0 := hR3.r0
  have rB1 := hR3.r1
  have fB0 := hR3.f0
  have fB1 := hR3.f1
  go_wp2
  rw [← HZ.out] at hnum
  refine bodyPost_ret (v := .tuple #[.agg #[.bool bl3, .slice a3 n3 c3], .int .i64 0]) (by simp [results, Tryd.results14, go_sem, rB0, rB1]) rfl ?_
  refine pnume_store hnum hR3.below (Nat.le_refl _) (fun p hp => ?_)
  rcases haa with h | h
  · rw [h] at hp; cases hp
  · rw [h] at hp; have h1 := HFR.out p hp; have h2 := hR.sz; omega
end Go.Proofs.YtpacbipencmjnaaDoor

/- The walk of String. -/
namespace Go.Proofs.YtpacbipencmjnaaDoor
open Go.RowKit

/-- The text l is the number z. -/
def Txt (z : Int) (l : List UInt8) : Prop := parsesB l = true ∧ zval l = z

theorem dval_cons (c : UInt8) (l : List UInt8) : dval (c :: l) = (c.toNat - 48) * 10 ^ l.length + dval l := by
  rw [show c :: l = [c] ++ l from rfl, dval_append]; unfold dval; rw [dvalF_cons, dvalF_nil, Nat.zero_mul, Nat.zero_add]
def padL (N K : Nat) : List UInt8 := (List.range K).map fun p => (48 + dig N (K - 1 - p)).toUInt8
theorem padL_succ (N K : Nat) : padL N (K + 1) = (48 + dig N K).toUInt8 :: padL N K := by
  unfold padL
  rw [List.range_succ_eq_map, List.map_cons, List.map_map]
  congr 1
  refine List.map_congr_left fun p hp => ?_
  show (48 + dig N (K + 1 - 1 - (p + 1))).toUInt8 = _
  rw [show K + 1 - 1 - (p + 1) = K - 1 - p from by omega]
theorem byte_dig (N K : Nat) : ((48 + dig N K).toUInt8).toNat = 48 + dig N K := by
  have := dig_lt N K
  show (48 + dig N K) % 256 = _
  omega
theorem padL_len (N K : Nat) : (padL N K).length = K := by simp [padL]
theorem padL_all (N K : Nat) : (padL N K).all isDig = true := by
  rw [List.all_eq_true]
  intro c hc
  obtain ⟨p, _, rfl⟩ := List.mem_map.1 hc
  have := dig_lt N (K - 1 - p)
  unfold isDig
  rw [byte_dig]
  exact decide_eq_true (by omega)
theorem padL_val (N K : Nat) : dval (padL N K) = N % 10 ^ K := by
  induction K with
  | zero => rw [Nat.pow_zero, Nat.mod_one]; unfold dval; exact dvalF_nil 0
  | succ K ih =>
    rw [padL_succ, dval_cons, padL_len, byte_dig, ih, Nat.mod_pow_succ, Nat.add_sub_cancel_left, Nat.mul_comm, Nat.add_comm]; rfl
theorem drop_val (l : List UInt8) : dval (l.dropWhile (· == 48)) = dval l := by
  induction l with
  | nil => rfl
  | cons c l ih =>
    rw [List.dropWhile_cons]
    split
    · rename_i h
      have : c = 48 := by simpa using h
      subst this
      rw [ih, dval_cons]
      simp
    · rfl
theorem drop_all {l : List UInt8} (h : l.all isDig = true) : (l.dropWhile (· == 48)).all isDig = true := by
  rw [List.all_eq_true] at h ⊢
  exact fun c hc => h c ((List.dropWhile_sublist _).subset hc)
theorem drop_head (l : List UInt8) : (l.dropWhile (· == 48)).head? ≠ some 48 := by
  induction l with
  | nil => simp
  | cons c l ih =>
    rw [List.dropWhile_cons]
    split
    · exact ih
    · rename_i h
      intro e
      simp at e
      simp [e] at h
/-- What is told of digits without noughts ahead. -/
structure Plain (N : Nat) (l : List UInt8) : Prop where
  dig : l.all isDig = true
  val : dval l = N
  ne : l.isEmpty = false
  head : l.head? ≠ some 48
theorem plain_drop {N K : Nat} (hN : 0 < N) (hK : N < 10 ^ K) : Plain N ((padL N K).dropWhile (· == 48)) := by
  have hv : dval ((padL N K).dropWhile (· == 48)) = N := by rw [drop_val, padL_val, Nat.mod_eq_of_lt hK]
  refine ⟨drop_all (padL_all N K), hv, ?_, drop_head _⟩
  cases h : (padL N K).dropWhile (· == 48) with
  | nil => rw [h] at hv; unfold dval at hv; rw [dvalF_nil] at hv; omega
  | cons c l => rfl
theorem Plain.ww {N : Nat} {l : List UInt8} (h : Plain N l) (b : Bool) : wwB l b = true := by
  have h4 : (l.head? != some 48) = true := by simpa using h.head
  simp only [wwB, h.ne, h.dig, h4]; rfl
theorem Plain.no45 {N : Nat} {l : List UInt8} (h : Plain N l) : Lib.hasPrefix l [45] = false := by
  cases l with
  | nil => rfl
  | cons c l =>
    have := isDig_le ((List.all_eq_true.1 h.dig) c (by simp))
    unfold Lib.hasPrefix
    simp only [List.isPrefixOf, Bool.and_true]
    rw [beq_eq_false_iff_ne]
    intro e
    subst e
    have h45 : (45 : UInt8).toNat = 45 := rfl
    omega
theorem txt_pos {N : Nat} {l : List UInt8} (h : Plain N l) : Txt (N : Int) l := by
  have e1 : pB l = false := h.no45
  have e2 : pD l = l := by unfold pD Lib.trimPrefix; rw [h.no45]; rfl
  refine ⟨?_, ?_⟩
  · unfold parsesB; rw [e1, e2]; exact h.ww _
  · unfold zval; rw [e1, e2, h.val]; rfl
theorem txt_neg {N : Nat} {l : List UInt8} (h : Plain N l) : Txt (-(N : Int)) (45 :: l) := by
  have e1 : pB (45 :: l) = true := by unfold pB Lib.hasPrefix; simp [List.isPrefixOf]
  have e2 : pD (45 :: l) = l := by
    have : Lib.hasPrefix (45 :: l) [45] = true := e1
    unfold pD Lib.trimPrefix; rw [this]; rfl
  refine ⟨?_, ?_⟩
  · unfold parsesB; rw [e1, e2]; exact h.ww _
  · unfold zval; rw [e1, e2, h.val]; rfl

/-- A number's text is handed back. -/
def PTxt (z : Int) (w : World) (e : Ending) (w' : World) : Prop := ∃ l : List UInt8, e = .returned (.string ⟨l.toArray⟩) ∧ Txt z l ∧ Below w.heap.size w w'

set_option maxHeartbeats 800000 in
theorem String_zero (bl : Bool) (a : Option Addr) (n c : Nat) (w : World) (h : Num w bl a n c 0) :
    Calls Tryd.prog 8 #[.agg #[.bool bl, .slice a n c]] w (PTxt 0 w) := by
  have hB := (Below.refl w.heap.size w).alloc (Nat.le_refl _) (.cells #[.bool bl, .slice a n c] 25)
  go_enter Tryd.func8, Tryd.ntmps8
  go_wp2_with fail
  refine (Sign_any bl a n c 0 _ (h.below hB)).mono ?_
  rintro e w1 ⟨rfl, hb1⟩
  rw [show sgnI 0 = 0 from rfl]
  go_wp2
  go_ret
  exact ⟨[48], rfl, ⟨by decide, by decide⟩, hB.trans (hb1.mono (by simp))⟩

set_option maxHeartbeats 800000 in
theorem String_any (bl : Bool) (a : Option Addr) (n c : Nat) (z : Int) (w : World) (h : Num w bl a n c z) (hn : n ≤ 10000000) (hz : z ≠ 0) :
    Calls Tryd.prog 8 #[.agg #[.bool bl, .slice a n c]] w (PTxt z w) := by
  have H := Lib.hid h
  have HZ := Lib.hid hz
  have hsy : (sgnI z == 0) = false := by unfold sgnI; (repeat' split) <;> simp_all
  clear h hz
  go_enter Tryd.func8, Tryd.ntmps8
  go_wp2_with fail
  have hB := (Below.refl w.heap.size w).alloc (Nat.le_refl _) (.cells #[.bool bl, .slice a n c] 25)
  have k0 : (w.alloc (.cells #[.bool bl, .slice a n c] 25)).cell? ⟨w.heap.size, 0, none⟩ = some (.bool bl) := by simp [go_sem]
  have k1 : (w.alloc (.cells #[.bool bl, .slice a n c] 25)).cell? ⟨w.heap.size, 1, none⟩ = some (.slice a n c) := by simp [go_sem]
  have hsz : w.heap.size < (w.alloc (.cells #[.bool bl, .slice a n c] 25)).heap.size := by simp
  generalize w.alloc (.cells #[.bool bl, .slice a n c] 25) = w1 at *
  refine (Sign_any bl a n c z _ (H.out.below hB)).mono ?_
  rintro e w2 ⟨rfl, hb2⟩
  have k1' := (hb2.cell (p := ⟨w.heap.size, 1, none⟩) hsz).trans k1
  have hB2 := hB.trans (hb2.mono hB.size)
  clear k1
  go_wp2_with fail
  refine (groupsOf_any a n c z.natAbs _ (H.out.lie.below hB2) H.out.fit hn).mono ?_
  rintro e w3 ⟨ga, gi, gc, rfl, hlg, hlt, hgi, hb3⟩
  have HLT := Lib.hid hlt
  clear k1' hlt
  go_wp2_with fail
  refine (written_any ga gi gc z.natAbs _ hlg (by omega)).mono ?_
  rintro e w4 ⟨rfl, hb4⟩
  obtain ⟨str, hstr⟩ : ∃ str : ByteArray, str = ⟨((List.range (9 * gi)).map fun p => (48 + dig z.natAbs (9 * gi - 1 - p)).toUInt8).toArray⟩ := ⟨_, rfl⟩
  rw [← hstr]
  have HSTR := Lib.hid hstr
  clear hlg hstr
  go_wp2_with fail
  refine (Tryd.strings_TrimLeft_one _ 48 (by decide) _).mono ?_
  rintro e w5 ⟨rfl, hw⟩
  subst hw
  have hpl : Plain z.natAbs ((padL z.natAbs (9 * gi)).dropWhile (· == 48)) := plain_drop (by have := HZ.out; omega) (by rw [Nat.pow_mul]; exact HLT.out)
  have e1 : Lib.trimLeftB str.data.toList 48 = (padL z.natAbs (9 * gi)).dropWhile (· == 48) := by rw [HSTR.out]; rfl
  rw [e1]
  have hll : ((padL z.natAbs (9 * gi)).dropWhile (· == 48)).length ≤ 9 * gi := Nat.le_trans (List.dropWhile_sublist _).length_le (by rw [padL_len]; exact Nat.le_refl _)
  clear e1
  generalize (padL z.natAbs (9 * gi)).dropWhile (· == 48) = l at *
  have HPL := Lib.hid hpl
  have hb24 : Below w2.heap.size w2 w5 := hb3.trans (hb4.mono hb3.size)
  have hB4 := hB2.trans (hb24.mono hB2.size)
  have k04 := ((hb2.trans (hb24.mono hb2.size)).cell (p := ⟨w.heap.size, 0, none⟩) hsz).trans k0
  clear k0 hpl
  have hsg := H.out.sgn
  cases bl
  · have HV : Hid ((z.natAbs : Int) = z) := by show _ = _; simp at hsg; omega
    clear hsg
    go_wp2
    go_ret
    exact ⟨l, rfl, by rw [← HV.out]; exact txt_pos HPL.out, hB4⟩
  · have HV : Hid (-(z.natAbs : Int) = z) := by show _ = _; simp at hsg; omega
    clear hsg
    go_wp2
    go_ret
    exact ⟨45 :: l, by congr 2, by rw [← HV.out]; exact txt_neg HPL.out, hB4⟩
end Go.Proofs.YtpacbipencmjnaaDoor

/- Texts of numbers: each number has one. -/
namespace Go.Proofs.YtpacbipencmjnaaDoor
open Go.RowKit

theorem dval_inj : ∀ (l m : List UInt8), l.length = m.length → l.all isDig = true → m.all isDig = true → dval l = dval m → l = m := by
  intro l
  induction l with
  | nil => intro m hm _ _ _; exact (List.eq_nil_of_length_eq_zero hm.symm).symm
  | cons c l ih =>
    intro m hm hl hma hv
    cases m with
    | nil => simp at hm
    | cons d m =>
      rw [List.all_cons, Bool.and_eq_true] at hl hma
      simp only [List.length_cons, Nat.add_right_cancel_iff] at hm
      have h1 := dval_lt l hl.2
      have h2 := dval_lt m hma.2
      have h3 := isDig_le hl.1
      have h4 := isDig_le hma.1
      rw [dval_cons, dval_cons, hm] at hv
      rw [hm] at h1
      generalize 10 ^ m.length = X at *
      have hcd : c.toNat - 48 = d.toNat - 48 := by
        rcases Nat.lt_trichotomy (c.toNat - 48) (d.toNat - 48) with h | h | h
        · have := Nat.mul_le_mul_right X (show c.toNat - 48 + 1 ≤ d.toNat - 48 from h)
          rw [Nat.add_mul] at this; omega
        · exact h
        · have := Nat.mul_le_mul_right X (show d.toNat - 48 + 1 ≤ c.toNat - 48 from h)
          rw [Nat.add_mul] at this; omega
      rw [hcd] at hv
      rw [ih m hm hl.2 hma.2 (by omega), UInt8.toNat.inj (show c.toNat = d.toNat by omega)]
theorem dval_ge {l : List UInt8} (hd : l.all isDig = true) (hne : l.isEmpty = false) (hh : l.head? ≠ some 48) : 10 ^ (l.length - 1) ≤ dval l := by
  cases l with
  | nil => cases hne
  | cons c l =>
    rw [List.all_cons, Bool.and_eq_true] at hd
    have h3 := isDig_le hd.1
    have hc : c.toNat ≠ 48 := fun e => hh (by rw [List.head?_cons]; congr 1; exact UInt8.toNat.inj (by rw [e]; rfl))
    rw [dval_cons, List.length_cons, Nat.add_sub_cancel]
    have := Nat.mul_le_mul_right (10 ^ l.length) (show 1 ≤ c.toNat - 48 by omega)
    omega
theorem plain_uniq {N : Nat} {l m : List UInt8} (h : Plain N l) (k : Plain N m) : l = m := by
  have a1 := dval_ge h.dig h.ne h.head
  have a2 := dval_ge k.dig k.ne k.head
  have b1 := dval_lt l h.dig
  have b2 := dval_lt m k.dig
  rw [h.val] at a1 b1
  rw [k.val] at a2 b2
  have hl : 0 < l.length := by cases l with
    | nil => have := h.ne; cases this
    | cons c l => simp
  have hm : 0 < m.length := by cases m with
    | nil => have := k.ne; cases this
    | cons c l => simp
  have key : ∀ i j : Nat, 10 ^ (i - 1) ≤ N → N < 10 ^ j → 0 < i → i ≤ j := fun i j h1 h2 h0 => by
    have : 10 ^ (i - 1) < 10 ^ j := Nat.lt_of_le_of_lt h1 h2
    have := (Nat.pow_lt_pow_iff_right (by decide : 1 < 10)).1 this
    omega
  refine dval_inj l m ?_ h.dig k.dig (by rw [h.val, k.val])
  have := key _ _ a1 b2 hl
  have := key _ _ a2 b1 hm
  omega
/-- What a text that is a number is made of. -/
theorem parts_of {l : List UInt8} (h : parsesB l = true) : (l = [48] ∧ zval l = 0) ∨ (∃ d, l = d ∧ 0 < dval d ∧ Plain (dval d) d ∧ zval l = (dval d : Int)) ∨ (∃ d, l = 45 :: d ∧ 0 < dval d ∧ Plain (dval d) d ∧ zval l = -(dval d : Int)) := by
  unfold parsesB at h
  have hz : zval l = sg (pB l) (dval (pD l)) := rfl
  have hl : l = if pB l = true then 45 :: pD l else pD l := by
    unfold pD pB Lib.trimPrefix
    by_cases hp : Lib.hasPrefix l [45] = true
    · rw [if_pos hp, if_pos hp]
      unfold Lib.hasPrefix at hp
      cases l with
      | nil => simp [List.isPrefixOf] at hp
      | cons c l => simp [List.isPrefixOf] at hp; subst hp; rfl
    · rw [if_neg hp, if_neg hp]
  generalize pB l = b at *
  generalize pD l = d at *
  have hw := h
  unfold wwB at hw
  simp only [Bool.and_eq_true, Bool.or_eq_true, Bool.not_eq_true'] at hw
  obtain ⟨⟨hne, hdg⟩, hh⟩ := hw
  by_cases h48 : d.head? = some 48
  · rcases hh with hh | hh
    · simp [h48] at hh
    · obtain ⟨h1, h2⟩ := hh
      subst h2
      have hd : d = [48] := by
        cases d with
        | nil => cases hne
        | cons c d => simp at h1 h48; subst h1; subst h48; rfl
      subst hd
      left
      refine ⟨by simpa using hl, ?_⟩
      rw [hz]; rfl
  · have hp : Plain (dval d) d := ⟨hdg, rfl, hne, h48⟩
    have hpos : 0 < dval d := Nat.lt_of_lt_of_le (Nat.pow_pos (by decide)) (dval_ge hdg hne h48)
    right
    cases b
    · left; exact ⟨d, by simpa using hl, hpos, hp, hz⟩
    · right; exact ⟨d, by simpa using hl, hpos, hp, hz⟩
theorem txt_uniq {z : Int} {l m : List UInt8} (h : Txt z l) (k : Txt z m) : l = m := by
  have e := h.2.trans k.2.symm
  rcases parts_of h.1 with ⟨rfl, h1⟩ | ⟨d, rfl, h0, hp, h1⟩ | ⟨d, rfl, h0, hp, h1⟩ <;> rcases parts_of k.1 with ⟨rfl, k1⟩ | ⟨d', rfl, k0, kp, k1⟩ | ⟨d', rfl, k0, kp, k1⟩
  · rfl
  · rw [h1, k1] at e; omega
  · rw [h1, k1] at e; omega
  · rw [h1, k1] at e; omega
  · rw [h1, k1] at e
    have ed : dval l = dval m := by omega
    rw [ed] at hp
    exact plain_uniq hp kp
  · rw [h1, k1] at e; omega
  · rw [h1, k1] at e; omega
  · rw [h1, k1] at e; omega
  · rw [h1, k1] at e
    have ed : dval d = dval d' := by omega
    rw [ed] at hp
    rw [plain_uniq hp kp]
/-- How great the number of a text can be. -/
theorem txt_len {l : List UInt8} (h : parsesB l = true) : (zval l).natAbs < 10 ^ l.length := by
  rcases parts_of h with ⟨rfl, h1⟩ | ⟨d, rfl, h0, hp, h1⟩ | ⟨d, rfl, h0, hp, h1⟩
  · rw [h1]; simp
  · rw [h1]; have := dval_lt l hp.dig; simpa using this
  · rw [h1, List.length_cons, Nat.pow_succ]
    have := dval_lt d hp.dig
    simp only [Int.natAbs_neg, Int.natAbs_natCast]
    omega
end Go.Proofs.YtpacbipencmjnaaDoor
