/- The document's numbers: the walks of Sign, Cmp, Minus, Add, Sub. -/
import Derived.Test.YtpacbipencmjnaaDoorRplus
import Derived.Test.YtpacbipencmjnaaDoorIroot
namespace Go.Proofs.YtpacbipencmjnaaDoor
open Go.RowKit

theorem RNum.zero_iff {w : World} {bl : Bool} {a : Option Addr} {n c : Nat} {z : Int} (h : RNum w bl a n c z) : n = 0 ↔ z = 0 := by
  rw [fit10_pos h.fit]; omega
/-- A number of the document's is handed back. -/
def PRNum (z : Int) (w : World) (e : Ending) (w' : World) : Prop :=
  ∃ (bl : Bool) (a : Option Addr) (n c : Nat), e = .returned (.agg #[.bool bl, .slice a n c]) ∧ RNum w' bl a n c z ∧ Below w.heap.size w w'
/-- A number of the document's is handed back whose digits lie in new memory. -/
def PRNumF (z : Int) (w : World) (e : Ending) (w' : World) : Prop :=
  ∃ (bl : Bool) (a : Option Addr) (n c : Nat), e = .returned (.agg #[.bool bl, .slice a n c]) ∧ RNum w' bl a n c z ∧ (∀ p, a = some p → w.heap.size ≤ p.block) ∧ Below w.heap.size w w'
theorem rnumf_store {w w3 : World} {bl : Bool} {a : Option Addr} {n c r : Nat} {z : Int} (hn : RNum w3 bl a n c z) (hB : Below w.heap.size w w3) (hr : w.heap.size ≤ r) (hfr : ∀ p, a = some p → r < p.block) :
    PRNumF z w (.returned (.agg #[.bool bl, .slice a n c])) ((w3.setCell ⟨r, 0, none⟩ (.bool bl)).setCell ⟨r, 1, none⟩ (.slice a n c)) :=
  ⟨bl, a, n, c, rfl, hn.only (only2 _ _ _ _) (fun p hp => by have := hfr p hp; omega), (fun p hp => by have := hfr p hp; omega), hB.trans ((only2 _ _ _ _).below hr)⟩
theorem rnum_store {w w3 : World} {bl : Bool} {a : Option Addr} {n c r : Nat} {z : Int} (hn : RNum w3 bl a n c z) (hB : Below w.heap.size w w3) (hr : w.heap.size ≤ r) (hfr : ∀ p, a = some p → p.block ≠ r) :
    PRNum z w (.returned (.agg #[.bool bl, .slice a n c])) ((w3.setCell ⟨r, 0, none⟩ (.bool bl)).setCell ⟨r, 1, none⟩ (.slice a n c)) :=
  ⟨bl, a, n, c, rfl, hn.only (only2 _ _ _ _) hfr, hB.trans ((only2 _ _ _ _).below hr)⟩
set_option maxHeartbeats 800000 in
theorem rCmp_any (bl : Bool) (a : Option Addr) (n c : Nat) (x : Int) (bl' : Bool) (a' : Option Addr) (n' c' : Nat) (y : Int) (w : World) (h : RNum w bl a n c x) (h' : RNum w bl' a' n' c' y) :
    Calls Tryd.prog 23 #[.agg #[.bool bl, .slice a n c], .agg #[.bool bl', .slice a' n' c']] w (PVal (.int .i64 (cmpI x y)) w) := by
  have hB := ((Below.refl w.heap.size w).alloc (Nat.le_refl _) (.cells #[.bool bl, .slice a n c] 28)).alloc (by simp) (.cells #[.bool bl', .slice a' n' c'] 28)
  have hs := h.sgn
  have hs' := h'.sgn
  cases bl <;> cases bl'
  · have hx : ¬ x < 0 := by simpa using hs.symm
    have hy : ¬ y < 0 := by simpa using hs'.symm
    have HR : Hid (cmpN x.natAbs y.natAbs = cmpI x y) := by show _ = _; unfold cmpN cmpI; (repeat' split) <;> omega
    clear hs hs' hx hy
    go_enter Tryd.func23, Tryd.ntmps23
    go_wp2_with fail
    refine (rsize_any a a' n c n' c' x.natAbs y.natAbs _ (h.lie.below hB) (h'.lie.below hB) h.fit h'.fit).mono ?_
    rintro e w1 ⟨rfl, hb1⟩
    rw [HR.out]
    have k0 := (hb1.cell (p := ⟨w.heap.size, 0, none⟩) (by simp; omega)).trans (by simp [go_sem] : _ = some (Value.bool false))
    go_wp2
    go_ret
    exact ⟨rfl, hB.trans (hb1.mono (by simp; omega))⟩
  · have hx : ¬ x < 0 := by simpa using hs.symm
    have hy : y < 0 := by simpa using hs'.symm
    have HR : Hid (cmpI x y = 1) := by show _ = _; unfold cmpI; (repeat' split) <;> omega
    clear hs hs' hx hy
    go_enter Tryd.func23, Tryd.ntmps23
    go_wp2
    go_ret
    exact ⟨ret_int HR.out.symm, hB⟩
  · have hx : x < 0 := by simpa using hs.symm
    have hy : ¬ y < 0 := by simpa using hs'.symm
    have HR : Hid (cmpI x y = -1) := by show _ = _; unfold cmpI; (repeat' split) <;> omega
    clear hs hs' hx hy
    go_enter Tryd.func23, Tryd.ntmps23
    go_wp2
    go_ret
    exact ⟨ret_int HR.out.symm, hB⟩
  · have hx : x < 0 := by simpa using hs.symm
    have hy : y < 0 := by simpa using hs'.symm
    have HR : Hid (-cmpN x.natAbs y.natAbs = cmpI x y) := by show _ = _; unfold cmpN cmpI; (repeat' split) <;> omega
    have hc1 : -1 ≤ cmpN x.natAbs y.natAbs := by unfold cmpN; (repeat' split) <;> omega
    have hc2 : cmpN x.natAbs y.natAbs ≤ 1 := by unfold cmpN; (repeat' split) <;> omega
    clear hs hs' hx hy
    go_enter Tryd.func23, Tryd.ntmps23
    go_wp2_with fail
    refine (rsize_any a a' n c n' c' x.natAbs y.natAbs _ (h.lie.below hB) (h'.lie.below hB) h.fit h'.fit).mono ?_
    rintro e w1 ⟨rfl, hb1⟩
    have k0 := (hb1.cell (p := ⟨w.heap.size, 0, none⟩) (by simp; omega)).trans (by simp [go_sem] : _ = some (Value.bool true))
    generalize cmpN x.natAbs y.natAbs = cc at *
    go_wp2
    go_ret
    exact ⟨ret_int HR.out, hB.trans (hb1.mono (by simp; omega))⟩


set_option maxHeartbeats 800000 in
theorem rMinus_any (bl : Bool) (a : Option Addr) (n c : Nat) (z : Int) (w : World) (h : RNum w bl a n c z) :
    Calls Tryd.prog 66 #[.agg #[.bool bl, .slice a n c]] w (PRNum (-z) w) := by
  have hl := h.lie
  have hf := Lib.hid h.fit
  have hsg := Lib.hid h.sgn
  clear h
  go_enter Tryd.func66, Tryd.ntmps66
  go_wp2_with fail
  have hR := box_res w 28 (.cells #[.bool bl, .slice a n c] 28)
  generalize (w.alloc (.cells #[.bool bl, .slice a n c] 28)).alloc (.cells #[.bool false, .slice none 0 0] 28) = w1 at *
  refine (rmade_any (!bl) a n c z.natAbs _ (hl.below hR.below) hf.out.1).mono ?_
  rintro e w3 ⟨bl3, n3, c3, rfl, hnum, hb3⟩
  have hR3 := hR.later hb3
  have rB0 := hR3.r0
  have rB1 := hR3.r1
  have fB0 := hR3.f0
  have fB1 := hR3.f1
  go_wp2
  rw [sg_not hsg.out] at hnum
  refine bodyPost_ret (v := .agg #[.bool bl3, .slice a n3 c3]) (by simp [results, Tryd.results66, go_sem, rB0, rB1]) rfl ?_
  exact rnum_store hnum hR3.below (by omega) (fun p hp => by have := (hl.spot p hp).2; omega)
set_option maxHeartbeats 1600000 in
theorem rAdd_any (bl : Bool) (a : Option Addr) (n c : Nat) (x : Int) (bl' : Bool) (a' : Option Addr) (n' c' : Nat) (y : Int) (w : World) (h : RNum w bl a n c x) (h' : RNum w bl' a' n' c' y) (hn : n ≤ 10000000) (hn' : n' ≤ 10000000) :
    Calls Tryd.prog 53 #[.agg #[.bool bl, .slice a n c], .agg #[.bool bl', .slice a' n' c']] w (PRNumF (x + y) w) := by
  have hfx := Lib.hid h.fit
  have hfy := Lib.hid h'.fit
  have hsx := Lib.hid h.sgn
  have hsy := Lib.hid h'.sgn
  have hl := h.lie
  have hl' := h'.lie
  clear h h'
  by_cases hbb : (bl == bl') = true
  · have hsg := Lib.hid (sg_add1 hsx.out hsy.out hbb)
    go_enter Tryd.func53, Tryd.ntmps53
    go_wp2
    have hX1 := boxed_mk w 28 bl a n c bl' a' n' c'
    generalize ((w.alloc (.cells #[.bool bl, .slice a n c] 28)).alloc (.cells #[.bool bl', .slice a' n' c'] 28)).alloc (.cells #[.bool false, .slice none 0 0] 28) = w1 at *
    go_region_held3 (fun w' => w'.cell? ⟨w.heap.size, 0, none⟩ = some (.bool bl) ∧ w'.cell? ⟨w.heap.size, 1, none⟩ = some (.slice a n c) ∧ w'.cell? ⟨w.heap.size + 1, 0, none⟩ = some (.bool bl') ∧ w'.cell? ⟨w.heap.size + 1, 1, none⟩ = some (.slice a' n' c'))
      (first | exact hX1.drew.hs | exact hX1.hs | exact hX2.hs | exact hX3.hs | exact hX3.hs2 _ _)
      (first
        | (go_at_call 67; refine (rplus_any a a' n c n' c' x.natAbs y.natAbs _ (hl.below hX1.drew.below) (hl'.below hX1.drew.below) hfx.out.1 hfy.out.1 (by omega) (by omega)).mono ?_; rintro e w2 ⟨a2, n2, c2, rfl, hl2, hf2, hfr2, hb2⟩; have hX2 := hX1.later (below_undrew hb2))
        | (go_at_call 21; refine (rmade_any _ _ n2 c2 _ _ hl2 hf2).mono ?_; rintro e w3 ⟨bl3, n3, c3, rfl, hnum, hb3⟩; have hX3 := hX2.later hb3; have rB0 := hX3.r0; have rB1 := hX3.r1; have fB0 := hX3.f0; have fB1 := hX3.f1))
    go_wp2
    rw [hsg.out] at hnum
    refine bodyPost_ret (v := .agg #[.bool bl3, .slice a2 n3 c3]) (by simp [results, Tryd.results53, go_sem, rB0, rB1]) rfl ?_
    exact rnumf_store hnum hX3.below (by omega) (fun p hp => by have h1 := hfr2 p hp; have h2 := hX1.sz; have h3 : w1.heap.size ≤ p.block := h1; omega)
  · have hbb' : (bl == bl') = false := by simpa using hbb
    clear hbb
    go_enter Tryd.func53, Tryd.ntmps53
    go_wp2_with fail
    have hX1 := boxed_mk w 28 bl a n c bl' a' n' c'
    generalize ((w.alloc (.cells #[.bool bl, .slice a n c] 28)).alloc (.cells #[.bool bl', .slice a' n' c'] 28)).alloc (.cells #[.bool false, .slice none 0 0] 28) = w1 at *
    refine (rsize_any a a' n c n' c' x.natAbs y.natAbs _ (hl.below hX1.below) (hl'.below hX1.below) hfx.out hfy.out).mono ?_
    rintro e w1' ⟨rfl, hbc⟩
    have hX1' := hX1.later hbc
    clear hX1 hbc
    by_cases hc : x.natAbs < y.natAbs
    · have hcd : decide (0 ≤ cmpN x.natAbs y.natAbs) = false := by rw [decide_eq_false_iff_not]; unfold cmpN; rw [if_pos hc]; omega
      have hsg := Lib.hid (sg_add2 hsx.out hsy.out hbb' hc)
      have HC := Lib.hid hc
      clear hc
      generalize hcc : cmpN x.natAbs y.natAbs = cc at *
      clear hcc
      go_wp2
      go_region_held3 (fun w' => w'.cell? ⟨w.heap.size, 0, none⟩ = some (.bool bl) ∧ w'.cell? ⟨w.heap.size, 1, none⟩ = some (.slice a n c) ∧ w'.cell? ⟨w.heap.size + 1, 0, none⟩ = some (.bool bl') ∧ w'.cell? ⟨w.heap.size + 1, 1, none⟩ = some (.slice a' n' c'))
        (first | exact hX1'.drew.hs | exact hX1'.hs | exact hX2.hs | exact hX3.hs | exact hX3.hs2 _ _)
        (first
          | (go_at_call 65; refine (rless_any a' a n' c' n c y.natAbs x.natAbs _ (hl'.below hX1'.drew.below) (hl.below hX1'.drew.below) hfy.out.1 hfx.out.1 (Nat.le_of_lt HC.out) (by omega) (by omega)).mono ?_; rintro e w2 ⟨a2, n2, c2, rfl, hl2, hf2, hfr2, hb2⟩; have hX2 := hX1'.later (below_undrew hb2))
          | (go_at_call 21; refine (rmade_any _ _ n2 c2 _ _ hl2 hf2).mono ?_; rintro e w3 ⟨bl3, n3, c3, rfl, hnum, hb3⟩; have hX3 := hX2.later hb3; have rB0 := hX3.r0; have rB1 := hX3.r1; have fB0 := hX3.f0; have fB1 := hX3.f1))
      go_wp2
      rw [hsg.out] at hnum
      refine bodyPost_ret (v := .agg #[.bool bl3, .slice a2 n3 c3]) (by simp [results, Tryd.results53, go_sem, rB0, rB1]) rfl ?_
      exact rnumf_store hnum hX3.below (by omega) (fun p hp => by have h1 := hfr2 p hp; have h2 := hX1'.sz; have h3 : w1'.heap.size ≤ p.block := h1; omega)
    · have hcd : decide (0 ≤ cmpN x.natAbs y.natAbs) = true := by rw [decide_eq_true_eq]; unfold cmpN; rw [if_neg hc]; split <;> omega
      have hsg := Lib.hid (sg_add3 hsx.out hsy.out hbb' hc)
      have HC := Lib.hid hc
      clear hc
      generalize hcc : cmpN x.natAbs y.natAbs = cc at *
      clear hcc
      go_wp2
      go_region_held3 (fun w' => w'.cell? ⟨w.heap.size, 0, none⟩ = some (.bool bl) ∧ w'.cell? ⟨w.heap.size, 1, none⟩ = some (.slice a n c) ∧ w'.cell? ⟨w.heap.size + 1, 0, none⟩ = some (.bool bl') ∧ w'.cell? ⟨w.heap.size + 1, 1, none⟩ = some (.slice a' n' c'))
        (first | exact hX1'.drew.hs | exact hX1'.hs | exact hX2.hs | exact hX3.hs | exact hX3.hs2 _ _)
        (first
          | (go_at_call 65; refine (rless_any a a' n c n' c' x.natAbs y.natAbs _ (hl.below hX1'.drew.below) (hl'.below hX1'.drew.below) hfx.out.1 hfy.out.1 (Nat.le_of_not_lt HC.out) (by omega) (by omega)).mono ?_; rintro e w2 ⟨a2, n2, c2, rfl, hl2, hf2, hfr2, hb2⟩; have hX2 := hX1'.later (below_undrew hb2))
          | (go_at_call 21; refine (rmade_any _ _ n2 c2 _ _ hl2 hf2).mono ?_; rintro e w3 ⟨bl3, n3, c3, rfl, hnum, hb3⟩; have hX3 := hX2.later hb3; have rB0 := hX3.r0; have rB1 := hX3.r1; have fB0 := hX3.f0; have fB1 := hX3.f1))
      go_wp2
      rw [hsg.out] at hnum
      refine bodyPost_ret (v := .agg #[.bool bl3, .slice a2 n3 c3]) (by simp [results, Tryd.results53, go_sem, rB0, rB1]) rfl ?_
      exact rnumf_store hnum hX3.below (by omega) (fun p hp => by have h1 := hfr2 p hp; have h2 := hX1'.sz; have h3 : w1'.heap.size ≤ p.block := h1; omega)

end Go.Proofs.YtpacbipencmjnaaDoor
