/- Parts of the proof. -/
import Derived.Test.YtolpfibihialkaaGreatDoorGq14
import Derived.Test.YtolpfibihialkaaGreatDoorGq17
import Derived.Test.YtolpfibihialkaaGreatDoorGq20
import Derived.Test.YtolpfibihialkaaGreatDoorGq18
/- The document's numbers: the walk of Root (as part Rroot, over the roots of part Sm). -/
namespace Go.Proofs.YtolpfibihialkaaGreatDoor
open Go.RowKit
/-- What Root is given, and the place of its result. -/
structure RRB (w W : World) (bl : Bool) (a : Option Addr) (n c : Nat) : Prop where
 below : Below w.heap.size w W
 X : Bx W 56 w.heap.size (.bool bl) (.slice a n c)
 A : Bx W 56 (w.heap.size + 1) (.bool false) (.slice none 0 0)
theorem RRB.later {w W W' : World} {bl : Bool} {a : Option Addr} {n c : Nat} (h : RRB w W bl a n c) (hb : Below W.heap.size W W') : RRB w W' bl a n c := ⟨h.below.trans (hb.mono h.below.size), h.X.below hb, h.A.below hb⟩
attribute [local go_sem] run_fieldD
end Go.Proofs.YtolpfibihialkaaGreatDoor

/- The document's fixed numbers: the walks of Cut, one, two. -/
namespace Go.Proofs.YtolpfibihialkaaGreatDoor
open Go.RowKit
theorem cmp_pos {x y : Int} (h : y < x) : decide (0 < cmpI x y) = true := by
 refine decide_eq_true ?_
 unfold cmpI
 rw [if_neg (by omega), if_pos h]
 decide
theorem cmp_npos {x y : Int} (h : x ≤ y) : decide (0 < cmpI x y) = false := by
 refine decide_eq_false ?_
 unfold cmpI
 split
 ·
  decide
 ·
  rw [if_neg (by omega)]; decide
theorem cmp_neg {x y : Int} (h : x < y) : decide (cmpI x y < 0) = true := by
 refine decide_eq_true ?_
 unfold cmpI
 rw [if_pos h]
 decide
theorem cmp_nneg {x y : Int} (h : y ≤ x) : decide (cmpI x y < 0) = false := by
 refine decide_eq_false ?_
 unfold cmpI
 rw [if_neg (by omega)]
 split <;> decide
/-- Two variables of the document's numbers. -/
structure TwoV (w W : World) (kx km : Nat) (bl : Bool) (a : Option Addr) (n c : Nat) (b2 : Bool) (a2 : Option Addr) (n2 c2 : Nat) : Prop where
 below : Below w.heap.size w W
 X : Bx W 56 kx (.bool bl) (.slice a n c)
 M : Bx W 56 km (.bool b2) (.slice a2 n2 c2)
theorem TwoV.later {w W W' : World} {kx km : Nat} {bl : Bool} {a : Option Addr} {n c : Nat} {b2 : Bool} {a2 : Option Addr} {n2 c2 : Nat} (h : TwoV w W kx km bl a n c b2 a2 n2 c2) (hb : Below W.heap.size W W') : TwoV w W' kx km bl a n c b2 a2 n2 c2 :=
 ⟨h.below.trans (hb.mono h.below.size), h.X.below hb, h.M.below hb⟩
theorem TwoV.hs {w W : World} {kx km : Nat} {bl : Bool} {a : Option Addr} {n c : Nat} {b2 : Bool} {a2 : Option Addr} {n2 c2 : Nat} (h : TwoV w W kx km bl a n c b2 a2 n2 c2) :
  W.cell? ⟨kx, 0, none⟩ = some (.bool bl) ∧ W.cell? ⟨kx, 1, none⟩ = some (.slice a n c) ∧ W.cell? ⟨km, 0, none⟩ = some (.bool b2) ∧ W.cell? ⟨km, 1, none⟩ = some (.slice a2 n2 c2) := ⟨h.X.cells.1, h.X.cells.2.1, h.M.cells.1, h.M.cells.2.1⟩
theorem TwoV.drew {w W : World} {kx km : Nat} {bl : Bool} {a : Option Addr} {n c : Nat} {b2 : Bool} {a2 : Option Addr} {n2 c2 : Nat} (h : TwoV w W kx km bl a n c b2 a2 n2 c2) : TwoV w W.drew kx km bl a n c b2 a2 n2 c2 := ⟨h.below.drew, h.X, h.M⟩
set_option maxHeartbeats 1600000 in
theorem rCut_any (bl : Bool) (a : Option Addr) (n c : Nat) (z : Int) (w : World) (h : RNum w bl a n c z) (hn : n ≤ 1000000) : Calls Tryz.prog 41 #[.agg #[.bool bl, .slice a n c]] w (PVal2 (.int .i64 (cutI z)) (.bool (cutB z)) w) := by
 have H := Lib.hid h
 clear h
 have hX1 := bx_new w 56 (.bool bl) (.slice a n c)
 have hw1 : Below w.heap.size w (w.alloc (.cells #[.bool bl, .slice a n c] 56)) := (Below.refl _ _).alloc (Nat.le_refl _) _
 go_enter Tryz.func41, Tryz.ntmps41
 go_wp2_with fail
 generalize w.alloc (.cells #[.bool bl, .slice a n c] 56) = w1 at *
 refine (rOf_any 2147483647 _ (by omega) (by omega)).mono ?_
 rintro e w2 ⟨b2, a2, n2, c2, rfl, hN2, _, hB2⟩
 have hal : Below w2.heap.size w2 (w2.alloc (.cells #[.bool b2, .slice a2 n2 c2] 56)) := (Below.refl _ _).alloc (Nat.le_refl _) _
 have hT : TwoV w (w2.alloc (.cells #[.bool b2, .slice a2 n2 c2] 56)) w.heap.size w2.heap.size bl a n c b2 a2 n2 c2 := ⟨hw1.trans ((hB2.trans (hal.mono hB2.size)).mono hw1.size), (hX1.below hB2).below hal, bx_new w2 _ _ _⟩
 have hN3 := hN2.below hal
 obtain ⟨x0, x1, y0, y1⟩ := hT.hs
 have hlt : w.heap.size < w2.heap.size := (hX1.below hB2).lt
 have x0' := (hX1.below hB2).cells.1
 have x1' := (hX1.below hB2).cells.2.1
 clear hN2 hB2 hal hX1 hw1
 go_wp2_with fail
 clear x0' x1' hlt
 generalize w2.alloc (.cells #[.bool b2, .slice a2 n2 c2] 56) = w3 at *
 generalize w2.heap.size = km at *
 refine (rCmp_any bl a n c z b2 a2 n2 c2 2147483647 _ (H.out.below hT.below) hN3).mono ?_
 rintro e w4 ⟨rfl, hB4⟩
 have hT4 := hT.later hB4
 have hN4 := hN3.below hB4
 clear hT hN3 hB4 x0 x1 y0 y1
 rcases Int.lt_or_le 2147483647 z with hz | hz
 ·
  have d1 := cmp_pos hz
  have HE := Lib.hid (cut_hi hz)
  generalize cmpI z 2147483647 = cc at *
  go_wp2
  go_ret2
  exact ⟨by rw [HE.out.1, HE.out.2]; rfl, hT4.below⟩
 ·
  have d1 := cmp_npos hz
  generalize cmpI z 2147483647 = cc at *
  go_wp2
  have hT4d := hT4.drew
  have hs4 := hT4.hs
  go_region_held3 (fun w' => w'.cell? ⟨w.heap.size, 0, none⟩ = some (.bool bl) ∧ w'.cell? ⟨w.heap.size, 1, none⟩ = some (.slice a n c) ∧ w'.cell? ⟨km, 0, none⟩ = some (.bool b2) ∧ w'.cell? ⟨km, 1, none⟩ = some (.slice a2 n2 c2))
   (first | exact hs4 | exact hs5 | exact hs6)
   (first
    | (go_at_call 38; refine (rMinus_any b2 a2 n2 c2 2147483647 _ (hN4.below ((Below.refl _ _).drew))).mono ?_; rintro e w5 ⟨b5, a5, n5, c5, rfl, hN5, hB5⟩; have hT5 := hT4d.later hB5; have hs5 := hT5.hs)
    | (go_at_call 61; refine (rCmp_any bl a n c z b5 a5 n5 c5 (-2147483647) _ (H.out.below hT5.below) hN5).mono ?_; rintro e w6 ⟨rfl, hB6⟩; have hT6 := hT5.later hB6; have hs6 := hT6.hs))
  clear hs4 hs5 hs6 hT4 hT4d hT5 hN4 hN5 hB5 hB6
  rcases Int.lt_or_le z (-2147483647) with hz2 | hz2
  ·
   have d2 := cmp_neg hz2
   have HE := Lib.hid (cut_lo hz2)
   generalize cmpI z (-2147483647) = c6 at *
   have d3 : c6 < 0 := of_decide_eq_true d2
   go_wp2
   go_ret2
   exact ⟨by rw [HE.out.1, HE.out.2]; rfl, hT6.below⟩
  ·
   have d2 := cmp_nneg hz2
   have HE := Lib.hid (cut_in hz2 hz)
   have hS : smallV z = z := by unfold smallV; rw [if_pos (by omega)]
   have hF := fun W hW => rSmall_any bl a n c z W hW hn
   rw [hS] at hF
   have HF := Lib.hid hF
   clear hF hS
   generalize cmpI z (-2147483647) = c6 at *
   have d3 : ¬ c6 < 0 := of_decide_eq_false d2
   obtain ⟨x0, x1, y0, y1⟩ := hT6.hs
   go_wp2_with fail
   refine (HF.out _ (H.out.below hT6.below)).mono ?_
   rintro e w7 ⟨rfl, hB7⟩
   generalize smallB z = sb at *
   go_wp2
   go_ret2
   exact ⟨by rw [HE.out.1, HE.out.2]; rfl, (hT6.later hB7).below⟩
set_option maxHeartbeats 800000 in
theorem rone_any (w : World) : Calls Tryz.prog 39 #[] w (PRNumF 1048576 w) := by
 go_enter Tryz.func39, Tryz.ntmps39
 go_wp2_with fail
 have hw1 : Below w.heap.size w (w.alloc (.cells #[.bool false, .slice none 0 0] 56)) := (Below.refl _ _).alloc (Nat.le_refl _) _
 have hX1 := bx_new w 56 (.bool false) (.slice none 0 0)
 have hsz : (w.alloc (.cells #[.bool false, .slice none 0 0] 56)).heap.size = w.heap.size + 1 := by simp
 generalize w.alloc (.cells #[.bool false, .slice none 0 0] 56) = w1 at *
 refine (rOf_any 1048576 _ (by omega) (by omega)).mono ?_
 rintro e w2 ⟨b2, a2, n2, c2, rfl, hN2, hfr, hB2⟩
 obtain ⟨q0, q1, q2, q3⟩ := (hX1.below hB2).cells
 have HSZ := Lib.hid hsz
 clear hsz
 go_wp2
 refine bodyPost_ret (v := .agg #[.bool b2, .slice a2 n2 c2]) (by simp [results, Tryz.results39, go_sem, q0, q1]) rfl ?_
 exact rnumf_store hN2 (hw1.trans (hB2.mono hw1.size)) (Nat.le_refl _) (fun p hp => by have := hfr p hp; have := HSZ.out; omega)
end Go.Proofs.YtolpfibihialkaaGreatDoor
