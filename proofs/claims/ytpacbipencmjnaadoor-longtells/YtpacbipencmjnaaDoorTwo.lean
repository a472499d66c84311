/- The walk of the laws' two: two texts, read by the program and by the document. -/
import Derived.Test.YtpacbipencmjnaaDoorGr7
import Derived.Deep.RegionHeld3
namespace Go.Proofs.YtpacbipencmjnaaDoor
open Go.RowKit

/-- What reading a text of any length hands back. -/
def pE (s : ByteArray) : Int := if s.size ≤ 2000 then parseE s.data.toList else 2
def pZ (s : ByteArray) : Int := if s.size ≤ 2000 then parseZ s.data.toList else 0
theorem Parse_all (s : ByteArray) (w : World) (hs : s.size ≤ maxLen) : Calls Tryd.prog 14 #[.string s] w (PNumE (pZ s) (pE s) w) := by
  unfold pZ pE
  by_cases h : s.size ≤ 2000
  · rw [if_pos h, if_pos h]; exact Parse_any s w h
  · rw [if_neg h, if_neg h]; exact Parse_long s w (by omega) hs
theorem rParse_all (s : ByteArray) (w : World) (hs : s.size ≤ maxLen) : Calls Tryd.prog 18 #[.string s] w (PRNumE (pZ s) (pE s) w) := by
  unfold pZ pE
  by_cases h : s.size ≤ 2000
  · rw [if_pos h, if_pos h]; exact rParse_any s w h
  · rw [if_neg h, if_neg h]; exact rParse_long s w (by omega) hs
/-- Both texts are read, and neither is long. -/
def twoB (s t : ByteArray) : Bool := pE s == 0 && pE t == 0 && decide ((s.size : Int) ≤ 150) && decide ((t.size : Int) ≤ 150)
theorem pE_ok {s : ByteArray} (h : (pE s == 0) = true) : parsesB s.data.toList = true ∧ pZ s = zval s.data.toList := by
  have h' : pE s = 0 := by simpa using h
  unfold pE at h'
  by_cases h2 : s.size ≤ 2000
  · rw [if_pos h2] at h'
    unfold parseE at h'
    by_cases h3 : parsesB s.data.toList = true
    · refine ⟨h3, ?_⟩
      unfold pZ; rw [if_pos h2, (good_of h3).1]
    · rw [if_neg h3] at h'; cases h'
  · rw [if_neg h2] at h'; cases h'
theorem twoB_ok {s t : ByteArray} (h : twoB s t = true) : (parsesB s.data.toList = true ∧ pZ s = zval s.data.toList ∧ s.size ≤ 150) ∧ (parsesB t.data.toList = true ∧ pZ t = zval t.data.toList ∧ t.size ≤ 150) := by
  unfold twoB at h
  simp only [Bool.and_eq_true, decide_eq_true_eq] at h
  obtain ⟨⟨⟨h1, h2⟩, h3⟩, h4⟩ := h
  exact ⟨⟨(pE_ok h1).1, (pE_ok h1).2, by omega⟩, ⟨(pE_ok h2).1, (pE_ok h2).2, by omega⟩⟩
/-- Block b holds these two values, and may be written. -/
structure B2 (w : World) (b : Nat) (u v : Value) : Prop where
  k0 : w.cell? ⟨b, 0, none⟩ = some u
  k1 : w.cell? ⟨b, 1, none⟩ = some v
  f0 : w.frozen? ⟨b, 0, none⟩ = false
  f1 : w.frozen? ⟨b, 1, none⟩ = false
theorem B2.lt {w : World} {b : Nat} {u v : Value} (h : B2 w b u v) : b < w.heap.size := World.block_lt_of_cell? w _ h.k0
theorem B2.below {w w' : World} {b B : Nat} {u v : Value} (h : B2 w b u v) (hb : Below B w w') (hB : b < B) : B2 w' b u v :=
  ⟨(hb.cell (p := ⟨b, 0, none⟩) hB).trans h.k0, (hb.cell (p := ⟨b, 1, none⟩) hB).trans h.k1, (hb.frozen (p := ⟨b, 0, none⟩) hB).trans h.f0, (hb.frozen (p := ⟨b, 1, none⟩) hB).trans h.f1⟩
theorem b2_new (w : World) (u v : Value) (t : TypeId) : B2 (w.alloc (.cells #[u, v] t)) w.heap.size u v := ⟨by simp [go_sem], by simp [go_sem], by simp [go_sem], by simp [go_sem]⟩
/-- Four places for results. -/
structure R4 (w W : World) : Prop where
  below : Below w.heap.size w W
  a : B2 W w.heap.size (.bool false) (.slice none 0 0)
  b : B2 W (w.heap.size + 1) (.bool false) (.slice none 0 0)
  c : B2 W (w.heap.size + 2) (.bool false) (.slice none 0 0)
  d : B2 W (w.heap.size + 3) (.bool false) (.slice none 0 0)
theorem R4.later {w W W' : World} (h : R4 w W) (hb : Below W.heap.size W W') : R4 w W' :=
  ⟨h.below.trans (hb.mono h.below.size), h.a.below hb h.a.lt, h.b.below hb h.b.lt, h.c.below hb h.c.lt, h.d.below hb h.d.lt⟩
theorem r4_mk (w : World) (t t' : TypeId) : R4 w ((((w.alloc (.cells #[.bool false, .slice none 0 0] t)).alloc (.cells #[.bool false, .slice none 0 0] t)).alloc (.cells #[.bool false, .slice none 0 0] t')).alloc (.cells #[.bool false, .slice none 0 0] t')) :=
  ⟨((((Below.refl w.heap.size w).alloc (Nat.le_refl _) _).alloc (by simp) _).alloc (by simp; omega) _).alloc (by simp; omega) _,
    ⟨by simp [go_sem], by simp [go_sem], by simp [go_sem], by simp [go_sem]⟩, ⟨by simp [go_sem], by simp [go_sem], by simp [go_sem], by simp [go_sem]⟩, ⟨by simp [go_sem], by simp [go_sem], by simp [go_sem], by simp [go_sem]⟩, ⟨by simp [go_sem], by simp [go_sem], by simp [go_sem], by simp [go_sem]⟩⟩
/-- Two numbers, each as the program's and as the document's, and a word. -/
def PTwo (x y : Int) (is : Bool) (w : World) (e : Ending) (w' : World) : Prop :=
  ∃ (b1 : Bool) (a1 : Option Addr) (n1 c1 : Nat) (b2 : Bool) (a2 : Option Addr) (n2 c2 : Nat) (b3 : Bool) (a3 : Option Addr) (n3 c3 : Nat) (b4 : Bool) (a4 : Option Addr) (n4 c4 : Nat),
    e = .returned (.tuple #[.agg #[.bool b1, .slice a1 n1 c1], .agg #[.bool b2, .slice a2 n2 c2], .agg #[.bool b3, .slice a3 n3 c3], .agg #[.bool b4, .slice a4 n4 c4], .bool is]) ∧
    Num w' b1 a1 n1 c1 x ∧ Num w' b2 a2 n2 c2 y ∧ RNum w' b3 a3 n3 c3 x ∧ RNum w' b4 a4 n4 c4 y ∧ Below w.heap.size w w'

def set8 (W : World) (r : Nat) (u1 v1 u2 v2 u3 v3 u4 v4 : Value) : World :=
  (((((((W.setCell ⟨r, 0, none⟩ u1).setCell ⟨r, 1, none⟩ v1).setCell ⟨r + 1, 0, none⟩ u2).setCell ⟨r + 1, 1, none⟩ v2).setCell ⟨r + 1 + 1, 0, none⟩ u3).setCell ⟨r + 1 + 1, 1, none⟩ v3).setCell ⟨r + 1 + 1 + 1, 0, none⟩ u4).setCell ⟨r + 1 + 1 + 1, 1, none⟩ v4
theorem set8_below (W : World) (r B : Nat) (hB : B ≤ r) (u1 v1 u2 v2 u3 v3 u4 v4 : Value) : Below B W (set8 W r u1 v1 u2 v2 u3 v3 u4 v4) :=
  ((((only2 _ _ _ _).below hB).trans ((only2 _ _ _ _).below (by omega))).trans ((only2 _ _ _ _).below (by omega))).trans ((only2 _ _ _ _).below (by omega))
theorem set8_num {W : World} {r : Nat} {bl : Bool} {a : Option Addr} {n c : Nat} {z : Int} (h : Num W bl a n c z) (hf : ∀ p, a = some p → r + 3 < p.block) (u1 v1 u2 v2 u3 v3 u4 v4 : Value) : Num (set8 W r u1 v1 u2 v2 u3 v3 u4 v4) bl a n c z :=
  (((h.only (only2 _ _ _ _) (fun p hp => by have := hf p hp; omega)).only (only2 _ _ _ _) (fun p hp => by have := hf p hp; omega)).only (only2 _ _ _ _) (fun p hp => by have := hf p hp; omega)).only (only2 _ _ _ _) (fun p hp => by have := hf p hp; omega)
theorem set8_rnum {W : World} {r : Nat} {bl : Bool} {a : Option Addr} {n c : Nat} {z : Int} (h : RNum W bl a n c z) (hf : ∀ p, a = some p → r + 3 < p.block) (u1 v1 u2 v2 u3 v3 u4 v4 : Value) : RNum (set8 W r u1 v1 u2 v2 u3 v3 u4 v4) bl a n c z :=
  (((h.only (only2 _ _ _ _) (fun p hp => by have := hf p hp; omega)).only (only2 _ _ _ _) (fun p hp => by have := hf p hp; omega)).only (only2 _ _ _ _) (fun p hp => by have := hf p hp; omega)).only (only2 _ _ _ _) (fun p hp => by have := hf p hp; omega)

theorem two_end {w W : World} {x y : Int} {is : Bool} {b1 : Bool} {a1 : Option Addr} {n1 c1 : Nat} {b2 : Bool} {a2 : Option Addr} {n2 c2 : Nat} {b3 : Bool} {a3 : Option Addr} {n3 c3 : Nat} {b4 : Bool} {a4 : Option Addr} {n4 c4 : Nat}
    (h1 : Num W b1 a1 n1 c1 x) (h2 : Num W b2 a2 n2 c2 y) (h3 : RNum W b3 a3 n3 c3 x) (h4 : RNum W b4 a4 n4 c4 y) (hB : Below w.heap.size w W)
    (hF : (∀ p, a1 = some p → w.heap.size + 3 < p.block) ∧ (∀ p, a2 = some p → w.heap.size + 3 < p.block) ∧ (∀ p, a3 = some p → w.heap.size + 3 < p.block) ∧ (∀ p, a4 = some p → w.heap.size + 3 < p.block)) :
    PTwo x y is w (.returned (.tuple #[.agg #[.bool b1, .slice a1 n1 c1], .agg #[.bool b2, .slice a2 n2 c2], .agg #[.bool b3, .slice a3 n3 c3], .agg #[.bool b4, .slice a4 n4 c4], .bool is]))
      (set8 W w.heap.size (.bool b1) (.slice a1 n1 c1) (.bool b2) (.slice a2 n2 c2) (.bool b3) (.slice a3 n3 c3) (.bool b4) (.slice a4 n4 c4)).drew :=
  ⟨b1, a1, n1, c1, b2, a2, n2, c2, b3, a3, n3, c3, b4, a4, n4, c4, rfl, (set8_num h1 hF.1 _ _ _ _ _ _ _ _).below (Below.refl _ _).drew, (set8_num h2 hF.2.1 _ _ _ _ _ _ _ _).below (Below.refl _ _).drew,
    (set8_rnum h3 hF.2.2.1 _ _ _ _ _ _ _ _).below (Below.refl _ _).drew, (set8_rnum h4 hF.2.2.2 _ _ _ _ _ _ _ _).below (Below.refl _ _).drew, (hB.trans (set8_below W w.heap.size _ (Nat.le_refl _) _ _ _ _ _ _ _ _)).drew⟩
/-- Four blocks' values. -/
structure K8 (W : World) (r i1 i2 i3 i4 : Nat) (u1 v1 u2 v2 u3 v3 u4 v4 : Value) : Prop where
  l1 : r + 3 < i1
  l2 : r + 3 < i2
  l3 : r + 3 < i3
  l4 : r + 3 < i4
  k10 : W.cell? ⟨i1, 0, none⟩ = some u1
  k11 : W.cell? ⟨i1, 1, none⟩ = some v1
  k20 : W.cell? ⟨i2, 0, none⟩ = some u2
  k21 : W.cell? ⟨i2, 1, none⟩ = some v2
  k30 : W.cell? ⟨i3, 0, none⟩ = some u3
  k31 : W.cell? ⟨i3, 1, none⟩ = some v3
  k40 : W.cell? ⟨i4, 0, none⟩ = some u4
  k41 : W.cell? ⟨i4, 1, none⟩ = some v4
theorem K8.set {W : World} {r i1 i2 i3 i4 : Nat} {u1 v1 u2 v2 u3 v3 u4 v4 : Value} (h : K8 W r i1 i2 i3 i4 u1 v1 u2 v2 u3 v3 u4 v4) (j : Nat) (hj : j ≤ r + 3) (u v : Value) : K8 ((W.setCell ⟨j, 0, none⟩ u).setCell ⟨j, 1, none⟩ v) r i1 i2 i3 i4 u1 v1 u2 v2 u3 v3 u4 v4 := by
  have h1 := h.l1
  have h2 := h.l2
  have h3 := h.l3
  have h4 := h.l4
  exact ⟨h1, h2, h3, h4, far2 h.k10 (by omega), far2 h.k11 (by omega), far2 h.k20 (by omega), far2 h.k21 (by omega), far2 h.k30 (by omega), far2 h.k31 (by omega), far2 h.k40 (by omega), far2 h.k41 (by omega)⟩
theorem K8.drew {W : World} {r i1 i2 i3 i4 : Nat} {u1 v1 u2 v2 u3 v3 u4 v4 : Value} (h : K8 W r i1 i2 i3 i4 u1 v1 u2 v2 u3 v3 u4 v4) : K8 W.drew r i1 i2 i3 i4 u1 v1 u2 v2 u3 v3 u4 v4 := ⟨h.l1, h.l2, h.l3, h.l4, h.k10, h.k11, h.k20, h.k21, h.k30, h.k31, h.k40, h.k41⟩
theorem K8.hs {W : World} {r i1 i2 i3 i4 : Nat} {u1 v1 u2 v2 u3 v3 u4 v4 : Value} (h : K8 W r i1 i2 i3 i4 u1 v1 u2 v2 u3 v3 u4 v4) :
    W.cell? ⟨i1, 0, none⟩ = some u1 ∧ W.cell? ⟨i1, 1, none⟩ = some v1 ∧ W.cell? ⟨i2, 0, none⟩ = some u2 ∧ W.cell? ⟨i2, 1, none⟩ = some v2 ∧ W.cell? ⟨i3, 0, none⟩ = some u3 ∧ W.cell? ⟨i3, 1, none⟩ = some v3 ∧ W.cell? ⟨i4, 0, none⟩ = some u4 ∧ W.cell? ⟨i4, 1, none⟩ = some v4 := ⟨h.k10, h.k11, h.k20, h.k21, h.k30, h.k31, h.k40, h.k41⟩

set_option maxRecDepth 100000 in
set_option maxHeartbeats 6400000 in
theorem two_any (s t : ByteArray) (w : World) (hs : s.size ≤ maxLen) (ht : t.size ≤ maxLen) :
    Calls Tryd.prog 5 #[.string s, .string t] w (PTwo (pZ s) (pZ t) (twoB s t) w) := by
  have HS := Lib.hid hs
  have HT := Lib.hid ht
  clear hs ht
  go_enter Tryd.func5, Tryd.ntmps5
  go_wp2_with fail
  have hR := r4_mk w 25 28
  generalize (((w.alloc (.cells #[.bool false, .slice none 0 0] 25)).alloc (.cells #[.bool false, .slice none 0 0] 25)).alloc (.cells #[.bool false, .slice none 0 0] 28)).alloc (.cells #[.bool false, .slice none 0 0] 28) = W0 at *
  refine (Parse_all s _ HS.out).mono ?_
  rintro e w1 ⟨b1, a1, n1, c1, rfl, hN1, hf1, hB1⟩
  have hl := hR.d.lt
  have HL1 : w.heap.size + 3 < w1.heap.size := by have := hB1.size; omega
  have hF1 : ∀ p, a1 = some p → w.heap.size + 3 < p.block := fun p hp => by have := hf1 p hp; omega
  have hv1 := b2_new w1 (.bool b1) (.slice a1 n1 c1) 25
  have hE1 := hB1.trans ((below_new w1 (.cells #[.bool b1, .slice a1 n1 c1] 25)).mono hB1.size)
  have hM1 := hN1.below (below_new w1 (.cells #[.bool b1, .slice a1 n1 c1] 25))
  have hR1 := hR.later hE1
  clear hR hf1 hN1 hE1 hB1 hl
  go_wp2_with fail
  generalize w1.alloc (.cells #[.bool b1, .slice a1 n1 c1] 25) = W1 at *
  refine (Parse_all t _ HT.out).mono ?_
  rintro e w2 ⟨b2, a2, n2, c2, rfl, hN2, hf2, hB2⟩
  have hl := hR1.d.lt
  have HL2 : w.heap.size + 3 < w2.heap.size := by have := hB2.size; omega
  have hF2 : ∀ p, a2 = some p → w.heap.size + 3 < p.block := fun p hp => by have := hf2 p hp; omega
  have hv2 := b2_new w2 (.bool b2) (.slice a2 n2 c2) 25
  have hE2 := hB2.trans ((below_new w2 (.cells #[.bool b2, .slice a2 n2 c2] 25)).mono hB2.size)
  have hM2 := hN2.below (below_new w2 (.cells #[.bool b2, .slice a2 n2 c2] 25))
  have hR2 := hR1.later hE2
  have hv1' := hv1.below hE2 hv1.lt
  have hM1' := hM1.below hE2
  clear hR1 hf2 hN2 hE2 hB2 hl hv1 hM1
  go_wp2_with fail
  generalize w2.alloc (.cells #[.bool b2, .slice a2 n2 c2] 25) = W2 at *
  refine (rParse_all s _ HS.out).mono ?_
  rintro e w3 ⟨b3, a3, n3, c3, rfl, hN3, hf3, hB3⟩
  have hl := hR2.d.lt
  have HL3 : w.heap.size + 3 < w3.heap.size := by have := hB3.size; omega
  have hF3 : ∀ p, a3 = some p → w.heap.size + 3 < p.block := fun p hp => by have := hf3 p hp; omega
  have hv3 := b2_new w3 (.bool b3) (.slice a3 n3 c3) 28
  have hE3 := hB3.trans ((below_new w3 (.cells #[.bool b3, .slice a3 n3 c3] 28)).mono hB3.size)
  have hM3 := hN3.below (below_new w3 (.cells #[.bool b3, .slice a3 n3 c3] 28))
  have hR3 := hR2.later hE3
  have hv1'' := hv1'.below hE3 hv1'.lt
  have hM1'' := hM1'.below hE3
  have hv2' := hv2.below hE3 hv2.lt
  have hM2' := hM2.below hE3
  clear hR2 hf3 hN3 hE3 hB3 hl hv1' hM1' hv2 hM2
  go_wp2_with fail
  generalize w3.alloc (.cells #[.bool b3, .slice a3 n3 c3] 28) = W3 at *
  refine (rParse_all t _ HT.out).mono ?_
  rintro e w4 ⟨b4, a4, n4, c4, rfl, hN4, hf4, hB4⟩
  have hl := hR3.d.lt
  have HL4 : w.heap.size + 3 < w4.heap.size := by have := hB4.size; omega
  have hF4 : ∀ p, a4 = some p → w.heap.size + 3 < p.block := fun p hp => by have := hf4 p hp; omega
  have hv4 := b2_new w4 (.bool b4) (.slice a4 n4 c4) 28
  have hE4 := hB4.trans ((below_new w4 (.cells #[.bool b4, .slice a4 n4 c4] 28)).mono hB4.size)
  have hM4 := hN4.below (below_new w4 (.cells #[.bool b4, .slice a4 n4 c4] 28))
  have hR4 := hR3.later hE4
  have hv1 := hv1''.below hE4 hv1''.lt
  have hM1 := hM1''.below hE4
  have hv2 := hv2'.below hE4 hv2'.lt
  have hM2 := hM2'.below hE4
  have hv3' := hv3.below hE4 hv3.lt
  have hM3' := hM3.below hE4
  clear hR3 hf4 hN4 hE4 hB4 hl hv1'' hM1'' hv2' hM2' hv3 hM3
  have HF := Lib.hid (And.intro hF1 (And.intro hF2 (And.intro hF3 hF4)))
  clear hF1 hF2 hF3 hF4
  obtain ⟨eA, heA⟩ : ∃ e, pE s = e := ⟨_, rfl⟩
  obtain ⟨eB, heB⟩ : ∃ e, pE t = e := ⟨_, rfl⟩
  rw [heA, heB]
  have hw := Lib.hid (show twoB s t = (eA == 0 && eB == 0 && decide ((s.size : Int) ≤ 150) && decide ((t.size : Int) ≤ 150)) by unfold twoB; rw [heA, heB])
  clear heA heB
  go_upto_region 5 with (fail)
  generalize w4.alloc (.cells #[.bool b4, .slice a4 n4 c4] 28) = W4 at *
  have hK : K8 W4 w.heap.size w1.heap.size w2.heap.size w3.heap.size w4.heap.size (.bool b1) (.slice a1 n1 c1) (.bool b2) (.slice a2 n2 c2) (.bool b3) (.slice a3 n3 c3) (.bool b4) (.slice a4 n4 c4) :=
    ⟨HL1, HL2, HL3, HL4, hv1.k0, hv1.k1, hv2.k0, hv2.k1, hv3'.k0, hv3'.k1, hv4.k0, hv4.k1⟩
  have r10 := hR4.a.k0
  have r11 := hR4.a.k1
  have r12 := hR4.a.f0
  have r13 := hR4.a.f1
  have r20 := hR4.b.k0
  have r21 := hR4.b.k1
  have r22 := hR4.b.f0
  have r23 := hR4.b.f1
  have r30 : W4.cell? ⟨w.heap.size + 1 + 1, 0, none⟩ = some (.bool false) := hR4.c.k0
  have r31 : W4.cell? ⟨w.heap.size + 1 + 1, 1, none⟩ = some (.slice none 0 0) := hR4.c.k1
  have r32 : W4.frozen? ⟨w.heap.size + 1 + 1, 0, none⟩ = false := hR4.c.f0
  have r33 : W4.frozen? ⟨w.heap.size + 1 + 1, 1, none⟩ = false := hR4.c.f1
  have r40 : W4.cell? ⟨w.heap.size + 1 + 1 + 1, 0, none⟩ = some (.bool false) := hR4.d.k0
  have r41 : W4.cell? ⟨w.heap.size + 1 + 1 + 1, 1, none⟩ = some (.slice none 0 0) := hR4.d.k1
  have r42 : W4.frozen? ⟨w.heap.size + 1 + 1 + 1, 0, none⟩ = false := hR4.d.f0
  have r43 : W4.frozen? ⟨w.heap.size + 1 + 1 + 1, 1, none⟩ = false := hR4.d.f1
  have hz := hR4.d.lt
  rcases hqa : (eA == 0) with _ | _
  · rw [hqa] at hw
    refine wp_region_held_drew (S := fun w' => K8 w' w.heap.size w1.heap.size w2.heap.size w3.heap.size w4.heap.size (.bool b1) (.slice a1 n1 c1) (.bool b2) (.slice a2 n2 c2) (.bool b3) (.slice a3 n3 c3) (.bool b4) (.slice a4 n4 c4)) (by kernel_rfl) hK.drew (fun hHeld => ?_)
    refine wpAnyH_take (i := 0) (v := ?vn1x0) rfl (by kernel_rfl) (by kernel_rfl) (by kernel_rfl) (fun _ _ _ h => h) (Or.inl ⟨by kernel_rfl, ?hyn1x0⟩) (by assumption) ?restn1x0
    case hyn1x0 => intro w' hSw; have q0 := hSw.k10; have q1 := hSw.k11; go_simp; try with_reducible rfl
    simp only [Act.put, List.setIfInBounds_toArray]
    refine wpAnyH_take (i := 1) (v := ?vn1x1) rfl (by kernel_rfl) (by kernel_rfl) (by kernel_rfl) (fun _ _ _ h => h) (Or.inl ⟨by kernel_rfl, ?hyn1x1⟩) (by assumption) ?restn1x1
    case hyn1x1 => intro w' hSw; have q0 := hSw.k20; have q1 := hSw.k21; go_simp; try with_reducible rfl
    simp only [Act.put]
    refine wpAnyH_take (i := 2) (v := ?vn1x2) rfl (by kernel_rfl) (by kernel_rfl) (by kernel_rfl) (fun _ _ _ h => h) (Or.inl ⟨by kernel_rfl, ?hyn1x2⟩) (by assumption) ?restn1x2
    case hyn1x2 => intro w' hSw; have q0 := hSw.k30; have q1 := hSw.k31; go_simp; try with_reducible rfl
    simp only [Act.put]
    refine wpAnyH_take (i := 3) (v := ?vn1x3) rfl (by kernel_rfl) (by kernel_rfl) (by kernel_rfl) (fun _ _ _ h => h) (Or.inl ⟨by kernel_rfl, ?hyn1x3⟩) (by assumption) ?restn1x3
    case hyn1x3 => intro w' hSw; have q0 := hSw.k40; have q1 := hSw.k41; go_simp; try with_reducible rfl
    simp only [Act.put]
    refine wpAnyH_take (i := 4) (v := ?vn1x4) rfl (by kernel_rfl) (by kernel_rfl) (by kernel_rfl) (fun _ _ _ h => h) (Or.inl ⟨by kernel_rfl, ?hyn1x4⟩) (by assumption) ?restn1x4
    case hyn1x4 => intro w' hSw; clear hSw; go_simp; try with_reducible rfl
    simp only [Act.put]
    refine wpAnyH_take (i := 5) (v := ?vn1x5) rfl (by kernel_rfl) (by kernel_rfl) (by kernel_rfl) (fun _ _ _ h => h) (Or.inl ⟨by kernel_rfl, ?hyn1x5⟩) (by assumption) ?restn1x5
    case hyn1x5 => intro w' hSw; clear hSw; go_simp; try with_reducible rfl
    simp only [Act.put]
    refine wpAnyH_take (i := 6) (v := ?vn1x6) rfl (by kernel_rfl) (by kernel_rfl) (by kernel_rfl) (fun _ _ _ h => h) (Or.inl ⟨by kernel_rfl, ?hyn1x6⟩) (by assumption) ?restn1x6
    case hyn1x6 => intro w' hSw; clear hSw; go_simp; try with_reducible rfl
    simp only [Act.put]
    refine wpAnyH_take (i := 7) (v := undef) rfl (by kernel_rfl) (by kernel_rfl) (by kernel_rfl) (fun _ _ _ h => h) (Or.inr ⟨by kernel_rfl, by rfl⟩) (by assumption) ?_
    simp only [Act.put]
    refine wpAnyH_take (i := 8) (v := undef) rfl (by kernel_rfl) (by kernel_rfl) (by kernel_rfl) (fun _ _ _ h => h) (Or.inr ⟨by kernel_rfl, by rfl⟩) (by assumption) ?_
    simp only [Act.put]
    refine wpAnyH_take (i := 9) (v := ?vn1x9) rfl (by kernel_rfl) (by kernel_rfl) (by kernel_rfl) (fun _ _ _ h => h) (Or.inl ⟨by kernel_rfl, ?hyn1x9⟩) (by assumption) ?restn1x9
    case hyn1x9 => intro w' hSw; clear hSw; go_simp; try with_reducible rfl
    simp only [Act.put]
    refine wpAnyH_take (i := 10) (v := ?vn1x10) rfl (by kernel_rfl) (by kernel_rfl) (by kernel_rfl) (fun _ _ _ h => h) (Or.inl ⟨by kernel_rfl, ?hyn1x10⟩) (by assumption) ?restn1x10
    case hyn1x10 => intro w' hSw; clear hSw; go_simp; try with_reducible rfl
    simp only [Act.put]
    refine wpAnyH_take (i := 11) (v := undef) rfl (by kernel_rfl) (by kernel_rfl) (by kernel_rfl) (fun _ _ _ h => h) (Or.inr ⟨by kernel_rfl, by rfl⟩) (by assumption) ?_
    simp only [Act.put]
    refine wpAnyH_take (i := 12) (v := undef) rfl (by kernel_rfl) (by kernel_rfl) (by kernel_rfl) (fun _ _ _ h => h) (Or.inr ⟨by kernel_rfl, by rfl⟩) (by assumption) ?_
    simp only [Act.put]
    refine wpAnyH_take (i := 13) (v := undef) rfl (by kernel_rfl) (by kernel_rfl) (by kernel_rfl) (fun _ _ _ h => h) (Or.inr ⟨by kernel_rfl, by rfl⟩) (by assumption) ?_
    simp only [Act.put]
    refine wpAnyH_take (i := 14) (v := ?vn1x14) rfl (by kernel_rfl) (by kernel_rfl) (by kernel_rfl) (fun _ _ _ h => h) (Or.inl ⟨by kernel_rfl, ?hyn1x14⟩) (by assumption) ?restn1x14
    case hyn1x14 => intro w' hSw; clear hSw; go_simp; try with_reducible rfl
    simp only [Act.put]
    refine wpAnyH_take (i := 15) (v := ?vn1x15) rfl (by kernel_rfl) (by kernel_rfl) (by kernel_rfl) (fun _ _ _ h => h) (Or.inl ⟨by kernel_rfl, ?hyn1x15⟩) (by assumption) ?restn1x15
    case hyn1x15 => intro w' hSw; clear hSw; go_simp; try with_reducible rfl
    simp only [Act.put]
    refine wpAnyH_take (i := 16) (v := undef) rfl (by kernel_rfl) (by kernel_rfl) (by kernel_rfl) (fun _ _ _ h => h) (Or.inr ⟨by kernel_rfl, by rfl⟩) (by assumption) ?_
    simp only [Act.put]
    refine wpAnyH_take (i := 17) (v := undef) rfl (by kernel_rfl) (by kernel_rfl) (by kernel_rfl) (fun _ _ _ h => h) (Or.inr ⟨by kernel_rfl, by rfl⟩) (by assumption) ?_
    simp only [Act.put]
    refine wpAnyH_take (i := 18) (v := undef) rfl (by kernel_rfl) (by kernel_rfl) (by kernel_rfl) (fun _ _ _ h => h) (Or.inr ⟨by kernel_rfl, by rfl⟩) (by assumption) ?_
    simp only [Act.put]
    refine wpAnyH_take (i := 19) (v := ?vn1x19) rfl (by kernel_rfl) (by kernel_rfl) (by kernel_rfl) (fun _ _ _ h => h) (Or.inl ⟨by kernel_rfl, ?hyn1x19⟩) (by assumption) ?restn1x19
    case hyn1x19 => intro w' hSw; clear hSw; go_simp; try with_reducible rfl
    simp only [Act.put]
    refine wpAnyH_ready (rs := [20]) (by kernel_rfl) (by simp) ?_
    refine AllReadyH.cons rfl (fun K hKK => ?_) AllReadyH.nil
    go_simp
    refine hKK.out _ _ ?_ (fun hHeld => ?_)
    · exact (hK.set _ (by omega) _ _).drew
    clear hKK K
    refine wpAnyH_ready (rs := [21]) (by kernel_rfl) (by simp) ?_
    refine AllReadyH.cons rfl (fun K hKK => ?_) AllReadyH.nil
    go_simp
    refine hKK.out _ _ ?_ (fun hHeld => ?_)
    · exact ((hK.set _ (by omega) _ _).set _ (by omega) _ _).drew
    clear hKK K
    refine wpAnyH_ready (rs := [22]) (by kernel_rfl) (by simp) ?_
    refine AllReadyH.cons rfl (fun K hKK => ?_) AllReadyH.nil
    go_simp
    refine hKK.out _ _ ?_ (fun hHeld => ?_)
    · exact (((hK.set _ (by omega) _ _).set _ (by omega) _ _).set _ (by omega) _ _).drew
    clear hKK K
    refine wpAnyH_ready (rs := [23]) (by kernel_rfl) (by simp) ?_
    refine AllReadyH.cons rfl (fun K hKK => ?_) AllReadyH.nil
    go_simp
    refine hKK.out _ _ ?_ (fun hHeld => ?_)
    · exact ((((hK.set _ (by omega) _ _).set _ (by omega) _ _).set _ (by omega) _ _).set _ (by omega) _ _).drew
    clear hKK K
    refine wpAnyH_ready (rs := [24]) (by kernel_rfl) (by simp) ?_
    refine AllReadyH.cons rfl (fun K hKK => ?_) AllReadyH.nil
    go_simp
    refine hKK.out _ _ ?_ (fun hHeld => ?_)
    · exact ((((hK.set _ (by omega) _ _).set _ (by omega) _ _).set _ (by omega) _ _).set _ (by omega) _ _).drew
    clear hKK K
    refine wpAnyH_done (by kernel_rfl) ?_ _
    go_wp2
    refine bodyPost_ret (v := .tuple #[.agg #[.bool b1, .slice a1 n1 c1], .agg #[.bool b2, .slice a2 n2 c2], .agg #[.bool b3, .slice a3 n3 c3], .agg #[.bool b4, .slice a4 n4 c4], .bool false]) (by simp [results, Tryd.results5, go_sem, *]) rfl ?_
    rw [show twoB s t = false from hw.out]
    exact two_end hM1 hM2 hM3' hM4 hR4.below HF.out
  rw [hqa] at hw
  rcases hqb : (eB == 0) with _ | _
  · rw [hqb] at hw
    refine wp_region_held_drew (S := fun w' => K8 w' w.heap.size w1.heap.size w2.heap.size w3.heap.size w4.heap.size (.bool b1) (.slice a1 n1 c1) (.bool b2) (.slice a2 n2 c2) (.bool b3) (.slice a3 n3 c3) (.bool b4) (.slice a4 n4 c4)) (by kernel_rfl) hK.drew (fun hHeld => ?_)
    refine wpAnyH_take (i := 0) (v := ?vn2x0) rfl (by kernel_rfl) (by kernel_rfl) (by kernel_rfl) (fun _ _ _ h => h) (Or.inl ⟨by kernel_rfl, ?hyn2x0⟩) (by assumption) ?restn2x0
    case hyn2x0 => intro w' hSw; have q0 := hSw.k10; have q1 := hSw.k11; go_simp; try with_reducible rfl
    simp only [Act.put, List.setIfInBounds_toArray]
    refine wpAnyH_take (i := 1) (v := ?vn2x1) rfl (by kernel_rfl) (by kernel_rfl) (by kernel_rfl) (fun _ _ _ h => h) (Or.inl ⟨by kernel_rfl, ?hyn2x1⟩) (by assumption) ?restn2x1
    case hyn2x1 => intro w' hSw; have q0 := hSw.k20; have q1 := hSw.k21; go_simp; try with_reducible rfl
    simp only [Act.put]
    refine wpAnyH_take (i := 2) (v := ?vn2x2) rfl (by kernel_rfl) (by kernel_rfl) (by kernel_rfl) (fun _ _ _ h => h) (Or.inl ⟨by kernel_rfl, ?hyn2x2⟩) (by assumption) ?restn2x2
    case hyn2x2 => intro w' hSw; have q0 := hSw.k30; have q1 := hSw.k31; go_simp; try with_reducible rfl
    simp only [Act.put]
    refine wpAnyH_take (i := 3) (v := ?vn2x3) rfl (by kernel_rfl) (by kernel_rfl) (by kernel_rfl) (fun _ _ _ h => h) (Or.inl ⟨by kernel_rfl, ?hyn2x3⟩) (by assumption) ?restn2x3
    case hyn2x3 => intro w' hSw; have q0 := hSw.k40; have q1 := hSw.k41; go_simp; try with_reducible rfl
    simp only [Act.put]
    refine wpAnyH_take (i := 4) (v := ?vn2x4) rfl (by kernel_rfl) (by kernel_rfl) (by kernel_rfl) (fun _ _ _ h => h) (Or.inl ⟨by kernel_rfl, ?hyn2x4⟩) (by assumption) ?restn2x4
    case hyn2x4 => intro w' hSw; clear hSw; go_simp; try with_reducible rfl
    simp only [Act.put]
    refine wpAnyH_take (i := 5) (v := ?vn2x5) rfl (by kernel_rfl) (by kernel_rfl) (by kernel_rfl) (fun _ _ _ h => h) (Or.inl ⟨by kernel_rfl, ?hyn2x5⟩) (by assumption) ?restn2x5
    case hyn2x5 => intro w' hSw; clear hSw; go_simp; try with_reducible rfl
    simp only [Act.put]
    refine wpAnyH_take (i := 6) (v := ?vn2x6) rfl (by kernel_rfl) (by kernel_rfl) (by kernel_rfl) (fun _ _ _ h => h) (Or.inl ⟨by kernel_rfl, ?hyn2x6⟩) (by assumption) ?restn2x6
    case hyn2x6 => intro w' hSw; clear hSw; go_simp; try with_reducible rfl
    simp only [Act.put]
    refine wpAnyH_take (i := 7) (v := ?vn2x7) rfl (by kernel_rfl) (by kernel_rfl) (by kernel_rfl) (fun _ _ _ h => h) (Or.inl ⟨by kernel_rfl, ?hyn2x7⟩) (by assumption) ?restn2x7
    case hyn2x7 => intro w' hSw; clear hSw; go_simp; try with_reducible rfl
    simp only [Act.put]
    refine wpAnyH_take (i := 8) (v := ?vn2x8) rfl (by kernel_rfl) (by kernel_rfl) (by kernel_rfl) (fun _ _ _ h => h) (Or.inl ⟨by kernel_rfl, ?hyn2x8⟩) (by assumption) ?restn2x8
    case hyn2x8 => intro w' hSw; clear hSw; go_simp; try with_reducible rfl
    simp only [Act.put]
    refine wpAnyH_take (i := 9) (v := ?vn2x9) rfl (by kernel_rfl) (by kernel_rfl) (by kernel_rfl) (fun _ _ _ h => h) (Or.inl ⟨by kernel_rfl, ?hyn2x9⟩) (by assumption) ?restn2x9
    case hyn2x9 => intro w' hSw; clear hSw; go_simp; try with_reducible rfl
    simp only [Act.put]
    refine wpAnyH_take (i := 10) (v := ?vn2x10) rfl (by kernel_rfl) (by kernel_rfl) (by kernel_rfl) (fun _ _ _ h => h) (Or.inl ⟨by kernel_rfl, ?hyn2x10⟩) (by assumption) ?restn2x10
    case hyn2x10 => intro w' hSw; clear hSw; go_simp; try with_reducible rfl
    simp only [Act.put]
    refine wpAnyH_take (i := 11) (v := undef) rfl (by kernel_rfl) (by kernel_rfl) (by kernel_rfl) (fun _ _ _ h => h) (Or.inr ⟨by kernel_rfl, by rfl⟩) (by assumption) ?_
    simp only [Act.put]
    refine wpAnyH_take (i := 12) (v := undef) rfl (by kernel_rfl) (by kernel_rfl) (by kernel_rfl) (fun _ _ _ h => h) (Or.inr ⟨by kernel_rfl, by rfl⟩) (by assumption) ?_
    simp only [Act.put]
    refine wpAnyH_take (i := 13) (v := undef) rfl (by kernel_rfl) (by kernel_rfl) (by kernel_rfl) (fun _ _ _ h => h) (Or.inr ⟨by kernel_rfl, by rfl⟩) (by assumption) ?_
    simp only [Act.put]
    refine wpAnyH_take (i := 14) (v := ?vn2x14) rfl (by kernel_rfl) (by kernel_rfl) (by kernel_rfl) (fun _ _ _ h => h) (Or.inl ⟨by kernel_rfl, ?hyn2x14⟩) (by assumption) ?restn2x14
    case hyn2x14 => intro w' hSw; clear hSw; go_simp; try with_reducible rfl
    simp only [Act.put]
    refine wpAnyH_take (i := 15) (v := ?vn2x15) rfl (by kernel_rfl) (by kernel_rfl) (by kernel_rfl) (fun _ _ _ h => h) (Or.inl ⟨by kernel_rfl, ?hyn2x15⟩) (by assumption) ?restn2x15
    case hyn2x15 => intro w' hSw; clear hSw; go_simp; try with_reducible rfl
    simp only [Act.put]
    refine wpAnyH_take (i := 16) (v := undef) rfl (by kernel_rfl) (by kernel_rfl) (by kernel_rfl) (fun _ _ _ h => h) (Or.inr ⟨by kernel_rfl, by rfl⟩) (by assumption) ?_
    simp only [Act.put]
    refine wpAnyH_take (i := 17) (v := undef) rfl (by kernel_rfl) (by kernel_rfl) (by kernel_rfl) (fun _ _ _ h => h) (Or.inr ⟨by kernel_rfl, by rfl⟩) (by assumption) ?_
    simp only [Act.put]
    refine wpAnyH_take (i := 18) (v := undef) rfl (by kernel_rfl) (by kernel_rfl) (by kernel_rfl) (fun _ _ _ h => h) (Or.inr ⟨by kernel_rfl, by rfl⟩) (by assumption) ?_
    simp only [Act.put]
    refine wpAnyH_take (i := 19) (v := ?vn2x19) rfl (by kernel_rfl) (by kernel_rfl) (by kernel_rfl) (fun _ _ _ h => h) (Or.inl ⟨by kernel_rfl, ?hyn2x19⟩) (by assumption) ?restn2x19
    case hyn2x19 => intro w' hSw; clear hSw; go_simp; try with_reducible rfl
    simp only [Act.put]
    refine wpAnyH_ready (rs := [20]) (by kernel_rfl) (by simp) ?_
    refine AllReadyH.cons rfl (fun K hKK => ?_) AllReadyH.nil
    go_simp
    refine hKK.out _ _ ?_ (fun hHeld => ?_)
    · exact (hK.set _ (by omega) _ _).drew
    clear hKK K
    refine wpAnyH_ready (rs := [21]) (by kernel_rfl) (by simp) ?_
    refine AllReadyH.cons rfl (fun K hKK => ?_) AllReadyH.nil
    go_simp
    refine hKK.out _ _ ?_ (fun hHeld => ?_)
    · exact ((hK.set _ (by omega) _ _).set _ (by omega) _ _).drew
    clear hKK K
    refine wpAnyH_ready (rs := [22]) (by kernel_rfl) (by simp) ?_
    refine AllReadyH.cons rfl (fun K hKK => ?_) AllReadyH.nil
    go_simp
    refine hKK.out _ _ ?_ (fun hHeld => ?_)
    · exact (((hK.set _ (by omega) _ _).set _ (by omega) _ _).set _ (by omega) _ _).drew
    clear hKK K
    refine wpAnyH_ready (rs := [23]) (by kernel_rfl) (by simp) ?_
    refine AllReadyH.cons rfl (fun K hKK => ?_) AllReadyH.nil
    go_simp
    refine hKK.out _ _ ?_ (fun hHeld => ?_)
    · exact ((((hK.set _ (by omega) _ _).set _ (by omega) _ _).set _ (by omega) _ _).set _ (by omega) _ _).drew
    clear hKK K
    refine wpAnyH_ready (rs := [24]) (by kernel_rfl) (by simp) ?_
    refine AllReadyH.cons rfl (fun K hKK => ?_) AllReadyH.nil
    go_simp
    refine hKK.out _ _ ?_ (fun hHeld => ?_)
    · exact ((((hK.set _ (by omega) _ _).set _ (by omega) _ _).set _ (by omega) _ _).set _ (by omega) _ _).drew
    clear hKK K
    refine wpAnyH_done (by kernel_rfl) ?_ _
    go_wp2
    refine bodyPost_ret (v := .tuple #[.agg #[.bool b1, .slice a1 n1 c1], .agg #[.bool b2, .slice a2 n2 c2], .agg #[.bool b3, .slice a3 n3 c3], .agg #[.bool b4, .slice a4 n4 c4], .bool false]) (by simp [results, Tryd.results5, go_sem, *]) rfl ?_
    rw [show twoB s t = false from hw.out]
    exact two_end hM1 hM2 hM3' hM4 hR4.below HF.out
  rw [hqb] at hw
  by_cases hqs : (s.size : Int) ≤ 150
  · have hds : decide ((s.size : Int) ≤ 150) = true := decide_eq_true hqs
    rw [hds] at hw
    by_cases hqt : (t.size : Int) ≤ 150
    · have hdt : decide ((t.size : Int) ≤ 150) = true := decide_eq_true hqt
      rw [hdt] at hw
      refine wp_region_held_drew (S := fun w' => K8 w' w.heap.size w1.heap.size w2.heap.size w3.heap.size w4.heap.size (.bool b1) (.slice a1 n1 c1) (.bool b2) (.slice a2 n2 c2) (.bool b3) (.slice a3 n3 c3) (.bool b4) (.slice a4 n4 c4)) (by kernel_rfl) hK.drew (fun hHeld => ?_)
      refine wpAnyH_take (i := 0) (v := ?vn3x0) rfl (by kernel_rfl) (by kernel_rfl) (by kernel_rfl) (fun _ _ _ h => h) (Or.inl ⟨by kernel_rfl, ?hyn3x0⟩) (by assumption) ?restn3x0
      case hyn3x0 => intro w' hSw; have q0 := hSw.k10; have q1 := hSw.k11; go_simp; try with_reducible rfl
      simp only [Act.put, List.setIfInBounds_toArray]
      refine wpAnyH_take (i := 1) (v := ?vn3x1) rfl (by kernel_rfl) (by kernel_rfl) (by kernel_rfl) (fun _ _ _ h => h) (Or.inl ⟨by kernel_rfl, ?hyn3x1⟩) (by assumption) ?restn3x1
      case hyn3x1 => intro w' hSw; have q0 := hSw.k20; have q1 := hSw.k21; go_simp; try with_reducible rfl
      simp only [Act.put]
      refine wpAnyH_take (i := 2) (v := ?vn3x2) rfl (by kernel_rfl) (by kernel_rfl) (by kernel_rfl) (fun _ _ _ h => h) (Or.inl ⟨by kernel_rfl, ?hyn3x2⟩) (by assumption) ?restn3x2
      case hyn3x2 => intro w' hSw; have q0 := hSw.k30; have q1 := hSw.k31; go_simp; try with_reducible rfl
      simp only [Act.put]
      refine wpAnyH_take (i := 3) (v := ?vn3x3) rfl (by kernel_rfl) (by kernel_rfl) (by kernel_rfl) (fun _ _ _ h => h) (Or.inl ⟨by kernel_rfl, ?hyn3x3⟩) (by assumption) ?restn3x3
      case hyn3x3 => intro w' hSw; have q0 := hSw.k40; have q1 := hSw.k41; go_simp; try with_reducible rfl
      simp only [Act.put]
      refine wpAnyH_take (i := 4) (v := ?vn3x4) rfl (by kernel_rfl) (by kernel_rfl) (by kernel_rfl) (fun _ _ _ h => h) (Or.inl ⟨by kernel_rfl, ?hyn3x4⟩) (by assumption) ?restn3x4
      case hyn3x4 => intro w' hSw; clear hSw; go_simp; try with_reducible rfl
      simp only [Act.put]
      refine wpAnyH_take (i := 5) (v := ?vn3x5) rfl (by kernel_rfl) (by kernel_rfl) (by kernel_rfl) (fun _ _ _ h => h) (Or.inl ⟨by kernel_rfl, ?hyn3x5⟩) (by assumption) ?restn3x5
      case hyn3x5 => intro w' hSw; clear hSw; go_simp; try with_reducible rfl
      simp only [Act.put]
      refine wpAnyH_take (i := 6) (v := ?vn3x6) rfl (by kernel_rfl) (by kernel_rfl) (by kernel_rfl) (fun _ _ _ h => h) (Or.inl ⟨by kernel_rfl, ?hyn3x6⟩) (by assumption) ?restn3x6
      case hyn3x6 => intro w' hSw; clear hSw; go_simp; try with_reducible rfl
      simp only [Act.put]
      refine wpAnyH_take (i := 7) (v := ?vn3x7) rfl (by kernel_rfl) (by kernel_rfl) (by kernel_rfl) (fun _ _ _ h => h) (Or.inl ⟨by kernel_rfl, ?hyn3x7⟩) (by assumption) ?restn3x7
      case hyn3x7 => intro w' hSw; clear hSw; go_simp; try with_reducible rfl
      simp only [Act.put]
      refine wpAnyH_take (i := 8) (v := ?vn3x8) rfl (by kernel_rfl) (by kernel_rfl) (by kernel_rfl) (fun _ _ _ h => h) (Or.inl ⟨by kernel_rfl, ?hyn3x8⟩) (by assumption) ?restn3x8
      case hyn3x8 => intro w' hSw; clear hSw; go_simp; try with_reducible rfl
      simp only [Act.put]
      refine wpAnyH_take (i := 9) (v := ?vn3x9) rfl (by kernel_rfl) (by kernel_rfl) (by kernel_rfl) (fun _ _ _ h => h) (Or.inl ⟨by kernel_rfl, ?hyn3x9⟩) (by assumption) ?restn3x9
      case hyn3x9 => intro w' hSw; clear hSw; go_simp; try with_reducible rfl
      simp only [Act.put]
      refine wpAnyH_take (i := 10) (v := ?vn3x10) rfl (by kernel_rfl) (by kernel_rfl) (by kernel_rfl) (fun _ _ _ h => h) (Or.inl ⟨by kernel_rfl, ?hyn3x10⟩) (by assumption) ?restn3x10
      case hyn3x10 => intro w' hSw; clear hSw; go_simp; try with_reducible rfl
      simp only [Act.put]
      refine wpAnyH_take (i := 11) (v := ?vn3x11) rfl (by kernel_rfl) (by kernel_rfl) (by kernel_rfl) (fun _ _ _ h => h) (Or.inl ⟨by kernel_rfl, ?hyn3x11⟩) (by assumption) ?restn3x11
      case hyn3x11 => intro w' hSw; clear hSw; go_simp; try with_reducible rfl
      simp only [Act.put]
      refine wpAnyH_take (i := 12) (v := ?vn3x12) rfl (by kernel_rfl) (by kernel_rfl) (by kernel_rfl) (fun _ _ _ h => h) (Or.inl ⟨by kernel_rfl, ?hyn3x12⟩) (by assumption) ?restn3x12
      case hyn3x12 => intro w' hSw; clear hSw; go_simp; try with_reducible rfl
      simp only [Act.put]
      refine wpAnyH_take (i := 13) (v := ?vn3x13) rfl (by kernel_rfl) (by kernel_rfl) (by kernel_rfl) (fun _ _ _ h => h) (Or.inl ⟨by kernel_rfl, ?hyn3x13⟩) (by assumption) ?restn3x13
      case hyn3x13 => intro w' hSw; clear hSw; go_simp; try with_reducible rfl
      simp only [Act.put]
      refine wpAnyH_take (i := 14) (v := ?vn3x14) rfl (by kernel_rfl) (by kernel_rfl) (by kernel_rfl) (fun _ _ _ h => h) (Or.inl ⟨by kernel_rfl, ?hyn3x14⟩) (by assumption) ?restn3x14
      case hyn3x14 => intro w' hSw; clear hSw; go_simp; try with_reducible rfl
      simp only [Act.put]
      refine wpAnyH_take (i := 15) (v := ?vn3x15) rfl (by kernel_rfl) (by kernel_rfl) (by kernel_rfl) (fun _ _ _ h => h) (Or.inl ⟨by kernel_rfl, ?hyn3x15⟩) (by assumption) ?restn3x15
      case hyn3x15 => intro w' hSw; clear hSw; go_simp; try with_reducible rfl
      simp only [Act.put]
      refine wpAnyH_take (i := 16) (v := ?vn3x16) rfl (by kernel_rfl) (by kernel_rfl) (by kernel_rfl) (fun _ _ _ h => h) (Or.inl ⟨by kernel_rfl, ?hyn3x16⟩) (by assumption) ?restn3x16
      case hyn3x16 => intro w' hSw; clear hSw; go_simp; try with_reducible rfl
      simp only [Act.put]
      refine wpAnyH_take (i := 17) (v := ?vn3x17) rfl (by kernel_rfl) (by kernel_rfl) (by kernel_rfl) (fun _ _ _ h => h) (Or.inl ⟨by kernel_rfl, ?hyn3x17⟩) (by assumption) ?restn3x17
      case hyn3x17 => intro w' hSw; clear hSw; go_simp; try with_reducible rfl
      simp only [Act.put]
      refine wpAnyH_take (i := 18) (v := ?vn3x18) rfl (by kernel_rfl) (by kernel_rfl) (by kernel_rfl) (fun _ _ _ h => h) (Or.inl ⟨by kernel_rfl, ?hyn3x18⟩) (by assumption) ?restn3x18
      case hyn3x18 => intro w' hSw; clear hSw; go_simp; try with_reducible rfl
      simp only [Act.put]
      refine wpAnyH_take (i := 19) (v := ?vn3x19) rfl (by kernel_rfl) (by kernel_rfl) (by kernel_rfl) (fun _ _ _ h => h) (Or.inl ⟨by kernel_rfl, ?hyn3x19⟩) (by assumption) ?restn3x19
      case hyn3x19 => intro w' hSw; clear hSw; go_simp; try with_reducible rfl
      simp only [Act.put]
      refine wpAnyH_ready (rs := [20]) (by kernel_rfl) (by simp) ?_
      refine AllReadyH.cons rfl (fun K hKK => ?_) AllReadyH.nil
      go_simp
      refine hKK.out _ _ ?_ (fun hHeld => ?_)
      · exact (hK.set _ (by omega) _ _).drew
      clear hKK K
      refine wpAnyH_ready (rs := [21]) (by kernel_rfl) (by simp) ?_
      refine AllReadyH.cons rfl (fun K hKK => ?_) AllReadyH.nil
      go_simp
      refine hKK.out _ _ ?_ (fun hHeld => ?_)
      · exact ((hK.set _ (by omega) _ _).set _ (by omega) _ _).drew
      clear hKK K
      refine wpAnyH_ready (rs := [22]) (by kernel_rfl) (by simp) ?_
      refine AllReadyH.cons rfl (fun K hKK => ?_) AllReadyH.nil
      go_simp
      refine hKK.out _ _ ?_ (fun hHeld => ?_)
      · exact (((hK.set _ (by omega) _ _).set _ (by omega) _ _).set _ (by omega) _ _).drew
      clear hKK K
      refine wpAnyH_ready (rs := [23]) (by kernel_rfl) (by simp) ?_
      refine AllReadyH.cons rfl (fun K hKK => ?_) AllReadyH.nil
      go_simp
      refine hKK.out _ _ ?_ (fun hHeld => ?_)
      · exact ((((hK.set _ (by omega) _ _).set _ (by omega) _ _).set _ (by omega) _ _).set _ (by omega) _ _).drew
      clear hKK K
      refine wpAnyH_ready (rs := [24]) (by kernel_rfl) (by simp) ?_
      refine AllReadyH.cons rfl (fun K hKK => ?_) AllReadyH.nil
      go_simp
      refine hKK.out _ _ ?_ (fun hHeld => ?_)
      · exact ((((hK.set _ (by omega) _ _).set _ (by omega) _ _).set _ (by omega) _ _).set _ (by omega) _ _).drew
      clear hKK K
      refine wpAnyH_done (by kernel_rfl) ?_ _
      go_wp2
      refine bodyPost_ret (v := .tuple #[.agg #[.bool b1, .slice a1 n1 c1], .agg #[.bool b2, .slice a2 n2 c2], .agg #[.bool b3, .slice a3 n3 c3], .agg #[.bool b4, .slice a4 n4 c4], .bool true]) (by simp [results, Tryd.results5, go_sem, *]) rfl ?_
      rw [show twoB s t = true from hw.out]
      exact two_end hM1 hM2 hM3' hM4 hR4.below HF.out
    · have hdt : decide ((t.size : Int) ≤ 150) = false := decide_eq_false hqt
      rw [hdt] at hw
      refine wp_region_held_drew (S := fun w' => K8 w' w.heap.size w1.heap.size w2.heap.size w3.heap.size w4.heap.size (.bool b1) (.slice a1 n1 c1) (.bool b2) (.slice a2 n2 c2) (.bool b3) (.slice a3 n3 c3) (.bool b4) (.slice a4 n4 c4)) (by kernel_rfl) hK.drew (fun hHeld => ?_)
      refine wpAnyH_take (i := 0) (v := ?vn4x0) rfl (by kernel_rfl) (by kernel_rfl) (by kernel_rfl) (fun _ _ _ h => h) (Or.inl ⟨by kernel_rfl, ?hyn4x0⟩) (by assumption) ?restn4x0
      case hyn4x0 => intro w' hSw; have q0 := hSw.k10; have q1 := hSw.k11; go_simp; try with_reducible rfl
      simp only [Act.put, List.setIfInBounds_toArray]
      refine wpAnyH_take (i := 1) (v := ?vn4x1) rfl (by kernel_rfl) (by kernel_rfl) (by kernel_rfl) (fun _ _ _ h => h) (Or.inl ⟨by kernel_rfl, ?hyn4x1⟩) (by assumption) ?restn4x1
      case hyn4x1 => intro w' hSw; have q0 := hSw.k20; have q1 := hSw.k21; go_simp; try with_reducible rfl
      simp only [Act.put]
      refine wpAnyH_take (i := 2) (v := ?vn4x2) rfl (by kernel_rfl) (by kernel_rfl) (by kernel_rfl) (fun _ _ _ h => h) (Or.inl ⟨by kernel_rfl, ?hyn4x2⟩) (by assumption) ?restn4x2
      case hyn4x2 => intro w' hSw; have q0 := hSw.k30; have q1 := hSw.k31; go_simp; try with_reducible rfl
      simp only [Act.put]
      refine wpAnyH_take (i := 3) (v := ?vn4x3) rfl (by kernel_rfl) (by kernel_rfl) (by kernel_rfl) (fun _ _ _ h => h) (Or.inl ⟨by kernel_rfl, ?hyn4x3⟩) (by assumption) ?restn4x3
      case hyn4x3 => intro w' hSw; have q0 := hSw.k40; have q1 := hSw.k41; go_simp; try with_reducible rfl
      simp only [Act.put]
      refine wpAnyH_take (i := 4) (v := ?vn4x4) rfl (by kernel_rfl) (by kernel_rfl) (by kernel_rfl) (fun _ _ _ h => h) (Or.inl ⟨by kernel_rfl, ?hyn4x4⟩) (by assumption) ?restn4x4
      case hyn4x4 => intro w' hSw; clear hSw; go_simp; try with_reducible rfl
      simp only [Act.put]
      refine wpAnyH_take (i := 5) (v := ?vn4x5) rfl (by kernel_rfl) (by kernel_rfl) (by kernel_rfl) (fun _ _ _ h => h) (Or.inl ⟨by kernel_rfl, ?hyn4x5⟩) (by assumption) ?restn4x5
      case hyn4x5 => intro w' hSw; clear hSw; go_simp; try with_reducible rfl
      simp only [Act.put]
      refine wpAnyH_take (i := 6) (v := ?vn4x6) rfl (by kernel_rfl) (by kernel_rfl) (by kernel_rfl) (fun _ _ _ h => h) (Or.inl ⟨by kernel_rfl, ?hyn4x6⟩) (by assumption) ?restn4x6
      case hyn4x6 => intro w' hSw; clear hSw; go_simp; try with_reducible rfl
      simp only [Act.put]
      refine wpAnyH_take (i := 7) (v := ?vn4x7) rfl (by kernel_rfl) (by kernel_rfl) (by kernel_rfl) (fun _ _ _ h => h) (Or.inl ⟨by kernel_rfl, ?hyn4x7⟩) (by assumption) ?restn4x7
      case hyn4x7 => intro w' hSw; clear hSw; go_simp; try with_reducible rfl
      simp only [Act.put]
      refine wpAnyH_take (i := 8) (v := ?vn4x8) rfl (by kernel_rfl) (by kernel_rfl) (by kernel_rfl) (fun _ _ _ h => h) (Or.inl ⟨by kernel_rfl, ?hyn4x8⟩) (by assumption) ?restn4x8
      case hyn4x8 => intro w' hSw; clear hSw; go_simp; try with_reducible rfl
      simp only [Act.put]
      refine wpAnyH_take (i := 9) (v := ?vn4x9) rfl (by kernel_rfl) (by kernel_rfl) (by kernel_rfl) (fun _ _ _ h => h) (Or.inl ⟨by kernel_rfl, ?hyn4x9⟩) (by assumption) ?restn4x9
      case hyn4x9 => intro w' hSw; clear hSw; go_simp; try with_reducible rfl
      simp only [Act.put]
      refine wpAnyH_take (i := 10) (v := ?vn4x10) rfl (by kernel_rfl) (by kernel_rfl) (by kernel_rfl) (fun _ _ _ h => h) (Or.inl ⟨by kernel_rfl, ?hyn4x10⟩) (by assumption) ?restn4x10
      case hyn4x10 => intro w' hSw; clear hSw; go_simp; try with_reducible rfl
      simp only [Act.put]
      refine wpAnyH_take (i := 11) (v := ?vn4x11) rfl (by kernel_rfl) (by kernel_rfl) (by kernel_rfl) (fun _ _ _ h => h) (Or.inl ⟨by kernel_rfl, ?hyn4x11⟩) (by assumption) ?restn4x11
      case hyn4x11 => intro w' hSw; clear hSw; go_simp; try with_reducible rfl
      simp only [Act.put]
      refine wpAnyH_take (i := 12) (v := ?vn4x12) rfl (by kernel_rfl) (by kernel_rfl) (by kernel_rfl) (fun _ _ _ h => h) (Or.inl ⟨by kernel_rfl, ?hyn4x12⟩) (by assumption) ?restn4x12
      case hyn4x12 => intro w' hSw; clear hSw; go_simp; try with_reducible rfl
      simp only [Act.put]
      refine wpAnyH_take (i := 13) (v := ?vn4x13) rfl (by kernel_rfl) (by kernel_rfl) (by kernel_rfl) (fun _ _ _ h => h) (Or.inl ⟨by kernel_rfl, ?hyn4x13⟩) (by assumption) ?restn4x13
      case hyn4x13 => intro w' hSw; clear hSw; go_simp; try with_reducible rfl
      simp only [Act.put]
      refine wpAnyH_take (i := 14) (v := ?vn4x14) rfl (by kernel_rfl) (by kernel_rfl) (by kernel_rfl) (fun _ _ _ h => h) (Or.inl ⟨by kernel_rfl, ?hyn4x14⟩) (by assumption) ?restn4x14
      case hyn4x14 => intro w' hSw; clear hSw; go_simp; try with_reducible rfl
      simp only [Act.put]
      refine wpAnyH_take (i := 15) (v := ?vn4x15) rfl (by kernel_rfl) (by kernel_rfl) (by kernel_rfl) (fun _ _ _ h => h) (Or.inl ⟨by kernel_rfl, ?hyn4x15⟩) (by assumption) ?restn4x15
      case hyn4x15 => intro w' hSw; clear hSw; go_simp; try with_reducible rfl
      simp only [Act.put]
      refine wpAnyH_take (i := 16) (v := ?vn4x16) rfl (by kernel_rfl) (by kernel_rfl) (by kernel_rfl) (fun _ _ _ h => h) (Or.inl ⟨by kernel_rfl, ?hyn4x16⟩) (by assumption) ?restn4x16
      case hyn4x16 => intro w' hSw; clear hSw; go_simp; try with_reducible rfl
      simp only [Act.put]
      refine wpAnyH_take (i := 17) (v := ?vn4x17) rfl (by kernel_rfl) (by kernel_rfl) (by kernel_rfl) (fun _ _ _ h => h) (Or.inl ⟨by kernel_rfl, ?hyn4x17⟩) (by assumption) ?restn4x17
      case hyn4x17 => intro w' hSw; clear hSw; go_simp; try with_reducible rfl
      simp only [Act.put]
      refine wpAnyH_take (i := 18) (v := ?vn4x18) rfl (by kernel_rfl) (by kernel_rfl) (by kernel_rfl) (fun _ _ _ h => h) (Or.inl ⟨by kernel_rfl, ?hyn4x18⟩) (by assumption) ?restn4x18
      case hyn4x18 => intro w' hSw; clear hSw; go_simp; try with_reducible rfl
      simp only [Act.put]
      refine wpAnyH_take (i := 19) (v := ?vn4x19) rfl (by kernel_rfl) (by kernel_rfl) (by kernel_rfl) (fun _ _ _ h => h) (Or.inl ⟨by kernel_rfl, ?hyn4x19⟩) (by assumption) ?restn4x19
      case hyn4x19 => intro w' hSw; clear hSw; go_simp; try with_reducible rfl
      simp only [Act.put]
      refine wpAnyH_ready (rs := [20]) (by kernel_rfl) (by simp) ?_
      refine AllReadyH.cons rfl (fun K hKK => ?_) AllReadyH.nil
      go_simp
      refine hKK.out _ _ ?_ (fun hHeld => ?_)
      · exact (hK.set _ (by omega) _ _).drew
      clear hKK K
      refine wpAnyH_ready (rs := [21]) (by kernel_rfl) (by simp) ?_
      refine AllReadyH.cons rfl (fun K hKK => ?_) AllReadyH.nil
      go_simp
      refine hKK.out _ _ ?_ (fun hHeld => ?_)
      · exact ((hK.set _ (by omega) _ _).set _ (by omega) _ _).drew
      clear hKK K
      refine wpAnyH_ready (rs := [22]) (by kernel_rfl) (by simp) ?_
      refine AllReadyH.cons rfl (fun K hKK => ?_) AllReadyH.nil
      go_simp
      refine hKK.out _ _ ?_ (fun hHeld => ?_)
      · exact (((hK.set _ (by omega) _ _).set _ (by omega) _ _).set _ (by omega) _ _).drew
      clear hKK K
      refine wpAnyH_ready (rs := [23]) (by kernel_rfl) (by simp) ?_
      refine AllReadyH.cons rfl (fun K hKK => ?_) AllReadyH.nil
      go_simp
      refine hKK.out _ _ ?_ (fun hHeld => ?_)
      · exact ((((hK.set _ (by omega) _ _).set _ (by omega) _ _).set _ (by omega) _ _).set _ (by omega) _ _).drew
      clear hKK K
      refine wpAnyH_ready (rs := [24]) (by kernel_rfl) (by simp) ?_
      refine AllReadyH.cons rfl (fun K hKK => ?_) AllReadyH.nil
      go_simp
      refine hKK.out _ _ ?_ (fun hHeld => ?_)
      · exact ((((hK.set _ (by omega) _ _).set _ (by omega) _ _).set _ (by omega) _ _).set _ (by omega) _ _).drew
      clear hKK K
      refine wpAnyH_done (by kernel_rfl) ?_ _
      go_wp2
      refine bodyPost_ret (v := .tuple #[.agg #[.bool b1, .slice a1 n1 c1], .agg #[.bool b2, .slice a2 n2 c2], .agg #[.bool b3, .slice a3 n3 c3], .agg #[.bool b4, .slice a4 n4 c4], .bool false]) (by simp [results, Tryd.results5, go_sem, *]) rfl ?_
      rw [show twoB s t = false from hw.out]
      exact two_end hM1 hM2 hM3' hM4 hR4.below HF.out
  · have hds : decide ((s.size : Int) ≤ 150) = false := decide_eq_false hqs
    rw [hds] at hw
    refine wp_region_held_drew (S := fun w' => K8 w' w.heap.size w1.heap.size w2.heap.size w3.heap.size w4.heap.size (.bool b1) (.slice a1 n1 c1) (.bool b2) (.slice a2 n2 c2) (.bool b3) (.slice a3 n3 c3) (.bool b4) (.slice a4 n4 c4)) (by kernel_rfl) hK.drew (fun hHeld => ?_)
    refine wpAnyH_take (i := 0) (v := ?vn5x0) rfl (by kernel_rfl) (by kernel_rfl) (by kernel_rfl) (fun _ _ _ h => h) (Or.inl ⟨by kernel_rfl, ?hyn5x0⟩) (by assumption) ?restn5x0
    case hyn5x0 => intro w' hSw; have q0 := hSw.k10; have q1 := hSw.k11; go_simp; try with_reducible rfl
    simp only [Act.put, List.setIfInBounds_toArray]
    refine wpAnyH_take (i := 1) (v := ?vn5x1) rfl (by kernel_rfl) (by kernel_rfl) (by kernel_rfl) (fun _ _ _ h => h) (Or.inl ⟨by kernel_rfl, ?hyn5x1⟩) (by assumption) ?restn5x1
    case hyn5x1 => intro w' hSw; have q0 := hSw.k20; have q1 := hSw.k21; go_simp; try with_reducible rfl
    simp only [Act.put]
    refine wpAnyH_take (i := 2) (v := ?vn5x2) rfl (by kernel_rfl) (by kernel_rfl) (by kernel_rfl) (fun _ _ _ h => h) (Or.inl ⟨by kernel_rfl, ?hyn5x2⟩) (by assumption) ?restn5x2
    case hyn5x2 => intro w' hSw; have q0 := hSw.k30; have q1 := hSw.k31; go_simp; try with_reducible rfl
    simp only [Act.put]
    refine wpAnyH_take (i := 3) (v := ?vn5x3) rfl (by kernel_rfl) (by kernel_rfl) (by kernel_rfl) (fun _ _ _ h => h) (Or.inl ⟨by kernel_rfl, ?hyn5x3⟩) (by assumption) ?restn5x3
    case hyn5x3 => intro w' hSw; have q0 := hSw.k40; have q1 := hSw.k41; go_simp; try with_reducible rfl
    simp only [Act.put]
    refine wpAnyH_take (i := 4) (v := ?vn5x4) rfl (by kernel_rfl) (by kernel_rfl) (by kernel_rfl) (fun _ _ _ h => h) (Or.inl ⟨by kernel_rfl, ?hyn5x4⟩) (by assumption) ?restn5x4
    case hyn5x4 => intro w' hSw; clear hSw; go_simp; try with_reducible rfl
    simp only [Act.put]
    refine wpAnyH_take (i := 5) (v := ?vn5x5) rfl (by kernel_rfl) (by kernel_rfl) (by kernel_rfl) (fun _ _ _ h => h) (Or.inl ⟨by kernel_rfl, ?hyn5x5⟩) (by assumption) ?restn5x5
    case hyn5x5 => intro w' hSw; clear hSw; go_simp; try with_reducible rfl
    simp only [Act.put]
    refine wpAnyH_take (i := 6) (v := ?vn5x6) rfl (by kernel_rfl) (by kernel_rfl) (by kernel_rfl) (fun _ _ _ h => h) (Or.inl ⟨by kernel_rfl, ?hyn5x6⟩) (by assumption) ?restn5x6
    case hyn5x6 => intro w' hSw; clear hSw; go_simp; try with_reducible rfl
    simp only [Act.put]
    refine wpAnyH_take (i := 7) (v := ?vn5x7) rfl (by kernel_rfl) (by kernel_rfl) (by kernel_rfl) (fun _ _ _ h => h) (Or.inl ⟨by kernel_rfl, ?hyn5x7⟩) (by assumption) ?restn5x7
    case hyn5x7 => intro w' hSw; clear hSw; go_simp; try with_reducible rfl
    simp only [Act.put]
    refine wpAnyH_take (i := 8) (v := ?vn5x8) rfl (by kernel_rfl) (by kernel_rfl) (by kernel_rfl) (fun _ _ _ h => h) (Or.inl ⟨by kernel_rfl, ?hyn5x8⟩) (by assumption) ?restn5x8
    case hyn5x8 => intro w' hSw; clear hSw; go_simp; try with_reducible rfl
    simp only [Act.put]
    refine wpAnyH_take (i := 9) (v := ?vn5x9) rfl (by kernel_rfl) (by kernel_rfl) (by kernel_rfl) (fun _ _ _ h => h) (Or.inl ⟨by kernel_rfl, ?hyn5x9⟩) (by assumption) ?restn5x9
    case hyn5x9 => intro w' hSw; clear hSw; go_simp; try with_reducible rfl
    simp only [Act.put]
    refine wpAnyH_take (i := 10) (v := ?vn5x10) rfl (by kernel_rfl) (by kernel_rfl) (by kernel_rfl) (fun _ _ _ h => h) (Or.inl ⟨by kernel_rfl, ?hyn5x10⟩) (by assumption) ?restn5x10
    case hyn5x10 => intro w' hSw; clear hSw; go_simp; try with_reducible rfl
    simp only [Act.put]
    refine wpAnyH_take (i := 11) (v := ?vn5x11) rfl (by kernel_rfl) (by kernel_rfl) (by kernel_rfl) (fun _ _ _ h => h) (Or.inl ⟨by kernel_rfl, ?hyn5x11⟩) (by assumption) ?restn5x11
    case hyn5x11 => intro w' hSw; clear hSw; go_simp; try with_reducible rfl
    simp only [Act.put]
    refine wpAnyH_take (i := 12) (v := ?vn5x12) rfl (by kernel_rfl) (by kernel_rfl) (by kernel_rfl) (fun _ _ _ h => h) (Or.inl ⟨by kernel_rfl, ?hyn5x12⟩) (by assumption) ?restn5x12
    case hyn5x12 => intro w' hSw; clear hSw; go_simp; try with_reducible rfl
    simp only [Act.put]
    refine wpAnyH_take (i := 13) (v := ?vn5x13) rfl (by kernel_rfl) (by kernel_rfl) (by kernel_rfl) (fun _ _ _ h => h) (Or.inl ⟨by kernel_rfl, ?hyn5x13⟩) (by assumption) ?restn5x13
    case hyn5x13 => intro w' hSw; clear hSw; go_simp; try with_reducible rfl
    simp only [Act.put]
    refine wpAnyH_take (i := 14) (v := ?vn5x14) rfl (by kernel_rfl) (by kernel_rfl) (by kernel_rfl) (fun _ _ _ h => h) (Or.inl ⟨by kernel_rfl, ?hyn5x14⟩) (by assumption) ?restn5x14
    case hyn5x14 => intro w' hSw; clear hSw; go_simp; try with_reducible rfl
    simp only [Act.put]
    refine wpAnyH_take (i := 15) (v := ?vn5x15) rfl (by kernel_rfl) (by kernel_rfl) (by kernel_rfl) (fun _ _ _ h => h) (Or.inl ⟨by kernel_rfl, ?hyn5x15⟩) (by assumption) ?restn5x15
    case hyn5x15 => intro w' hSw; clear hSw; go_simp; try with_reducible rfl
    simp only [Act.put]
    refine wpAnyH_take (i := 16) (v := undef) rfl (by kernel_rfl) (by kernel_rfl) (by kernel_rfl) (fun _ _ _ h => h) (Or.inr ⟨by kernel_rfl, by rfl⟩) (by assumption) ?_
    simp only [Act.put]
    refine wpAnyH_take (i := 17) (v := undef) rfl (by kernel_rfl) (by kernel_rfl) (by kernel_rfl) (fun _ _ _ h => h) (Or.inr ⟨by kernel_rfl, by rfl⟩) (by assumption) ?_
    simp only [Act.put]
    refine wpAnyH_take (i := 18) (v := undef) rfl (by kernel_rfl) (by kernel_rfl) (by kernel_rfl) (fun _ _ _ h => h) (Or.inr ⟨by kernel_rfl, by rfl⟩) (by assumption) ?_
    simp only [Act.put]
    refine wpAnyH_take (i := 19) (v := ?vn5x19) rfl (by kernel_rfl) (by kernel_rfl) (by kernel_rfl) (fun _ _ _ h => h) (Or.inl ⟨by kernel_rfl, ?hyn5x19⟩) (by assumption) ?restn5x19
    case hyn5x19 => intro w' hSw; clear hSw; go_simp; try with_reducible rfl
    simp only [Act.put]
    refine wpAnyH_ready (rs := [20]) (by kernel_rfl) (by simp) ?_
    refine AllReadyH.cons rfl (fun K hKK => ?_) AllReadyH.nil
    go_simp
    refine hKK.out _ _ ?_ (fun hHeld => ?_)
    · exact (hK.set _ (by omega) _ _).drew
    clear hKK K
    refine wpAnyH_ready (rs := [21]) (by kernel_rfl) (by simp) ?_
    refine AllReadyH.cons rfl (fun K hKK => ?_) AllReadyH.nil
    go_simp
    refine hKK.out _ _ ?_ (fun hHeld => ?_)
    · exact ((hK.set _ (by omega) _ _).set _ (by omega) _ _).drew
    clear hKK K
    refine wpAnyH_ready (rs := [22]) (by kernel_rfl) (by simp) ?_
    refine AllReadyH.cons rfl (fun K hKK => ?_) AllReadyH.nil
    go_simp
    refine hKK.out _ _ ?_ (fun hHeld => ?_)
    · exact (((hK.set _ (by omega) _ _).set _ (by omega) _ _).set _ (by omega) _ _).drew
    clear hKK K
    refine wpAnyH_ready (rs := [23]) (by kernel_rfl) (by simp) ?_
    refine AllReadyH.cons rfl (fun K hKK => ?_) AllReadyH.nil
    go_simp
    refine hKK.out _ _ ?_ (fun hHeld => ?_)
    · exact ((((hK.set _ (by omega) _ _).set _ (by omega) _ _).set _ (by omega) _ _).set _ (by omega) _ _).drew
    clear hKK K
    refine wpAnyH_ready (rs := [24]) (by kernel_rfl) (by simp) ?_
    refine AllReadyH.cons rfl (fun K hKK => ?_) AllReadyH.nil
    go_simp
    refine hKK.out _ _ ?_ (fun hHeld => ?_)
    · exact ((((hK.set _ (by omega) _ _).set _ (by omega) _ _).set _ (by omega) _ _).set _ (by omega) _ _).drew
    clear hKK K
    refine wpAnyH_done (by kernel_rfl) ?_ _
    go_wp2
    refine bodyPost_ret (v := .tuple #[.agg #[.bool b1, .slice a1 n1 c1], .agg #[.bool b2, .slice a2 n2 c2], .agg #[.bool b3, .slice a3 n3 c3], .agg #[.bool b4, .slice a4 n4 c4], .bool false]) (by simp [results, Tryd.results5, go_sem, *]) rfl ?_
    rw [show twoB s t = false from hw.out]
    exact two_end hM1 hM2 hM3' hM4 hR4.below HF.out
end Go.Proofs.YtpacbipencmjnaaDoor
