/- Parts of the proof. -/
import Derived.Test.YtpahkpcoinbgcaaGreatDoorGq25
import Derived.Test.YtpahkpcoinbgcaaGreatDoorGq15
import Derived.Test.YtpahkpcoinbgcaaGreatDoorGq6
/- The document's numbers: the walk of Quo. -/
namespace Go.Proofs.YtpahkpcoinbgcaaGreatDoor
open Go.RowKit
theorem RNum.store {w : World} {bl : Bool} {a : Option Addr} {n c : Nat} {z : Int} (h : RNum w bl a n c z) {t : TypeId} {k : Nat} {bk : Bool} {ak : Option Addr} {nk ck : Nat} (hk : Bx w t k (.bool bk) (.slice ak nk ck)) (u v : Value) :
  RNum ((w.setCell ⟨k, 0, none⟩ u).setCell ⟨k, 1, none⟩ v) bl a n c z := by
 by_cases hn : n = 0
 ·
  subst hn
  refine ⟨⟨h.lie.cap, h.lie.capm, h.lie.nil, fun p hp => ⟨(h.lie.spot p hp).1, by rw [(only2 w k u v).size]; exact (h.lie.spot p hp).2⟩, fun p hp i hi => by omega⟩, h.fit, h.sgn⟩
 ·
  refine h.only (only2 _ _ _ _) (fun p hp e => ?_)
  have h1 := h.lie.cell p hp 0 (by omega)
  rw [e] at h1
  unfold Bx at hk
  simp only [World.cell?, hk, Nat.add_zero] at h1
  rcases hpo : p.off with _ | _ | o
  ·
   rw [hpo] at h1; simp at h1
  ·
   rw [hpo] at h1; simp at h1
  ·
   rw [hpo] at h1; simp at h1
/-- What Quo is given, and the places of its results. -/
structure RQB (w W : World) (bl : Bool) (a : Option Addr) (n c : Nat) (bl' : Bool) (a' : Option Addr) (n' c' : Nat) : Prop where
 below : Below w.heap.size w W
 X : Bx W 42 w.heap.size (.bool bl) (.slice a n c)
 Y : Bx W 42 (w.heap.size + 1) (.bool bl') (.slice a' n' c')
 A : Bx W 42 (w.heap.size + 2) (.bool false) (.slice none 0 0)
 B : Bx W 42 (w.heap.size + 3) (.bool false) (.slice none 0 0)
section
variable {w W W' : World} {bl : Bool} {a : Option Addr} {n c : Nat} {bl' : Bool} {a' : Option Addr} {n' c' : Nat}
theorem RQB.later (h : RQB w W bl a n c bl' a' n' c') (hb : Below W.heap.size W W') : RQB w W' bl a n c bl' a' n' c' :=
 ⟨h.below.trans (hb.mono h.below.size), h.X.below hb, h.Y.below hb, h.A.below hb, h.B.below hb⟩
theorem RQB.other (h : RQB w W bl a n c bl' a' n' c') {k : Nat} (hk : w.heap.size + 3 < k) (u v : Value) : RQB w ((W.setCell ⟨k, 0, none⟩ u).setCell ⟨k, 1, none⟩ v) bl a n c bl' a' n' c' :=
 ⟨h.below.trans ((only2 _ _ _ _).below (by omega)), h.X.other (by omega) _ _, h.Y.other (by omega) _ _, h.A.other (by omega) _ _, h.B.other (by omega) _ _⟩
end
end Go.Proofs.YtpahkpcoinbgcaaGreatDoor

/- The document's numbers: the walk of Small. -/
namespace Go.Proofs.YtpahkpcoinbgcaaGreatDoor
open Go.RowKit
set_option maxRecDepth 100000 in
set_option maxHeartbeats 3200000 in
theorem rSmall_any (bl : Bool) (a : Option Addr) (n c : Nat) (z : Int) (w : World) (h : RNum w bl a n c z) (hn : n ≤ 1000000) :
  Calls Tryz.prog 45 #[.agg #[.bool bl, .slice a n c]] w (PVal2 (.int .i64 (smallV z)) (.bool (smallB z)) w) := by
 have hal1 : Below w.heap.size w (w.alloc (.cells #[.bool bl, .slice a n c] 42)) := (Below.refl _ _).alloc (Nat.le_refl _) _
 have hX1 := bx_new w 42 (.bool bl) (.slice a n c)
 have hN1 := h.below hal1
 have hB1 := hal1
 clear h hal1
 go_enter Tryz.func45, Tryz.ntmps45
 go_wp2_with fail
 generalize w.alloc (.cells #[.bool bl, .slice a n c] 42) = w1 at *
 refine (rOf_any (-9223372036854775808) _ (by omega) (by omega)).mono ?_
 rintro e w2 ⟨b2, a2, n2, c2, rfl, hN2, _, hb2⟩
 have hal2 : Below w2.heap.size w2 (w2.alloc (.cells #[.bool b2, .slice a2 n2 c2] 42)) := (Below.refl _ _).alloc (Nat.le_refl _) _
 have hX2 := (hX1.below hb2).below hal2
 have hM2 := (hN1.below hb2).below hal2
 have hL2 := bx_new w2 42 (.bool b2) (.slice a2 n2 c2)
 have hK2 := hN2.below hal2
 have hB2 : Below w.heap.size w (w2.alloc (.cells #[.bool b2, .slice a2 n2 c2] 42)) := (hB1.trans (hb2.mono hB1.size)).trans (hal2.mono (hB1.trans (hb2.mono hB1.size)).size)
 clear hX1 hN1 hB1 hN2 hb2 hal2
 go_wp2_with fail
 generalize w2.alloc (.cells #[.bool b2, .slice a2 n2 c2] 42) = w3 at *
 generalize w2.heap.size = i2 at *
 refine (rOf_any 9223372036854775807 _ (by omega) (by omega)).mono ?_
 rintro e w4 ⟨b4, a4, n4, c4, rfl, hN4, _, hb4⟩
 have hal4 : Below w4.heap.size w4 (w4.alloc (.cells #[.bool b4, .slice a4 n4 c4] 42)) := (Below.refl _ _).alloc (Nat.le_refl _) _
 have hX4 := (hX2.below hb4).below hal4
 have hM4 := (hM2.below hb4).below hal4
 have hL4 := (hL2.below hb4).below hal4
 have hK4 := (hK2.below hb4).below hal4
 have hH4 := bx_new w4 42 (.bool b4) (.slice a4 n4 c4)
 have hJ4 := hN4.below hal4
 have hB4 : Below w.heap.size w (w4.alloc (.cells #[.bool b4, .slice a4 n4 c4] 42)) := (hB2.trans (hb4.mono hB2.size)).trans (hal4.mono (hB2.trans (hb4.mono hB2.size)).size)
 clear hX2 hM2 hL2 hK2 hB2 hN4 hb4 hal4
 obtain ⟨x0, x1, _, _⟩ := hX4.cells
 obtain ⟨l0, l1, _, _⟩ := hL4.cells
 go_wp2_with fail
 generalize w4.alloc (.cells #[.bool b4, .slice a4 n4 c4] 42) = w5 at *
 generalize w4.heap.size = i4 at *
 refine (rCmp_any bl a n c z b2 a2 n2 c2 _ _ hM4 hK4).mono ?_
 rintro e w6 ⟨rfl, hb6⟩
 have hX6 := hX4.below hb6
 have hM6 := hM4.below hb6
 have hH6 := hH4.below hb6
 have hJ6 := hJ4.below hb6
 have hB6 : Below w.heap.size w w6 := hB4.trans (hb6.mono hB4.size)
 clear hX4 hM4 hL4 hK4 hH4 hJ4 hB4 hb6 x0 x1 l0 l1
 by_cases hlo : z < -9223372036854775808
 ·
  have HS : Hid (smallV z = 0 ∧ smallB z = false) := by
   show _ ∧ _
   unfold smallV smallB
   exact ⟨if_neg (by omega), decide_eq_false (by omega)⟩
  rw [show cmpI z (-9223372036854775808) = -1 from if_pos hlo]
  clear hlo hX6 hM6 hH6 hJ6
  go_wp2
  go_ret2
  exact ⟨ret2 HS.out.1.symm HS.out.2.symm, hB6⟩
 ·
  obtain ⟨cc, hcc⟩ : ∃ cc, cc = cmpI z (-9223372036854775808) := ⟨_, rfl⟩
  have dcc : decide (cc < 0) = false := by
   refine decide_eq_false ?_
   rw [hcc]
   unfold cmpI
   rw [if_neg hlo]
   split <;> decide
  rw [← hcc]
  clear hcc
  obtain ⟨x0, x1, _, _⟩ := hX6.cells
  obtain ⟨l0, l1, _, _⟩ := hH6.cells
  go_wp2_with fail
  refine (rCmp_any bl a n c z b4 a4 n4 c4 _ _ hM6 hJ6).mono ?_
  rintro e w7 ⟨rfl, hb7⟩
  have hX7 := hX6.below hb7
  have hM7 := hM6.below hb7
  have hB7 : Below w.heap.size w w7 := hB6.trans (hb7.mono hB6.size)
  clear hX6 hM6 hH6 hJ6 hB6 hb7 x0 x1 l0 l1
  by_cases hhi : 9223372036854775807 < z
  ·
   have HS : Hid (smallV z = 0 ∧ smallB z = false) := by
    show _ ∧ _
    unfold smallV smallB
    exact ⟨if_neg (by omega), decide_eq_false (by omega)⟩
   rw [show cmpI z 9223372036854775807 = 1 from by unfold cmpI; rw [if_neg (by omega), if_pos hhi]]
   clear hhi hlo hX7 hM7
   go_wp2
   go_ret2
   exact ⟨ret2 HS.out.1.symm HS.out.2.symm, hB7⟩
  ·
   have HS : Hid (smallV z = z ∧ smallB z = true) := by
    show _ ∧ _
    unfold smallV smallB
    exact ⟨if_pos (by omega), decide_eq_true (by omega)⟩
   obtain ⟨dd, hdd⟩ : ∃ dd, dd = cmpI z 9223372036854775807 := ⟨_, rfl⟩
   have ddd : decide (0 < dd) = false := by
    refine decide_eq_false ?_
    rw [hdd]
    unfold cmpI
    rw [if_neg hhi]
    split <;> decide
   rw [← hdd]
   clear hdd
   have HSG := Lib.hid hM7.sgn
   have HFT := Lib.hid hM7.fit
   have hlie := hM7.lie
   have HZ : Hid (-9223372036854775808 ≤ z ∧ z ≤ 9223372036854775807) := show _ ∧ _ from ⟨by omega, by omega⟩
   obtain ⟨x0, x1, _, _⟩ := hX7.cells
   clear hlo hhi hM7 x0 x1
   cases bl
   ·
    have HN : Hid ((((z.natAbs : Nat) : Int)) = z ∧ z.natAbs ≤ 9223372036854775807) := by
     show _ ∧ _
     have h1 := HSG.out
     have h2 := HZ.out
     simp at h1
     omega
    clear HSG HZ
    generalize z.natAbs = N at *
    obtain ⟨x0, x1, _, _⟩ := hX7.cells
    go_wp2
    clear x0 x1
    go_loopw [6, 7] (fun nv iv wr => ∃ k : Nat, k ≤ n ∧ iv = .int .i64 ((k : Int) - 1) ∧ nv = .int .i64 (((N / 10 ^ k : Nat) : Int)) ∧ Below w7.heap.size w7 wr) (fun _ iv _ => (intOf iv + 1).toNat)
    case atStart => exact ⟨n, Nat.le_refl _, by go_num, by rw [Nat.div_eq_of_lt HFT.out.1]; rfl, Below.refl _ _⟩
    case round =>
     obtain ⟨k, hk, rfl, rfl, hbl⟩ := hrel
     obtain ⟨x0, x1, _, _⟩ := (hX7.below hbl).cells
     cases k with
     | zero =>
      have hfin : Below w.heap.size w wr := hB7.trans (hbl.mono hB7.size)
      have HV : Hid (((N / 10 ^ 0 : Nat) : Int) = z) := by show _ = _; rw [Nat.pow_zero, Nat.div_one]; exact HN.out.1
      generalize ((N / 10 ^ 0 : Nat) : Int) = V at *
      clear hlie hbl
      go_wp2
      go_ret2
      exact ⟨ret2 (HV.out.trans HS.out.1.symm) HS.out.2.symm, hfin⟩
     | succ k =>
      rw [show (((k + 1 : Nat) : Int) - 1) = (k : Int) by omega]
      obtain ⟨bb, oo, rfl, hbb⟩ := hlie.some_of_pos (by omega)
      have c1 := (hlie.below hbl).at k (by omega)
      have hup := part_up N k
      have hdl := dig_lt N k
      have hle := Nat.div_le_self N (10 ^ k)
      have hNl := HN.out.2
      obtain ⟨D, hD⟩ : ∃ D : Int, D = ((dig N k : Nat) : Int) := ⟨_, rfl⟩
      obtain ⟨V, hV⟩ : ∃ V : Int, V = ((N / 10 ^ (k + 1) : Nat) : Int) := ⟨_, rfl⟩
      have HU : Hid (10 * V + D = ((N / 10 ^ k : Nat) : Int)) := by show _ = _; omega
      have hD0 : 0 ≤ D := by omega
      have hD1 : D ≤ 9 := by omega
      have hV0 : 0 ≤ V := by omega
      have hV1 : 10 * V + D ≤ 9223372036854775807 := by omega
      rw [← hD] at c1
      rw [← hV]
      clear hup hdl hle hNl hD hV
      go_wp2
      go_roundw
      case rel => exact ⟨k, by omega, by go_num, by rw [HU.out], hbl⟩
      case measure => simp [intOf]
   ·
    have HN : Hid ((-((z.natAbs : Nat) : Int)) = z ∧ z.natAbs ≤ 9223372036854775808) := by
     show _ ∧ _
     have h1 := HSG.out
     have h2 := HZ.out
     simp at h1
     omega
    clear HSG HZ
    generalize z.natAbs = N at *
    obtain ⟨x0, x1, _, _⟩ := hX7.cells
    go_wp2
    clear x0 x1
    go_loopw [6, 7] (fun nv iv wr => ∃ k : Nat, k ≤ n ∧ iv = .int .i64 ((k : Int) - 1) ∧ nv = .int .i64 (-((N / 10 ^ k : Nat) : Int)) ∧ Below w7.heap.size w7 wr) (fun _ iv _ => (intOf iv + 1).toNat)
    case atStart => exact ⟨n, Nat.le_refl _, by go_num, by rw [Nat.div_eq_of_lt HFT.out.1]; rfl, Below.refl _ _⟩
    case round =>
     obtain ⟨k, hk, rfl, rfl, hbl⟩ := hrel
     obtain ⟨x0, x1, _, _⟩ := (hX7.below hbl).cells
     cases k with
     | zero =>
      have hfin : Below w.heap.size w wr := hB7.trans (hbl.mono hB7.size)
      have HV : Hid (-((N / 10 ^ 0 : Nat) : Int) = z) := by show _ = _; rw [Nat.pow_zero, Nat.div_one]; exact HN.out.1
      generalize -((N / 10 ^ 0 : Nat) : Int) = V at *
      clear hlie hbl
      go_wp2
      go_ret2
      exact ⟨ret2 (HV.out.trans HS.out.1.symm) HS.out.2.symm, hfin⟩
     | succ k =>
      rw [show (((k + 1 : Nat) : Int) - 1) = (k : Int) by omega]
      obtain ⟨bb, oo, rfl, hbb⟩ := hlie.some_of_pos (by omega)
      have c1 := (hlie.below hbl).at k (by omega)
      have hup := part_up N k
      have hdl := dig_lt N k
      have hle := Nat.div_le_self N (10 ^ k)
      have hNl := HN.out.2
      obtain ⟨D, hD⟩ : ∃ D : Int, D = ((dig N k : Nat) : Int) := ⟨_, rfl⟩
      obtain ⟨V, hV⟩ : ∃ V : Int, V = ((N / 10 ^ (k + 1) : Nat) : Int) := ⟨_, rfl⟩
      have HU : Hid (10 * -V - D = -((N / 10 ^ k : Nat) : Int)) := by show _ = _; omega
      have hD0 : 0 ≤ D := by omega
      have hD1 : D ≤ 9 := by omega
      have hV0 : 0 ≤ V := by omega
      have hV1 : 10 * V + D ≤ 9223372036854775808 := by omega
      rw [← hD] at c1
      rw [← hV]
      clear hup hdl hle hNl hD hV
      go_wp2
      go_roundw
      case rel => exact ⟨k, by omega, by go_num, by rw [HU.out], hbl⟩
      case measure => simp [intOf]
end Go.Proofs.YtpahkpcoinbgcaaGreatDoor
