/- Parts of the proof. -/
import Derived.Test.YtpahkpcoinbgcaaGb3
import Derived.Test.YtpahkpcoinbgcaaGb4
import Derived.Test.YtpahkpcoinbgcaaGb5
import Derived.Test.YtpahkpcoinbgcaaGb6
import Derived.Test.YtpahkpcoinbgcaaGb10
/- The document's numbers: the walk of Small. -/
namespace Go.Proofs.Ytpahkpcoinbgcaa
open Go.RowKit
set_option maxRecDepth 100000 in
set_option maxHeartbeats 3200000 in
theorem rSmall_any (bl : Bool) (a : Option Addr) (n c : Nat) (z : Int) (w : World) (h : RNum w bl a n c z) (hn : n ≤ 1000000) :
  Calls Try.prog 109 #[.agg #[.bool bl, .slice a n c]] w (PVal2 (.int .i64 (smallV z)) (.bool (smallB z)) w) := by
 have hal1 : Below w.heap.size w (w.alloc (.cells #[.bool bl, .slice a n c] 71)) := (Below.refl _ _).alloc (Nat.le_refl _) _
 have hX1 := bx_new w 71 (.bool bl) (.slice a n c)
 have hN1 := h.below hal1
 have hB1 := hal1
 clear h hal1
 go_enter Try.func109, Try.ntmps109
 go_wp2_with fail
 generalize w.alloc (.cells #[.bool bl, .slice a n c] 71) = w1 at *
 refine (rOf_any (-9223372036854775808) _ (by omega) (by omega)).mono ?_
 rintro e w2 ⟨b2, a2, n2, c2, rfl, hN2, _, hb2⟩
 have hal2 : Below w2.heap.size w2 (w2.alloc (.cells #[.bool b2, .slice a2 n2 c2] 71)) := (Below.refl _ _).alloc (Nat.le_refl _) _
 have hX2 := (hX1.below hb2).below hal2
 have hM2 := (hN1.below hb2).below hal2
 have hL2 := bx_new w2 71 (.bool b2) (.slice a2 n2 c2)
 have hK2 := hN2.below hal2
 have hB2 : Below w.heap.size w (w2.alloc (.cells #[.bool b2, .slice a2 n2 c2] 71)) := (hB1.trans (hb2.mono hB1.size)).trans (hal2.mono (hB1.trans (hb2.mono hB1.size)).size)
 clear hX1 hN1 hB1 hN2 hb2 hal2
 go_wp2_with fail
 generalize w2.alloc (.cells #[.bool b2, .slice a2 n2 c2] 71) = w3 at *
 generalize w2.heap.size = i2 at *
 refine (rOf_any 9223372036854775807 _ (by omega) (by omega)).mono ?_
 rintro e w4 ⟨b4, a4, n4, c4, rfl, hN4, _, hb4⟩
 have hal4 : Below w4.heap.size w4 (w4.alloc (.cells #[.bool b4, .slice a4 n4 c4] 71)) := (Below.refl _ _).alloc (Nat.le_refl _) _
 have hX4 := (hX2.below hb4).below hal4
 have hM4 := (hM2.below hb4).below hal4
 have hL4 := (hL2.below hb4).below hal4
 have hK4 := (hK2.below hb4).below hal4
 have hH4 := bx_new w4 71 (.bool b4) (.slice a4 n4 c4)
 have hJ4 := hN4.below hal4
 have hB4 : Below w.heap.size w (w4.alloc (.cells #[.bool b4, .slice a4 n4 c4] 71)) := (hB2.trans (hb4.mono hB2.size)).trans (hal4.mono (hB2.trans (hb4.mono hB2.size)).size)
 clear hX2 hM2 hL2 hK2 hB2 hN4 hb4 hal4
 obtain ⟨x0, x1, _, _⟩ := hX4.cells
 obtain ⟨l0, l1, _, _⟩ := hL4.cells
 go_wp2_with fail
 generalize w4.alloc (.cells #[.bool b4, .slice a4 n4 c4] 71) = w5 at *
 generalize w4.heap.size = i4 at *
 refine (rCmp_any bl a n c z b2 a2 n2 c2 _ _ hM4 hK4).mono ?_
 rintro e w6 ⟨rfl, hb6⟩
 have hX6 := hX4.below hb6
 have hM6 := hM4.below hb6
 have hH6 := hH4.below hb6
 have hJ6 := hJ4.below hb6
 have hB6 : Below w.heap.size w w6 := hB4.trans (hb6.mono hB4.size)
 clear hX4 hM4 hL4 hK4 hH4 hJ4 hB4 hb6 x0 x1 l0 l1
 by_cases hlo : z < -9223372036854775808
 ·
  have HS : Hid (smallV z = 0 ∧ smallB z = false) := by
   show _ ∧ _
   unfold smallV smallB
   exact ⟨if_neg (by omega), decide_eq_false (by omega)⟩
  rw [show cmpI z (-9223372036854775808) = -1 from if_pos hlo]
  clear hlo hX6 hM6 hH6 hJ6
  go_wp2
  go_ret2
  exact ⟨ret2 HS.out.1.symm HS.out.2.symm, hB6⟩
 ·
  obtain ⟨cc, hcc⟩ : ∃ cc, cc = cmpI z (-9223372036854775808) := ⟨_, rfl⟩
  have dcc : decide (cc < 0) = false := by
   refine decide_eq_false ?_
   rw [hcc]
   unfold cmpI
   rw [if_neg hlo]
   split <;> decide
  rw [← hcc]
  clear hcc
  obtain ⟨x0, x1, _, _⟩ := hX6.cells
  obtain ⟨l0, l1, _, _⟩ := hH6.cells
  go_wp2_with fail
  refine (rCmp_any bl a n c z b4 a4 n4 c4 _ _ hM6 hJ6).mono ?_
  rintro e w7 ⟨rfl, hb7⟩
  have hX7 := hX6.below hb7
  have hM7 := hM6.below hb7
  have hB7 : Below w.heap.size w w7 := hB6.trans (hb7.mono hB6.size)
  clear hX6 hM6 hH6 hJ6 hB6 hb7 x0 x1 l0 l1
  by_cases hhi : 9223372036854775807 < z
  ·
   have HS : Hid (smallV z = 0 ∧ smallB z = false) := by
    show _ ∧ _
    unfold smallV smallB
    exact ⟨if_neg (by omega), decide_eq_false (by omega)⟩
   rw [show cmpI z 9223372036854775807 = 1 from by unfold cmpI; rw [if_neg (by omega), if_pos hhi]]
   clear hhi hlo hX7 hM7
   go_wp2
   go_ret2
   exact ⟨ret2 HS.out.1.symm HS.out.2.symm, hB7⟩
  ·
   have HS : Hid (smallV z = z ∧ smallB z = true) := by
    show _ ∧ _
    unfold smallV smallB
    exact ⟨if_pos (by omega), decide_eq_true (by omega)⟩
   obtain ⟨dd, hdd⟩ : ∃ dd, dd = cmpI z 9223372036854775807 := ⟨_, rfl⟩
   have ddd : decide (0 < dd) = false := by
    refine decide_eq_false ?_
    rw [hdd]
    unfold cmpI
    rw [if_neg hhi]
    split <;> decide
   rw [← hdd]
   clear hdd
   have HSG := Lib.hid hM7.sgn
   have HFT := Lib.hid hM7.fit
   have hlie := hM7.lie
   have HZ : Hid (-9223372036854775808 ≤ z ∧ z ≤ 9223372036854775807) := show _ ∧ _ from ⟨by omega, by omega⟩
   obtain ⟨x0, x1, _, _⟩ := hX7.cells
   clear hlo hhi hM7 x0 x1
   cases bl
   ·
    have HN : Hid ((((z.natAbs : Nat) : Int)) = z ∧ z.natAbs ≤ 9223372036854775807) := by
     show _ ∧ _
     have h1 := HSG.out
     have h2 := HZ.out
     simp at h1
     omega
    clear HSG HZ
    generalize z.natAbs = N at *
    obtain ⟨x0, x1, _, _⟩ := hX7.cells
    go_wp2
    clear x0 x1
    go_loopw [6, 7] (fun nv iv wr => ∃ k : Nat, k ≤ n ∧ iv = .int .i64 ((k : Int) - 1) ∧ nv = .int .i64 (((N / 10 ^ k : Nat) : Int)) ∧ Below w7.heap.size w7 wr) (fun _ iv _ => (intOf iv + 1).toNat)
    case atStart => exact ⟨n, Nat.le_refl _, by go_num, by rw [Nat.div_eq_of_lt HFT.out.1]; rfl, Below.refl _ _⟩
    case round =>
     obtain ⟨k, hk, rfl, rfl, hbl⟩ := hrel
     obtain ⟨x0, x1, _, _⟩ := (hX7.below hbl).cells
     cases k with
     | zero =>
      have hfin : Below w.heap.size w wr := hB7.trans (hbl.mono hB7.size)
      have HV : Hid (((N / 10 ^ 0 : Nat) : Int) = z) := by show _ = _; rw [Nat.pow_zero, Nat.div_one]; exact HN.out.1
      generalize ((N / 10 ^ 0 : Nat) : Int) = V at *
      clear hlie hbl
      go_wp2
      go_ret2
      exact ⟨ret2 (HV.out.trans HS.out.1.symm) HS.out.2.symm, hfin⟩
     | succ k =>
      rw [show (((k + 1 : Nat) : Int) - 1) = (k : Int) by omega]
      obtain ⟨bb, oo, rfl, hbb⟩ := hlie.some_of_pos (by omega)
      have c1 := (hlie.below hbl).at k (by omega)
      have hup := part_up N k
      have hdl := dig_lt N k
      have hle := Nat.div_le_self N (10 ^ k)
      have hNl := HN.out.2
      obtain ⟨D, hD⟩ : ∃ D : Int, D = ((dig N k : Nat) : Int) := ⟨_, rfl⟩
      obtain ⟨V, hV⟩ : ∃ V : Int, V = ((N / 10 ^ (k + 1) : Nat) : Int) := ⟨_, rfl⟩
      have HU : Hid (10 * V + D = ((N / 10 ^ k : Nat) : Int)) := by show _ = _; omega
      have hD0 : 0 ≤ D := by omega
      have hD1 : D ≤ 9 := by omega
      have hV0 : 0 ≤ V := by omega
      have hV1 : 10 * V + D ≤ 9223372036854775807 := by omega
      rw [← hD] at c1
      rw [← hV]
      clear hup hdl hle hNl hD hV
      go_wp2
      go_roundw
      case rel => exact ⟨k, by omega, by go_num, by rw [HU.out], hbl⟩
      case measure => simp [intOf]
   ·
    have HN : Hid ((-((z.natAbs : Nat) : Int)) = z ∧ z.natAbs ≤ 9223372036854775808) := by
     show _ ∧ _
     have h1 := HSG.out
     have h2 := HZ.out
     simp at h1
     omega
    clear HSG HZ
    generalize z.natAbs = N at *
    obtain ⟨x0, x1, _, _⟩ := hX7.cells
    go_wp2
    clear x0 x1
    go_loopw [6, 7] (fun nv iv wr => ∃ k : Nat, k ≤ n ∧ iv = .int .i64 ((k : Int) - 1) ∧ nv = .int .i64 (-((N / 10 ^ k : Nat) : Int)) ∧ Below w7.heap.size w7 wr) (fun _ iv _ => (intOf iv + 1).toNat)
    case atStart => exact ⟨n, Nat.le_refl _, by go_num, by rw [Nat.div_eq_of_lt HFT.out.1]; rfl, Below.refl _ _⟩
    case round =>
     obtain ⟨k, hk, rfl, rfl, hbl⟩ := hrel
     obtain ⟨x0, x1, _, _⟩ := (hX7.below hbl).cells
     cases k with
     | zero =>
      have hfin : Below w.heap.size w wr := hB7.trans (hbl.mono hB7.size)
      have HV : Hid (-((N / 10 ^ 0 : Nat) : Int) = z) := by show _ = _; rw [Nat.pow_zero, Nat.div_one]; exact HN.out.1
      generalize -((N / 10 ^ 0 : Nat) : Int) = V at *
      clear hlie hbl
      go_wp2
      go_ret2
      exact ⟨ret2 (HV.out.trans HS.out.1.symm) HS.out.2.symm, hfin⟩
     | succ k =>
      rw [show (((k + 1 : Nat) : Int) - 1) = (k : Int) by omega]
      obtain ⟨bb, oo, rfl, hbb⟩ := hlie.some_of_pos (by omega)
      have c1 := (hlie.below hbl).at k (by omega)
      have hup := part_up N k
      have hdl := dig_lt N k
      have hle := Nat.div_le_self N (10 ^ k)
      have hNl := HN.out.2
      obtain ⟨D, hD⟩ : ∃ D : Int, D = ((dig N k : Nat) : Int) := ⟨_, rfl⟩
      obtain ⟨V, hV⟩ : ∃ V : Int, V = ((N / 10 ^ (k + 1) : Nat) : Int) := ⟨_, rfl⟩
      have HU : Hid (10 * -V - D = -((N / 10 ^ k : Nat) : Int)) := by show _ = _; omega
      have hD0 : 0 ≤ D := by omega
      have hD1 : D ≤ 9 := by omega
      have hV0 : 0 ≤ V := by omega
      have hV1 : 10 * V + D ≤ 9223372036854775808 := by omega
      rw [← hD] at c1
      rw [← hV]
      clear hup hdl hle hNl hD hV
      go_wp2
      go_roundw
      case rel => exact ⟨k, by omega, by go_num, by rw [HU.out], hbl⟩
      case measure => simp [intOf]
end Go.Proofs.Ytpahkpcoinbgcaa

/- The document's numbers by their names: contracts; variables of two numbers. No statement of the seat is proved here. -/
namespace Go.Proofs.Ytpahkpcoinbgcaa
open Go Go.RowKit
/-- A number is handed back. -/
def PN (z : Int) (w : World) (e : Ending) (w' : World) : Prop := ∃ p : NR, p.z = z ∧ e = .returned (.agg #[.bool p.b, .slice p.a p.n p.c]) ∧ p.is w' ∧ Below w.heap.size w w'
theorem NR.len {p : NR} {W : World} (h : p.is W) {k : Nat} (hz : p.z.natAbs < 10 ^ k) : p.n ≤ k := fit10_le h.fit hz
theorem NR.below {p : NR} {W W' : World} (h : p.is W) (hb : Below W.heap.size W W') : p.is W' := RNum.below h hb
theorem nOf (z : Int) (h1 : -9223372036854775808 ≤ z) (h2 : z ≤ 9223372036854775807) (w : World) : Calls Try.prog 80 #[.int .i64 z] w (PN z w) :=
 (rOf_any z w h1 h2).mono fun _ _ ⟨b, a, n, c, e, g, _, hB⟩ => ⟨⟨b, a, n, c, z⟩, rfl, e, g, hB⟩
theorem nMul (p q : NR) (w : World) (hp : p.is w) (hq : q.is w) (h1 : p.n ≤ 1000000) (h2 : q.n ≤ 1000000) : Calls Try.prog 86 #[.agg #[.bool p.b, .slice p.a p.n p.c], .agg #[.bool q.b, .slice q.a q.n q.c]] w (PN (p.z * q.z) w) :=
 (rMul_any p.b p.a p.n p.c p.z q.b q.a q.n q.c q.z w hp hq (by omega) (by omega)).mono fun _ _ ⟨b, a, n, c, e, g, _, hB⟩ => ⟨⟨b, a, n, c, p.z * q.z⟩, rfl, e, g, hB⟩
theorem nMinus (p : NR) (w : World) (hp : p.is w) : Calls Try.prog 108 #[.agg #[.bool p.b, .slice p.a p.n p.c]] w (PN (-p.z) w) :=
 (rMinus_any p.b p.a p.n p.c p.z w hp).mono fun _ _ ⟨b, a, n, c, e, g, hB⟩ => ⟨⟨b, a, n, c, -p.z⟩, rfl, e, g, hB⟩
/-- A quotient, a rest and an error's number are handed back. -/
def PNQ (q er : Int) (w : World) (e : Ending) (w' : World) : Prop := ∃ p r : NR, p.z = q ∧ e = .returned (.tuple #[.agg #[.bool p.b, .slice p.a p.n p.c], .agg #[.bool r.b, .slice r.a r.n r.c], .int .i64 er]) ∧ p.is w' ∧ r.is w' ∧ Below w.heap.size w w'
theorem quo_flo' {x y q r : Int} (h : IsQuo x y q r) (hy : y ≠ 0) : q = flo x y := (flo_of (by rw [Int.mul_comm]; exact h.1.symm) h.2.1 h.2.2 hy).symm
theorem nQuo (p q : NR) (w : World) (hp : p.is w) (hq : q.is w) (h1 : p.n ≤ 1000000) (h2 : q.n ≤ 1000000) (hz : q.z ≠ 0) : Calls Try.prog 107 #[.agg #[.bool p.b, .slice p.a p.n p.c], .agg #[.bool q.b, .slice q.a q.n q.c]] w (PNQ (flo p.z q.z) 0 w) :=
 (rQuo_any p.b p.a p.n p.c p.z q.b q.a q.n q.c q.z w hp hq h1 h2 hz).mono fun _ _ ⟨q', r, hq', b, a, n, c, b2, a2, n2, c2, e, g, g2, hB⟩ => ⟨⟨b, a, n, c, q'⟩, ⟨b2, a2, n2, c2, r⟩, quo_flo' hq' hz, e, g, g2, hB⟩
theorem nSmall (p : NR) (w : World) (hp : p.is w) (h1 : p.n ≤ 1000000) : Calls Try.prog 109 #[.agg #[.bool p.b, .slice p.a p.n p.c]] w (PVal2 (.int .i64 (smallV p.z)) (.bool (smallB p.z)) w) := rSmall_any p.b p.a p.n p.c p.z w hp h1
/-- A variable of two numbers. -/
def F4 (W : World) (T : TypeId) (k : Nat) (p q : NR) : Prop := W.heap[k]? = some (.cells #[.bool p.b, .slice p.a p.n p.c, .bool q.b, .slice q.a q.n q.c] T (0, 0))
theorem F4.below {W W' : World} {T : TypeId} {k : Nat} {p q : NR} (h : F4 W T k p q) (hb : Below W.heap.size W W') : F4 W' T k p q := by
 unfold F4 at h ⊢
 rw [hb.block _ (Array.getElem?_eq_some_iff.1 h).1]
 exact h
theorem F4.cells {W : World} {T : TypeId} {k : Nat} {p q : NR} (h : F4 W T k p q) : W.cell? ⟨k, 0, none⟩ = some (.bool p.b) ∧ W.cell? ⟨k, 1, none⟩ = some (.slice p.a p.n p.c) ∧ W.cell? ⟨k, 2, none⟩ = some (.bool q.b) ∧ W.cell? ⟨k, 3, none⟩ = some (.slice q.a q.n q.c) ∧ W.frozen? ⟨k, 0, none⟩ = false ∧ W.frozen? ⟨k, 1, none⟩ = false ∧ W.frozen? ⟨k, 2, none⟩ = false ∧ W.frozen? ⟨k, 3, none⟩ = false := by
 unfold F4 at h
 refine ⟨?_, ?_, ?_, ?_, ?_, ?_, ?_, ?_⟩ <;> simp [World.cell?, World.frozen?, h]
theorem F4.far {W : World} {T : TypeId} {k j o o' : Nat} {p q : NR} (h : F4 W T k p q) (hne : k ≠ j) (x y : Value) : F4 ((W.setCell ⟨j, o, none⟩ x).setCell ⟨j, o', none⟩ y) T k p q := by
 unfold F4 at h ⊢
 rw [heap_set_ne _ _ hne, heap_set_ne _ _ hne]
 exact h
theorem NR.store2 {r : NR} {W : World} (h : r.is W) {t : TypeId} {k : Nat} {bk : Bool} {ak : Option Addr} {nk ck : Nat} (hk : Bx W t k (.bool bk) (.slice ak nk ck)) (x y : Value) : r.is ((W.setCell ⟨k, 0, none⟩ x).setCell ⟨k, 1, none⟩ y) := RNum.store h hk x y
theorem below_o {w W : World} (h : Below w.heap.size w W) {k : Nat} (hk : w.heap.size ≤ k) (o o' : Nat) (x y : Value) : Below w.heap.size w ((W.setCell ⟨k, o, none⟩ x).setCell ⟨k, o', none⟩ y) := (h.setCell (p := ⟨k, o, none⟩) hk _).setCell (p := ⟨k, o', none⟩) hk _
end Go.Proofs.Ytpahkpcoinbgcaa

/- The document's spans: the walks of Right, Of, Has, In, Join, Meet, Mid, Rad. -/
namespace Go.Proofs.Ytpahkpcoinbgcaa
open Go.RowKit
theorem bel1 (w : World) (o : Obj) : Below w.heap.size w (w.alloc o) := (Below.refl _ _).alloc (Nat.le_refl _) _
theorem bel2 (w : World) (o o' : Obj) : Below w.heap.size w ((w.alloc o).alloc o') := ((Below.refl _ _).alloc (Nat.le_refl _) _).alloc (by simp) _
theorem bel_on {w w1 W : World} (h : Below w.heap.size w w1) (hB : Below w1.heap.size w1 W) : Below w.heap.size w W := h.trans (hB.mono h.size)
theorem bel_al {w W : World} (h : Below w.heap.size w W) (o : Obj) : Below w.heap.size w (W.alloc o) := h.alloc h.size _
set_option maxHeartbeats 800000 in
theorem rRight_any (x : Sp) (w : World) : Calls Try.prog 78 #[.agg #[.int .i64 x.lo, .int .i64 x.hi, .bool x.all]] w (PDp (mkS x) w) := by
 obtain ⟨l, h, a⟩ := x
 cases a
 case true =>
  rw [mkS_no (by unfold okB; simp)]
  go_enter Try.func78, Try.ntmps78
  go_wp2
  exact bodyPost_ret (v := .agg #[.int .i64 0, .int .i64 0, .bool true]) (by simp [results, Try.results78, go_sem]) rfl ⟨rfl, bel2 _ _ _⟩
 by_cases h1 : l < -2147483647
 ·
  rw [mkS_no (by unfold okB; simp; omega)]
  have d1 : decide (l < -2147483647) = true := decide_eq_true h1
  go_enter Try.func78, Try.ntmps78
  go_wp2
  exact bodyPost_ret (v := .agg #[.int .i64 0, .int .i64 0, .bool true]) (by simp [results, Try.results78, go_sem]) rfl ⟨rfl, bel2 _ _ _⟩
 have d1 : decide (l < -2147483647) = false := decide_eq_false h1
 by_cases h2 : 2147483647 < h
 ·
  rw [mkS_no (by unfold okB; simp; omega)]
  have d2 : decide (2147483647 < h) = true := decide_eq_true h2
  go_enter Try.func78, Try.ntmps78
  go_wp2
  exact bodyPost_ret (v := .agg #[.int .i64 0, .int .i64 0, .bool true]) (by simp [results, Try.results78, go_sem]) rfl ⟨rfl, bel2 _ _ _⟩
 have d2 : decide (2147483647 < h) = false := decide_eq_false h2
 by_cases h3 : h < l
 ·
  rw [mkS_no (by unfold okB; simp; omega)]
  have d3 : decide (h < l) = true := decide_eq_true h3
  go_enter Try.func78, Try.ntmps78
  go_wp2
  exact bodyPost_ret (v := .agg #[.int .i64 0, .int .i64 0, .bool true]) (by simp [results, Try.results78, go_sem]) rfl ⟨rfl, bel2 _ _ _⟩
 have d3 : decide (h < l) = false := decide_eq_false h3
 rw [mkS_ok (ok_mk (by show -2147483647 ≤ l; omega) (by show l ≤ h; omega) (by show h ≤ 2147483647; omega) rfl)]
 go_enter Try.func78, Try.ntmps78
 go_wp2
 exact bodyPost_ret (v := .agg #[.int .i64 l, .int .i64 h, .bool false]) (by simp [results, Try.results78, go_sem]) rfl ⟨rfl, bel2 _ _ _⟩
set_option maxHeartbeats 800000 in
theorem rdOf_any (a b : Int) (w : World) : Calls Try.prog 101 #[.int .i64 a, .int .i64 b] w (PDp (ofS a b) w) := by
 have hR : ∀ W : World, Calls Try.prog 78 #[.agg #[.int .i64 (min a b), .int .i64 (max a b), .bool false]] W (PDp (ofS a b) W) := rRight_any ⟨min a b, max a b, false⟩
 generalize ofS a b = z at *
 have HR := Lib.hid hR
 clear hR
 go_enter Try.func101, Try.ntmps101
 go_wp2_with fail
 refine (HR.out _).mono ?_
 rintro e W ⟨rfl, hB⟩
 have hX := (ds1 w 0 0 false).later hB
 obtain ⟨c0, c1, c2, f0, f1, f2⟩ := hX.c0
 go_wp2
 have h := hX.put 0 (by simp) z
 rw [Nat.add_zero] at h
 exact bodyPost_ret (v := .agg #[.int .i64 z.lo, .int .i64 z.hi, .bool z.all]) (by simp [results, Try.results101, go_sem, c0, c1, c2]) rfl ⟨rfl, h.below⟩
set_option maxHeartbeats 1600000 in
theorem rdIn_qall (x y p q : Sp) (HPx : ∀ W : World, Calls Try.prog 78 #[.agg #[.int .i64 x.lo, .int .i64 x.hi, .bool x.all]] W (PDp p W)) (HQx : ∀ W : World, Calls Try.prog 78 #[.agg #[.int .i64 y.lo, .int .i64 y.hi, .bool y.all]] W (PDp q W)) (haq : q.all = true) (w : World) : Calls Try.prog 98 #[.agg #[.int .i64 x.lo, .int .i64 x.hi, .bool x.all], .agg #[.int .i64 y.lo, .int .i64 y.hi, .bool y.all]] w (PVal (.bool true) w) := by
 have HP := Lib.hid HPx
 have HQ := Lib.hid HQx
 clear HPx HQx
 have HAq := Lib.hid haq
 clear haq
 go_enter Try.func98, Try.ntmps98
 go_wp2_with fail
 have hJ := ds2 w x.lo x.hi x.all y.lo y.hi y.all
 generalize (w.alloc (.cells #[.int .i64 x.lo, .int .i64 x.hi, .bool x.all] 25)).alloc (.cells #[.int .i64 y.lo, .int .i64 y.hi, .bool y.all] 25) = w1 at *
 refine (HP.out _).mono ?_
 rintro e W1 ⟨rfl, hB⟩
 replace hJ := hJ.later hB
 clear hB
 have f10 := hJ.c1.1
 have f11 := hJ.c1.2.1
 have f12 := hJ.c1.2.2.1
 have fz1 : w.heap.size + 1 < W1.heap.size := (Array.getElem?_eq_some_iff.1 (hJ.at' 1 y rfl)).1
 have hal := bel1 W1 (.cells #[.int .i64 p.lo, .int .i64 p.hi, .bool p.all] 25)
 replace hJ := hJ.later hal
 have kp := d3_new W1 p
 go_wp2_with fail
 clear f10 f11 f12 fz1 hal
 generalize W1.alloc (.cells #[.int .i64 p.lo, .int .i64 p.hi, .bool p.all] 25) = W2 at *
 generalize W1.heap.size = bp at *
 refine (HQ.out _).mono ?_
 rintro e W3 ⟨rfl, hB⟩
 replace hJ := hJ.later hB
 replace kp := kp.below hB
 clear hB
 have hlp : bp < W3.heap.size := (Array.getElem?_eq_some_iff.1 kp).1
 have p0 := kp.cells.1
 have p1 := kp.cells.2.1
 have p2 := kp.cells.2.2.1
 have hal := bel1 W3 (.cells #[.int .i64 q.lo, .int .i64 q.hi, .bool q.all] 25)
 have hb := bel_al hJ.below (.cells #[.int .i64 q.lo, .int .i64 q.hi, .bool q.all] 25)
 have haq := HAq.out
 rw [haq] at hb
 go_wp2
 go_ret
 exact ⟨rfl, hb⟩
set_option maxHeartbeats 1600000 in
theorem rdIn_pall (x y p q : Sp) (HPx : ∀ W : World, Calls Try.prog 78 #[.agg #[.int .i64 x.lo, .int .i64 x.hi, .bool x.all]] W (PDp p W)) (HQx : ∀ W : World, Calls Try.prog 78 #[.agg #[.int .i64 y.lo, .int .i64 y.hi, .bool y.all]] W (PDp q W)) (haq : q.all = false) (hap : p.all = true) (w : World) : Calls Try.prog 98 #[.agg #[.int .i64 x.lo, .int .i64 x.hi, .bool x.all], .agg #[.int .i64 y.lo, .int .i64 y.hi, .bool y.all]] w (PVal (.bool false) w) := by
 have HP := Lib.hid HPx
 have HQ := Lib.hid HQx
 clear HPx HQx
 have HAq := Lib.hid haq
 clear haq
 have HAp := Lib.hid hap
 clear hap
 go_enter Try.func98, Try.ntmps98
 go_wp2_with fail
 have hJ := ds2 w x.lo x.hi x.all y.lo y.hi y.all
 generalize (w.alloc (.cells #[.int .i64 x.lo, .int .i64 x.hi, .bool x.all] 25)).alloc (.cells #[.int .i64 y.lo, .int .i64 y.hi, .bool y.all] 25) = w1 at *
 refine (HP.out _).mono ?_
 rintro e W1 ⟨rfl, hB⟩
 replace hJ := hJ.later hB
 clear hB
 have f10 := hJ.c1.1
 have f11 := hJ.c1.2.1
 have f12 := hJ.c1.2.2.1
 have fz1 : w.heap.size + 1 < W1.heap.size := (Array.getElem?_eq_some_iff.1 (hJ.at' 1 y rfl)).1
 have hal := bel1 W1 (.cells #[.int .i64 p.lo, .int .i64 p.hi, .bool p.all] 25)
 replace hJ := hJ.later hal
 have kp := d3_new W1 p
 go_wp2_with fail
 clear f10 f11 f12 fz1 hal
 generalize W1.alloc (.cells #[.int .i64 p.lo, .int .i64 p.hi, .bool p.all] 25) = W2 at *
 generalize W1.heap.size = bp at *
 refine (HQ.out _).mono ?_
 rintro e W3 ⟨rfl, hB⟩
 replace hJ := hJ.later hB
 replace kp := kp.below hB
 clear hB
 have hlp : bp < W3.heap.size := (Array.getElem?_eq_some_iff.1 kp).1
 have p0 := kp.cells.1
 have p1 := kp.cells.2.1
 have p2 := kp.cells.2.2.1
 have hal := bel1 W3 (.cells #[.int .i64 q.lo, .int .i64 q.hi, .bool q.all] 25)
 have hb := bel_al hJ.below (.cells #[.int .i64 q.lo, .int .i64 q.hi, .bool q.all] 25)
 have hap := HAp.out
 rw [hap] at p2
 have haq := HAq.out
 rw [haq] at hb
 go_wp2
 go_ret
 exact ⟨rfl, hb⟩
set_option maxHeartbeats 1600000 in
theorem rdIn_lo (x y p q : Sp) (HPx : ∀ W : World, Calls Try.prog 78 #[.agg #[.int .i64 x.lo, .int .i64 x.hi, .bool x.all]] W (PDp p W)) (HQx : ∀ W : World, Calls Try.prog 78 #[.agg #[.int .i64 y.lo, .int .i64 y.hi, .bool y.all]] W (PDp q W)) (haq : q.all = false) (hap : p.all = false) (d1 : decide (q.lo ≤ p.lo) = false) (w : World) : Calls Try.prog 98 #[.agg #[.int .i64 x.lo, .int .i64 x.hi, .bool x.all], .agg #[.int .i64 y.lo, .int .i64 y.hi, .bool y.all]] w (PVal (.bool false) w) := by
 have HP := Lib.hid HPx
 have HQ := Lib.hid HQx
 clear HPx HQx
 have HAq := Lib.hid haq
 clear haq
 have HAp := Lib.hid hap
 clear hap
 go_enter Try.func98, Try.ntmps98
 go_wp2_with fail
 have hJ := ds2 w x.lo x.hi x.all y.lo y.hi y.all
 generalize (w.alloc (.cells #[.int .i64 x.lo, .int .i64 x.hi, .bool x.all] 25)).alloc (.cells #[.int .i64 y.lo, .int .i64 y.hi, .bool y.all] 25) = w1 at *
 refine (HP.out _).mono ?_
 rintro e W1 ⟨rfl, hB⟩
 replace hJ := hJ.later hB
 clear hB
 have f10 := hJ.c1.1
 have f11 := hJ.c1.2.1
 have f12 := hJ.c1.2.2.1
 have fz1 : w.heap.size + 1 < W1.heap.size := (Array.getElem?_eq_some_iff.1 (hJ.at' 1 y rfl)).1
 have hal := bel1 W1 (.cells #[.int .i64 p.lo, .int .i64 p.hi, .bool p.all] 25)
 replace hJ := hJ.later hal
 have kp := d3_new W1 p
 go_wp2_with fail
 clear f10 f11 f12 fz1 hal
 generalize W1.alloc (.cells #[.int .i64 p.lo, .int .i64 p.hi, .bool p.all] 25) = W2 at *
 generalize W1.heap.size = bp at *
 refine (HQ.out _).mono ?_
 rintro e W3 ⟨rfl, hB⟩
 replace hJ := hJ.later hB
 replace kp := kp.below hB
 clear hB
 have hlp : bp < W3.heap.size := (Array.getElem?_eq_some_iff.1 kp).1
 have p0 := kp.cells.1
 have p1 := kp.cells.2.1
 have p2 := kp.cells.2.2.1
 have hal := bel1 W3 (.cells #[.int .i64 q.lo, .int .i64 q.hi, .bool q.all] 25)
 have hb := bel_al hJ.below (.cells #[.int .i64 q.lo, .int .i64 q.hi, .bool q.all] 25)
 have hap := HAp.out
 rw [hap] at p2
 have haq := HAq.out
 rw [haq] at hb
 go_wp2
 go_ret
 exact ⟨rfl, hb⟩
set_option maxHeartbeats 1600000 in
theorem rdIn_hi (x y p q : Sp) (HPx : ∀ W : World, Calls Try.prog 78 #[.agg #[.int .i64 x.lo, .int .i64 x.hi, .bool x.all]] W (PDp p W)) (HQx : ∀ W : World, Calls Try.prog 78 #[.agg #[.int .i64 y.lo, .int .i64 y.hi, .bool y.all]] W (PDp q W)) (haq : q.all = false) (hap : p.all = false) (d1 : decide (q.lo ≤ p.lo) = true) (w : World) : Calls Try.prog 98 #[.agg #[.int .i64 x.lo, .int .i64 x.hi, .bool x.all], .agg #[.int .i64 y.lo, .int .i64 y.hi, .bool y.all]] w (PVal (.bool (decide (p.hi ≤ q.hi))) w) := by
 have HP := Lib.hid HPx
 have HQ := Lib.hid HQx
 clear HPx HQx
 have HAq := Lib.hid haq
 clear haq
 have HAp := Lib.hid hap
 clear hap
 go_enter Try.func98, Try.ntmps98
 go_wp2_with fail
 have hJ := ds2 w x.lo x.hi x.all y.lo y.hi y.all
 generalize (w.alloc (.cells #[.int .i64 x.lo, .int .i64 x.hi, .bool x.all] 25)).alloc (.cells #[.int .i64 y.lo, .int .i64 y.hi, .bool y.all] 25) = w1 at *
 refine (HP.out _).mono ?_
 rintro e W1 ⟨rfl, hB⟩
 replace hJ := hJ.later hB
 clear hB
 have f10 := hJ.c1.1
 have f11 := hJ.c1.2.1
 have f12 := hJ.c1.2.2.1
 have fz1 : w.heap.size + 1 < W1.heap.size := (Array.getElem?_eq_some_iff.1 (hJ.at' 1 y rfl)).1
 have hal := bel1 W1 (.cells #[.int .i64 p.lo, .int .i64 p.hi, .bool p.all] 25)
 replace hJ := hJ.later hal
 have kp := d3_new W1 p
 go_wp2_with fail
 clear f10 f11 f12 fz1 hal
 generalize W1.alloc (.cells #[.int .i64 p.lo, .int .i64 p.hi, .bool p.all] 25) = W2 at *
 generalize W1.heap.size = bp at *
 refine (HQ.out _).mono ?_
 rintro e W3 ⟨rfl, hB⟩
 replace hJ := hJ.later hB
 replace kp := kp.below hB
 clear hB
 have hlp : bp < W3.heap.size := (Array.getElem?_eq_some_iff.1 kp).1
 have p0 := kp.cells.1
 have p1 := kp.cells.2.1
 have p2 := kp.cells.2.2.1
 have hal := bel1 W3 (.cells #[.int .i64 q.lo, .int .i64 q.hi, .bool q.all] 25)
 have hb := bel_al hJ.below (.cells #[.int .i64 q.lo, .int .i64 q.hi, .bool q.all] 25)
 have hap := HAp.out
 rw [hap] at p2
 have haq := HAq.out
 rw [haq] at hb
 go_wp2
 go_ret
 exact ⟨rfl, hb⟩
theorem rdIn_any (x y : Sp) (w : World) : Calls Try.prog 98 #[.agg #[.int .i64 x.lo, .int .i64 x.hi, .bool x.all], .agg #[.int .i64 y.lo, .int .i64 y.hi, .bool y.all]] w (PVal (.bool (inB x y)) w) := by
 have hp := rRight_any x
 have hq := rRight_any y
 unfold inB
 cases hy : okB y
 ·
  rw [mkS_no hy] at hq
  exact rdIn_qall x y _ _ hp hq rfl w
 ·
  rw [mkS_ok hy] at hq
  have ky := (ok_of hy).2.2.2
  cases hx : okB x
  ·
   rw [mkS_no hx] at hp
   exact rdIn_pall x y _ _ hp hq ky rfl w
  ·
   rw [mkS_ok hx] at hp
   have kx := (ok_of hx).2.2.2
   cases hd : decide (y.lo ≤ x.lo)
   ·
    exact rdIn_lo x y _ _ hp hq ky kx hd w
   ·
    have := rdIn_hi x y _ _ hp hq ky kx hd w
    simpa using this
set_option maxHeartbeats 1600000 in
theorem rdMid_w (x p : Sp) (HPx : ∀ W : World, Calls Try.prog 78 #[.agg #[.int .i64 x.lo, .int .i64 x.hi, .bool x.all]] W (PDp p W)) (k1 : -2147483647 ≤ p.lo) (k2 : p.lo ≤ p.hi) (k3 : p.hi ≤ 2147483647) (w : World) : Calls Try.prog 99 #[.agg #[.int .i64 x.lo, .int .i64 x.hi, .bool x.all]] w (PVal (.int .i64 ((p.lo + p.hi) / 2)) w) := by
 have HP := Lib.hid HPx
 clear HPx
 go_enter Try.func99, Try.ntmps99
 go_wp2_with fail
 refine (HP.out _).mono ?_
 rintro e W1 ⟨rfl, hB⟩
 have hb := bel_al (bel_on (bel1 w _) hB) (.cells #[.int .i64 p.lo, .int .i64 p.hi, .bool p.all] 25)
 have kp := d3_new W1 p
 clear hB
 have hq := tq (p.lo + p.hi) 2
 have ha := tr_abs (p.lo + p.hi) 2 (by decide)
 have hps := tr_pos (p.lo + p.hi) 2
 have hng := tr_neg (p.lo + p.hi) 2
 rcases Int.lt_or_le (p.lo + p.hi) 0 with hs | hs
 ·
  have d1 : decide (p.lo + p.hi < 0) = true := decide_eq_true hs
  have hn := hng (by omega)
  obtain ⟨r, hr⟩ : ∃ r, (p.lo + p.hi).tmod 2 = r := ⟨_, rfl⟩
  obtain ⟨q, hqq⟩ : ∃ r, (p.lo + p.hi).tdiv 2 = r := ⟨_, rfl⟩
  rw [hr] at ha hn hq
  rw [hqq] at hq
  clear hps hng
  by_cases h0 : r = 0
  ·
   have e0 : (r != 0) = false := by simpa using h0
   have HE : Hid (q = (p.lo + p.hi) / 2) := show q = _ by omega
   have q1 : -2147483648 ≤ q := by omega
   have q2 : q ≤ 2147483648 := by omega
   clear hq ha hn h0
   go_wp2
   go_ret
   exact ⟨ret_int (by rw [← HE.out]), hb⟩
  ·
   have e0 : (r != 0) = true := by simpa using h0
   have HE : Hid (q - 1 = (p.lo + p.hi) / 2) := show q - 1 = _ by omega
   have q1 : -2147483648 ≤ q := by omega
   have q2 : q ≤ 2147483648 := by omega
   clear hq ha hn h0
   go_wp2
   go_ret
   exact ⟨ret_int (by rw [← HE.out]), hb⟩
 ·
  have d1 : decide (p.lo + p.hi < 0) = false := decide_eq_false (by omega)
  clear hq ha hps hng
  go_wp2
  go_ret
  exact ⟨rfl, hb⟩
theorem rdMid_any (x : Sp) (w : World) : Calls Try.prog 99 #[.agg #[.int .i64 x.lo, .int .i64 x.hi, .bool x.all]] w (PVal (.int .i64 (midS x)) w) := by
 unfold midS
 have h := rdMid_w x _ (rRight_any x)
 cases hx : okB x
 ·
  rw [mkS_no hx] at h
  exact h (by decide) (by decide) (by decide) w
 ·
  obtain ⟨k1, k2, k3, k4⟩ := ok_of hx
  rw [mkS_ok hx] at h
  exact h k1 k2 k3 w
set_option maxHeartbeats 1600000 in
theorem rdRad_no (x p : Sp) (HPx : ∀ W : World, Calls Try.prog 78 #[.agg #[.int .i64 x.lo, .int .i64 x.hi, .bool x.all]] W (PDp p W)) (hap : p.all = true) (w : World) : Calls Try.prog 100 #[.agg #[.int .i64 x.lo, .int .i64 x.hi, .bool x.all]] w (PVal (.int .i64 2147483647) w) := by
 have HA := Lib.hid hap
 clear hap
 have HP := Lib.hid HPx
 clear HPx
 go_enter Try.func100, Try.ntmps100
 go_wp2_with fail
 refine (HP.out _).mono ?_
 rintro e W1 ⟨rfl, hB⟩
 have hb := bel_al (bel_on (bel1 w _) hB) (.cells #[.int .i64 p.lo, .int .i64 p.hi, .bool p.all] 25)
 have kp := d3_new W1 p
 clear hB
 have hap := HA.out
 rw [hap] at hb
 go_wp2
 go_ret
 exact ⟨rfl, hb⟩
set_option maxHeartbeats 1600000 in
theorem rdRad_ok (x p : Sp) (m : Int) (HPx : ∀ W : World, Calls Try.prog 78 #[.agg #[.int .i64 x.lo, .int .i64 x.hi, .bool x.all]] W (PDp p W)) (HMx : ∀ W : World, Calls Try.prog 99 #[.agg #[.int .i64 p.lo, .int .i64 p.hi, .bool false]] W (PVal (.int .i64 m) W)) (hap : p.all = false) (k1 : -2147483647 ≤ p.hi) (k2 : p.hi ≤ 2147483647) (k3 : -2147483647 ≤ m) (k4 : m ≤ 2147483647) (w : World) : Calls Try.prog 100 #[.agg #[.int .i64 x.lo, .int .i64 x.hi, .bool x.all]] w (PVal (.int .i64 (p.hi - m)) w) := by
 have HA := Lib.hid hap
 have HM := Lib.hid HMx
 clear hap HMx
 have HP := Lib.hid HPx
 clear HPx
 go_enter Try.func100, Try.ntmps100
 go_wp2_with fail
 refine (HP.out _).mono ?_
 rintro e W1 ⟨rfl, hB⟩
 have hb := bel_al (bel_on (bel1 w _) hB) (.cells #[.int .i64 p.lo, .int .i64 p.hi, .bool p.all] 25)
 have kp := d3_new W1 p
 clear hB
 have hap := HA.out
 rw [hap] at hb
 clear kp
 have kp := d3_new W1 ⟨p.lo, p.hi, false⟩
 go_wp2
 generalize W1.alloc (.cells #[.int .i64 p.lo, .int .i64 p.hi, .bool false] 25) = W2 at *
 generalize W1.heap.size = bp at *
 clear hap
 refine wp_region_vals 6 [some 8, some 9, some 10, some 11, some 12, some 2] (lstV [.pointer (some ⟨bp, 1, none⟩), .int .i64 p.hi, .agg #[.int .i64 p.lo, .int .i64 p.hi, .bool false], .int .i64 m, .int .i64 (p.hi - m), .int .i64 (p.hi - m)]) (fun W => Below w.heap.size w W ∧ D3 W bp ⟨p.lo, p.hi, false⟩) (by kernel_rfl) (by kernel_rfl) (by decide) (⟨hb.drew, kp⟩) ?_ ?_
 ·
  intro i hl hi u W hJ hd
  obtain rfl | rfl | rfl | rfl | rfl | rfl : i = 0 ∨ i = 1 ∨ i = 2 ∨ i = 3 ∨ i = 4 ∨ i = 5 := by omega
  ·
   clear hd
   simp only [List.getElem_cons_succ, List.getElem_cons_zero]
   clear hl
   refine .inr ⟨rfl, fun K' hK => ?_⟩
   have HK := Lib.hid hK
   clear hK
   simp only [layS, Act.put, List.setIfInBounds_toArray, List.set_cons_succ, List.set_cons_zero, Nat.zero_add, Nat.reduceAdd]
   have hw : IntKind.i64.wrap (p.hi - m) = p.hi - m := IntWalk.i64_in _ (by omega)
   have c0 := hJ.2.cells.1
   have c1 := hJ.2.cells.2.1
   have c2 := hJ.2.cells.2.2.1
   go_simp
   exact HK.out _ _ (by simp [layS, updV, lstV, Act.put]) hJ
  ·
   have e0 : u 0 = .pointer (some ⟨bp, 1, none⟩) := hd 0 (by kernel_rfl)
   clear hd
   simp only [List.getElem_cons_succ, List.getElem_cons_zero]
   clear hl
   refine .inr ⟨rfl, fun K' hK => ?_⟩
   have HK := Lib.hid hK
   clear hK
   simp only [layS, Act.put, List.setIfInBounds_toArray, List.set_cons_succ, List.set_cons_zero, Nat.zero_add, Nat.reduceAdd, e0]
   have E0 := Lib.hid e0
   clear e0
   have hw : IntKind.i64.wrap (p.hi - m) = p.hi - m := IntWalk.i64_in _ (by omega)
   have c0 := hJ.2.cells.1
   have c1 := hJ.2.cells.2.1
   have c2 := hJ.2.cells.2.2.1
   go_simp
   exact HK.out _ _ (by simp [layS, updV, lstV, Act.put, E0.out]) hJ
  ·
   clear hd
   simp only [List.getElem_cons_succ, List.getElem_cons_zero]
   clear hl
   refine .inr ⟨rfl, fun K' hK => ?_⟩
   have HK := Lib.hid hK
   clear hK
   simp only [layS, Act.put, List.setIfInBounds_toArray, List.set_cons_succ, List.set_cons_zero, Nat.zero_add, Nat.reduceAdd]
   have hw : IntKind.i64.wrap (p.hi - m) = p.hi - m := IntWalk.i64_in _ (by omega)
   have c0 := hJ.2.cells.1
   have c1 := hJ.2.cells.2.1
   have c2 := hJ.2.cells.2.2.1
   go_simp
   exact HK.out _ _ (by simp [layS, updV, lstV, Act.put]) hJ
  ·
   have e2 : u 2 = .agg #[.int .i64 p.lo, .int .i64 p.hi, .bool false] := hd 2 (by kernel_rfl)
   clear hd
   simp only [List.getElem_cons_succ, List.getElem_cons_zero]
   clear hl
   refine .inr ⟨rfl, fun K' hK => ?_⟩
   have HK := Lib.hid hK
   clear hK
   simp only [layS, Act.put, List.setIfInBounds_toArray, List.set_cons_succ, List.set_cons_zero, Nat.zero_add, Nat.reduceAdd, e2]
   have E2 := Lib.hid e2
   clear e2
   have hw : IntKind.i64.wrap (p.hi - m) = p.hi - m := IntWalk.i64_in _ (by omega)
   have c0 := hJ.2.cells.1
   have c1 := hJ.2.cells.2.1
   have c2 := hJ.2.cells.2.2.1
   go_simp
   refine (HM.out W).mono ?_
   rintro e W' ⟨rfl, hB⟩
   exact HK.out _ _ (by simp [layS, updV, lstV, Act.put, E2.out]) (⟨bel_on hJ.1 hB, hJ.2.below hB⟩)
  ·
   have e1 : u 1 = .int .i64 p.hi := hd 1 (by kernel_rfl)
   have e3 : u 3 = .int .i64 m := hd 3 (by kernel_rfl)
   clear hd
   simp only [List.getElem_cons_succ, List.getElem_cons_zero]
   clear hl
   refine .inr ⟨rfl, fun K' hK => ?_⟩
   have HK := Lib.hid hK
   clear hK
   simp only [layS, Act.put, List.setIfInBounds_toArray, List.set_cons_succ, List.set_cons_zero, Nat.zero_add, Nat.reduceAdd, e1, e3]
   have E1 := Lib.hid e1
   have E3 := Lib.hid e3
   clear e1 e3
   have hw : IntKind.i64.wrap (p.hi - m) = p.hi - m := IntWalk.i64_in _ (by omega)
   have c0 := hJ.2.cells.1
   have c1 := hJ.2.cells.2.1
   have c2 := hJ.2.cells.2.2.1
   go_simp
   exact HK.out _ _ (by simp [layS, updV, lstV, Act.put, E1.out, E3.out]) hJ
  ·
   have e4 : u 4 = .int .i64 (p.hi - m) := hd 4 (by kernel_rfl)
   clear hd
   simp only [List.getElem_cons_succ, List.getElem_cons_zero]
   clear hl
   refine .inr ⟨rfl, fun K' hK => ?_⟩
   have HK := Lib.hid hK
   clear hK
   simp only [layS, Act.put, List.setIfInBounds_toArray, List.set_cons_succ, List.set_cons_zero, Nat.zero_add, Nat.reduceAdd, e4]
   have E4 := Lib.hid e4
   clear e4
   have hw : IntKind.i64.wrap (p.hi - m) = p.hi - m := IntWalk.i64_in _ (by omega)
   have c0 := hJ.2.cells.1
   have c1 := hJ.2.cells.2.1
   have c2 := hJ.2.cells.2.2.1
   go_simp
   exact HK.out _ _ (by simp [layS, updV, lstV, Act.put, E4.out]) hJ
 intro W hJ
 simp only [layS, lstV, Act.put, List.setIfInBounds_toArray, List.set_cons_succ, List.set_cons_zero, Nat.zero_add, Nat.reduceAdd, List.getD_cons_zero, List.getD_cons_succ, List.drop_succ_cons, List.drop_zero, List.drop_nil]
 go_wp2
 go_ret
 exact ⟨rfl, hJ.1⟩
theorem rdRad_any (x : Sp) (w : World) : Calls Try.prog 100 #[.agg #[.int .i64 x.lo, .int .i64 x.hi, .bool x.all]] w (PVal (.int .i64 (radS x)) w) := by
 unfold radS
 cases hx : okB x
 ·
  have h := rRight_any x
  rw [mkS_no hx] at h
  exact rdRad_no x _ h rfl w
 ·
  obtain ⟨k1, k2, k3, k4⟩ := ok_of hx
  have h := rRight_any x
  rw [mkS_ok hx] at h
  have hm := rdMid_any x
  rw [k4] at hm
  have hb := mid_bd x
  have := rdRad_ok x x (midS x) h hm k4 (by omega) k3 hb.1 hb.2 w
  unfold midS at this
  rw [hx] at this
  exact this
end Go.Proofs.Ytpahkpcoinbgcaa
