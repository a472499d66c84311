/- The walk of the law LongReckons. -/
import Derived.Test.YtcnmilflfegliaaDoorFour
import Derived.Test.YtcnmilflfegliaaDoorRstr
namespace Go.Proofs.YtcnmilflfegliaaDoor
open Go.RowKit

/-- Block b holds the document's number z, by these digits. -/
structure RVI (w : World) (b : Nat) (bl : Bool) (a : Option Addr) (n c : Nat) (z : Int) : Prop where
  k0 : w.cell? ⟨b, 0, none⟩ = some (.bool bl)
  k1 : w.cell? ⟨b, 1, none⟩ = some (.slice a n c)
  num : RNum w bl a n c z
theorem RVI.below {w w' : World} {b : Nat} {bl : Bool} {a : Option Addr} {n c : Nat} {z : Int} (h : RVI w b bl a n c z) (hb : Below w.heap.size w w') : RVI w' b bl a n c z :=
  have hlt := World.block_lt_of_cell? w _ h.k0
  ⟨(hb.cell (p := ⟨b, 0, none⟩) hlt).trans h.k0, (hb.cell (p := ⟨b, 1, none⟩) hlt).trans h.k1, h.num.below hb⟩
theorem rvi_new {w : World} {bl : Bool} {a : Option Addr} {n c : Nat} {z : Int} (t : TypeId) (h : RNum w bl a n c z) : RVI (w.alloc (.cells #[.bool bl, .slice a n c] t)) w.heap.size bl a n c z :=
  ⟨by simp [go_sem], by simp [go_sem], h.below (below_new _ _)⟩
/-- Two numbers of the program's and two of the document's, in variables. -/
structure T5 (w W : World) (i : Nat) (b1 : Bool) (a1 : Option Addr) (n1 c1 : Nat) (b2 : Bool) (a2 : Option Addr) (n2 c2 : Nat) (b3 : Bool) (a3 : Option Addr) (n3 c3 : Nat) (b4 : Bool) (a4 : Option Addr) (n4 c4 : Nat) (x y : Int) : Prop where
  below : Below w.heap.size w W
  X : VI W i b1 a1 n1 c1 x
  Y : VI W (i + 1) b2 a2 n2 c2 y
  V : RVI W (i + 2) b3 a3 n3 c3 x
  U : RVI W (i + 3) b4 a4 n4 c4 y
section
variable {w W W' : World} {i : Nat} {b1 : Bool} {a1 : Option Addr} {n1 c1 : Nat} {b2 : Bool} {a2 : Option Addr} {n2 c2 : Nat} {b3 : Bool} {a3 : Option Addr} {n3 c3 : Nat} {b4 : Bool} {a4 : Option Addr} {n4 c4 : Nat} {x y : Int}
theorem T5.later (h : T5 w W i b1 a1 n1 c1 b2 a2 n2 c2 b3 a3 n3 c3 b4 a4 n4 c4 x y) (hb : Below W.heap.size W W') : T5 w W' i b1 a1 n1 c1 b2 a2 n2 c2 b3 a3 n3 c3 b4 a4 n4 c4 x y :=
  ⟨h.below.trans (hb.mono h.below.size), h.X.below hb, h.Y.below hb, h.V.below hb, h.U.below hb⟩
theorem T5.hs (h : T5 w W i b1 a1 n1 c1 b2 a2 n2 c2 b3 a3 n3 c3 b4 a4 n4 c4 x y) : W.cell? ⟨i, 0, none⟩ = some (.bool b1) ∧ W.cell? ⟨i, 1, none⟩ = some (.slice a1 n1 c1) ∧ W.cell? ⟨i + 1, 0, none⟩ = some (.bool b2) ∧ W.cell? ⟨i + 1, 1, none⟩ = some (.slice a2 n2 c2) ∧ W.cell? ⟨i + 2, 0, none⟩ = some (.bool b3) ∧ W.cell? ⟨i + 2, 1, none⟩ = some (.slice a3 n3 c3) ∧ W.cell? ⟨i + 3, 0, none⟩ = some (.bool b4) ∧ W.cell? ⟨i + 3, 1, none⟩ = some (.slice a4 n4 c4) :=
  ⟨h.X.k0, h.X.k1, h.Y.k0, h.Y.k1, h.V.k0, h.V.k1, h.U.k0, h.U.k1⟩
end
theorem t5_mk {w0 w : World} {b1 : Bool} {a1 : Option Addr} {n1 c1 : Nat} {b2 : Bool} {a2 : Option Addr} {n2 c2 : Nat} {b3 : Bool} {a3 : Option Addr} {n3 c3 : Nat} {b4 : Bool} {a4 : Option Addr} {n4 c4 : Nat} {x y : Int} (hb : Below w0.heap.size w0 w) (h1 : Num w b1 a1 n1 c1 x) (h2 : Num w b2 a2 n2 c2 y) (h3 : RNum w b3 a3 n3 c3 x) (h4 : RNum w b4 a4 n4 c4 y) (t u : TypeId) :
    T5 w0 ((((w.alloc (.cells #[.bool b1, .slice a1 n1 c1] t)).alloc (.cells #[.bool b2, .slice a2 n2 c2] t)).alloc (.cells #[.bool b3, .slice a3 n3 c3] u)).alloc (.cells #[.bool b4, .slice a4 n4 c4] u)) w.heap.size b1 a1 n1 c1 b2 a2 n2 c2 b3 a3 n3 c3 b4 a4 n4 c4 x y := by
  have B1 := below_new w (.cells #[.bool b1, .slice a1 n1 c1] t)
  have B2 := below_new (w.alloc (.cells #[.bool b1, .slice a1 n1 c1] t)) (.cells #[.bool b2, .slice a2 n2 c2] t)
  have B3 := below_new ((w.alloc (.cells #[.bool b1, .slice a1 n1 c1] t)).alloc (.cells #[.bool b2, .slice a2 n2 c2] t)) (.cells #[.bool b3, .slice a3 n3 c3] u)
  have B4 := below_new (((w.alloc (.cells #[.bool b1, .slice a1 n1 c1] t)).alloc (.cells #[.bool b2, .slice a2 n2 c2] t)).alloc (.cells #[.bool b3, .slice a3 n3 c3] u)) (.cells #[.bool b4, .slice a4 n4 c4] u)
  have X := (((vi_new t h1).below B2).below B3).below B4
  have Y := ((vi_new t (h2.below B1)).below B3).below B4
  have V := (rvi_new u ((h3.below B1).below B2)).below B4
  have U := rvi_new u (((h4.below B1).below B2).below B3)
  have e1 : (w.alloc (.cells #[.bool b1, .slice a1 n1 c1] t)).heap.size = w.heap.size + 1 := by simp
  have e2 : ((w.alloc (.cells #[.bool b1, .slice a1 n1 c1] t)).alloc (.cells #[.bool b2, .slice a2 n2 c2] t)).heap.size = w.heap.size + 2 := by simp
  have e3 : (((w.alloc (.cells #[.bool b1, .slice a1 n1 c1] t)).alloc (.cells #[.bool b2, .slice a2 n2 c2] t)).alloc (.cells #[.bool b3, .slice a3 n3 c3] u)).heap.size = w.heap.size + 3 := by simp
  rw [e1] at Y
  rw [e2] at V
  rw [e3] at U
  have b12 := hb.trans (B1.mono hb.size)
  have b13 := b12.trans (B2.mono b12.size)
  have b14 := b13.trans (B3.mono b13.size)
  exact ⟨b14.trans (B4.mono b14.size), X, Y, V, U⟩
theorem rlen {n N p : Nat} (h : Fit10 n N) (hN : N < BB ^ p) : n ≤ 10 * p := by
  refine Nat.le_of_not_lt fun hlt => ?_
  have h1 : 10 ^ (10 * p) ≤ 10 ^ (n - 1) := Nat.pow_le_pow_right (by decide) (by omega)
  have h2 : BB ^ p ≤ 10 ^ (10 * p) := by rw [Nat.pow_mul]; exact Nat.pow_le_pow_left (by decide) p
  rcases h.2 with h0 | h0 <;> omega
theorem tfitB {n N : Nat} (h : N < BB ^ n) (hn : n ≤ 150) : N < BB ^ 150 := fit_mono h hn
theorem txt_str {z : Int} {l m : List UInt8} (h : Txt z l) (k : Txt z m) : (⟨m.toArray⟩ : ByteArray) = ⟨l.toArray⟩ := by rw [txt_uniq k h]

set_option maxRecDepth 100000 in
set_option maxHeartbeats 12800000 in
theorem LongReckons_any (s t : ByteArray) (w : World) (hs : s.size ≤ maxLen) (ht : t.size ≤ maxLen) :
    Calls Tryd.prog 3 #[.string s, .string t] w (PVal (.bool true) w) := by
  have HS := Lib.hid hs
  have HT := Lib.hid ht
  clear hs ht
  go_enter Tryd.func3, Tryd.ntmps3
  go_wp2_with fail
  refine (awake_any _).mono ?_
  rintro e w0 ⟨rfl, hB0⟩
  go_wp2_with fail
  refine (two_any s t _ HS.out HT.out).mono ?_
  rintro e w1 ⟨b1, a1, n1, c1, b2, a2, n2, c2, b3, a3, n3, c3, b4, a4, n4, c4, rfl, hX, hY, hRx, hRy, hB1⟩
  have hT := t5_mk (hB0.trans (hB1.mono hB0.size)) hX hY hRx hRy 25 28
  clear hX hY hRx hRy hB0 hB1
  obtain ⟨is1, his1⟩ : ∃ q, twoB s t = q := ⟨_, rfl⟩
  rw [his1]
  have HI1 := Lib.hid his1
  clear his1
  go_upto_region 3 with (fail)
  generalize (((w1.alloc (.cells #[.bool b1, .slice a1 n1 c1] 25)).alloc (.cells #[.bool b2, .slice a2 n2 c2] 25)).alloc (.cells #[.bool b3, .slice a3 n3 c3] 28)).alloc (.cells #[.bool b4, .slice a4 n4 c4] 28) = W1 at *
  rcases is1 with _ | _
  · have hfin := hT.below
    clear hT
    go_wp2
    go_ret
    exact ⟨rfl, hfin⟩
  have l1 := pz_len hT.X.num (twoB_ok HI1.out).1
  have l2 := pz_len hT.Y.num (twoB_ok HI1.out).2
  clear HI1 HS HT
  generalize pZ s = x at *
  generalize pZ t = y at *
  have BX : Hid (x.natAbs < BB ^ 150) := tfitB hT.X.num.fit.1 l1
  have BY : Hid (y.natAbs < BB ^ 150) := tfitB hT.Y.num.fit.1 l2
  have l3 : n3 ≤ 1500 := rlen hT.V.num.fit BX.out
  have l4 : n4 ≤ 1500 := rlen hT.U.num.fit BY.out
  clear l1 l2
  have l1 : n1 ≤ 150 := fit_le hT.X.num.fit BX.out
  have l2 : n2 ≤ 150 := fit_le hT.Y.num.fit BY.out
  obtain ⟨p0, p1, q0, q1, r0, r1, u0, u1⟩ := hT.hs
  go_wp2_with fail
  refine (Add_any b1 a1 n1 c1 x b2 a2 n2 c2 y _ hT.X.num hT.Y.num (by omega) (by omega)).mono ?_
  rintro e v1 ⟨d1b, d1a, d1n, d1c, rfl, hD, _, hb⟩
  replace hT := hT.later hb
  clear hb p0 p1 q0 q1 r0 r1 u0 u1
  go_wp2_with fail
  refine (String_all d1b d1a d1n d1c (x + y) _ hD (len_of hD (bnd_add BX.out BY.out) (by omega))).mono ?_
  rintro e u1 ⟨m1, rfl, ht, hb⟩
  replace hT := hT.later hb
  have HT1 := Lib.hid ht
  clear hb hD ht
  obtain ⟨S1, hS1⟩ : ∃ S : ByteArray, S = ⟨m1.toArray⟩ := ⟨_, rfl⟩
  rw [← hS1]
  have HS1 := Lib.hid hS1
  clear hS1
  obtain ⟨p0, p1, q0, q1, r0, r1, u0, u1⟩ := hT.hs
  go_wp2_with fail
  refine (Sub_any b1 a1 n1 c1 x b2 a2 n2 c2 y _ hT.X.num hT.Y.num (by omega) (by omega)).mono ?_
  rintro e v2 ⟨d2b, d2a, d2n, d2c, rfl, hD, _, hb⟩
  replace hT := hT.later hb
  clear hb p0 p1 q0 q1 r0 r1 u0 u1
  go_wp2_with fail
  refine (String_all d2b d2a d2n d2c (x - y) _ hD (len_of hD (by rw [Int.sub_eq_add_neg]; exact bnd_add BX.out (bnd_neg BY.out)) (by omega))).mono ?_
  rintro e u2 ⟨m2, rfl, ht, hb⟩
  replace hT := hT.later hb
  have HT2 := Lib.hid ht
  clear hb hD ht
  obtain ⟨S2, hS2⟩ : ∃ S : ByteArray, S = ⟨m2.toArray⟩ := ⟨_, rfl⟩
  rw [← hS2]
  have HS2 := Lib.hid hS2
  clear hS2
  obtain ⟨p0, p1, q0, q1, r0, r1, u0, u1⟩ := hT.hs
  go_wp2_with fail
  refine (Mul_any b1 a1 n1 c1 x b2 a2 n2 c2 y _ hT.X.num hT.Y.num (by omega) (by omega)).mono ?_
  rintro e v3 ⟨d3b, d3a, d3n, d3c, rfl, hD, _, hb⟩
  replace hT := hT.later hb
  clear hb p0 p1 q0 q1 r0 r1 u0 u1
  go_wp2_with fail
  refine (String_all d3b d3a d3n d3c (x * y) _ hD (len_of hD (bnd_mul BX.out BY.out) (by omega))).mono ?_
  rintro e u3 ⟨m3, rfl, ht, hb⟩
  replace hT := hT.later hb
  have HT3 := Lib.hid ht
  clear hb hD ht
  obtain ⟨S3, hS3⟩ : ∃ S : ByteArray, S = ⟨m3.toArray⟩ := ⟨_, rfl⟩
  rw [← hS3]
  have HS3 := Lib.hid hS3
  clear hS3
  obtain ⟨p0, p1, q0, q1, r0, r1, u0, u1⟩ := hT.hs
  go_wp2_with fail
  refine (Neg_any b1 a1 n1 c1 x _ hT.X.num (by omega)).mono ?_
  rintro e v4 ⟨d4b, d4a, d4n, d4c, rfl, hD, _, hb⟩
  replace hT := hT.later hb
  clear hb p0 p1 q0 q1 r0 r1 u0 u1
  go_wp2_with fail
  refine (String_all d4b d4a d4n d4c (-x) _ hD (len_of hD (bnd_neg BX.out) (by omega))).mono ?_
  rintro e u4 ⟨m4, rfl, ht, hb⟩
  replace hT := hT.later hb
  have HT4 := Lib.hid ht
  clear hb hD ht
  obtain ⟨S4, hS4⟩ : ∃ S : ByteArray, S = ⟨m4.toArray⟩ := ⟨_, rfl⟩
  rw [← hS4]
  have HS4 := Lib.hid hS4
  clear hS4
  obtain ⟨p0, p1, q0, q1, r0, r1, u0, u1⟩ := hT.hs
  go_wp2_with fail
  refine (Sign_any b1 a1 n1 c1 x _ hT.X.num).mono ?_
  rintro e v5 ⟨rfl, hb⟩
  replace hT := hT.later hb
  clear hb p0 p1 q0 q1 r0 r1 u0 u1
  obtain ⟨p0, p1, q0, q1, r0, r1, u0, u1⟩ := hT.hs
  go_wp2_with fail
  refine (Cmp_any b1 a1 n1 c1 x b2 a2 n2 c2 y _ hT.X.num hT.Y.num).mono ?_
  rintro e v6 ⟨rfl, hb⟩
  replace hT := hT.later hb
  clear hb p0 p1 q0 q1 r0 r1 u0 u1
  obtain ⟨p0, p1, q0, q1, r0, r1, u0, u1⟩ := hT.hs
  go_wp2_with fail
  refine (rAdd_any b3 a3 n3 c3 x b4 a4 n4 c4 y _ hT.V.num hT.U.num (by omega) (by omega)).mono ?_
  rintro e z1 ⟨f1b, f1a, f1n, f1c, rfl, hD, _, hb⟩
  replace hT := hT.later hb
  clear hb p0 p1 q0 q1 r0 r1 u0 u1
  go_wp2_with fail
  refine (rString_all f1b f1a f1n f1c (x + y) _ hD (Nat.le_trans (rlen hD.fit (bnd_add BX.out BY.out)) (by omega))).mono ?_
  rintro e y1 ⟨o1, rfl, ht, hb⟩
  replace hT := hT.later hb
  rw [txt_str HT1.out ht, ← HS1.out]
  clear hb hD ht
  obtain ⟨p0, p1, q0, q1, r0, r1, u0, u1⟩ := hT.hs
  go_wp2_with fail
  refine (rSub_any b3 a3 n3 c3 x b4 a4 n4 c4 y _ hT.V.num hT.U.num (by omega) (by omega)).mono ?_
  rintro e z2 ⟨f2b, f2a, f2n, f2c, rfl, hD, _, hb⟩
  replace hT := hT.later hb
  clear hb p0 p1 q0 q1 r0 r1 u0 u1
  go_wp2_with fail
  refine (rString_all f2b f2a f2n f2c (x - y) _ hD (Nat.le_trans (rlen hD.fit (by rw [Int.sub_eq_add_neg]; exact bnd_add BX.out (bnd_neg BY.out))) (by omega))).mono ?_
  rintro e y2 ⟨o2, rfl, ht, hb⟩
  replace hT := hT.later hb
  rw [txt_str HT2.out ht, ← HS2.out]
  clear hb hD ht
  obtain ⟨p0, p1, q0, q1, r0, r1, u0, u1⟩ := hT.hs
  go_wp2_with fail
  refine (rMul_any b3 a3 n3 c3 x b4 a4 n4 c4 y _ hT.V.num hT.U.num (by omega) (by omega)).mono ?_
  rintro e z3 ⟨f3b, f3a, f3n, f3c, rfl, hD, _, hb⟩
  replace hT := hT.later hb
  clear hb p0 p1 q0 q1 r0 r1 u0 u1
  go_wp2_with fail
  refine (rString_all f3b f3a f3n f3c (x * y) _ hD (Nat.le_trans (rlen hD.fit (bnd_mul BX.out BY.out)) (by omega))).mono ?_
  rintro e y3 ⟨o3, rfl, ht, hb⟩
  replace hT := hT.later hb
  rw [txt_str HT3.out ht, ← HS3.out]
  clear hb hD ht
  obtain ⟨p0, p1, q0, q1, r0, r1, u0, u1⟩ := hT.hs
  go_wp2_with fail
  refine (rMinus_any b3 a3 n3 c3 x _ hT.V.num).mono ?_
  rintro e z4 ⟨f4b, f4a, f4n, f4c, rfl, hD, hb⟩
  replace hT := hT.later hb
  clear hb p0 p1 q0 q1 r0 r1 u0 u1
  go_wp2_with fail
  refine (rString_all f4b f4a f4n f4c (-x) _ hD (Nat.le_trans (rlen hD.fit (bnd_neg BX.out)) (by omega))).mono ?_
  rintro e y4 ⟨o4, rfl, ht, hb⟩
  replace hT := hT.later hb
  rw [txt_str HT4.out ht, ← HS4.out]
  clear hb hD ht
  obtain ⟨p0, p1, q0, q1, r0, r1, u0, u1⟩ := hT.hs
  go_wp2_with fail
  refine (rSign_any b3 a3 n3 c3 x _ hT.V.num).mono ?_
  rintro e v7 ⟨rfl, hb⟩
  replace hT := hT.later hb
  clear hb p0 p1 q0 q1 r0 r1 u0 u1
  obtain ⟨p0, p1, q0, q1, r0, r1, u0, u1⟩ := hT.hs
  go_wp2_with fail
  refine (rCmp_any b3 a3 n3 c3 x b4 a4 n4 c4 y _ hT.V.num hT.U.num).mono ?_
  rintro e v8 ⟨rfl, hb⟩
  replace hT := hT.later hb
  clear hb p0 p1 q0 q1 r0 r1 u0 u1
  have hfin := hT.below
  clear hT
  go_wp2
  go_ret
  exact ⟨rfl, hfin⟩
end Go.Proofs.YtcnmilflfegliaaDoor
