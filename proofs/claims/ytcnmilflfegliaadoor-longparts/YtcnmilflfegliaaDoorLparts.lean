/- The walk of the law LongParts. -/
import Derived.Test.YtcnmilflfegliaaDoorLreck
import Derived.Test.YtcnmilflfegliaaDoorRquo
namespace Go.Proofs.YtcnmilflfegliaaDoor
open Go.RowKit

/-- What Quo answers. -/
def QQ (x y q r er : Int) : Prop := (y = 0 ∧ q = 0 ∧ r = 0 ∧ er = 11) ∨ (y ≠ 0 ∧ IsQuo x y q r ∧ er = 0)
theorem isQuo_small {x y q r : Int} (hy : y ≠ 0) (h : IsQuo x y q r) : r.natAbs < y.natAbs := by
  have h1 := h.2.1
  have h2 := h.2.2
  omega
theorem isQuo_uniq {x y q r q' r' : Int} (hy : y ≠ 0) (h : IsQuo x y q r) (k : IsQuo x y q' r') : q = q' ∧ r = r' := by
  have h1 := h.1
  have k1 := k.1
  have e : (q - q') * y = r' - r := by rw [Int.sub_mul]; omega
  have hd : (r' - r).natAbs < y.natAbs := by
    have a1 := h.2.1
    have a2 := h.2.2
    have b1 := k.2.1
    have b2 := k.2.2
    omega
  rw [← e, Int.natAbs_mul] at hd
  have hz : (q - q').natAbs = 0 := by
    refine Nat.eq_zero_of_not_pos fun hp => ?_
    have := Nat.le_mul_of_pos_left y.natAbs hp
    omega
  have hq : q = q' := by omega
  subst hq
  exact ⟨rfl, by omega⟩
theorem qq_uniq {x y q r er q' r' er' : Int} (h : QQ x y q r er) (k : QQ x y q' r' er') : q' = q ∧ r' = r ∧ er' = er := by
  rcases h with ⟨h0, rfl, rfl, rfl⟩ | ⟨h0, h1, rfl⟩
  · rcases k with ⟨_, rfl, rfl, rfl⟩ | ⟨k0, _, _⟩
    · exact ⟨rfl, rfl, rfl⟩
    · exact absurd h0 k0
  · rcases k with ⟨k0, _, _, _⟩ | ⟨_, k1, rfl⟩
    · exact absurd k0 h0
    · obtain ⟨e1, e2⟩ := isQuo_uniq h0 h1 k1
      exact ⟨e1.symm, e2.symm, rfl⟩
theorem qq_rest {x y q r er : Int} {p : Nat} (h : QQ x y q r er) (hy : y.natAbs < BB ^ p) : r.natAbs < BB ^ p := by
  rcases h with ⟨_, _, rfl, _⟩ | ⟨h0, h1, _⟩
  · exact Nat.lt_of_le_of_lt (Nat.zero_le _) hy
  · exact Nat.lt_trans (isQuo_small h0 h1) hy
theorem qq_quo {x y q r er : Int} {p s : Nat} (h : QQ x y q r er) (hx : x.natAbs < BB ^ p) (hy : y.natAbs < BB ^ s) : q.natAbs < BB ^ (p + s + 1) := by
  rcases h with ⟨_, rfl, _, _⟩ | ⟨h0, h1, _⟩
  · exact Nat.pow_pos (by decide)
  · have e : q * y = x + -r := by have := h1.1; omega
    have hb := bnd_add hx (bnd_neg (Nat.lt_trans (isQuo_small h0 h1) hy))
    rw [← e, Int.natAbs_mul] at hb
    exact Nat.lt_of_le_of_lt (Nat.le_mul_of_pos_right _ (by omega)) hb
theorem Quo_all (bl : Bool) (a : Option Addr) (n c : Nat) (x : Int) (bl' : Bool) (a' : Option Addr) (n' c' : Nat) (y : Int) (w : World) (h : Num w bl a n c x) (h' : Num w bl' a' n' c' y) (hn : n ≤ 9000000) (hn' : n' ≤ 9000000) :
    Calls Tryd.prog 24 #[.agg #[.bool bl, .slice a n c], .agg #[.bool bl', .slice a' n' c']] w (fun e w' => ∃ q r er : Int, QQ x y q r er ∧ PQ q r er w e w') := by
  by_cases hy : y = 0
  · subst hy
    exact (Quo_zero bl a n c bl' a' n' c' w h').mono (fun e w' hp => ⟨0, 0, 11, .inl ⟨rfl, rfl, rfl, rfl⟩, hp⟩)
  · exact (Quo_any bl a n c x bl' a' n' c' y w h h' hn hn' hy).mono (fun e w' ⟨q, r, h1, hp⟩ => ⟨q, r, 0, .inr ⟨hy, h1, rfl⟩, hp⟩)
theorem rQuo_all (bl : Bool) (a : Option Addr) (n c : Nat) (x : Int) (bl' : Bool) (a' : Option Addr) (n' c' : Nat) (y : Int) (w : World) (h : RNum w bl a n c x) (h' : RNum w bl' a' n' c' y) (hn : n ≤ 1000000) (hn' : n' ≤ 1000000) :
    Calls Tryd.prog 25 #[.agg #[.bool bl, .slice a n c], .agg #[.bool bl', .slice a' n' c']] w (fun e w' => ∃ q r er : Int, QQ x y q r er ∧ PRQ q r er w e w') := by
  by_cases hy : y = 0
  · subst hy
    obtain rfl : n' = 0 := h'.zero_iff.2 rfl
    exact (rQuo_zero bl a n c bl' a' c' w).mono (fun e w' hp => ⟨0, 0, 11, .inl ⟨rfl, rfl, rfl, rfl⟩, hp⟩)
  · exact (rQuo_any bl a n c x bl' a' n' c' y w h h' hn hn' hy).mono (fun e w' ⟨q, r, h1, hp⟩ => ⟨q, r, 0, .inr ⟨hy, h1, rfl⟩, hp⟩)
/-- Two numbers in two variables, made one behind the other. -/
structure V2 (W : World) (i : Nat) (b1 : Bool) (a1 : Option Addr) (n1 c1 : Nat) (b2 : Bool) (a2 : Option Addr) (n2 c2 : Nat) (x y : Int) : Prop where
  X : VI W i b1 a1 n1 c1 x
  Y : VI W (i + 1) b2 a2 n2 c2 y
structure RV2 (W : World) (i : Nat) (b1 : Bool) (a1 : Option Addr) (n1 c1 : Nat) (b2 : Bool) (a2 : Option Addr) (n2 c2 : Nat) (x y : Int) : Prop where
  X : RVI W i b1 a1 n1 c1 x
  Y : RVI W (i + 1) b2 a2 n2 c2 y
section
variable {w W W' : World} {i : Nat} {b1 : Bool} {a1 : Option Addr} {n1 c1 : Nat} {b2 : Bool} {a2 : Option Addr} {n2 c2 : Nat} {x y : Int}
theorem V2.later (h : V2 W i b1 a1 n1 c1 b2 a2 n2 c2 x y) (hb : Below W.heap.size W W') : V2 W' i b1 a1 n1 c1 b2 a2 n2 c2 x y := ⟨h.X.below hb, h.Y.below hb⟩
theorem RV2.later (h : RV2 W i b1 a1 n1 c1 b2 a2 n2 c2 x y) (hb : Below W.heap.size W W') : RV2 W' i b1 a1 n1 c1 b2 a2 n2 c2 x y := ⟨h.X.below hb, h.Y.below hb⟩
theorem below_new2 (w : World) (o o' : Obj) : Below w.heap.size w ((w.alloc o).alloc o') := (below_new w o).trans ((below_new _ o').mono (by simp))
theorem v2_mk (h1 : Num w b1 a1 n1 c1 x) (h2 : Num w b2 a2 n2 c2 y) (t : TypeId) : V2 ((w.alloc (.cells #[.bool b1, .slice a1 n1 c1] t)).alloc (.cells #[.bool b2, .slice a2 n2 c2] t)) w.heap.size b1 a1 n1 c1 b2 a2 n2 c2 x y := by
  have Y := vi_new t (h2.below (below_new w (.cells #[.bool b1, .slice a1 n1 c1] t)))
  have e1 : (w.alloc (.cells #[.bool b1, .slice a1 n1 c1] t)).heap.size = w.heap.size + 1 := by simp
  rw [e1] at Y
  exact ⟨(vi_new t h1).below (below_new _ _), Y⟩
theorem rv2_mk (h1 : RNum w b1 a1 n1 c1 x) (h2 : RNum w b2 a2 n2 c2 y) (t : TypeId) : RV2 ((w.alloc (.cells #[.bool b1, .slice a1 n1 c1] t)).alloc (.cells #[.bool b2, .slice a2 n2 c2] t)) w.heap.size b1 a1 n1 c1 b2 a2 n2 c2 x y := by
  have Y := rvi_new t (h2.below (below_new w (.cells #[.bool b1, .slice a1 n1 c1] t)))
  have e1 : (w.alloc (.cells #[.bool b1, .slice a1 n1 c1] t)).heap.size = w.heap.size + 1 := by simp
  rw [e1] at Y
  exact ⟨(rvi_new t h1).below (below_new _ _), Y⟩
end

set_option maxRecDepth 100000 in
set_option maxHeartbeats 12800000 in
theorem LongParts_any (s t : ByteArray) (w : World) (hs : s.size ≤ maxLen) (ht : t.size ≤ maxLen) :
    Calls Tryd.prog 4 #[.string s, .string t] w (PVal (.bool true) w) := by
  have HS := Lib.hid hs
  have HT := Lib.hid ht
  clear hs ht
  go_enter Tryd.func4, Tryd.ntmps4
  go_wp2_with fail
  refine (awake_any _).mono ?_
  rintro e w0 ⟨rfl, hB0⟩
  go_wp2_with fail
  refine (two_any s t _ HS.out HT.out).mono ?_
  rintro e w1 ⟨b1, a1, n1, c1, b2, a2, n2, c2, b3, a3, n3, c3, b4, a4, n4, c4, rfl, hX, hY, hRx, hRy, hB1⟩
  have hT := t5_mk (hB0.trans (hB1.mono hB0.size)) hX hY hRx hRy 25 28
  clear hX hY hRx hRy hB0 hB1
  obtain ⟨is1, his1⟩ : ∃ q, twoB s t = q := ⟨_, rfl⟩
  rw [his1]
  have HI1 := Lib.hid his1
  clear his1
  go_upto_region 3 with (fail)
  generalize (((w1.alloc (.cells #[.bool b1, .slice a1 n1 c1] 25)).alloc (.cells #[.bool b2, .slice a2 n2 c2] 25)).alloc (.cells #[.bool b3, .slice a3 n3 c3] 28)).alloc (.cells #[.bool b4, .slice a4 n4 c4] 28) = W1 at *
  rcases is1 with _ | _
  · have hfin := hT.below
    clear hT
    go_wp2
    go_ret
    exact ⟨rfl, hfin⟩
  have l1 := pz_len hT.X.num (twoB_ok HI1.out).1
  have l2 := pz_len hT.Y.num (twoB_ok HI1.out).2
  clear HI1 HS HT
  generalize pZ s = x at *
  generalize pZ t = y at *
  have BX : Hid (x.natAbs < BB ^ 150) := tfitB hT.X.num.fit.1 l1
  have BY : Hid (y.natAbs < BB ^ 150) := tfitB hT.Y.num.fit.1 l2
  have l3 : n3 ≤ 1500 := rlen hT.V.num.fit BX.out
  have l4 : n4 ≤ 1500 := rlen hT.U.num.fit BY.out
  clear l1 l2
  have l1 : n1 ≤ 150 := fit_le hT.X.num.fit BX.out
  have l2 : n2 ≤ 150 := fit_le hT.Y.num.fit BY.out
  obtain ⟨p0, p1, q0, q1, r0, r1, u0, u1⟩ := hT.hs
  go_wp2_with fail
  refine (Quo_all b1 a1 n1 c1 x b2 a2 n2 c2 y _ hT.X.num hT.Y.num (by omega) (by omega)).mono ?_
  rintro e W2 ⟨q, r, er, hqq, b5, a5, n5, c5, b6, a6, n6, c6, rfl, hq, hr, _, _, hb⟩
  have hal := below_new2 W2 (.cells #[.bool b5, .slice a5 n5 c5] 25) (.cells #[.bool b6, .slice a6 n6 c6] 25)
  replace hT := (hT.later hb).later hal
  have hV := v2_mk hq hr 25
  have HQQ := Lib.hid hqq
  clear hb hal hq hr hqq p0 p1 q0 q1 r0 r1 u0 u1
  obtain ⟨p0, p1, q0, q1, r0, r1, u0, u1⟩ := hT.hs
  go_wp2_with fail
  generalize (W2.alloc (.cells #[.bool b5, .slice a5 n5 c5] 25)).alloc (.cells #[.bool b6, .slice a6 n6 c6] 25) = W3 at *
  generalize W2.heap.size = i2 at *
  refine (rQuo_all b3 a3 n3 c3 x b4 a4 n4 c4 y _ hT.V.num hT.U.num (by omega) (by omega)).mono ?_
  rintro e W4 ⟨q', r', er', hqq, b7, a7, n7, c7, b8, a8, n8, c8, rfl, hq, hr, hb⟩
  obtain ⟨rfl, rfl, rfl⟩ := qq_uniq HQQ.out hqq
  have hal := below_new2 W4 (.cells #[.bool b7, .slice a7 n7 c7] 28) (.cells #[.bool b8, .slice a8 n8 c8] 28)
  replace hT := ((hT.later hb).later hal).below
  replace hV := (hV.later hb).later hal
  have hU := rv2_mk hq hr 28
  have BQ := Lib.hid (qq_quo HQQ.out BX.out BY.out)
  have BR : Hid (r'.natAbs < BB ^ 150) := qq_rest HQQ.out BY.out
  clear hb hal hq hr hqq HQQ p0 p1 q0 q1 r0 r1 u0 u1
  have v0 := hV.X.k0
  have v1 := hV.X.k1
  go_wp2_with fail
  generalize (W4.alloc (.cells #[.bool b7, .slice a7 n7 c7] 28)).alloc (.cells #[.bool b8, .slice a8 n8 c8] 28) = W5 at *
  generalize W4.heap.size = i4 at *
  refine (String_all b5 a5 n5 c5 q' _ hV.X.num (len_of hV.X.num BQ.out (by omega))).mono ?_
  rintro e W6 ⟨m1, rfl, ht, hb⟩
  replace hT := hT.trans (hb.mono hT.size)
  replace hV := hV.later hb
  replace hU := hU.later hb
  have HT1 := Lib.hid ht
  clear hb ht v0 v1
  obtain ⟨S1, hS1⟩ : ∃ S : ByteArray, S = ⟨m1.toArray⟩ := ⟨_, rfl⟩
  rw [← hS1]
  have HS1 := Lib.hid hS1
  clear hS1
  have v0 := hV.Y.k0
  have v1 := hV.Y.k1
  go_wp2_with fail
  refine (String_all b6 a6 n6 c6 r' _ hV.Y.num (len_of hV.Y.num BR.out (by omega))).mono ?_
  rintro e W7 ⟨m2, rfl, ht, hb⟩
  replace hT := hT.trans (hb.mono hT.size)
  replace hU := hU.later hb
  have HT2 := Lib.hid ht
  clear hb ht v0 v1 hV
  obtain ⟨S2, hS2⟩ : ∃ S : ByteArray, S = ⟨m2.toArray⟩ := ⟨_, rfl⟩
  rw [← hS2]
  have HS2 := Lib.hid hS2
  clear hS2
  have v0 := hU.X.k0
  have v1 := hU.X.k1
  go_wp2_with fail
  refine (rString_all b7 a7 n7 c7 q' _ hU.X.num (Nat.le_trans (rlen hU.X.num.fit BQ.out) (by omega))).mono ?_
  rintro e W8 ⟨o1, rfl, ht, hb⟩
  replace hT := hT.trans (hb.mono hT.size)
  replace hU := hU.later hb
  rw [txt_str HT1.out ht, ← HS1.out]
  clear hb ht v0 v1
  have v0 := hU.Y.k0
  have v1 := hU.Y.k1
  go_wp2_with fail
  refine (rString_all b8 a8 n8 c8 r' _ hU.Y.num (Nat.le_trans (rlen hU.Y.num.fit BR.out) (by omega))).mono ?_
  rintro e W9 ⟨o2, rfl, ht, hb⟩
  replace hT := hT.trans (hb.mono hT.size)
  rw [txt_str HT2.out ht, ← HS2.out]
  clear hb ht v0 v1 hU
  go_wp2
  go_ret
  exact ⟨rfl, hT⟩
end Go.Proofs.YtcnmilflfegliaaDoor
