/- The walk of the law LongTells. -/
import Derived.Test.YtpacbipencmjnaaDoorLreck
import Derived.Test.YtpacbipencmjnaaDoorRbits
import Derived.Test.YtpacbipencmjnaaDoorRsmall
namespace Go.Proofs.YtpacbipencmjnaaDoor
open Go.RowKit

/-- What Root answers. -/
def RR (x z er : Int) : Prop := (x < 0 ∧ z = 0 ∧ er = 12) ∨ (0 ≤ x ∧ z = ((isq x.natAbs : Nat) : Int) ∧ er = 0)
theorem rr_uniq {x z er z' er' : Int} (h : RR x z er) (k : RR x z' er') : z' = z ∧ er' = er := by
  rcases h with ⟨h0, rfl, rfl⟩ | ⟨h0, rfl, rfl⟩ <;> rcases k with ⟨k0, rfl, rfl⟩ | ⟨k0, rfl, rfl⟩
  · exact ⟨rfl, rfl⟩
  · omega
  · omega
  · exact ⟨rfl, rfl⟩
theorem isq_le (N : Nat) : isq N ≤ N := by
  have := (isq_spec N).1
  rcases Nat.eq_zero_or_pos (isq N) with h | h
  · omega
  · have := Nat.le_mul_of_pos_left (isq N) h
    omega
theorem rr_small {x z er : Int} (h : RR x z er) : z.natAbs ≤ x.natAbs := by
  rcases h with ⟨_, rfl, _⟩ | ⟨_, rfl, _⟩
  · exact Nat.zero_le _
  · rw [Int.natAbs_natCast]
    exact isq_le _
theorem Root_all (bl : Bool) (a : Option Addr) (n c : Nat) (x : Int) (w : World) (h : Num w bl a n c x) (hn : n ≤ 10000000) :
    Calls Tryd.prog 6 #[.agg #[.bool bl, .slice a n c]] w (fun e w' => ∃ z er : Int, RR x z er ∧ PNumE z er w e w') := by
  have hs := h.sgn
  by_cases hx : x < 0
  · rw [decide_eq_true hx] at hs
    subst hs
    exact (Root_neg a n c w).mono (fun e w' hp => ⟨0, 12, .inl ⟨hx, rfl, rfl⟩, hp⟩)
  · rw [decide_eq_false hx] at hs
    subst hs
    exact (Root_pos a n c x w h hn).mono (fun e w' ⟨R, r1, r2, hp⟩ => ⟨_, 0, .inr ⟨by omega, by rw [isq_uniq r1 r2], rfl⟩, hp⟩)
theorem rRoot_all (bl : Bool) (a : Option Addr) (n c : Nat) (x : Int) (w : World) (h : RNum w bl a n c x) (hn : n ≤ 1000000) :
    Calls Tryd.prog 7 #[.agg #[.bool bl, .slice a n c]] w (fun e w' => ∃ z er : Int, RR x z er ∧ PRR z er w e w') := by
  have hs := h.sgn
  by_cases hx : x < 0
  · rw [decide_eq_true hx] at hs
    subst hs
    exact (rRoot_neg a n c w).mono (fun e w' hp => ⟨0, 12, .inl ⟨hx, rfl, rfl⟩, hp⟩)
  · rw [decide_eq_false hx] at hs
    subst hs
    have e : ((x.natAbs : Nat) : Int) = x := by omega
    have h' : RNum w false a n c ((x.natAbs : Nat) : Int) := by rw [e]; exact h
    exact (rRoot_pos a n c x.natAbs w h' hn).mono (fun e w' hp => ⟨_, 0, .inr ⟨by omega, rfl, rfl⟩, hp⟩)

set_option maxRecDepth 100000 in
set_option maxHeartbeats 12800000 in
theorem LongTells_any (s : ByteArray) (w : World) (hs : s.size ≤ maxLen) :
    Calls Tryd.prog 3 #[.string s] w (PVal (.bool true) w) := by
  have HS := Lib.hid hs
  have HT : Hid ((⟨#[48]⟩ : ByteArray).size ≤ maxLen) := by show _ ≤ _; unfold maxLen; decide
  clear hs
  obtain ⟨t, ht⟩ : ∃ t : ByteArray, t = ⟨#[48]⟩ := ⟨_, rfl⟩
  rw [← ht] at HT
  go_enter Tryd.func3, Tryd.ntmps3
  go_wp2_with fail
  refine (awake_any _).mono ?_
  rintro e w0 ⟨rfl, hB0⟩
  go_wp2_with fail
  rw [← ht]
  clear ht
  refine (two_any s t _ HS.out HT.out).mono ?_
  rintro e w1 ⟨b1, a1, n1, c1, b2, a2, n2, c2, b3, a3, n3, c3, b4, a4, n4, c4, rfl, hX, hY, hRx, hRy, hB1⟩
  have hT := t5_mk (hB0.trans (hB1.mono hB0.size)) hX hY hRx hRy 25 28
  clear hX hY hRx hRy hB0 hB1
  obtain ⟨is1, his1⟩ : ∃ q, twoB s t = q := ⟨_, rfl⟩
  rw [his1]
  have HI1 := Lib.hid his1
  clear his1
  go_upto_region 3 with (fail)
  generalize (((w1.alloc (.cells #[.bool b1, .slice a1 n1 c1] 25)).alloc (.cells #[.bool b2, .slice a2 n2 c2] 25)).alloc (.cells #[.bool b3, .slice a3 n3 c3] 28)).alloc (.cells #[.bool b4, .slice a4 n4 c4] 28) = W1 at *
  rcases is1 with _ | _
  · have hfin := hT.below
    clear hT
    go_wp2
    go_ret
    exact ⟨rfl, hfin⟩
  have l1 := pz_len hT.X.num (twoB_ok HI1.out).1
  clear HI1 HT
  generalize pZ s = x at *
  generalize pZ t = y at *
  have BX : Hid (x.natAbs < BB ^ 150) := tfitB hT.X.num.fit.1 l1
  have l3 : n3 ≤ 1500 := rlen hT.V.num.fit BX.out
  clear l1
  have l1 : n1 ≤ 150 := fit_le hT.X.num.fit BX.out
  by_cases hlen : 100 < s.size
  · have hl2 : decide ((100 : Int) < ((s.size : Nat) : Int)) = true := decide_eq_true (by omega)
    have hfin := hT.below
    have hsz : s.size ≤ 9223372036854775807 := by have := HS.out; unfold maxLen at this; omega
    clear hT
    go_wp2
    go_ret
    exact ⟨rfl, hfin⟩
  have hl2 : decide ((100 : Int) < ((s.size : Nat) : Int)) = false := decide_eq_false (by omega)
  have hsz : s.size ≤ 100 := by omega
  obtain ⟨p0, p1, q0, q1, r0, r1, u0, u1⟩ := hT.hs
  go_wp2_with fail
  refine (Root_all b1 a1 n1 c1 x _ hT.X.num (by omega)).mono ?_
  rintro e W2 ⟨z, er, hrr, b5, a5, n5, c5, rfl, hN5, _, hb⟩
  have hal := below_new W2 (.cells #[.bool b5, .slice a5 n5 c5] 25)
  replace hT := (hT.later hb).later hal
  have hV := vi_new 25 hN5
  have HRR := Lib.hid hrr
  have BZ : Hid (z.natAbs < BB ^ 150) := Nat.lt_of_le_of_lt (rr_small hrr) BX.out
  clear hb hal hN5 hrr p0 p1 q0 q1 r0 r1 u0 u1 hl2
  obtain ⟨p0, p1, q0, q1, r0, r1, u0, u1⟩ := hT.hs
  go_wp2_with fail
  generalize W2.alloc (.cells #[.bool b5, .slice a5 n5 c5] 25) = W3 at *
  generalize W2.heap.size = i2 at *
  refine (rRoot_all b3 a3 n3 c3 x _ hT.V.num (by omega)).mono ?_
  rintro e W4 ⟨z', er', hrr', b7, a7, n7, c7, rfl, hN7, hb⟩
  obtain ⟨rfl, rfl⟩ := rr_uniq HRR.out hrr'
  have hal := below_new W4 (.cells #[.bool b7, .slice a7 n7 c7] 28)
  replace hT := (hT.later hb).later hal
  replace hV := (hV.below hb).below hal
  have hU := rvi_new 28 hN7
  clear hb hal hN7 hrr' HRR p0 p1 q0 q1 r0 r1 u0 u1
  have v0 := hV.k0
  have v1 := hV.k1
  go_wp2_with fail
  generalize W4.alloc (.cells #[.bool b7, .slice a7 n7 c7] 28) = W5 at *
  generalize W4.heap.size = i4 at *
  refine (String_all b5 a5 n5 c5 z' _ hV.num (len_of hV.num BZ.out (by omega))).mono ?_
  rintro e W6 ⟨m1, rfl, ht, hb⟩
  replace hT := hT.later hb
  replace hU := hU.below hb
  have HT1 := Lib.hid ht
  clear hb ht v0 v1 hV
  obtain ⟨S1, hS1⟩ : ∃ S : ByteArray, S = ⟨m1.toArray⟩ := ⟨_, rfl⟩
  rw [← hS1]
  have HS1 := Lib.hid hS1
  clear hS1
  have HRB := Lib.hid (fun W h => rBits_any b3 a3 n3 c3 x W h (by omega))
  have HLB := Lib.hid (fun W h => Bits_any b1 a1 n1 c1 x W h (by omega))
  have HLS := Lib.hid (fun W h => Small_any b1 a1 n1 c1 x W h (by omega))
  have HRS := Lib.hid (fun W h => rSmall_any b3 a3 n3 c3 x W h (by omega))
  generalize bitsN x.natAbs = nb at *
  generalize smallV x = sv at *
  generalize smallB x = sb at *
  obtain ⟨p0, p1, q0, q1, r0, r1, u0, u1⟩ := hT.hs
  go_wp2_with fail
  refine (HLB.out _ hT.X.num).mono ?_
  rintro e W7 ⟨rfl, hb⟩
  replace hT := hT.later hb
  replace hU := hU.below hb
  clear hb p0 p1 q0 q1 r0 r1 u0 u1
  obtain ⟨p0, p1, q0, q1, r0, r1, u0, u1⟩ := hT.hs
  go_wp2_with fail
  refine (HLS.out _ hT.X.num).mono ?_
  rintro e W8 ⟨rfl, hb⟩
  replace hT := hT.later hb
  replace hU := hU.below hb
  clear hb p0 p1 q0 q1 r0 r1 u0 u1
  obtain ⟨p0, p1, q0, q1, r0, r1, u0, u1⟩ := hT.hs
  go_wp2_with fail
  refine (HRS.out _ hT.V.num).mono ?_
  rintro e W9 ⟨rfl, hb⟩
  replace hT := hT.later hb
  replace hU := hU.below hb
  clear hb p0 p1 q0 q1 r0 r1 u0 u1
  have v0 := hU.k0
  have v1 := hU.k1
  go_wp2_with fail
  refine (rString_all b7 a7 n7 c7 z' _ hU.num (Nat.le_trans (rlen hU.num.fit BZ.out) (by omega))).mono ?_
  rintro e W10 ⟨o1, rfl, ht, hb⟩
  replace hT := hT.later hb
  rw [txt_str HT1.out ht, ← HS1.out]
  clear hb ht v0 v1 hU
  obtain ⟨p0, p1, q0, q1, r0, r1, u0, u1⟩ := hT.hs
  go_wp2_with fail
  refine (HRB.out _ hT.V.num).mono ?_
  rintro e W11 ⟨rfl, hb⟩
  have hfin := (hT.later hb).below
  clear hb p0 p1 q0 q1 r0 r1 u0 u1 hT
  go_wp2
  go_ret
  exact ⟨rfl, hfin⟩
end Go.Proofs.YtpacbipencmjnaaDoor
