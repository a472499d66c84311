/- The document's numbers: the walk of Bits. -/
import Derived.Test.YtpacbipencmjnaaDoorRroot
import Derived.Test.YtpacbipencmjnaaDoorRoot
namespace Go.Proofs.YtpacbipencmjnaaDoor
open Go.RowKit

theorem bits_half {M : Nat} (h : 0 < M) : bitsN (M / 2) + 1 = bitsN M := by
  unfold bitsN
  by_cases h1 : M / 2 = 0
  · rw [if_pos h1, if_neg (by omega)]
    have : M = 1 := by omega
    subst this
    rfl
  · rw [if_neg h1, if_neg (by omega)]
    have e : Nat.log2 M = Nat.log2 (M / 2) + 1 := by
      rw [Nat.log2_def M, if_pos (by omega)]
    omega
theorem bits_one {M : Nat} (h : 0 < M) : 1 ≤ bitsN M := by unfold bitsN; rw [if_neg (by omega)]; omega
theorem half_quo {M : Nat} {q r : Int} (h : IsQuo (M : Int) 2 q r) : q = ((M / 2 : Nat) : Int) := by
  have h1 := h.1
  have h2 := h.2.1 (by decide)
  omega
/-- What the loop of Bits keeps. -/
structure BitS (w W : World) (k4 k5 : Nat) (M : Nat) (b4 : Bool) (a4 : Option Addr) (n4 c4 : Nat) (b5 : Bool) (a5 : Option Addr) (n5 c5 : Nat) : Prop where
  below : Below w.heap.size w W
  X : Bx W 28 k4 (.bool b4) (.slice a4 n4 c4)
  Y : Bx W 28 k5 (.bool b5) (.slice a5 n5 c5)
  nx : RNum W b4 a4 n4 c4 (M : Int)
  ny : RNum W b5 a5 n5 c5 2
theorem BitS.later {w W W' : World} {k4 k5 M : Nat} {b4 : Bool} {a4 : Option Addr} {n4 c4 : Nat} {b5 : Bool} {a5 : Option Addr} {n5 c5 : Nat} (h : BitS w W k4 k5 M b4 a4 n4 c4 b5 a5 n5 c5) (hb : Below W.heap.size W W') : BitS w W' k4 k5 M b4 a4 n4 c4 b5 a5 n5 c5 :=
  ⟨h.below.trans (hb.mono h.below.size), h.X.below hb, h.Y.below hb, h.nx.below hb, h.ny.below hb⟩
theorem BitS.put {w W : World} {k4 k5 M : Nat} {b4 : Bool} {a4 : Option Addr} {n4 c4 : Nat} {b5 : Bool} {a5 : Option Addr} {n5 c5 : Nat} (h : BitS w W k4 k5 M b4 a4 n4 c4 b5 a5 n5 c5) (hne : k5 ≠ k4) (hw : w.heap.size ≤ k4) {M' : Nat} {b : Bool} {a : Option Addr} {n c : Nat} (hn : RNum W b a n c (M' : Int)) :
    BitS w ((W.setCell ⟨k4, 0, none⟩ (.bool b)).setCell ⟨k4, 1, none⟩ (.slice a n c)) k4 k5 M' b a n c b5 a5 n5 c5 :=
  ⟨(h.below.setCell (p := ⟨k4, 0, none⟩) hw _).setCell (p := ⟨k4, 1, none⟩) hw _, h.X.self _ _, h.Y.other hne _ _, hn.store h.X _ _, h.ny.store h.X _ _⟩
theorem below_n2 (w1 : World) (o o' : Obj) : Below w1.heap.size w1 ((w1.alloc o).alloc o') := ((Below.refl _ _).alloc (Nat.le_refl _) _).alloc (by simp) _

set_option maxRecDepth 100000 in
set_option maxHeartbeats 3200000 in
theorem rBits_any (bl : Bool) (a : Option Addr) (n c : Nat) (z : Int) (w : World) (h : RNum w bl a n c z) (hn : n ≤ 10000) : Calls Tryd.prog 13 #[.agg #[.bool bl, .slice a n c]] w (PVal (.int .i64 (bitsN z.natAbs)) w) := by
  have hl := h.lie
  have HF := Lib.hid h.fit.1
  clear h
  generalize z.natAbs = N at *
  have hb0 : bitsN N ≤ 40000 := by
    unfold bitsN
    split
    · omega
    · next h0 =>
      have h1 : N < 2 ^ (4 * n) := by
        have h2 : 10 ^ n ≤ 16 ^ n := Nat.pow_le_pow_left (by decide) n
        have h3 : (16 : Nat) ^ n = 2 ^ (4 * n) := by rw [Nat.pow_mul]
        have := HF.out
        omega
      have := (Nat.log2_lt h0).2 h1
      omega
  go_enter Tryd.func13, Tryd.ntmps13
  go_wp2_with fail
  have hw1 : Below w.heap.size w (w.alloc (.cells #[.bool bl, .slice a n c] 28)) := (Below.refl _ _).alloc (Nat.le_refl _) _
  generalize w.alloc (.cells #[.bool bl, .slice a n c] 28) = w1 at *
  refine (rmade_any false a n c N _ (hl.below hw1) HF.out).mono ?_
  rintro e w2 ⟨b4, n4, c4, rfl, hN4, hB2⟩
  have hX2 := bx_new w2 28 (.bool b4) (.slice a n4 c4)
  have hal2 : Below w2.heap.size w2 (w2.alloc (.cells #[.bool b4, .slice a n4 c4] 28)) := (Below.refl _ _).alloc (Nat.le_refl _) _
  have hb2 := hw1.trans (hB2.mono hw1.size)
  have hk2 := hb2.size
  have hN4' := hN4.below hal2
  have hb2' := hb2.trans (hal2.mono hb2.size)
  clear hN4 hal2 hb2 hB2 hw1 hl
  go_wp2_with fail
  generalize w2.alloc (.cells #[.bool b4, .slice a n4 c4] 28) = w3 at *
  generalize w2.heap.size = k4 at *
  refine (rOf_any 2 _ (by omega) (by omega)).mono ?_
  rintro e w4 ⟨b5, a5, n5, c5, rfl, hN5, _, hB4⟩
  have hal4 : Below w4.heap.size w4 (w4.alloc (.cells #[.bool b5, .slice a5 n5 c5] 28)) := (Below.refl _ _).alloc (Nat.le_refl _) _
  have hne : k4 < w4.heap.size := (hX2.below hB4).lt
  have hS : BitS w (w4.alloc (.cells #[.bool b5, .slice a5 n5 c5] 28)) k4 w4.heap.size N b4 a n4 c4 b5 a5 n5 c5 := ⟨(hb2'.trans (hB4.mono hb2'.size)).trans (hal4.mono (hb2'.trans (hB4.mono hb2'.size)).size), (hX2.below hB4).below hal4, bx_new w4 _ _ _, (hN4'.below hB4).below hal4, hN5.below hal4⟩
  have l5 : n5 ≤ 1 := fit10_le hN5.fit (by decide)
  clear hX2 hN4' hb2' hN5 hB4 hal4
  go_wp2
  generalize w4.alloc (.cells #[.bool b5, .slice a5 n5 c5] 28) = w5 at *
  generalize w4.heap.size = k5 at *
  go_loopw [3] (fun nv wr => ∃ (t M : Nat) (b4 : Bool) (a4 : Option Addr) (n4 c4 : Nat), nv = .int .i64 ((t : Nat) : Int) ∧ t + bitsN M = bitsN N ∧ M ≤ N ∧ BitS w wr k4 k5 M b4 a4 n4 c4 b5 a5 n5 c5) (fun nv _ => bitsN N - (intOf nv).toNat)
  case atStart => exact ⟨0, N, b4, a, n4, c4, rfl, by omega, Nat.le_refl _, hS⟩
  case round =>
    clear hS
    obtain ⟨t, M, b6, a6, n6, c6, rfl, ht, hMN, hS⟩ := hrel
    obtain ⟨p0, p1, p2, p3⟩ := hS.X.cells
    obtain ⟨q0, q1, q2, q3⟩ := hS.Y.cells
    have HT := Lib.hid ht
    by_cases hM : M = 0
    · have hn6 : n6 = 0 := hS.nx.zero_iff.2 (by omega)
      subst hn6
      have HE : Hid (t = bitsN N) := by
        show t = _
        rw [hM] at ht
        have : bitsN 0 = 0 := rfl
        omega
      clear ht hM
      go_wp2
      go_ret
      exact ⟨ret_int (by rw [← HE.out]), hS.below⟩
    · have hn6 : 0 < n6 := Nat.pos_of_ne_zero fun e => hM (by have := hS.nx.zero_iff.1 e; omega)
      have d6 : decide ((0 : Int) < ((n6 : Nat) : Int)) = true := decide_eq_true (by omega)
      have hbh := bits_half (Nat.pos_of_ne_zero hM)
      have HBH := Lib.hid hbh
      have HB1 := Lib.hid (bits_one (Nat.pos_of_ne_zero hM))
      have htb : t < 40000 := by have := HB1.out; omega
      have HTB : Hid (t < bitsN N) := show t < bitsN N by have := HB1.out; omega
      have l6 : n6 ≤ n := by
        have := hS.nx.fit
        rw [Int.natAbs_natCast] at this
        exact fit10_le this (Nat.lt_of_le_of_lt hMN HF.out)
      clear ht hbh hM
      go_wp2_with fail
      refine (rQuo_any b6 a6 n6 c6 (M : Int) b5 a5 n5 c5 2 _ hS.nx hS.ny (by omega) (by omega) (by decide)).mono ?_
      rintro e w7 ⟨q, r, hq, u1, u2, u3, u4, v1, v2, v3, v4, rfl, hQ, _, hB7⟩
      have hq' := half_quo hq
      rw [hq'] at hQ
      have hal := below_n2 w7 (.cells #[.bool u1, .slice u2 u3 u4] 28) (.cells #[.bool v1, .slice v2 v3 v4] 28)
      have hS8 := (hS.later hB7).later hal
      have hlt : k4 < w7.heap.size := (hS.later hB7).X.lt
      obtain ⟨g0, g1, g2, g3⟩ := hS8.X.cells
      obtain ⟨s0, s1, s2, s3⟩ := (hS.later hB7).X.cells
      have hS9 := ((hS.later hB7).put (by omega) hk2 hQ).later (below_n2 _ (.cells #[.bool u1, .slice u2 u3 u4] 28) (.cells #[.bool v1, .slice v2 v3 v4] 28))
      clear p0 p1 p2 p3 q0 q1 q2 q3 hS hB7 hal hQ hq hq'
      go_wp2
      go_roundw
      case rel => exact ⟨t + 1, M / 2, u1, u2, u3, u4, by go_num, by have := HT.out; have := HBH.out; omega, by omega, hS9⟩
      case measure => have := HTB.out; simp [intOf]; omega
end Go.Proofs.YtpacbipencmjnaaDoor
