/- Parts of the proof. -/
import Derived.Test.YtolpfibihialkaaGreatDoorGq9
import Derived.Deep.LoopGhost
import Derived.Test.YtolpfibihialkaaGreatDoorGq4
/- The walks of bitCount, powerOfTwo and root. -/
namespace Go.Proofs.YtolpfibihialkaaGreatDoor
open Go.RowKit
/-- How many binary digits a number has. -/
def bitsN (N : Nat) : Nat := if N = 0 then 0 else Nat.log2 N + 1
theorem bitsN_of {N k : Nat} (h1 : 2 ^ k ≤ N) (h2 : N < 2 ^ (k + 1)) : bitsN N = k + 1 := by
 have h0 : N ≠ 0 := fun h => by subst h; have := Nat.pow_pos (n := k) (show 0 < 2 by decide); omega
 have a1 := (Nat.le_log2 h0).2 h1
 have a2 := (Nat.log2_lt h0).2 h2
 unfold bitsN
 rw [if_neg h0]
 omega
theorem BB_pow (k : Nat) : BB ^ k = 2 ^ (32 * k) := by rw [Nat.pow_mul]; rfl
theorem bits_top {N n : Nat} (hN : Fit n N) (hn : 1 ≤ n) : bitsN N = 32 * (n - 1) + Lib.bitLen (lmb N (n - 1)) ∧ 1 ≤ lmb N (n - 1) ∧ 1 ≤ Lib.bitLen (lmb N (n - 1)) ∧ Lib.bitLen (lmb N (n - 1)) ≤ 32 := by
 obtain ⟨m, rfl⟩ : ∃ m, n = m + 1 := ⟨n - 1, by omega⟩
 simp only [Nat.add_sub_cancel]
 have hN1 := hN.1
 have hN2 : BB ^ m ≤ N := by rcases hN.2 with h | h <;> simp at h ⊢; exact h
 have htop : 1 ≤ lmb N m := by rw [lmb_top hN1]; exact Nat.div_pos hN2 (BBp _)
 obtain ⟨h1, h2, h3, h4⟩ := bitLen_in htop (lmb_lt N m)
 refine ⟨?_, htop, h1, h2⟩
 generalize hL : Lib.bitLen (lmb N m) = L at *
 obtain ⟨l, rfl⟩ : ∃ l, L = l + 1 := ⟨L - 1, by omega⟩
 simp only [Nat.add_sub_cancel] at h3
 rw [lmb_top hN1] at h3 h4
 rw [← Nat.add_assoc]
 apply bitsN_of
 ·
  rw [Nat.pow_add, ← BB_pow, Nat.mul_comm]
  exact (Nat.le_div_iff_mul_le (BBp m)).1 h3
 ·
  rw [Nat.add_assoc, Nat.pow_add, ← BB_pow, Nat.mul_comm]
  exact (Nat.div_lt_iff_lt_mul (BBp m)).1 h4
set_option maxHeartbeats 400000 in
theorem bitCount_any (a : Option Addr) (n c N : Nat) (w : World) (ha : Lie .u32 w a n c (lmb N)) (fa : Fit n N) (hn : n ≤ 100000000) :
  Calls Tryz.prog 133 #[.slice a n c] w (PVal (.int .i64 (bitsN N)) w) := by
 by_cases h0 : n = 0
 ·
  subst h0
  obtain rfl := (fit_pos fa).1 rfl
  go_enter Tryz.func133, Tryz.ntmps133
  go_wp2
  go_ret
  exact ⟨ret_int rfl, Below.refl _ _⟩
 ·
  obtain ⟨b, o, rfl, hb⟩ := ha.some_of_pos (by omega)
  have c1 := ha.at (n - 1) (by omega)
  obtain ⟨e1, e2, e3, e4⟩ := bits_top fa (by omega)
  have hl := lmb_lt N (n - 1)
  have h0' : ((n : Int) == 0) = false := by simpa using h0
  have hn1 : 1 ≤ n := by omega
  have H1 := Lib.hid e1
  have HE : Hid (((lmb N (n - 1) : Int)).toNat = lmb N (n - 1)) := Int.toNat_natCast _
  clear e1 ha fa h0
  go_enter Tryz.func133, Tryz.ntmps133
  go_wp2_with fail
  refine (Tryz.bits_Len32 _ _ (by omega) (by omega)).mono ?_
  rintro e w1 ⟨rfl, hww⟩
  subst hww
  rw [HE.out]
  go_wp2
  go_ret
  exact ⟨ret_int (by rw [H1.out]; omega), Below.refl _ _⟩
theorem pow_part (k j : Nat) : lmb (2 ^ k) j = if j = k / 32 then 2 ^ (k % 32) else 0 := by
 have hk := Nat.div_add_mod k 32
 have hr := Nat.mod_lt k (show 0 < 32 by decide)
 unfold lmb
 rw [BB_pow]
 by_cases h : j = k / 32
 ·
  subst h
  rw [if_pos rfl, Nat.pow_div (by omega) (by decide), show k - 32 * (k / 32) = k % 32 from by omega]
  exact Nat.mod_eq_of_lt (Nat.pow_lt_pow_right (by decide) hr)
 ·
  rw [if_neg h]
  by_cases h2 : j < k / 32
  ·
   rw [Nat.pow_div (by omega) (by decide), show k - 32 * j = 32 + (k - 32 * j - 32) from by omega, Nat.pow_add]
   exact Nat.mul_mod_right _ _
  ·
   rw [Nat.div_eq_of_lt (Nat.pow_lt_pow_right (by decide) (by omega))]; rfl
theorem pow_fit (k : Nat) : Fit (k / 32 + 1) (2 ^ k) := by
 have hk := Nat.div_add_mod k 32
 have hr := Nat.mod_lt k (show 0 < 32 by decide)
 refine ⟨?_, .inr ?_⟩
 ·
  rw [BB_pow]; exact Nat.pow_lt_pow_right (by decide) (by omega)
 ·
  rw [Nat.add_sub_cancel, BB_pow]; exact Nat.pow_le_pow_right (by decide) (by omega)
set_option maxHeartbeats 400000 in
theorem powerOfTwo_any (k : Nat) (w : World) (hk : k ≤ 32000000000) :
  Calls Tryz.prog 132 #[.int .i64 k] w (PNew .u32 128 (k / 32 + 1) (lmb (2 ^ k)) w) := by
 have hn4 : 4 * (k / 32 + 1) ≤ 281474976710656 := by omega
 have hn6 : k / 32 + 1 ≤ 9223372036854775807 := by omega
 have hp : (2 : Int) ^ (k % 32) < 4294967296 := by
  have : 2 ^ (k % 32) < 2 ^ 32 := Nat.pow_lt_pow_right (by decide) (Nat.mod_lt k (by decide))
  have h2 : ((2 ^ (k % 32) : Nat) : Int) = (2 : Int) ^ (k % 32) := by rw [Int.natCast_pow]; rfl
  omega
 have hp0 : (0 : Int) < (2 : Int) ^ (k % 32) := Int.pow_pos (by decide)
 go_enter Tryz.func132, Tryz.ntmps132
 go_wp2_with (first | (at_make; refine wpList_mk _ rfl (.tmp 6) (.tmp 6) 44 rfl 128 .u32 4 Tryz.u44 Tryz.info128 _ _ (k / 32 + 1) rfl rfl (by omega) (by omega) hn4 hn6 ?_; intro g w1 hg hown hb1; have c1 := hown.cell (k / 32) (by omega); have c2 := hown.free (k / 32)))
 go_ret
 refine ⟨g, rfl, hg, hown.put (by omega) ?_ (fun j hj hne => by rw [pow_part, if_neg hne]), hb1.setCell (p := ⟨g, k / 32, none⟩) hg _⟩
 rw [pow_part, if_pos rfl, Int.natCast_pow]; rfl
/-- The greatest number whose square is not above N: its parts are handed back. -/
def PRoot (N : Nat) (w : World) (e : Ending) (w' : World) : Prop := ∃ R : Nat, R * R ≤ N ∧ N < (R + 1) * (R + 1) ∧ PPart R w e w'
theorem newton_stop {N G : Nat} (hG : 0 < G) (h : G ≤ (G + N / G) / 2) : G * G ≤ N := by
 have h1 : G ≤ N / G := by omega
 exact (Nat.le_div_iff_mul_le hG).1 h1
theorem newton_go {N G : Nat} (hG : 0 < G) (hN : 0 < N) (h : N < (G + 1) * (G + 1)) : N < ((G + N / G) / 2 + 1) * ((G + N / G) / 2 + 1) ∧ 0 < (G + N / G) / 2 := by
 have key : ∀ r : Nat, r * r ≤ N → r ≤ (G + N / G) / 2 := by
  intro r hr
  have h1 : 2 * r ≤ G + N / G := by
   by_cases hle : 2 * r ≤ G
   ·
    exact Nat.le_trans hle (Nat.le_add_right _ _)
   ·
    have h2 : 2 * r - G ≤ N / G := by
     refine (Nat.le_div_iff_mul_le hG).2 (Nat.le_trans ?_ hr)
     have e : ((2 * r - G : Nat) : Int) = 2 * (r : Int) - (G : Int) := by omega
     have : ((2 * r - G : Nat) : Int) * (G : Int) ≤ (r : Int) * (r : Int) := by
      rw [e]
      have hsq : 0 ≤ ((r : Int) - (G : Int)) * ((r : Int) - (G : Int)) := by
       rcases Int.le_total 0 ((r : Int) - (G : Int)) with h | h
       ·
        exact Int.mul_nonneg h h
       ·
        exact Int.mul_nonneg_of_nonpos_of_nonpos h h
      have e2 : ((r : Int) - (G : Int)) * ((r : Int) - (G : Int)) = (r : Int) * r - (2 * (r : Int) - G) * G := by
       simp only [Int.sub_mul, Int.mul_sub, Int.mul_assoc, Int.mul_comm (G : Int) r]; omega
      omega
     exact_mod_cast this
    omega
  omega
 refine ⟨Nat.lt_of_not_le fun hc => ?_, ?_⟩
 ·
  have := key _ hc
  omega
 ·
  have := key 1 (by omega)
  omega
theorem guess_first {N n : Nat} (hN : 0 < N) (hf : Fit n N) : N < (2 ^ ((bitsN N + 1) / 2) + 1) * (2 ^ ((bitsN N + 1) / 2) + 1) ∧ 2 ^ ((bitsN N + 1) / 2) < BB ^ (n + 1) ∧ (bitsN N + 1) / 2 ≤ 32 * n := by
 have h0 : N ≠ 0 := by omega
 have hb : bitsN N = Nat.log2 N + 1 := by unfold bitsN; rw [if_neg h0]
 have h1 : N < 2 ^ bitsN N := by rw [hb]; exact Nat.lt_log2_self
 have h2 : 2 ^ (Nat.log2 N) ≤ N := Nat.log2_self_le h0
 have h3 : Nat.log2 N < 32 * n := (Nat.log2_lt h0).2 (by rw [← BB_pow]; exact hf.1)
 refine ⟨?_, ?_, by omega⟩
 ·
  refine Nat.lt_of_lt_of_le h1 ?_
  have : 2 ^ bitsN N ≤ 2 ^ ((bitsN N + 1) / 2) * 2 ^ ((bitsN N + 1) / 2) := by
   rw [← Nat.pow_add]; exact Nat.pow_le_pow_right (by decide) (by omega)
  refine Nat.le_trans this (Nat.mul_le_mul (by omega) (by omega))
 ·
  rw [BB_pow]; exact Nat.pow_lt_pow_right (by decide) (by omega)
theorem cmp_ge {A B : Nat} : decide (0 ≤ cmpN A B) = decide (B ≤ A) := by
 unfold cmpN
 by_cases h : A < B
 ·
  rw [if_pos h]; simp; omega
 ·
  rw [if_neg h]; by_cases h2 : B < A
  ·
   rw [if_pos h2]; simp; omega
  ·
   rw [if_neg h2]; simp; omega
set_option maxHeartbeats 1600000 in
theorem root_any (a : Option Addr) (n c N : Nat) (w : World) (ha : Lie .u32 w a n c (lmb N)) (fa : Fit n N) (hn : n ≤ 10000000) :
  Calls Tryz.prog 105 #[.slice a n c] w (PRoot N w) := by
 by_cases h0 : n = 0
 ·
  subst h0
  obtain rfl := (fit_pos fa).1 rfl
  go_enter Tryz.func105, Tryz.ntmps105
  go_wp2
  go_ret
  exact ⟨0, by omega, by omega, none, 0, 0, rfl, lie_nil _ _ _, fit_zero, (fun p hp => by cases hp), Below.refl _ _⟩
 ·
  have hN : 0 < N := Nat.pos_of_ne_zero fun h => h0 ((fit_pos fa).2 h)
  have hn1 : 1 ≤ n := by omega
  obtain ⟨g1, g2, g3⟩ := guess_first hN fa
  have h0' : ((n : Int) == 0) = false := by simpa using h0
  have H1 := Lib.hid g1
  have H2 := Lib.hid g2
  have HF := Lib.hid fa
  have hcm := ha.capm
  have hnc := ha.cap
  unfold maxLen at hcm
  clear h0 g1 g2 fa
  have hbb : bitsN N ≤ 64 * n + 1 := by omega
  go_enter Tryz.func105, Tryz.ntmps105
  go_wp2_with fail
  refine (bitCount_any a n c N _ ha HF.out (by omega)).mono ?_
  rintro e w1 ⟨rfl, hb1⟩
  have HB : Hid (((bitsN N : Int) + 1) / 2 = (((bitsN N + 1) / 2 : Nat) : Int)) := by show _ = _; omega
  go_wp2_with fail
  rw [HB.out]
  refine (powerOfTwo_any ((bitsN N + 1) / 2) _ (by omega)).mono ?_
  rintro e w2 ⟨g, rfl, hg, hown, hb2⟩
  have hfit := pow_fit ((bitsN N + 1) / 2)
  have hb02 : Below w.heap.size w w2 := hb1.trans (hb2.mono hb1.size)
  have hg0 : w.heap.size ≤ g := Nat.le_trans hb1.size hg
  generalize hGe : (2 : Nat) ^ ((bitsN N + 1) / 2) = G0 at *
  generalize (bitsN N + 1) / 2 / 32 + 1 = m0 at *
  have hG0 : 0 < G0 := by rw [← hGe]; exact Nat.pow_pos (by decide)
  have hm0 := fit_le hfit H2.out
  have HGE := Lib.hid hGe
  clear hGe HB
  go_wp2
  go_loopg [3] G0 (fun G v wr => ∃ (a1 : Option Addr) (m c1 : Nat), v = .slice a1 m c1 ∧ Lie .u32 wr a1 m c1 (lmb G) ∧ Fit m G ∧ m ≤ n + 1 ∧ 0 < G ∧ N < (G + 1) * (G + 1) ∧ (∀ p, a1 = some p → w.heap.size ≤ p.block) ∧ Below w.heap.size w wr)
  case atStart => exact ⟨some ⟨g, 0, none⟩, m0, m0, rfl, hown.lie (Nat.le_refl _) (by unfold maxLen; omega), hfit, hm0, hG0, H1.out, (fun p hp => by cases hp; exact hg0), hb02⟩
  case round =>
   obtain ⟨a1, m, c1, rfl, hl, hf, hm, hG, hlt, hfr, hbl⟩ := hrel
   have haw := ha.below hbl
   have HL := Lib.hid hlt
   have HFR := Lib.hid hfr
   have HM := Lib.hid hf
   clear hlt hfr hf
   go_wp2_with fail
   refine (quotient_any a a1 n c m c1 N gk _ haw hl HF.out HM.out (by omega) hG).mono ?_
   rintro e w3 ⟨a3, n3, c3, a4, n4, c4, rfl, ⟨hl3, hf3, hfr3⟩, _, hb3⟩
   have hl' := hl.below hb3
   have hn3 : n3 ≤ n := fit_le hf3 (Nat.lt_of_le_of_lt (Nat.div_le_self _ _) HF.out.1)
   have H3 := Lib.hid hf3
   clear hl haw hf3 hfr3
   go_wp2_with fail
   refine (sum_any a1 a3 m c1 n3 c3 gk (N / gk) _ hl' hl3 HM.out H3.out (by omega) (by omega)).mono ?_
   rintro e w4 ⟨a5, n5, c5, rfl, hl5, hf5, hfr5, hb4⟩
   have hl'' := hl'.below hb4
   have hn5 : n5 ≤ n + 2 := by
    refine fit_le hf5 ?_
    have q1 : gk < BB ^ (n + 1) := fit_mono HM.out.1 hm
    have q2 : N / gk < BB ^ (n + 1) := fit_mono (Nat.lt_of_le_of_lt (Nat.div_le_self _ _) HF.out.1) (by omega)
    exact (cy_end q1 q2).2
   have H5 := Lib.hid hf5
   clear hl' hl3 hf5 hfr5
   go_wp2_with fail
   refine (lowered_any a5 n5 c5 (gk + N / gk) 1 _ hl5 H5.out.1 (by omega) (by omega)).mono ?_
   rintro e w5 ⟨a6, n6, c6, rfl, hl6, hf6, hfr6, hb5⟩
   have hl7 := hl''.below hb5
   rw [Nat.pow_one] at hl6 hf6
   have H6 := Lib.hid hf6
   have HR6 := Lib.hid hfr6
   clear hl'' hl5 hf6 hfr6
   have hbA : Below w.heap.size w w4 := (hbl.trans (hb3.mono hbl.size)).trans (hb4.mono (Nat.le_trans hbl.size hb3.size))
   have hbB : Below w.heap.size w w5 := hbA.trans (hb5.mono hbA.size)
   go_wp2_with fail
   refine (compare_any a6 a1 n6 c6 m c1 ((gk + N / gk) / 2) gk _ hl6 hl7 H6.out HM.out).mono ?_
   rintro e w6 ⟨rfl, hb6⟩
   have hge := cmp_ge (A := (gk + N / gk) / 2) (B := gk)
   have hbC : Below w.heap.size w w6 := hbB.trans (hb6.mono hbB.size)
   by_cases hc : gk ≤ (gk + N / gk) / 2
   ·
    have hd : decide (0 ≤ cmpN ((gk + N / gk) / 2) gk) = true := by rw [hge]; exact decide_eq_true hc
    have HS := Lib.hid (newton_stop hG hc)
    clear hge hc
    generalize cmpN ((gk + N / gk) / 2) gk = cc at *
    go_wp2
    go_ret
    exact ⟨gk, HS.out, HL.out, a1, m, c1, rfl, hl7.below hb6, HM.out, HFR.out, hbC⟩
   ·
    have hd : decide (0 ≤ cmpN ((gk + N / gk) / 2) gk) = false := by rw [hge]; exact decide_eq_false hc
    have HS := Lib.hid (newton_go hG hN HL.out)
    have HC := Lib.hid hc
    clear hge hc
    have hn6 : n6 ≤ n + 1 := fit_le H6.out (Nat.lt_of_lt_of_le (Nat.lt_of_not_le HC.out) (Nat.le_of_lt (fit_mono HM.out.1 hm)))
    generalize hcc : cmpN ((gk + N / gk) / 2) gk = cc at *
    clear hcc
    go_wp2
    go_roundg ((gk + N / gk) / 2)
    case measure => exact Nat.lt_of_not_le HC.out
    case rel => exact ⟨a6, n6, c6, rfl, hl6.below hb6, H6.out, hn6, HS.out.2, HS.out.1, (fun p hp => Nat.le_trans hbA.size (HR6.out p hp)), hbC⟩
end Go.Proofs.YtolpfibihialkaaGreatDoor

/- The walks of package long's methods Sign, Cmp, Bits, Neg, Add, Mul. -/
namespace Go.Proofs.YtolpfibihialkaaGreatDoor
open Go.RowKit
/-- -1, 0, 1. -/
def sgnI (z : Int) : Int := if z < 0 then -1 else if z = 0 then 0 else 1
theorem Num.zero_iff {w : World} {bl : Bool} {a : Option Addr} {n c : Nat} {z : Int} (h : Num w bl a n c z) : n = 0 ↔ z = 0 := by
 rw [fit_pos h.fit]; omega
set_option maxHeartbeats 400000 in
theorem Sign_any (bl : Bool) (a : Option Addr) (n c : Nat) (z : Int) (w : World) (h : Num w bl a n c z) :
  Calls Tryz.prog 54 #[.agg #[.bool bl, .slice a n c]] w (PVal (.int .i64 (sgnI z)) w) := by
 have h1 := h.zero_iff
 have h2 := h.sgn
 clear h
 have hB := (Below.refl w.heap.size w).alloc (Nat.le_refl _) (.cells #[.bool bl, .slice a n c] 46)
 cases bl
 ·
  have hz : ¬ z < 0 := by simpa using h2.symm
  by_cases h0 : n = 0
  ·
   subst h0
   have HR : Hid (sgnI z = 0) := by show _ = _; unfold sgnI; rw [if_neg hz, if_pos (h1.1 rfl)]
   clear h1 h2 hz
   go_enter Tryz.func54, Tryz.ntmps54
   go_wp2
   go_ret
   exact ⟨ret_int HR.out.symm, hB⟩
  ·
   have HR : Hid (sgnI z = 1) := by show _ = _; unfold sgnI; rw [if_neg hz, if_neg (fun e => h0 (h1.2 e))]
   have h0' : ((n : Int) == 0) = false := by simpa using h0
   clear h1 h2 hz h0
   go_enter Tryz.func54, Tryz.ntmps54
   go_wp2
   go_ret
   exact ⟨ret_int HR.out.symm, hB⟩
 ·
  have hz : z < 0 := by simpa using h2.symm
  have HR : Hid (sgnI z = -1) := by show _ = _; unfold sgnI; rw [if_pos hz]
  clear h1 h2 hz
  go_enter Tryz.func54, Tryz.ntmps54
  go_wp2
  go_ret
  exact ⟨ret_int HR.out.symm, hB⟩
/-- How two numbers stand to one another: -1, 0, 1. -/
def cmpI (x y : Int) : Int := if x < y then -1 else if y < x then 1 else 0
theorem only2 (w : World) (b : Nat) (u v : Value) : Only b w ((w.setCell ⟨b, 0, none⟩ u).setCell ⟨b, 1, none⟩ v) := (Only.setCell w b 0 u).trans (Only.setCell _ b 1 v)
theorem far2 {w : World} {b b' o : Nat} {u v x : Value} (h : w.cell? ⟨b, o, none⟩ = some x) (hne : b ≠ b') : ((w.setCell ⟨b', 0, none⟩ u).setCell ⟨b', 1, none⟩ v).cell? ⟨b, o, none⟩ = some x :=
 (World.cell?_of_block (w := w) (a := ⟨b, o, none⟩) ((only2 w b' u v).block b hne)).trans h
theorem Num.only {w w' : World} {bl : Bool} {a : Option Addr} {n c g : Nat} {z : Int} (h : Num w bl a n c z) (ho : Only g w w') (hg : ∀ p, a = some p → p.block ≠ g) : Num w' bl a n c z := ⟨h.lie.only ho hg, h.fit, h.sgn⟩
theorem sg_not {bl : Bool} {z : Int} (h : bl = decide (z < 0)) : sg (!bl) z.natAbs = -z := by
 subst h
 by_cases hz : z < 0
 ·
  simp [sg, hz]; omega
 ·
  simp [sg, hz]; omega
/-- Behind a store of a number into a result's block: it is handed back. -/
theorem pnum_store {w w3 : World} {bl : Bool} {a : Option Addr} {n c r : Nat} {z : Int} (hn : Num w3 bl a n c z) (hB : Below w.heap.size w w3) (hr : w.heap.size ≤ r) (hfr : ∀ p, a = some p → r < p.block) :
  PNum z w (.returned (.agg #[.bool bl, .slice a n c])) ((w3.setCell ⟨r, 0, none⟩ (.bool bl)).setCell ⟨r, 1, none⟩ (.slice a n c)) :=
 ⟨bl, a, n, c, rfl, hn.only (only2 _ _ _ _) (fun p hp => by have := hfr p hp; omega), (fun p hp => by have := hfr p hp; omega), hB.trans ((only2 _ _ _ _).below hr)⟩
set_option maxHeartbeats 800000 in
theorem Neg_any (bl : Bool) (a : Option Addr) (n c : Nat) (z : Int) (w : World) (h : Num w bl a n c z) (hn : n ≤ 10000000) :
  Calls Tryz.prog 76 #[.agg #[.bool bl, .slice a n c]] w (PNum (-z) w) := by
 have hl := h.lie
 have hf := Lib.hid h.fit
 have hsg := Lib.hid h.sgn
 clear h
 go_enter Tryz.func76, Tryz.ntmps76
 go_wp2
 have hB := ((Below.refl w.heap.size w).alloc (Nat.le_refl _) (.cells #[.bool bl, .slice a n c] 46)).alloc (by simp) (.cells #[.bool false, .slice none 0 0] 46)
 obtain ⟨w1, hw1⟩ : ∃ w1, w1 = (w.alloc (.cells #[.bool bl, .slice a n c] 46)).alloc (.cells #[.bool false, .slice none 0 0] 46) := ⟨_, rfl⟩
 have k0 : w1.cell? ⟨w.heap.size, 0, none⟩ = some (.bool bl) := by rw [hw1]; simp
 have k1 : w1.cell? ⟨w.heap.size, 1, none⟩ = some (.slice a n c) := by rw [hw1]; simp
 have r0 : w1.cell? ⟨w.heap.size + 1, 0, none⟩ = some (.bool false) := by rw [hw1]; simp
 have r1 : w1.cell? ⟨w.heap.size + 1, 1, none⟩ = some (.slice none 0 0) := by rw [hw1]; simp
 have f0 : w1.frozen? ⟨w.heap.size + 1, 0, none⟩ = false := by rw [hw1]; simp
 have f1 : w1.frozen? ⟨w.heap.size + 1, 1, none⟩ = false := by rw [hw1]; simp
 have hsz : w1.heap.size = w.heap.size + 2 := by rw [hw1]; simp
 rw [← hw1] at hB ⊢
 clear hw1
 have hsz' : w.heap.size + 1 < w1.heap.size := by omega
 clear hsz
 go_region_held3 (fun w' => w'.cell? ⟨w.heap.size, 0, none⟩ = some (.bool bl) ∧ w'.cell? ⟨w.heap.size, 1, none⟩ = some (.slice a n c) ∧ Below w.heap.size w w')
  (first | exact ⟨k0, k1, hB.drew⟩ | exact ⟨kA0, kA1, hBA⟩ | exact ⟨kB0, kB1, hBB⟩ | exact ⟨far2 kB0 (by omega), far2 kB1 (by omega), hBB.trans ((only2 _ _ _ _).below (by omega))⟩)
  (first
   | (go_at_call 99; refine (copied_any a n c (lmb z.natAbs) _ (hl.below hB.drew) (by omega)).mono ?_; rintro e w2 ⟨g, rfl, hg, hown, hb2⟩; have hb2' : Below w1.heap.size w1 w2 := ⟨hb2.os, hb2.tape, hb2.output, hb2.size, hb2.block⟩; have kA0 := (hb2'.cell (p := ⟨w.heap.size, 0, none⟩) (by show w.heap.size < _; omega)).trans k0; have kA1 := (hb2'.cell (p := ⟨w.heap.size, 1, none⟩) (by show w.heap.size < _; omega)).trans k1; have hBA := hB.trans (hb2'.mono hB.size))
   | (go_at_call 90; refine (made_any (!bl) _ n n z.natAbs _ (hown.lie (Nat.le_refl _) (by unfold maxLen; omega)) hf.out.1).mono ?_; rintro e w3 ⟨bl', a', n', c', rfl, hnum, haa, hb3⟩; have hb13 := hb2'.trans (hb3.mono hb2'.size); have kB0 := (hb13.cell (p := ⟨w.heap.size, 0, none⟩) (by show w.heap.size < _; omega)).trans k0; have kB1 := (hb13.cell (p := ⟨w.heap.size, 1, none⟩) (by show w.heap.size < _; omega)).trans k1; have hBB := hB.trans (hb13.mono hB.size); have rB0 := (hb13.cell (p := ⟨w.heap.size + 1, 0, none⟩) hsz').trans r0; have rB1 := (hb13.cell (p := ⟨w.heap.size + 1, 1, none⟩) hsz').trans r1; have fB0 := (hb13.frozen (p := ⟨w.heap.size + 1, 0, none⟩) hsz').trans f0; have fB1 := (hb13.frozen (p := ⟨w.heap.size + 1, 1, none⟩) hsz').trans f1))
 go_wp2
 rw [sg_not hsg.out] at hnum
 refine bodyPost_ret (v := .agg #[.bool bl', .slice a' n' c']) (by simp [results, Tryz.results76, go_sem, rB0, rB1]) rfl ?_
 refine pnum_store hnum hBB (by omega) (fun p hp => ?_)
 rcases haa with h | h
 ·
  rw [h] at hp; cases hp
 ·
  rw [h] at hp; cases hp; have := hb2'.size; show _ < g; have hg' : w1.heap.size ≤ g := hg; omega
end Go.Proofs.YtolpfibihialkaaGreatDoor

/- The walks of Mul, Add, Sub. -/
namespace Go.Proofs.YtolpfibihialkaaGreatDoor
open Go.RowKit
/-- Two numbers in boxes of their own, and a place for the result, behind what was there. -/
structure Boxed (w w1 : World) (bl : Bool) (a : Option Addr) (n c : Nat) (bl' : Bool) (a' : Option Addr) (n' c' : Nat) : Prop where
 below : Below w.heap.size w w1
 k0 : w1.cell? ⟨w.heap.size, 0, none⟩ = some (.bool bl)
 k1 : w1.cell? ⟨w.heap.size, 1, none⟩ = some (.slice a n c)
 l0 : w1.cell? ⟨w.heap.size + 1, 0, none⟩ = some (.bool bl')
 l1 : w1.cell? ⟨w.heap.size + 1, 1, none⟩ = some (.slice a' n' c')
 r0 : w1.cell? ⟨w.heap.size + 2, 0, none⟩ = some (.bool false)
 r1 : w1.cell? ⟨w.heap.size + 2, 1, none⟩ = some (.slice none 0 0)
 f0 : w1.frozen? ⟨w.heap.size + 2, 0, none⟩ = false
 f1 : w1.frozen? ⟨w.heap.size + 2, 1, none⟩ = false
 sz : w.heap.size + 2 < w1.heap.size
theorem boxed_mk (w : World) (t : TypeId) (bl : Bool) (a : Option Addr) (n c : Nat) (bl' : Bool) (a' : Option Addr) (n' c' : Nat) :
  Boxed w (((w.alloc (.cells #[.bool bl, .slice a n c] t)).alloc (.cells #[.bool bl', .slice a' n' c'] t)).alloc (.cells #[.bool false, .slice none 0 0] t)) bl a n c bl' a' n' c' :=
 ⟨(((Below.refl w.heap.size w).alloc (Nat.le_refl _) _).alloc (by simp) _).alloc (by simp; omega) _, by simp [go_sem], by simp [go_sem], by simp [go_sem], by simp [go_sem], by simp [go_sem], by simp [go_sem], by simp [go_sem], by simp [go_sem], by simp⟩
theorem Boxed.later {w w1 w2 : World} {bl : Bool} {a : Option Addr} {n c : Nat} {bl' : Bool} {a' : Option Addr} {n' c' : Nat} (h : Boxed w w1 bl a n c bl' a' n' c') (hb : Below w1.heap.size w1 w2) : Boxed w w2 bl a n c bl' a' n' c' := by
 have hs := h.sz
 exact ⟨h.below.trans (hb.mono h.below.size), (hb.cell (p := ⟨w.heap.size, 0, none⟩) (by show w.heap.size < _; omega)).trans h.k0, (hb.cell (p := ⟨w.heap.size, 1, none⟩) (by show w.heap.size < _; omega)).trans h.k1,
  (hb.cell (p := ⟨w.heap.size + 1, 0, none⟩) (by show w.heap.size + 1 < _; omega)).trans h.l0, (hb.cell (p := ⟨w.heap.size + 1, 1, none⟩) (by show w.heap.size + 1 < _; omega)).trans h.l1,
  (hb.cell (p := ⟨w.heap.size + 2, 0, none⟩) hs).trans h.r0, (hb.cell (p := ⟨w.heap.size + 2, 1, none⟩) hs).trans h.r1, (hb.frozen (p := ⟨w.heap.size + 2, 0, none⟩) hs).trans h.f0, (hb.frozen (p := ⟨w.heap.size + 2, 1, none⟩) hs).trans h.f1,
  Nat.lt_of_lt_of_le hs hb.size⟩
theorem below_undrew {B : Nat} {w w' : World} (h : Below B w.drew w') : Below B w w' := ⟨h.os, h.tape, h.output, h.size, h.block⟩
theorem Boxed.drew {w w1 : World} {bl : Bool} {a : Option Addr} {n c : Nat} {bl' : Bool} {a' : Option Addr} {n' c' : Nat} (h : Boxed w w1 bl a n c bl' a' n' c') : Boxed w w1.drew bl a n c bl' a' n' c' := h.later (Below.refl _ _).drew
/-- What the loads of a region read, in a world of its run. -/
def HS (w : World) (bl : Bool) (a : Option Addr) (n c : Nat) (bl' : Bool) (a' : Option Addr) (n' c' : Nat) (w' : World) : Prop :=
 w'.cell? ⟨w.heap.size, 0, none⟩ = some (.bool bl) ∧ w'.cell? ⟨w.heap.size, 1, none⟩ = some (.slice a n c) ∧ w'.cell? ⟨w.heap.size + 1, 0, none⟩ = some (.bool bl') ∧ w'.cell? ⟨w.heap.size + 1, 1, none⟩ = some (.slice a' n' c')
theorem Boxed.hs {w w1 : World} {bl : Bool} {a : Option Addr} {n c : Nat} {bl' : Bool} {a' : Option Addr} {n' c' : Nat} (h : Boxed w w1 bl a n c bl' a' n' c') : HS w bl a n c bl' a' n' c' w1 := ⟨h.k0, h.k1, h.l0, h.l1⟩
theorem Boxed.hs2 {w w1 : World} {bl : Bool} {a : Option Addr} {n c : Nat} {bl' : Bool} {a' : Option Addr} {n' c' : Nat} (h : Boxed w w1 bl a n c bl' a' n' c') (u v : Value) : HS w bl a n c bl' a' n' c' ((w1.setCell ⟨w.heap.size + 2, 0, none⟩ u).setCell ⟨w.heap.size + 2, 1, none⟩ v) :=
 ⟨far2 h.k0 (by omega), far2 h.k1 (by omega), far2 h.l0 (by omega), far2 h.l1 (by omega)⟩
theorem sg_mul {bl bl' : Bool} {x y : Int} (h : bl = decide (x < 0)) (h' : bl' = decide (y < 0)) : sg (!(bl == bl')) (x.natAbs * y.natAbs) = x * y := by
 rw [← Int.natAbs_mul]
 unfold sg
 have e : (x * y).natAbs = x.natAbs * y.natAbs := Int.natAbs_mul x y
 by_cases hx : x < 0 <;> by_cases hy : y < 0
 ·
  have : 0 ≤ x * y := Int.mul_nonneg_of_nonpos_of_nonpos (by omega) (by omega)
  simp [h, h', hx, hy]; omega
 ·
  have : x * y ≤ 0 := Int.mul_nonpos_of_nonpos_of_nonneg (by omega) (by omega)
  simp [h, h', hx, hy]; omega
 ·
  have : x * y ≤ 0 := Int.mul_nonpos_of_nonneg_of_nonpos (by omega) (by omega)
  simp [h, h', hx, hy]; omega
 ·
  have : 0 ≤ x * y := Int.mul_nonneg (by omega) (by omega)
  simp [h, h', hx, hy]; omega
set_option maxHeartbeats 1600000 in
theorem Mul_any (bl : Bool) (a : Option Addr) (n c : Nat) (x : Int) (bl' : Bool) (a' : Option Addr) (n' c' : Nat) (y : Int) (w : World) (h : Num w bl a n c x) (h' : Num w bl' a' n' c' y) (hn : n ≤ 10000000) (hn' : n' ≤ 10000000) :
  Calls Tryz.prog 77 #[.agg #[.bool bl, .slice a n c], .agg #[.bool bl', .slice a' n' c']] w (PNum (x * y) w) := by
 have hfx := Lib.hid h.fit
 have hfy := Lib.hid h'.fit
 have hsg := Lib.hid (sg_mul h.sgn h'.sgn)
 have hl := h.lie
 have hl' := h'.lie
 clear h h'
 go_enter Tryz.func77, Tryz.ntmps77
 go_wp2
 have hX1 := boxed_mk w 46 bl a n c bl' a' n' c'
 generalize ((w.alloc (.cells #[.bool bl, .slice a n c] 46)).alloc (.cells #[.bool bl', .slice a' n' c'] 46)).alloc (.cells #[.bool false, .slice none 0 0] 46) = w1 at *
 go_region_held3 (fun w' => w'.cell? ⟨w.heap.size, 0, none⟩ = some (.bool bl) ∧ w'.cell? ⟨w.heap.size, 1, none⟩ = some (.slice a n c) ∧ w'.cell? ⟨w.heap.size + 1, 0, none⟩ = some (.bool bl') ∧ w'.cell? ⟨w.heap.size + 1, 1, none⟩ = some (.slice a' n' c'))
  (first | exact hX1.drew.hs | exact hX1.hs | exact hX2.hs | exact hX3.hs | exact hX3.hs2 _ _)
  (first
   | (go_at_call 117; refine (product_any a a' n c n' c' x.natAbs y.natAbs _ (hl.below hX1.drew.below) (hl'.below hX1.drew.below) hfx.out hfy.out (by omega) (by omega)).mono ?_; rintro e w2 ⟨a2, n2, c2, rfl, hl2, hf2, hfr2, hb2⟩; have hX2 := hX1.later (below_undrew hb2))
   | (go_at_call 90; refine (made_any _ _ n2 c2 _ _ hl2 hf2.1).mono ?_; rintro e w3 ⟨bl3, a3, n3, c3, rfl, hnum, haa, hb3⟩; have hX3 := hX2.later hb3; have rB0 := hX3.r0; have rB1 := hX3.r1; have fB0 := hX3.f0; have fB1 := hX3.f1))
 go_wp2
 rw [hsg.out] at hnum
 refine bodyPost_ret (v := .agg #[.bool bl3, .slice a3 n3 c3]) (by simp [results, Tryz.results77, go_sem, rB0, rB1]) rfl ?_
 refine pnum_store hnum hX3.below (by omega) (fun p hp => ?_)
 rcases haa with h | h
 ·
  rw [h] at hp; cases hp
 ·
  rw [h] at hp; have h1 := hfr2 p hp; have h2 := hX1.sz; have h3 : w1.heap.size ≤ p.block := h1; omega
theorem sg_add1 {bl bl' : Bool} {x y : Int} (h : bl = decide (x < 0)) (h' : bl' = decide (y < 0)) (hb : (bl == bl') = true) : sg bl (x.natAbs + y.natAbs) = x + y := by
 by_cases hx : x < 0 <;> by_cases hy : y < 0 <;> simp [h, h', hx, hy] at hb <;> simp [sg, h, hx] <;> omega
theorem sg_add2 {bl bl' : Bool} {x y : Int} (h : bl = decide (x < 0)) (h' : bl' = decide (y < 0)) (hb : (bl == bl') = false) (hc : x.natAbs < y.natAbs) : sg bl' (y.natAbs - x.natAbs) = x + y := by
 by_cases hx : x < 0 <;> by_cases hy : y < 0 <;> simp [h, h', hx, hy] at hb <;> simp [sg, h', hy] <;> omega
theorem sg_add3 {bl bl' : Bool} {x y : Int} (h : bl = decide (x < 0)) (h' : bl' = decide (y < 0)) (hb : (bl == bl') = false) (hc : ¬ x.natAbs < y.natAbs) : sg bl (x.natAbs - y.natAbs) = x + y := by
 by_cases hx : x < 0 <;> by_cases hy : y < 0 <;> simp [h, h', hx, hy] at hb <;> simp [sg, h, hx] <;> omega
theorem cmp_lt {A B : Nat} : decide (cmpN A B < 0) = decide (A < B) := by
 unfold cmpN
 by_cases h : A < B
 ·
  rw [if_pos h]; simp [h]
 ·
  rw [if_neg h]; by_cases h2 : B < A
  ·
   rw [if_pos h2]; simp; omega
  ·
   rw [if_neg h2]; simp; omega
set_option maxHeartbeats 1600000 in
theorem Add_any (bl : Bool) (a : Option Addr) (n c : Nat) (x : Int) (bl' : Bool) (a' : Option Addr) (n' c' : Nat) (y : Int) (w : World) (h : Num w bl a n c x) (h' : Num w bl' a' n' c' y) (hn : n ≤ 10000000) (hn' : n' ≤ 10000000) :
  Calls Tryz.prog 94 #[.agg #[.bool bl, .slice a n c], .agg #[.bool bl', .slice a' n' c']] w (PNum (x + y) w) := by
 have hfx := Lib.hid h.fit
 have hfy := Lib.hid h'.fit
 have hsx := Lib.hid h.sgn
 have hsy := Lib.hid h'.sgn
 have hl := h.lie
 have hl' := h'.lie
 clear h h'
 by_cases hbb : (bl == bl') = true
 ·
  have hsg := Lib.hid (sg_add1 hsx.out hsy.out hbb)
  go_enter Tryz.func94, Tryz.ntmps94
  go_wp2
  have hX1 := boxed_mk w 46 bl a n c bl' a' n' c'
  generalize ((w.alloc (.cells #[.bool bl, .slice a n c] 46)).alloc (.cells #[.bool bl', .slice a' n' c'] 46)).alloc (.cells #[.bool false, .slice none 0 0] 46) = w1 at *
  go_region_held3 (fun w' => w'.cell? ⟨w.heap.size, 0, none⟩ = some (.bool bl) ∧ w'.cell? ⟨w.heap.size, 1, none⟩ = some (.slice a n c) ∧ w'.cell? ⟨w.heap.size + 1, 0, none⟩ = some (.bool bl') ∧ w'.cell? ⟨w.heap.size + 1, 1, none⟩ = some (.slice a' n' c'))
   (first | exact hX1.drew.hs | exact hX1.hs | exact hX2.hs | exact hX3.hs | exact hX3.hs2 _ _)
   (first
    | (go_at_call 124; refine (sum_any a a' n c n' c' x.natAbs y.natAbs _ (hl.below hX1.drew.below) (hl'.below hX1.drew.below) hfx.out hfy.out (by omega) (by omega)).mono ?_; rintro e w2 ⟨a2, n2, c2, rfl, hl2, hf2, hfr2, hb2⟩; have hX2 := hX1.later (below_undrew hb2))
    | (go_at_call 90; refine (made_any _ _ n2 c2 _ _ hl2 hf2.1).mono ?_; rintro e w3 ⟨bl3, a3, n3, c3, rfl, hnum, haa, hb3⟩; have hX3 := hX2.later hb3; have rB0 := hX3.r0; have rB1 := hX3.r1; have fB0 := hX3.f0; have fB1 := hX3.f1))
  go_wp2
  rw [hsg.out] at hnum
  refine bodyPost_ret (v := .agg #[.bool bl3, .slice a3 n3 c3]) (by simp [results, Tryz.results94, go_sem, rB0, rB1]) rfl ?_
  refine pnum_store hnum hX3.below (by omega) (fun p hp => ?_)
  rcases haa with h | h
  ·
   rw [h] at hp; cases hp
  ·
   rw [h] at hp; have h1 := hfr2 p hp; have h2 := hX1.sz; have h3 : w1.heap.size ≤ p.block := h1; omega
 ·
  have hbb' : (bl == bl') = false := by simpa using hbb
  clear hbb
  go_enter Tryz.func94, Tryz.ntmps94
  go_wp2_with fail
  have hX1 := boxed_mk w 46 bl a n c bl' a' n' c'
  generalize ((w.alloc (.cells #[.bool bl, .slice a n c] 46)).alloc (.cells #[.bool bl', .slice a' n' c'] 46)).alloc (.cells #[.bool false, .slice none 0 0] 46) = w1 at *
  refine (compare_any a a' n c n' c' x.natAbs y.natAbs _ (hl.below hX1.below) (hl'.below hX1.below) hfx.out hfy.out).mono ?_
  rintro e w1' ⟨rfl, hbc⟩
  have hX1' := hX1.later hbc
  have hcl := cmp_lt (A := x.natAbs) (B := y.natAbs)
  clear hX1 hbc
  by_cases hc : x.natAbs < y.natAbs
  ·
   have hcd : decide (cmpN x.natAbs y.natAbs < 0) = true := by rw [hcl]; exact decide_eq_true hc
   have hsg := Lib.hid (sg_add2 hsx.out hsy.out hbb' hc)
   have HC := Lib.hid hc
   clear hcl hc
   generalize hcc : cmpN x.natAbs y.natAbs = cc at *
   clear hcc
   go_wp2
   go_region_held3 (fun w' => w'.cell? ⟨w.heap.size, 0, none⟩ = some (.bool bl) ∧ w'.cell? ⟨w.heap.size, 1, none⟩ = some (.slice a n c) ∧ w'.cell? ⟨w.heap.size + 1, 0, none⟩ = some (.bool bl') ∧ w'.cell? ⟨w.heap.size + 1, 1, none⟩ = some (.slice a' n' c'))
    (first | exact hX1'.drew.hs | exact hX1'.hs | exact hX2.hs | exact hX3.hs | exact hX3.hs2 _ _)
    (first
     | (go_at_call 126; refine (difference_any a' a n' c' n c y.natAbs x.natAbs _ (hl'.below hX1'.drew.below) (hl.below hX1'.drew.below) hfy.out hfx.out (Nat.le_of_lt HC.out) (by omega)).mono ?_; rintro e w2 ⟨a2, n2, c2, rfl, hl2, hf2, hfr2, hb2⟩; have hX2 := hX1'.later (below_undrew hb2))
     | (go_at_call 90; refine (made_any _ _ n2 c2 _ _ hl2 hf2.1).mono ?_; rintro e w3 ⟨bl3, a3, n3, c3, rfl, hnum, haa, hb3⟩; have hX3 := hX2.later hb3; have rB0 := hX3.r0; have rB1 := hX3.r1; have fB0 := hX3.f0; have fB1 := hX3.f1))
   go_wp2
   rw [hsg.out] at hnum
   refine bodyPost_ret (v := .agg #[.bool bl3, .slice a3 n3 c3]) (by simp [results, Tryz.results94, go_sem, rB0, rB1]) rfl ?_
   refine pnum_store hnum hX3.below (by omega) (fun p hp => ?_)
   rcases haa with h | h
   ·
    rw [h] at hp; cases hp
   ·
    rw [h] at hp; have h1 := hfr2 p hp; have h2 := hX1'.sz; have h3 : w1'.heap.size ≤ p.block := h1; omega
  ·
   have hcd : decide (cmpN x.natAbs y.natAbs < 0) = false := by rw [hcl]; exact decide_eq_false hc
   have hsg := Lib.hid (sg_add3 hsx.out hsy.out hbb' hc)
   have HC := Lib.hid hc
   clear hcl hc
   generalize hcc : cmpN x.natAbs y.natAbs = cc at *
   clear hcc
   go_wp2
   go_region_held3 (fun w' => w'.cell? ⟨w.heap.size, 0, none⟩ = some (.bool bl) ∧ w'.cell? ⟨w.heap.size, 1, none⟩ = some (.slice a n c) ∧ w'.cell? ⟨w.heap.size + 1, 0, none⟩ = some (.bool bl') ∧ w'.cell? ⟨w.heap.size + 1, 1, none⟩ = some (.slice a' n' c'))
    (first | exact hX1'.drew.hs | exact hX1'.hs | exact hX2.hs | exact hX3.hs | exact hX3.hs2 _ _)
    (first
     | (go_at_call 126; refine (difference_any a a' n c n' c' x.natAbs y.natAbs _ (hl.below hX1'.drew.below) (hl'.below hX1'.drew.below) hfx.out hfy.out (Nat.le_of_not_lt HC.out) (by omega)).mono ?_; rintro e w2 ⟨a2, n2, c2, rfl, hl2, hf2, hfr2, hb2⟩; have hX2 := hX1'.later (below_undrew hb2))
     | (go_at_call 90; refine (made_any _ _ n2 c2 _ _ hl2 hf2.1).mono ?_; rintro e w3 ⟨bl3, a3, n3, c3, rfl, hnum, haa, hb3⟩; have hX3 := hX2.later hb3; have rB0 := hX3.r0; have rB1 := hX3.r1; have fB0 := hX3.f0; have fB1 := hX3.f1))
   go_wp2
   rw [hsg.out] at hnum
   refine bodyPost_ret (v := .agg #[.bool bl3, .slice a3 n3 c3]) (by simp [results, Tryz.results94, go_sem, rB0, rB1]) rfl ?_
   refine pnum_store hnum hX3.below (by omega) (fun p hp => ?_)
   rcases haa with h | h
   ·
    rw [h] at hp; cases hp
   ·
    rw [h] at hp; have h1 := hfr2 p hp; have h2 := hX1'.sz; have h3 : w1'.heap.size ≤ p.block := h1; omega
set_option maxHeartbeats 1600000 in
theorem Sub_any (bl : Bool) (a : Option Addr) (n c : Nat) (x : Int) (bl' : Bool) (a' : Option Addr) (n' c' : Nat) (y : Int) (w : World) (h : Num w bl a n c x) (h' : Num w bl' a' n' c' y) (hn : n ≤ 10000000) (hn' : n' ≤ 10000000) :
  Calls Tryz.prog 119 #[.agg #[.bool bl, .slice a n c], .agg #[.bool bl', .slice a' n' c']] w (PNum (x - y) w) := by
 have H := Lib.hid h
 have H' := Lib.hid h'
 clear h h'
 go_enter Tryz.func119, Tryz.ntmps119
 go_wp2
 have hX1 := boxed_mk w 46 bl a n c bl' a' n' c'
 generalize ((w.alloc (.cells #[.bool bl, .slice a n c] 46)).alloc (.cells #[.bool bl', .slice a' n' c'] 46)).alloc (.cells #[.bool false, .slice none 0 0] 46) = w1 at *
 go_region_held3 (fun w' => w'.cell? ⟨w.heap.size, 0, none⟩ = some (.bool bl) ∧ w'.cell? ⟨w.heap.size, 1, none⟩ = some (.slice a n c) ∧ w'.cell? ⟨w.heap.size + 1, 0, none⟩ = some (.bool bl') ∧ w'.cell? ⟨w.heap.size + 1, 1, none⟩ = some (.slice a' n' c'))
  (first | exact hX1.drew.hs | exact hX1.hs | exact hX2.hs | exact hX3.hs | exact hX3.hs2 _ _)
  (first
   | (go_at_call 76; refine (Neg_any bl' a' n' c' y _ (H'.out.below hX1.drew.below) hn').mono ?_; rintro e w2 ⟨bl2, a2, n2, c2, rfl, hN2, hfr2, hb2⟩; have hX2 := hX1.later (below_undrew hb2); have hn2 : n2 ≤ 10000000 := Nat.le_trans (Nat.le_of_eq (fit_uniq hN2.fit (by rw [Int.natAbs_neg]; exact H'.out.fit))) hn')
   | (go_at_call 94; refine (Add_any bl a n c x bl2 a2 n2 c2 (-y) _ (H.out.below hX2.below) hN2 hn hn2).mono ?_; rintro e w3 ⟨bl3, a3, n3, c3, rfl, hnum, hfr3, hb3⟩; have hX3 := hX2.later hb3; have rB0 := hX3.r0; have rB1 := hX3.r1; have fB0 := hX3.f0; have fB1 := hX3.f1))
 go_wp2
 rw [← Int.sub_eq_add_neg] at hnum
 refine bodyPost_ret (v := .agg #[.bool bl3, .slice a3 n3 c3]) (by simp [results, Tryz.results119, go_sem, rB0, rB1]) rfl ?_
 refine pnum_store hnum hX3.below (by omega) (fun p hp => ?_)
 have h1 := hfr3 p hp; have h2 := hX2.sz; omega
end Go.Proofs.YtolpfibihialkaaGreatDoor

/- The walks of Of, Root, Quo, Small. -/
namespace Go.Proofs.YtolpfibihialkaaGreatDoor
open Go.RowKit
theorem lmb0 (N : Nat) : lmb N 0 = N % 4294967296 := by unfold lmb; simp; rfl
theorem lmb1 {N : Nat} (h : N < 18446744073709551616) : lmb N 1 = N / 4294967296 := by
 unfold lmb; rw [Nat.pow_one]; exact Nat.mod_eq_of_lt (Nat.div_lt_of_lt_mul h)
theorem two_lt {N : Nat} (h : N < 18446744073709551616) : N < BB ^ 2 := h
/-- A place for a number that is a result, behind what was there. -/
structure ResAt (w w1 : World) (r : Nat) : Prop where
 below : Below w.heap.size w w1
 r0 : w1.cell? ⟨r, 0, none⟩ = some (.bool false)
 r1 : w1.cell? ⟨r, 1, none⟩ = some (.slice none 0 0)
 f0 : w1.frozen? ⟨r, 0, none⟩ = false
 f1 : w1.frozen? ⟨r, 1, none⟩ = false
 lo : w.heap.size ≤ r
 sz : r < w1.heap.size
theorem ResAt.later {w w1 w2 : World} {r : Nat} (h : ResAt w w1 r) (hb : Below w1.heap.size w1 w2) : ResAt w w2 r :=
 ⟨h.below.trans (hb.mono h.below.size), (hb.cell (p := ⟨r, 0, none⟩) h.sz).trans h.r0, (hb.cell (p := ⟨r, 1, none⟩) h.sz).trans h.r1, (hb.frozen (p := ⟨r, 0, none⟩) h.sz).trans h.f0, (hb.frozen (p := ⟨r, 1, none⟩) h.sz).trans h.f1, h.lo, Nat.lt_of_lt_of_le h.sz hb.size⟩
theorem res_mk (w : World) (t : TypeId) (o : Obj) : ResAt w ((w.alloc (.cells #[.bool false, .slice none 0 0] t)).alloc o) w.heap.size :=
 ResAt.later (w1 := w.alloc (.cells #[.bool false, .slice none 0 0] t)) ⟨(Below.refl w.heap.size w).alloc (Nat.le_refl _) _, by simp [go_sem], by simp [go_sem], by simp [go_sem], by simp [go_sem], Nat.le_refl _, by simp⟩ ((Below.refl _ _).alloc (Nat.le_refl _) _)
theorem of_neg {z : Int} (hz : z < 0) (h1 : -9223372036854775808 ≤ z) : IntKind.u64.wrap (-IntKind.u64.wrap z) % 4294967296 = ((lmb z.natAbs 0 : Nat) : Int) ∧ IntKind.u64.wrap (-IntKind.u64.wrap z) / 4294967296 % 4294967296 = ((lmb z.natAbs 1 : Nat) : Int) := by
 rw [IntKind.wrap_u64, IntKind.wrap_u64, lmb0, lmb1 (by omega)]
 omega
theorem of_pos {z : Int} (hz : ¬ z < 0) (h2 : z ≤ 9223372036854775807) : z % 4294967296 = ((lmb z.natAbs 0 : Nat) : Int) ∧ z / 4294967296 = ((lmb z.natAbs 1 : Nat) : Int) := by
 rw [lmb0, lmb1 (by omega)]
 omega
set_option maxRecDepth 100000 in
set_option maxHeartbeats 800000 in
theorem Of_any (z : Int) (w : World) (h1 : -9223372036854775808 ≤ z) (h2 : z ≤ 9223372036854775807) :
  Calls Tryz.prog 47 #[.int .i64 z] w (PNum z w) := by
 by_cases hz : z < 0
 ·
  have HE := Lib.hid (of_neg hz h1)
  go_enter Tryz.func47, Tryz.ntmps47
  go_wp2_with fail
  rw [HE.out.1, HE.out.2]
  have hO := own_lit2 .u32 128 (w.alloc (.cells #[.bool false, .slice none 0 0] 46)) (lmb z.natAbs 0) (lmb z.natAbs 1) (lmb z.natAbs) rfl rfl
  rw [show (w.alloc (.cells #[.bool false, .slice none 0 0] 46)).heap.size = w.heap.size + 1 from by simp] at hO
  have hR := res_mk w 46 (.cells #[.int .u32 (lmb z.natAbs 0), .int .u32 (lmb z.natAbs 1)] 128)
  generalize (w.alloc (.cells #[.bool false, .slice none 0 0] 46)).alloc (.cells #[.int .u32 (lmb z.natAbs 0), .int .u32 (lmb z.natAbs 1)] 128) = w1 at *
  refine (made_any true _ 2 2 z.natAbs _ (hO.lie (Nat.le_refl _) (by unfold maxLen; omega)) (two_lt (by omega))).mono ?_
  rintro e w3 ⟨bl3, a3, n3, c3, rfl, hnum, haa, hb3⟩
  have hR3 := hR.later hb3
  have rB0 := hR3.r0
  have rB1 := hR3.r1
  have fB0 := hR3.f0
  have fB1 := hR3.f1
  go_wp2
  rw [show sg true z.natAbs = z from by simp [sg]; omega] at hnum
  refine bodyPost_ret (v := .agg #[.bool bl3, .slice a3 n3 c3]) (by simp [results, Tryz.results47, go_sem, rB0, rB1]) rfl ?_
  refine pnum_store hnum hR3.below (Nat.le_refl _) (fun p hp => ?_)
  rcases haa with h | h
  ·
   rw [h] at hp; cases hp
  ·
   rw [h] at hp; cases hp; show _ < w.heap.size + 1; omega
 ·
  have HE := Lib.hid (of_pos hz h2)
  go_enter Tryz.func47, Tryz.ntmps47
  go_wp2_with fail
  rw [HE.out.1, HE.out.2]
  have hO := own_lit2 .u32 128 (w.alloc (.cells #[.bool false, .slice none 0 0] 46)) (lmb z.natAbs 0) (lmb z.natAbs 1) (lmb z.natAbs) rfl rfl
  rw [show (w.alloc (.cells #[.bool false, .slice none 0 0] 46)).heap.size = w.heap.size + 1 from by simp] at hO
  have hR := res_mk w 46 (.cells #[.int .u32 (lmb z.natAbs 0), .int .u32 (lmb z.natAbs 1)] 128)
  generalize (w.alloc (.cells #[.bool false, .slice none 0 0] 46)).alloc (.cells #[.int .u32 (lmb z.natAbs 0), .int .u32 (lmb z.natAbs 1)] 128) = w1 at *
  refine (made_any false _ 2 2 z.natAbs _ (hO.lie (Nat.le_refl _) (by unfold maxLen; omega)) (two_lt (by omega))).mono ?_
  rintro e w3 ⟨bl3, a3, n3, c3, rfl, hnum, haa, hb3⟩
  have hR3 := hR.later hb3
  have rB0 := hR3.r0
  have rB1 := hR3.r1
  have fB0 := hR3.f0
  have fB1 := hR3.f1
  go_wp2
  rw [show sg false z.natAbs = z from by simp [sg]; omega] at hnum
  refine bodyPost_ret (v := .agg #[.bool bl3, .slice a3 n3 c3]) (by simp [results, Tryz.results47, go_sem, rB0, rB1]) rfl ?_
  refine pnum_store hnum hR3.below (Nat.le_refl _) (fun p hp => ?_)
  rcases haa with h | h
  ·
   rw [h] at hp; cases hp
  ·
   rw [h] at hp; cases hp; show _ < w.heap.size + 1; omega
end Go.Proofs.YtolpfibihialkaaGreatDoor

/- The walk of Root. -/
namespace Go.Proofs.YtolpfibihialkaaGreatDoor
open Go.RowKit
/-- A number in new memory, and an error's number, are handed back. -/
def PNumE (z : Int) (er : Int) (w : World) (e : Ending) (w' : World) : Prop :=
 ∃ (bl : Bool) (a' : Option Addr) (n c : Nat), e = .returned (.tuple #[.agg #[.bool bl, .slice a' n c], .int .i64 er]) ∧ Num w' bl a' n c z ∧ (∀ p, a' = some p → w.heap.size ≤ p.block) ∧ Below w.heap.size w w'
theorem pnume_store {w w3 : World} {bl : Bool} {a : Option Addr} {n c r : Nat} {z er : Int} (hn : Num w3 bl a n c z) (hB : Below w.heap.size w w3) (hr : w.heap.size ≤ r) (hfr : ∀ p, a = some p → r < p.block) :
  PNumE z er w (.returned (.tuple #[.agg #[.bool bl, .slice a n c], .int .i64 er])) ((w3.setCell ⟨r, 0, none⟩ (.bool bl)).setCell ⟨r, 1, none⟩ (.slice a n c)) :=
 ⟨bl, a, n, c, rfl, hn.only (only2 _ _ _ _) (fun p hp => by have := hfr p hp; omega), (fun p hp => by have := hfr p hp; omega), hB.trans ((only2 _ _ _ _).below hr)⟩
theorem box_res (w : World) (t : TypeId) (o : Obj) : ResAt w ((w.alloc o).alloc (.cells #[.bool false, .slice none 0 0] t)) (w.heap.size + 1) :=
 ⟨((Below.refl w.heap.size w).alloc (Nat.le_refl _) _).alloc (by simp) _, by simp [go_sem], by simp [go_sem], by simp [go_sem], by simp [go_sem], by omega, by simp⟩
set_option maxHeartbeats 800000 in
theorem Root_neg (a : Option Addr) (n c : Nat) (w : World) :
  Calls Tryz.prog 66 #[.agg #[.bool true, .slice a n c]] w (PNumE 0 12 w) := by
 go_enter Tryz.func66, Tryz.ntmps66
 go_wp2
 refine bodyPost_ret (v := .tuple #[.agg #[.bool false, .slice none 0 0], .int .i64 12]) (by simp [results, Tryz.results66, go_sem]) rfl ?_
 exact ⟨false, none, 0, 0, rfl, num_zero _, (fun p hp => by cases hp), ((Below.refl w.heap.size w).alloc (Nat.le_refl _) _).alloc (by simp) _⟩
/-- The root of a number is handed back. -/
def PIroot (N : Nat) (w : World) (e : Ending) (w' : World) : Prop := ∃ R : Nat, R * R ≤ N ∧ N < (R + 1) * (R + 1) ∧ PNumE (R : Int) 0 w e w'
set_option maxHeartbeats 800000 in
theorem Root_pos (a : Option Addr) (n c : Nat) (z : Int) (w : World) (h : Num w false a n c z) (hn : n ≤ 10000000) :
  Calls Tryz.prog 66 #[.agg #[.bool false, .slice a n c]] w (PIroot z.natAbs w) := by
 have hl := h.lie
 have hf := Lib.hid h.fit
 clear h
 go_enter Tryz.func66, Tryz.ntmps66
 go_wp2_with fail
 have hR := box_res w 46 (.cells #[.bool false, .slice a n c] 46)
 generalize (w.alloc (.cells #[.bool false, .slice a n c] 46)).alloc (.cells #[.bool false, .slice none 0 0] 46) = w1 at *
 refine (root_any a n c z.natAbs _ (hl.below hR.below) hf.out hn).mono ?_
 rintro e w2 ⟨R, hR1, hR2, a2, n2, c2, rfl, hl2, hf2, hfr2, hb2⟩
 have HR := Lib.hid (And.intro hR1 hR2)
 have HF2 := Lib.hid hf2
 have HFR := Lib.hid hfr2
 clear hR1 hR2 hf2 hfr2
 have hX2 := hR.later hb2
 go_wp2_with fail
 refine (made_any false _ n2 c2 R _ hl2 HF2.out.1).mono ?_
 rintro e w3 ⟨bl3, a3, n3, c3, rfl, hnum, haa, hb3⟩
 have hR3 := hX2.later hb3
 have rB0 := hR3.r0
 have rB1 := hR3.r1
 have fB0 := hR3.f0
 have fB1 := hR3.f1
 go_wp2
 rw [show sg false R = (R : Int) from rfl] at hnum
 refine bodyPost_ret (v := .tuple #[.agg #[.bool bl3, .slice a3 n3 c3], .int .i64 0]) (by simp [results, Tryz.results66, go_sem, rB0, rB1]) rfl ?_
 refine ⟨R, HR.out.1, HR.out.2, pnume_store hnum hR3.below (by omega) (fun p hp => ?_)⟩
 rcases haa with h | h
 ·
  rw [h] at hp; cases hp
 ·
  rw [h] at hp; have h1 := HFR.out p hp; have h2 := hR.sz; omega
end Go.Proofs.YtolpfibihialkaaGreatDoor
