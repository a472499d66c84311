/- The walk of the law LongRoots. -/
import Derived.Test.YtcnmilflfegliaaDoorFour
import Derived.Test.YtcnmilflfegliaaDoorBxs
namespace Go.Proofs.YtcnmilflfegliaaDoor
open Go.RowKit

theorem sq_root {x : Int} {R : Nat} (h1 : R * R ≤ (x * x).natAbs) (h2 : (x * x).natAbs < (R + 1) * (R + 1)) : R = x.natAbs := by
  rw [Int.natAbs_mul] at h1 h2
  exact root_uniq h1 h2 (Nat.le_refl _) (by rw [Nat.mul_add, Nat.add_mul]; omega)
theorem bits_pow {N : Nat} (h : 0 < N) : 2 ^ bitsN N ≤ N * 2 ∧ N < 2 ^ bitsN N := by
  have hb : bitsN N = Nat.log2 N + 1 := by unfold bitsN; rw [if_neg (by omega)]
  rw [hb]
  refine ⟨?_, Nat.lt_log2_self⟩
  rw [Nat.pow_succ]
  exact Nat.mul_le_mul_right 2 (Nat.log2_self_le (by omega))
theorem bits_gen {N m : Nat} (h : N < 10 ^ (3 * m)) : bitsN N ≤ 10 * m := by
  unfold bitsN
  split
  · omega
  · rename_i h0
    have h1 := Nat.log2_self_le (n := N) h0
    have h2 : 10 ^ (3 * m) ≤ 2 ^ (10 * m) := by rw [Nat.pow_mul, Nat.pow_mul]; exact Nat.pow_le_pow_left (by decide) m
    have := (Nat.pow_lt_pow_iff_right (by decide : 1 < 2)).1 (Nat.lt_of_le_of_lt h1 (Nat.lt_of_lt_of_le h h2))
    omega
theorem bits_le {N : Nat} (h : N < 10 ^ 150) : bitsN N ≤ 500 := bits_gen (m := 50) h
theorem int_sq_nn (x : Int) : 0 ≤ x * x := by
  rcases Int.le_total 0 x with h | h
  · exact Int.mul_nonneg h h
  · exact Int.mul_nonneg_of_nonpos_of_nonpos h h
theorem VI.lt' {W : World} {i : Nat} {b1 : Bool} {a1 : Option Addr} {n1 c1 : Nat} {x : Int} (h : VI W i b1 a1 n1 c1 x) : i < W.heap.size := World.block_lt_of_cell? W _ h.k0
theorem bits_zero : bitsN 0 = 0 := rfl
theorem two_gen {k j : Nat} (h : k < 32 * j) : 2 ^ k < BB ^ j := by
  rw [show BB = 2 ^ 32 from rfl, ← Nat.pow_mul]; exact Nat.pow_lt_pow_right (by decide) h
theorem two_bd {k : Nat} (h : k ≤ 500) : ((2 ^ k : Nat) : Int).natAbs < BB ^ 16 := two_gen (j := 16) (by omega)
/-- Four numbers in variables, one of which the call made itself. -/
structure RS (w W : World) (i j k l : Nat) (b1 : Bool) (a1 : Option Addr) (n1 c1 : Nat) (x : Int) (b2 : Bool) (a2 : Option Addr) (n2 c2 : Nat) (y : Int) (b3 : Bool) (a3 : Option Addr) (n3 c3 : Nat) (q : Int) (b4 : Bool) (a4 : Option Addr) (n4 c4 : Nat) (r : Int) : Prop where
  t : T4 w W i j k l b1 a1 n1 c1 x b2 a2 n2 c2 y b3 a3 n3 c3 q b4 a4 n4 c4 r
  bx : Bx W 25 l (.bool b4) (.slice a4 n4 c4)
  ni : l ≠ i
  nj : l ≠ j
  nk : l ≠ k
  lo : w.heap.size ≤ l
section
variable {w W W' : World} {i j k l : Nat} {b1 : Bool} {a1 : Option Addr} {n1 c1 : Nat} {x : Int} {b2 : Bool} {a2 : Option Addr} {n2 c2 : Nat} {y : Int} {b3 : Bool} {a3 : Option Addr} {n3 c3 : Nat} {q : Int} {b4 : Bool} {a4 : Option Addr} {n4 c4 : Nat} {r : Int}
theorem VI.other' {W : World} {i : Nat} {b1 : Bool} {a1 : Option Addr} {n1 c1 : Nat} {x : Int} (h : VI W i b1 a1 n1 c1 x) {k : Nat} {bk : Bool} {ak : Option Addr} {nk ck : Nat} (hk : Bx W 25 k (.bool bk) (.slice ak nk ck)) (hki : k ≠ i) (u v : Value) :
    VI ((W.setCell ⟨k, 0, none⟩ u).setCell ⟨k, 1, none⟩ v) i b1 a1 n1 c1 x := ⟨far2 h.k0 (Ne.symm hki), far2 h.k1 (Ne.symm hki), h.num.store hk _ _⟩
theorem Bx.vi {W : World} {k : Nat} {b : Bool} {a : Option Addr} {n c : Nat} {z : Int} (h : Bx W 25 k (.bool b) (.slice a n c)) (hn : Num W b a n c z) : VI W k b a n c z := ⟨h.cells.1, h.cells.2.1, hn⟩
theorem RS.later (h : RS w W i j k l b1 a1 n1 c1 x b2 a2 n2 c2 y b3 a3 n3 c3 q b4 a4 n4 c4 r) (hb : Below W.heap.size W W') : RS w W' i j k l b1 a1 n1 c1 x b2 a2 n2 c2 y b3 a3 n3 c3 q b4 a4 n4 c4 r :=
  ⟨h.t.later hb, h.bx.below hb, h.ni, h.nj, h.nk, h.lo⟩
theorem RS.put (h : RS w W i j k l b1 a1 n1 c1 x b2 a2 n2 c2 y b3 a3 n3 c3 q b4 a4 n4 c4 r) {b : Bool} {a : Option Addr} {n c : Nat} {z : Int} (hn : Num W b a n c z) :
    RS w ((W.setCell ⟨l, 0, none⟩ (.bool b)).setCell ⟨l, 1, none⟩ (.slice a n c)) i j k l b1 a1 n1 c1 x b2 a2 n2 c2 y b3 a3 n3 c3 q b a n c z :=
  ⟨⟨h.t.below.trans ((only2 _ _ _ _).below h.lo), h.t.X.other' h.bx h.ni _ _, h.t.Y.other' h.bx h.nj _ _, h.t.Q.other' h.bx h.nk _ _, (h.bx.self _ _).vi (hn.store h.bx _ _)⟩, h.bx.self _ _, h.ni, h.nj, h.nk, h.lo⟩
end
theorem region_invA {P : Program} {Q : Exit → Act → World → Prop} {id : Nat} {a : Act} {w : World} {l : List Oper} (n : Nat) (I : Act → (Nat → Bool) → Act → World → Prop) (hm : P.follows .mixedOrders = true) (hB : tailsB .any l.toArray n = true)
    (h0 : I a (fun _ => false) a w.drew)
    (step : ∀ L a' w i, i < n → I a L a' w → L i = false → (∀ j, Region.waitsFor .any l.toArray i j = true → L j = true) → wpOp P l.toArray Q i (I a (upd L i)) a' w)
    (fin : ∀ a' w L, (∀ j, j < n → L j = true) → I a L a' w → wpList P l.toArray Q (l.drop n) a' w) : (Code.region id l.toArray true).wp P Q a w :=
  wp_region_inv n (I a) hm hB h0 step (fun a' w ⟨L, h1, h2⟩ => fin a' w L h1 h2)
/-- The act behind what the loop's region has done. -/
def sets18 (a : Act) (v72 v73 v74 : Value) : Act := { a with tmps := ((a.tmps.setIfInBounds 72 v72).setIfInBounds 73 v73).setIfInBounds 74 v74 }
def sets23 (a : Act) (v22 v106 v107 v108 : Value) : Act := { a with tmps := (((a.tmps.setIfInBounds 22 v22).setIfInBounds 106 v106).setIfInBounds 107 v107).setIfInBounds 108 v108 }

set_option maxRecDepth 100000 in
set_option maxHeartbeats 12800000 in
theorem LongRoots_any (s : ByteArray) (w : World) (hs : s.size ≤ maxLen) :
    Calls Tryd.prog 7 #[.string s] w (PVal (.bool true) w) := by
  have HS := Lib.hid hs
  have H0 : Hid ((⟨#[48]⟩ : ByteArray).size ≤ maxLen) := by show _ ≤ _; decide
  clear hs
  go_enter Tryd.func7, Tryd.ntmps7
  go_wp2_with fail
  refine (awake_any _).mono ?_
  rintro e w0 ⟨rfl, hB0⟩
  go_wp2_with fail
  refine (two_any s ⟨#[48]⟩ _ HS.out H0.out).mono ?_
  rintro e w1 ⟨b1, a1, n1, c1, b2, a2, n2, c2, b8, a8, n8, c8, b9, a9, n9, c9, rfl, hX, hY, hRx, hRy, hB1⟩
  clear hRx hRy
  obtain ⟨hV1, _, hB2⟩ := vi_four hX hY 25 28 (.cells #[.bool b8, .slice a8 n8 c8] 28) (.cells #[.bool b9, .slice a9 n9 c9] 28)
  have hB3 := (hB0.trans (hB1.mono hB0.size)).trans (hB2.mono (hB0.trans (hB1.mono hB0.size)).size)
  clear hX hY hB0 hB1 hB2
  obtain ⟨is1, his1⟩ : ∃ q, twoB s ⟨#[48]⟩ = q := ⟨_, rfl⟩
  rw [his1]
  have HI1 := Lib.hid his1
  clear his1
  go_upto_region 3 with (fail)
  generalize (((w1.alloc (.cells #[.bool b1, .slice a1 n1 c1] 25)).alloc (.cells #[.bool b2, .slice a2 n2 c2] 25)).alloc (.cells #[.bool b8, .slice a8 n8 c8] 28)).alloc (.cells #[.bool b9, .slice a9 n9 c9] 28) = W1 at *
  rcases is1 with _ | _
  · go_wp2
    go_ret
    exact ⟨rfl, hB3⟩
  have l1 := pz_len hV1.num (twoB_ok HI1.out).1
  have HXT : Hid ((pZ s).natAbs < 10 ^ 150) := by
    obtain ⟨h1, h2, h3⟩ := (twoB_ok HI1.out).1
    show _ < _
    rw [h2]
    refine Nat.lt_of_lt_of_le (zval_lt h1) (Nat.pow_le_pow_right (by decide) ?_)
    rw [size_list]; exact h3
  clear HI1 HS H0
  generalize pZ s = x at *
  have HXB : Hid (x.natAbs < BB ^ 150) := Nat.lt_of_lt_of_le HXT.out (ten_le 150)
  have hnb := bits_le HXT.out
  clear HXT
  have p0 := hV1.k0
  have p1 := hV1.k1
  go_wp2_with fail
  refine (Mul_any b1 a1 n1 c1 x b1 a1 n1 c1 x _ hV1.num hV1.num (by omega) (by omega)).mono ?_
  rintro e w2 ⟨b2, a2, n2, c2, rfl, hN2, _, hb⟩
  have hE := hb.trans ((below_new w2 (.cells #[.bool b2, .slice a2 n2 c2] 25)).mono hb.size)
  have hV2 := hV1.below hE
  have hC2 := hB3.trans (hE.mono hB3.size)
  have hM2 := hN2.below (below_new w2 (.cells #[.bool b2, .slice a2 n2 c2] 25))
  have hb2 : b2 = false := by rw [hN2.sgn]; simp only [decide_eq_false_iff_not, Int.not_lt]; exact int_sq_nn x
  subst hb2
  have l2 := len_of hN2 (bnd_mul HXB.out HXB.out) (by omega)
  clear p0 p1 hV1 hB3 hb hE hN2
  go_wp2_with fail
  generalize w2.alloc (.cells #[.bool false, .slice a2 n2 c2] 25) = W2 at *
  refine (Root_pos a2 n2 c2 (x * x) _ hM2 l2).mono ?_
  rintro e w3 ⟨R, hR1, hR2, b3, a3, n3, c3, rfl, hN3, _, hb⟩
  obtain rfl := sq_root hR1 hR2
  clear hR1 hR2 hM2
  have hY3 := hN3.below (below_new w3 (.cells #[.bool b3, .slice a3 n3 c3] 25))
  have hE1 := hb.trans ((below_new w3 (.cells #[.bool b3, .slice a3 n3 c3] 25)).mono hb.size)
  have hV3 := hV2.below hE1
  have hE2 := hE1.trans ((below_new (w3.alloc (.cells #[.bool b3, .slice a3 n3 c3] 25)) (.cells #[.bool b1, .slice a1 n1 c1] 25)).mono hE1.size)
  have hV4 := hV2.below hE2
  have hC4 := hC2.trans (hE2.mono hC2.size)
  have hR4 := (vi_new 25 hN3).below (below_new (w3.alloc (.cells #[.bool b3, .slice a3 n3 c3] 25)) (.cells #[.bool b1, .slice a1 n1 c1] 25))
  have hP4 := bx_new (w3.alloc (.cells #[.bool b3, .slice a3 n3 c3] 25)) 25 (.bool b1) (.slice a1 n1 c1)
  rw [show (w3.alloc (.cells #[.bool b3, .slice a3 n3 c3] 25)).heap.size = w3.heap.size + 1 from by simp] at hP4
  have p0 := hV3.k0
  have p1 := hV3.k1
  have q0 := hV4.k0
  have q1 := hV4.k1
  have hsz : w1.heap.size < w3.heap.size ∧ w.heap.size ≤ w3.heap.size := ⟨Nat.lt_of_lt_of_le hV2.lt' hb.size, Nat.le_trans hC2.size hb.size⟩
  clear hV2 hC2 hb hE1 hE2 hV3 hN3 hY3
  go_wp2_with fail
  generalize (w3.alloc (.cells #[.bool b3, .slice a3 n3 c3] 25)).alloc (.cells #[.bool b1, .slice a1 n1 c1] 25) = W4 at *
  refine (Sign_any b1 a1 n1 c1 x _ hV4.num).mono ?_
  rintro e w5 ⟨rfl, hb⟩
  replace hV4 := hV4.below hb
  replace hR4 := hR4.below hb
  replace hP4 := hP4.below hb
  replace hC4 := hC4.trans (hb.mono hC4.size)
  clear hb p0 p1 q0 q1
  rcases Int.lt_or_le x 0 with hx | hx
  · -- below 0
    have hs1 : sgnI x = -1 := by unfold sgnI; rw [if_pos hx]
    rw [hs1]
    clear hs1
    have p0 := hV4.k0
    have p1 := hV4.k1
    obtain ⟨q0, q1, q2, q3⟩ := hP4.cells
    go_wp2_with fail
    refine (Neg_any b1 a1 n1 c1 x _ hV4.num (by omega)).mono ?_
    rintro e w6 ⟨bp, ap, np, cp, rfl, hNp, _, hb⟩
    replace hV4 := hV4.below hb
    replace hR4 := hR4.below hb
    replace hP4 := hP4.below hb
    replace hC4 := hC4.trans (hb.mono hC4.size)
    clear p0 p1 q0 q1 q2 q3 hb
    have hV5 := hV4.other' hP4 (by omega) (.bool bp) (.slice ap np cp)
    have hR5 := hR4.other' hP4 (by omega) (.bool bp) (.slice ap np cp)
    have hP5 := (hP4.self (.bool bp) (.slice ap np cp)).vi (hNp.store hP4 _ _)
    have hC5 := hC4.trans ((only2 w6 (w3.heap.size + 1) (.bool bp) (.slice ap np cp)).below (by omega))
    obtain ⟨q0, q1, q2, q3⟩ := hP4.cells
    have r0 := hR5.k0
    have r1 := hR5.k1
    clear hV4 hR4 hC4 hNp hP4
    rw [show -x = ((x.natAbs : Nat) : Int) from by omega] at hP5
    obtain ⟨p, hp⟩ : ∃ p : Int, p = ((x.natAbs : Nat) : Int) := ⟨_, rfl⟩
    rw [← hp] at hP5 hR5
    have HPX := Lib.hid hp
    clear hp
    have p0 := hP5.k0
    have p1 := hP5.k1
    go_wp2_with fail
    generalize (w6.setCell ⟨w3.heap.size + 1, 0, none⟩ (.bool bp)).setCell ⟨w3.heap.size + 1, 1, none⟩ (.slice ap np cp) = W6 at *
    refine (Cmp_any b3 a3 n3 c3 p bp ap np cp p _ hR5.num hP5.num).mono ?_
    rintro e w6 ⟨rfl, hb⟩
    rw [cmp_self]
    replace hV5 := hV5.below hb
    replace hP5 := hP5.below hb
    replace hC5 := hC5.trans (hb.mono hC5.size)
    have hsz6 : w3.heap.size + 1 < w6.heap.size := hP5.lt'
    clear r0 r1 p0 p1 hR5 hb
    have p0 := hV5.k0
    have p1 := hV5.k1
    go_wp2_with fail
    have hb1 : b1 = true := by rw [hV5.num.sgn]; simpa using hx
    subst hb1
    refine (Root_neg a1 n1 c1 _).mono ?_
    rintro e w7 ⟨b7, a7, n7, c7, rfl, hN7, _, hb⟩
    obtain ⟨sv, hsv⟩ : ∃ z : Int, z = 0 := ⟨_, rfl⟩
    rw [← hsv] at hN7
    clear hsv
    have hE := hb.trans ((below_new w7 (.cells #[.bool b7, .slice a7 n7 c7] 25)).mono hb.size)
    replace hV5 := hV5.below hE
    replace hP5 := hP5.below hE
    replace hC5 := hC5.trans (hE.mono hC5.size)
    have hS5 := vi_new 25 hN7
    have hsz7 : w3.heap.size + 1 < w7.heap.size := Nat.lt_of_lt_of_le hsz6 hb.size
    clear p0 p1 hb hE hN7
    have p0 := hV5.k0
    have p1 := hV5.k1
    go_wp2_with fail
    generalize w7.alloc (.cells #[.bool b7, .slice a7 n7 c7] 25) = W7 at *
    refine (Bits_any true a1 n1 c1 x _ hV5.num (by omega)).mono ?_
    rintro e w8 ⟨rfl, hb⟩
    replace hV5 := hV5.below hb
    replace hP5 := hP5.below hb
    replace hS5 := hS5.below hb
    replace hC5 := hC5.trans (hb.mono hC5.size)
    clear hb p0 p1
    obtain ⟨nb, hnbe⟩ : ∃ nb, nb = bitsN x.natAbs := ⟨_, rfl⟩
    rw [← hnbe]
    rw [← hnbe] at hnb
    have HNB := Lib.hid hnbe
    clear hnbe
    go_wp2_with fail
    refine (Of_any 1 _ (by omega) (by omega)).mono ?_
    rintro e w9 ⟨b9, a9, n9, c9, rfl, hN9, _, hb⟩
    have hE := hb.trans ((below_new w9 (.cells #[.bool b9, .slice a9 n9 c9] 25)).mono hb.size)
    have hsz9 : w7.heap.size < w9.heap.size := Nat.lt_of_lt_of_le hS5.lt' hb.size
    have hRS : RS w (w9.alloc (.cells #[.bool b9, .slice a9 n9 c9] 25)) w1.heap.size (w3.heap.size + 1) w7.heap.size w9.heap.size true a1 n1 c1 x bp ap np cp p b7 a7 n7 c7 sv b9 a9 n9 c9 1 :=
      ⟨⟨hC5.trans (hE.mono hC5.size), hV5.below hE, hP5.below hE, hS5.below hE, vi_new 25 hN9⟩, bx_new _ _ _ _, by omega, by omega, by omega, by have := hC5.size; have := hb.size; omega⟩
    clear hV5 hP5 hS5 hC5 hb hE hN9
    go_wp2
    generalize w9.alloc (.cells #[.bool b9, .slice a9 n9 c9] 25) = W9 at *
    go_loopw [19] (fun iv wr => ∃ k : Nat, k ≤ nb ∧ iv = .int .i64 k ∧ ∃ (b : Bool) (a : Option Addr) (n c : Nat), RS w wr w1.heap.size (w3.heap.size + 1) w7.heap.size w9.heap.size true a1 n1 c1 x bp ap np cp p b7 a7 n7 c7 sv b a n c ((2 ^ k : Nat) : Int)) (fun iv _ => nb - (intOf iv).toNat)
    case atStart => exact ⟨0, Nat.zero_le _, rfl, b9, a9, n9, c9, hRS⟩
    case round =>
      clear hRS
      obtain ⟨k, hk, rfl, b4, a4, n4, c4, hRS⟩ := hrel
      by_cases hlt : k < nb
      · have d1 : decide ((k : Int) < (nb : Int)) = true := decide_eq_true (by omega)
        have d2 : decide ((k : Int) < 1000) = true := decide_eq_true (by omega)
        have l4 := len_of hRS.t.R.num (two_bd (k := k) (by omega)) (by omega)
        have HP2 : Hid (((2 ^ k : Nat) : Int) * 2 = ((2 ^ (k + 1) : Nat) : Int)) := by show _ = _; rw [Nat.pow_succ, Int.natCast_mul]; rfl
        obtain ⟨pw, hpw⟩ : ∃ pw : Int, pw = ((2 ^ k : Nat) : Int) := ⟨_, rfl⟩
        rw [← hpw] at hRS HP2
        clear hpw
        go_upto_region 18 with (fail)
        refine region_invA 3 (fun a0 L a' W => ∃ v72 v73 v74, a' = sets18 a0 v72 v73 v74 ∧ RS w W w1.heap.size (w3.heap.size + 1) w7.heap.size w9.heap.size true a1 n1 c1 x bp ap np cp p b7 a7 n7 c7 sv b4 a4 n4 c4 pw ∧ (L 0 = true → v72 = .agg #[.bool b4, .slice a4 n4 c4]) ∧ (L 1 = true → HN W v73 2) ∧ (L 2 = true → HN W v74 (pw * 2))) (by kernel_rfl) (by kernel_rfl) ?_ ?_ ?_
        · exact ⟨_, _, _, by simp only [sets18, List.setIfInBounds_toArray, List.set_cons_succ, List.set_cons_zero]; rfl, hRS.later (Below.refl _ _).drew, nofun, nofun, nofun⟩
        · intro L a' W i hi hI hu hd
          obtain ⟨v72, v73, v74, ha, J, h0, h1, h2⟩ := hI
          simp only [sets18, List.setIfInBounds_toArray, List.set_cons_succ, List.set_cons_zero] at ha
          subst ha
          clear hRS
          obtain rfl | rfl | rfl : i = 0 ∨ i = 1 ∨ i = 2 := by omega
          · apply wpOp_at
            case ho => rfl
            case hg => rfl
            intro K' hK
            have HK := Lib.hid hK
            obtain ⟨k0, k1, k2, k3⟩ := J.bx.cells
            clear hK hd
            go_simp
            exact HK.out _ _ ⟨_, v73, v74, by simp [sets18], J, fun _ => rfl, fun e => h1 (by rwa [upd_ne (by decide)] at e), fun e => h2 (by rwa [upd_ne (by decide)] at e)⟩
          · apply wpOp_at
            case ho => rfl
            case hg => rfl
            intro K' hK
            have HK := Lib.hid hK
            clear hK hd
            go_simp
            go_at_call 32
            refine (Of_any 2 _ (by omega) (by omega)).mono ?_
            rintro e W' ⟨b5, a5, n5, c5, rfl, hN5, _, hB5⟩
            exact HK.out _ _ ⟨v72, _, v74, by simp [sets18], J.later hB5, fun e => h0 (by rwa [upd_ne (by decide)] at e), fun _ => ⟨b5, a5, n5, c5, rfl, hN5⟩, fun e => (h2 (by rwa [upd_ne (by decide)] at e)).below hB5⟩
          · apply wpOp_at
            case ho => rfl
            case hg => rfl
            intro K' hK
            have HK := Lib.hid hK
            have e0 := h0 (hd 0 (by kernel_rfl))
            obtain ⟨b5, a5, n5, c5, e1, hN5⟩ := h1 (hd 1 (by kernel_rfl))
            subst e0
            subst e1
            clear hK hd
            go_simp
            go_at_call 13
            refine (Mul_any b4 a4 n4 c4 pw b5 a5 n5 c5 2 _ J.t.R.num hN5 l4 (len_of hN5 (k := 1) (by decide) (by decide))).mono ?_
            rintro e W' ⟨b6, a6, n6, c6, rfl, hN6, _, hB6⟩
            exact HK.out _ _ ⟨_, _, _, by simp [sets18], J.later hB6, fun _ => rfl, fun _ => ⟨b5, a5, n5, c5, rfl, hN5.below hB6⟩, fun _ => ⟨b6, a6, n6, c6, rfl, hN6⟩⟩
        · intro a' W L hL hI
          obtain ⟨v72, v73, v74, ha, J, h0, h1, h2⟩ := hI
          simp only [sets18, List.setIfInBounds_toArray, List.set_cons_succ, List.set_cons_zero] at ha
          subst ha
          obtain ⟨b6, a6, n6, c6, e1, hN6⟩ := h2 (hL 2 (by decide))
          subst e1
          obtain ⟨k0, k1, k2, k3⟩ := J.bx.cells
          have hnew := J.put hN6
          rw [HP2.out] at hnew
          clear hRS hL h0 h1 h2 J hN6
          simp only [List.drop_succ_cons, List.drop_zero]
          go_wp2
          go_roundw
          case rel => exact ⟨k + 1, by omega, by go_num, b6, a6, n6, c6, hnew⟩
          case measure => simp [intOf]; omega
      · obtain rfl : k = nb := by omega
        have hpp : p < ((2 ^ k : Nat) : Int) ∧ ((0 < x.natAbs ∧ ((2 ^ k : Nat) : Int) ≤ p * 2) ∨ (x.natAbs = 0 ∧ k = 0 ∧ p = 0)) := by
          rw [HPX.out, HNB.out]
          rcases Nat.eq_zero_or_pos x.natAbs with h | h
          · rw [h]; exact ⟨by decide, .inr ⟨rfl, rfl, rfl⟩⟩
          · have := bits_pow h; exact ⟨by omega, .inl ⟨h, by omega⟩⟩
        have l4 := len_of hRS.t.R.num (two_bd (k := k) (by omega)) (by omega)
        have lp : np ≤ 10000000 := len_of hRS.t.Y.num (k := 150) (by rw [HPX.out]; exact HXB.out) (by omega)
        obtain ⟨pw, hpw⟩ : ∃ pw : Int, pw = ((2 ^ k : Nat) : Int) := ⟨_, rfl⟩
        rw [← hpw] at hRS hpp
        clear hpw
        have HPP := Lib.hid hpp
        clear hpp hlt
        have hT := hRS.t
        clear hRS
        obtain ⟨p0, p1, q0, q1, r0, r1, u0, u1⟩ := hT.hs
        go_wp2_with fail
        refine (Cmp_any bp ap np cp p b4 a4 n4 c4 pw _ hT.Y.num hT.R.num).mono ?_
        rintro e w10 ⟨rfl, hb⟩
        rw [cmp_lt' HPP.out.1]
        have hT1 := hT.later hb
        clear hb hT p0 p1 q0 q1 r0 r1 u0 u1
        go_wp2
        go_region_held3 (fun w' => w'.cell? ⟨w1.heap.size, 0, none⟩ = some (.bool true) ∧ w'.cell? ⟨w1.heap.size, 1, none⟩ = some (.slice a1 n1 c1) ∧ w'.cell? ⟨w3.heap.size + 1, 0, none⟩ = some (.bool bp) ∧ w'.cell? ⟨w3.heap.size + 1, 1, none⟩ = some (.slice ap np cp) ∧ w'.cell? ⟨w7.heap.size, 0, none⟩ = some (.bool b7) ∧ w'.cell? ⟨w7.heap.size, 1, none⟩ = some (.slice a7 n7 c7) ∧ w'.cell? ⟨w9.heap.size, 0, none⟩ = some (.bool b4) ∧ w'.cell? ⟨w9.heap.size, 1, none⟩ = some (.slice a4 n4 c4))
          (first | exact hT1.drew.hs | exact hT1.hs | exact hT2.hs | exact hT3.hs | exact hT4.hs)
          (first
            | (go_at_call 32; (with_reducible refine (Of_any 2 _ (by omega) (by omega)).mono ?_); rintro e w11 ⟨d1b, d1a, d1n, d1c, rfl, hD1, _, hb⟩; have hT2 := hT1.later (below_undrew hb))
            | (go_at_call 13; (with_reducible refine (Mul_any bp ap np cp p d1b d1a d1n d1c 2 _ hT2.Y.num hD1 lp (len_of hD1 (k := 1) (by decide) (by decide))).mono ?_); rintro e w12 ⟨d2b, d2a, d2n, d2c, rfl, hD2, _, hb2⟩; have hT3 := hT2.later hb2)
            | (go_at_call 16; (with_reducible refine (Cmp_any d2b d2a d2n d2c (p * 2) b4 a4 n4 c4 pw _ hD2 hT3.R.num).mono ?_); rintro e w13 ⟨rfl, hb3⟩; have hT4 := hT3.later hb3))
        clear hT1 hT2 hT3 hD1 hD2
        obtain ⟨ab, hab⟩ : ∃ ab, ab = cmpI (p * 2) pw := ⟨_, rfl⟩
        have hab0 : 0 ≤ ab := by
          rw [hab]; rcases HPP.out.2 with h | h
          · unfold cmpI; rw [if_neg (by omega)]; split <;> omega
          · omega
        rw [← hab]
        clear hab
        have hfin := hT4.below
        clear hT4
        go_wp2
        go_ret
        exact ⟨rfl, hfin⟩
  · -- from 0 on
    have hs1 : decide (sgnI x < 0) = false := by rw [decide_eq_false_iff_not]; rcases sgn_val x with h | h | h <;> omega
    have hR5 := hR4
    have hV5 := hV4
    have hC5 := hC4
    have hP5 := hP4.vi hV4.num
    clear hV4 hR4 hC4 hP4
    obtain ⟨bp, hbp⟩ : ∃ b, b = b1 := ⟨_, rfl⟩
    obtain ⟨ap, hap⟩ : ∃ b, b = a1 := ⟨_, rfl⟩
    obtain ⟨np, hnp⟩ : ∃ b, b = n1 := ⟨_, rfl⟩
    obtain ⟨cp, hcp⟩ : ∃ b, b = c1 := ⟨_, rfl⟩
    rw [← hbp, ← hap, ← hnp, ← hcp] at hP5
    clear hbp hap hnp hcp
    obtain ⟨p, hp⟩ : ∃ p : Int, p = ((x.natAbs : Nat) : Int) := ⟨_, rfl⟩
    have hpx : x = p := by omega
    have hP6 : VI w5 (w3.heap.size + 1) bp ap np cp p := by rw [← hpx]; exact hP5
    replace hP5 := hP6
    clear hP6 hpx
    rw [← hp] at hR5
    have HPX := Lib.hid hp
    clear hp
    have r0 := hR5.k0
    have r1 := hR5.k1
    have p0 := hP5.k0
    have p1 := hP5.k1
    go_wp2_with fail
    generalize w5 = W6 at *
    refine (Cmp_any b3 a3 n3 c3 p bp ap np cp p _ hR5.num hP5.num).mono ?_
    rintro e w6 ⟨rfl, hb⟩
    rw [cmp_self]
    replace hV5 := hV5.below hb
    replace hP5 := hP5.below hb
    replace hC5 := hC5.trans (hb.mono hC5.size)
    have hsz6 : w3.heap.size + 1 < w6.heap.size := hP5.lt'
    clear r0 r1 p0 p1 hR5 hb
    have p0 := hV5.k0
    have p1 := hV5.k1
    go_wp2_with fail
    have hb1 : b1 = false := by rw [hV5.num.sgn]; simp; omega
    subst hb1
    refine (Root_pos a1 n1 c1 x _ hV5.num (by omega)).mono ?_
    rintro e w7 ⟨Sn, hS1, hS2, b7, a7, n7, c7, rfl, hN7, _, hb⟩
    obtain ⟨sv, hsv⟩ : ∃ z : Int, z = (Sn : Int) := ⟨_, rfl⟩
    rw [← hsv] at hN7
    have HSV := Lib.hid hsv
    have HSS := Lib.hid (And.intro hS1 hS2)
    clear hsv hS1 hS2
    have hE := hb.trans ((below_new w7 (.cells #[.bool b7, .slice a7 n7 c7] 25)).mono hb.size)
    replace hV5 := hV5.below hE
    replace hP5 := hP5.below hE
    replace hC5 := hC5.trans (hE.mono hC5.size)
    have hS5 := vi_new 25 hN7
    have hsz7 : w3.heap.size + 1 < w7.heap.size := Nat.lt_of_lt_of_le hsz6 hb.size
    clear p0 p1 hb hE hN7
    have p0 := hV5.k0
    have p1 := hV5.k1
    go_wp2_with fail
    generalize w7.alloc (.cells #[.bool b7, .slice a7 n7 c7] 25) = W7 at *
    refine (Bits_any false a1 n1 c1 x _ hV5.num (by omega)).mono ?_
    rintro e w8 ⟨rfl, hb⟩
    replace hV5 := hV5.below hb
    replace hP5 := hP5.below hb
    replace hS5 := hS5.below hb
    replace hC5 := hC5.trans (hb.mono hC5.size)
    clear hb p0 p1
    obtain ⟨nb, hnbe⟩ : ∃ nb, nb = bitsN x.natAbs := ⟨_, rfl⟩
    rw [← hnbe]
    rw [← hnbe] at hnb
    have HNB := Lib.hid hnbe
    clear hnbe
    go_wp2_with fail
    refine (Of_any 1 _ (by omega) (by omega)).mono ?_
    rintro e w9 ⟨b9, a9, n9, c9, rfl, hN9, _, hb⟩
    have hE := hb.trans ((below_new w9 (.cells #[.bool b9, .slice a9 n9 c9] 25)).mono hb.size)
    have hsz9 : w7.heap.size < w9.heap.size := Nat.lt_of_lt_of_le hS5.lt' hb.size
    have hRS : RS w (w9.alloc (.cells #[.bool b9, .slice a9 n9 c9] 25)) w1.heap.size (w3.heap.size + 1) w7.heap.size w9.heap.size false a1 n1 c1 x bp ap np cp p b7 a7 n7 c7 sv b9 a9 n9 c9 1 :=
      ⟨⟨hC5.trans (hE.mono hC5.size), hV5.below hE, hP5.below hE, hS5.below hE, vi_new 25 hN9⟩, bx_new _ _ _ _, by omega, by omega, by omega, by have := hC5.size; have := hb.size; omega⟩
    clear hV5 hP5 hS5 hC5 hb hE hN9
    go_wp2
    generalize w9.alloc (.cells #[.bool b9, .slice a9 n9 c9] 25) = W9 at *
    go_loopw [19] (fun iv wr => ∃ k : Nat, k ≤ nb ∧ iv = .int .i64 k ∧ ∃ (b : Bool) (a : Option Addr) (n c : Nat), RS w wr w1.heap.size (w3.heap.size + 1) w7.heap.size w9.heap.size false a1 n1 c1 x bp ap np cp p b7 a7 n7 c7 sv b a n c ((2 ^ k : Nat) : Int)) (fun iv _ => nb - (intOf iv).toNat)
    case atStart => exact ⟨0, Nat.zero_le _, rfl, b9, a9, n9, c9, hRS⟩
    case round =>
      clear hRS
      obtain ⟨k, hk, rfl, b4, a4, n4, c4, hRS⟩ := hrel
      by_cases hlt : k < nb
      · have d1 : decide ((k : Int) < (nb : Int)) = true := decide_eq_true (by omega)
        have d2 : decide ((k : Int) < 1000) = true := decide_eq_true (by omega)
        have l4 := len_of hRS.t.R.num (two_bd (k := k) (by omega)) (by omega)
        have HP2 : Hid (((2 ^ k : Nat) : Int) * 2 = ((2 ^ (k + 1) : Nat) : Int)) := by show _ = _; rw [Nat.pow_succ, Int.natCast_mul]; rfl
        obtain ⟨pw, hpw⟩ : ∃ pw : Int, pw = ((2 ^ k : Nat) : Int) := ⟨_, rfl⟩
        rw [← hpw] at hRS HP2
        clear hpw
        go_upto_region 18 with (fail)
        refine region_invA 3 (fun a0 L a' W => ∃ v72 v73 v74, a' = sets18 a0 v72 v73 v74 ∧ RS w W w1.heap.size (w3.heap.size + 1) w7.heap.size w9.heap.size false a1 n1 c1 x bp ap np cp p b7 a7 n7 c7 sv b4 a4 n4 c4 pw ∧ (L 0 = true → v72 = .agg #[.bool b4, .slice a4 n4 c4]) ∧ (L 1 = true → HN W v73 2) ∧ (L 2 = true → HN W v74 (pw * 2))) (by kernel_rfl) (by kernel_rfl) ?_ ?_ ?_
        · exact ⟨_, _, _, by simp only [sets18, List.setIfInBounds_toArray, List.set_cons_succ, List.set_cons_zero]; rfl, hRS.later (Below.refl _ _).drew, nofun, nofun, nofun⟩
        · intro L a' W i hi hI hu hd
          obtain ⟨v72, v73, v74, ha, J, h0, h1, h2⟩ := hI
          simp only [sets18, List.setIfInBounds_toArray, List.set_cons_succ, List.set_cons_zero] at ha
          subst ha
          clear hRS
          obtain rfl | rfl | rfl : i = 0 ∨ i = 1 ∨ i = 2 := by omega
          · apply wpOp_at
            case ho => rfl
            case hg => rfl
            intro K' hK
            have HK := Lib.hid hK
            obtain ⟨k0, k1, k2, k3⟩ := J.bx.cells
            clear hK hd
            go_simp
            exact HK.out _ _ ⟨_, v73, v74, by simp [sets18], J, fun _ => rfl, fun e => h1 (by rwa [upd_ne (by decide)] at e), fun e => h2 (by rwa [upd_ne (by decide)] at e)⟩
          · apply wpOp_at
            case ho => rfl
            case hg => rfl
            intro K' hK
            have HK := Lib.hid hK
            clear hK hd
            go_simp
            go_at_call 32
            refine (Of_any 2 _ (by omega) (by omega)).mono ?_
            rintro e W' ⟨b5, a5, n5, c5, rfl, hN5, _, hB5⟩
            exact HK.out _ _ ⟨v72, _, v74, by simp [sets18], J.later hB5, fun e => h0 (by rwa [upd_ne (by decide)] at e), fun _ => ⟨b5, a5, n5, c5, rfl, hN5⟩, fun e => (h2 (by rwa [upd_ne (by decide)] at e)).below hB5⟩
          · apply wpOp_at
            case ho => rfl
            case hg => rfl
            intro K' hK
            have HK := Lib.hid hK
            have e0 := h0 (hd 0 (by kernel_rfl))
            obtain ⟨b5, a5, n5, c5, e1, hN5⟩ := h1 (hd 1 (by kernel_rfl))
            subst e0
            subst e1
            clear hK hd
            go_simp
            go_at_call 13
            refine (Mul_any b4 a4 n4 c4 pw b5 a5 n5 c5 2 _ J.t.R.num hN5 l4 (len_of hN5 (k := 1) (by decide) (by decide))).mono ?_
            rintro e W' ⟨b6, a6, n6, c6, rfl, hN6, _, hB6⟩
            exact HK.out _ _ ⟨_, _, _, by simp [sets18], J.later hB6, fun _ => rfl, fun _ => ⟨b5, a5, n5, c5, rfl, hN5.below hB6⟩, fun _ => ⟨b6, a6, n6, c6, rfl, hN6⟩⟩
        · intro a' W L hL hI
          obtain ⟨v72, v73, v74, ha, J, h0, h1, h2⟩ := hI
          simp only [sets18, List.setIfInBounds_toArray, List.set_cons_succ, List.set_cons_zero] at ha
          subst ha
          obtain ⟨b6, a6, n6, c6, e1, hN6⟩ := h2 (hL 2 (by decide))
          subst e1
          obtain ⟨k0, k1, k2, k3⟩ := J.bx.cells
          have hnew := J.put hN6
          rw [HP2.out] at hnew
          clear hRS hL h0 h1 h2 J hN6
          simp only [List.drop_succ_cons, List.drop_zero]
          go_wp2
          go_roundw
          case rel => exact ⟨k + 1, by omega, by go_num, b6, a6, n6, c6, hnew⟩
          case measure => simp [intOf]; omega
      · obtain rfl : k = nb := by omega
        have hpp : p < ((2 ^ k : Nat) : Int) ∧ ((0 < x.natAbs ∧ ((2 ^ k : Nat) : Int) ≤ p * 2) ∨ (x.natAbs = 0 ∧ k = 0 ∧ p = 0)) := by
          rw [HPX.out, HNB.out]
          rcases Nat.eq_zero_or_pos x.natAbs with h | h
          · rw [h]; exact ⟨by decide, .inr ⟨rfl, rfl, rfl⟩⟩
          · have := bits_pow h; exact ⟨by omega, .inl ⟨h, by omega⟩⟩
        have l4 := len_of hRS.t.R.num (two_bd (k := k) (by omega)) (by omega)
        have lp : np ≤ 10000000 := len_of hRS.t.Y.num (k := 150) (by rw [HPX.out]; exact HXB.out) (by omega)
        obtain ⟨pw, hpw⟩ : ∃ pw : Int, pw = ((2 ^ k : Nat) : Int) := ⟨_, rfl⟩
        rw [← hpw] at hRS hpp
        clear hpw
        have HPP := Lib.hid hpp
        clear hpp hlt
        have hT := hRS.t
        clear hRS
        obtain ⟨p0, p1, q0, q1, r0, r1, u0, u1⟩ := hT.hs
        go_wp2_with fail
        refine (Cmp_any bp ap np cp p b4 a4 n4 c4 pw _ hT.Y.num hT.R.num).mono ?_
        rintro e w10 ⟨rfl, hb⟩
        rw [cmp_lt' HPP.out.1]
        have hT1 := hT.later hb
        clear hb hT p0 p1 q0 q1 r0 r1 u0 u1
        go_wp2
        go_region_held3 (fun w' => w'.cell? ⟨w1.heap.size, 0, none⟩ = some (.bool false) ∧ w'.cell? ⟨w1.heap.size, 1, none⟩ = some (.slice a1 n1 c1) ∧ w'.cell? ⟨w3.heap.size + 1, 0, none⟩ = some (.bool bp) ∧ w'.cell? ⟨w3.heap.size + 1, 1, none⟩ = some (.slice ap np cp) ∧ w'.cell? ⟨w7.heap.size, 0, none⟩ = some (.bool b7) ∧ w'.cell? ⟨w7.heap.size, 1, none⟩ = some (.slice a7 n7 c7) ∧ w'.cell? ⟨w9.heap.size, 0, none⟩ = some (.bool b4) ∧ w'.cell? ⟨w9.heap.size, 1, none⟩ = some (.slice a4 n4 c4))
          (first | exact hT1.drew.hs | exact hT1.hs | exact hT2.hs | exact hT3.hs | exact hT4.hs)
          (first
            | (go_at_call 32; (with_reducible refine (Of_any 2 _ (by omega) (by omega)).mono ?_); rintro e w11 ⟨d1b, d1a, d1n, d1c, rfl, hD1, _, hb⟩; have hT2 := hT1.later (below_undrew hb))
            | (go_at_call 13; (with_reducible refine (Mul_any bp ap np cp p d1b d1a d1n d1c 2 _ hT2.Y.num hD1 lp (len_of hD1 (k := 1) (by decide) (by decide))).mono ?_); rintro e w12 ⟨d2b, d2a, d2n, d2c, rfl, hD2, _, hb2⟩; have hT3 := hT2.later hb2)
            | (go_at_call 16; (with_reducible refine (Cmp_any d2b d2a d2n d2c (p * 2) b4 a4 n4 c4 pw _ hD2 hT3.R.num).mono ?_); rintro e w13 ⟨rfl, hb3⟩; have hT4 := hT3.later hb3))
        clear hT1 hT2 hT3 hD1 hD2
        obtain ⟨ab, hab⟩ : ∃ ab, ab = cmpI (p * 2) pw := ⟨_, rfl⟩
        obtain ⟨sg0, hsg⟩ : ∃ z, z = sgnI x := ⟨_, rfl⟩
        have hab0 : 0 ≤ ab ∨ (ab = -1 ∧ sg0 = 0 ∧ k = 0) := by
          rw [hab, hsg]; rcases HPP.out.2 with h | ⟨h, h1, h2⟩
          · left; unfold cmpI; rw [if_neg (by omega)]; split <;> omega
          · right; have := HPP.out.1; have hx0 : sgnI x = 0 := by (obtain rfl : x = 0 := by omega); rfl
            rw [cmp_lt' (by omega)]; exact ⟨rfl, hx0, h1⟩
        rw [← hab]
        rw [← hsg] at hs1
        clear hab HPP HPX
        rw [← hsg]
        clear hsg
        have hsv0 : 0 ≤ sv := by rw [HSV.out]; omega
        have HSB : Hid (sv.natAbs < BB ^ 150) := by
          have h1 := HSS.out.1
          show _ < _
          rw [HSV.out]
          refine Nat.lt_of_le_of_lt ?_ HXB.out
          show Sn ≤ x.natAbs
          rcases Nat.eq_zero_or_pos Sn with h | h
          · omega
          · exact Nat.le_trans (Nat.le_mul_of_pos_right Sn h) h1
        have HLO : Hid (cmpI (sv * sv) x ≤ 0) := by
          show _ ≤ _
          have h1 : sv * sv ≤ x := by rw [HSV.out]; have := HSS.out.1; have e : ((Sn * Sn : Nat) : Int) = (Sn : Int) * (Sn : Int) := Int.natCast_mul _ _; omega
          unfold cmpI; split
          · omega
          · rw [if_neg (by omega)]; exact Int.le_refl _
        have HHI : Hid (cmpI ((sv + 1) * (sv + 1)) x = 1) := by
          show _ = _
          have h1 : x < (sv + 1) * (sv + 1) := by rw [HSV.out]; have := HSS.out.2; have e : (((Sn + 1) * (Sn + 1) : Nat) : Int) = ((Sn : Int) + 1) * ((Sn : Int) + 1) := Int.natCast_mul _ _; omega
          exact cmp_gt' h1
        have l7 := len_of hT4.Q.num HSB.out (by omega)
        clear HSV HSS
        go_upto_region 23 with (fail)
        refine region_invA 4 (fun a0 L a' W => ∃ v22 v106 v107 v108, a' = sets23 a0 v22 v106 v107 v108 ∧ T4 w W w1.heap.size (w3.heap.size + 1) w7.heap.size w9.heap.size false a1 n1 c1 x bp ap np cp p b7 a7 n7 c7 sv b4 a4 n4 c4 pw ∧ (L 0 = true → v106 = .agg #[.bool b7, .slice a7 n7 c7]) ∧ (L 1 = true → HN W v107 1) ∧ (L 2 = true → HN W v108 (sv + 1)) ∧ (L 3 = true → Nw w W w1.heap.size w7.heap.size v22)) (by kernel_rfl) (by kernel_rfl) ?_ ?_ ?_
        · exact ⟨_, _, _, _, by simp only [sets23, List.setIfInBounds_toArray, List.set_cons_succ, List.set_cons_zero]; rfl, hT4.drew, nofun, nofun, nofun, nofun⟩
        · intro L a' W i hi hI hu hd
          obtain ⟨v22, v106, v107, v108, ha, J, h0, h1, h2, h3⟩ := hI
          simp only [sets23, List.setIfInBounds_toArray, List.set_cons_succ, List.set_cons_zero] at ha
          subst ha
          clear hT4
          obtain rfl | rfl | rfl | rfl : i = 0 ∨ i = 1 ∨ i = 2 ∨ i = 3 := by omega
          · apply wpOp_at
            case ho => rfl
            case hg => rfl
            intro K' hK
            have HK := Lib.hid hK
            have k0 := J.Q.k0
            have k1 := J.Q.k1
            clear hK hd
            go_simp
            exact HK.out _ _ ⟨v22, _, v107, v108, by simp [sets23], J, fun _ => rfl, fun e => h1 (by rwa [upd_ne (by decide)] at e), fun e => h2 (by rwa [upd_ne (by decide)] at e), fun e => h3 (by rwa [upd_ne (by decide)] at e)⟩
          · apply wpOp_at
            case ho => rfl
            case hg => rfl
            intro K' hK
            have HK := Lib.hid hK
            clear hK hd
            go_simp
            go_at_call 32
            refine (Of_any 1 _ (by omega) (by omega)).mono ?_
            rintro e W' ⟨b5, a5, n5, c5, rfl, hN5, _, hB5⟩
            exact HK.out _ _ ⟨v22, v106, _, v108, by simp [sets23], J.later hB5, fun e => h0 (by rwa [upd_ne (by decide)] at e), fun _ => ⟨b5, a5, n5, c5, rfl, hN5⟩, fun e => (h2 (by rwa [upd_ne (by decide)] at e)).below hB5, fun e => (h3 (by rwa [upd_ne (by decide)] at e)).below hB5⟩
          · apply wpOp_at
            case ho => rfl
            case hg => rfl
            intro K' hK
            have HK := Lib.hid hK
            have e0 := h0 (hd 0 (by kernel_rfl))
            obtain ⟨b5, a5, n5, c5, e1, hN5⟩ := h1 (hd 1 (by kernel_rfl))
            subst e0
            subst e1
            clear hK hd
            go_simp
            go_at_call 10
            refine (Add_any b7 a7 n7 c7 sv b5 a5 n5 c5 1 _ J.Q.num hN5 l7 (len_of hN5 (k := 1) (by decide) (by decide))).mono ?_
            rintro e W' ⟨b6, a6, n6, c6, rfl, hN6, _, hB6⟩
            exact HK.out _ _ ⟨v22, _, _, _, by simp [sets23], J.later hB6, fun _ => rfl, fun _ => ⟨b5, a5, n5, c5, rfl, hN5.below hB6⟩, fun _ => ⟨b6, a6, n6, c6, rfl, hN6⟩, fun e => (h3 (by rwa [upd_ne (by decide)] at e)).below hB6⟩
          · apply wpOp_at
            case ho => rfl
            case hg => rfl
            intro K' hK
            have HK := Lib.hid hK
            clear hK hd
            go_simp
            have hB5 := below_new W (.cells #[.bool false, .slice none 0 0] 25)
            exact HK.out _ _ ⟨_, v106, v107, v108, by simp [sets23], J.later hB5, fun e => h0 (by rwa [upd_ne (by decide)] at e), fun e => (h1 (by rwa [upd_ne (by decide)] at e)).below hB5, fun e => (h2 (by rwa [upd_ne (by decide)] at e)).below hB5, fun _ => ⟨W.heap.size, false, none, 0, 0, rfl, bx_new _ _ _ _, Nat.ne_of_gt J.X.lt', Nat.ne_of_gt J.Q.lt', J.below.size⟩⟩
        · intro a' W L hL hI
          obtain ⟨v22, v106, v107, v108, ha, J, h0, h1, h2, h3⟩ := hI
          simp only [sets23, List.setIfInBounds_toArray, List.set_cons_succ, List.set_cons_zero] at ha
          subst ha
          obtain ⟨b6, a6, n6, c6, e1, hN6⟩ := h2 (hL 2 (by decide))
          obtain ⟨kn, bk, ak, nk, ck, e2, hk, hki, hkj, hkw⟩ := h3 (hL 3 (by decide))
          subst e1
          subst e2
          obtain ⟨k0, k1, k2, k3⟩ := hk.cells
          have hU : T3 w ((W.setCell ⟨kn, 0, none⟩ (.bool b6)).setCell ⟨kn, 1, none⟩ (.slice a6 n6 c6)) w1.heap.size w7.heap.size kn false a1 n1 c1 x b7 a7 n7 c7 sv b6 a6 n6 c6 (sv + 1) :=
            ⟨J.below.trans ((only2 _ _ _ _).below hkw), J.X.other' hk hki _ _, J.Q.other' hk hkj _ _, (hk.self _ _).vi (hN6.store hk _ _)⟩
          have l6 := len_of hN6 (bnd_add HSB.out (y := 1) (q := 1) (by decide)) (by omega)
          clear hT4 hL h0 h1 h2 h3 J hN6 hk HSB
          simp only [List.drop_succ_cons, List.drop_zero]
          go_upto_region 24 with (fail)
          generalize (W.setCell ⟨kn, 0, none⟩ (.bool b6)).setCell ⟨kn, 1, none⟩ (.slice a6 n6 c6) = WU at *
          clear k0 k1 k2 k3
          go_region_held3 (fun w' => w'.cell? ⟨w1.heap.size, 0, none⟩ = some (.bool false) ∧ w'.cell? ⟨w1.heap.size, 1, none⟩ = some (.slice a1 n1 c1) ∧ w'.cell? ⟨w7.heap.size, 0, none⟩ = some (.bool b7) ∧ w'.cell? ⟨w7.heap.size, 1, none⟩ = some (.slice a7 n7 c7) ∧ w'.cell? ⟨kn, 0, none⟩ = some (.bool b6) ∧ w'.cell? ⟨kn, 1, none⟩ = some (.slice a6 n6 c6))
            (first | exact hU.drew.hs | exact hU.hs | exact hU2.hs | exact hU3.hs)
            (first
              | (go_at_call 13; (with_reducible refine (Mul_any b7 a7 n7 c7 sv b7 a7 n7 c7 sv _ hU.drew.Y.num hU.drew.Y.num l7 l7).mono ?_); rintro e w14 ⟨d3b, d3a, d3n, d3c, rfl, hD3, _, hb4⟩; have hU2 := hU.later (below_undrew hb4))
              | (go_at_call 16; (with_reducible refine (Cmp_any d3b d3a d3n d3c (sv * sv) false a1 n1 c1 x _ hD3 hU2.X.num).mono ?_); rintro e w15 ⟨rfl, hb5⟩; have hU3 := hU2.later hb5))
          clear hU hU2 hD3
          obtain ⟨lo, hlo⟩ : ∃ z, z = cmpI (sv * sv) x := ⟨_, rfl⟩
          have hlo0 : lo ≤ 0 := by rw [hlo]; exact HLO.out
          rw [← hlo]
          clear hlo HLO
          go_wp2
          go_region_held3 (fun w' => w'.cell? ⟨w1.heap.size, 0, none⟩ = some (.bool false) ∧ w'.cell? ⟨w1.heap.size, 1, none⟩ = some (.slice a1 n1 c1) ∧ w'.cell? ⟨w7.heap.size, 0, none⟩ = some (.bool b7) ∧ w'.cell? ⟨w7.heap.size, 1, none⟩ = some (.slice a7 n7 c7) ∧ w'.cell? ⟨kn, 0, none⟩ = some (.bool b6) ∧ w'.cell? ⟨kn, 1, none⟩ = some (.slice a6 n6 c6))
            (first | exact hU3.drew.hs | exact hU3.hs | exact hU4.hs | exact hU5.hs)
            (first
              | (go_at_call 13; (with_reducible refine (Mul_any b6 a6 n6 c6 (sv + 1) b6 a6 n6 c6 (sv + 1) _ hU3.drew.Z.num hU3.drew.Z.num l6 l6).mono ?_); rintro e w16 ⟨d4b, d4a, d4n, d4c, rfl, hD4, _, hb6⟩; have hU4 := hU3.later (below_undrew hb6))
              | (go_at_call 16; (with_reducible refine (Cmp_any d4b d4a d4n d4c ((sv + 1) * (sv + 1)) false a1 n1 c1 x _ hD4 hU4.X.num).mono ?_); rintro e w17 ⟨rfl, hb7⟩; have hU5 := hU4.later hb7))
          rw [HHI.out]
          have hfin := hU5.below
          clear hU3 hU4 hU5 hD4 HHI
          have dlo : decide (lo ≤ 0) = true := decide_eq_true hlo0
          rcases hab0 with h | ⟨rfl, rfl, rfl⟩
          · have dab : decide (0 ≤ ab) = true := decide_eq_true h
            go_wp2
            go_ret
            exact ⟨rfl, hfin⟩
          · go_wp2
            go_ret
            exact ⟨rfl, hfin⟩
end Go.Proofs.YtcnmilflfegliaaDoor
