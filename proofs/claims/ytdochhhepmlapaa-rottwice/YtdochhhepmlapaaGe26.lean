/- Parts of the proof. -/
import Derived.Test.YtdochhhepmlapaaGe23
import Derived.Test.YtdochhhepmlapaaGe25
import Derived.Test.YtdochhhepmlapaaGe1
/- Sines and cosines: the walks of enclosed, A, B, C, Sin, Cos. No statement of the seat is proved here. -/
namespace Go.Proofs.Ytdochhhepmlapaa
open Go.RowKit
theorem heap_far2 {w : World} {k j : Nat} (a b : Value) (h : k ≠ j) : ((w.setCell ⟨j, 0, none⟩ a).setCell ⟨j, 1, none⟩ b).heap[k]? = w.heap[k]? := by rw [heap_set_ne _ _ h, heap_set_ne _ _ h]
theorem bs_far2 {w W : World} {x y : Sp} (h : Bs w W [x, y]) {j : Nat} (hj : w.heap.size + 2 ≤ j) (a b : Value) : Bs w ((W.setCell ⟨j, 0, none⟩ a).setCell ⟨j, 1, none⟩ b) [x, y] := by
 refine ⟨below_put h.below (by omega) _ _, fun i x' hx => ?_⟩
 have hi : i < 2 := (List.getElem?_eq_some_iff.1 hx).1
 exact (heap_far2 (w := W) (k := w.heap.size + i) a b (by omega)).trans (h.at' i x' hx)
/-- The ends of what is enclosed. -/
def loK (c : Nat) (n : Int) : Int := tV c n 11 * 1048576 / ((uN c 11 : Nat) : Int)
def hiK (c : Nat) (n : Int) : Int := -(-(tV c n 12 * 1048576) / ((uN c 12 : Nat) : Int))
def fourS : Sp := ⟨0, 4194304, false⟩
def encS (c : Nat) (s : Sp) : Sp := if inB s fourS then ofS (loK c s.hi) (hiK c s.lo) else lineS
theorem div_bd {x u b : Int} (hu : 0 < u) (h1 : x ≤ b * u) (h2 : -(b * u) ≤ x) : -b ≤ x / u ∧ x / u ≤ b := by
 constructor
 ·
  exact (Int.le_ediv_iff_mul_le hu).2 (by rw [Int.neg_mul]; exact h2)
 ·
  have : x / u < b + 1 := (Int.ediv_lt_iff_lt_mul hu).2 (by rw [Int.add_mul]; omega)
  omega
theorem tV_ab {c k : Nat} {n : Int} (h0 : 0 ≤ n) (h1 : n ≤ 4194304) (hc : c ≤ 2) (hk : k ≤ 12) : tV c n k * 1048576 ≤ 228698418577408 * ((uN c k : Nat) : Int) ∧ -(228698418577408 * ((uN c k : Nat) : Int)) ≤ tV c n k * 1048576 := by
 have h2 := tV_u h0 h1 hc hk
 have h3 : (k + 1) * 4 ^ k ≤ 13 * 4 ^ 12 := Nat.mul_le_mul (by omega) (Nat.pow_le_pow_right (by decide) hk)
 have h4 := Nat.mul_le_mul h3 (Nat.le_refl (uN c k))
 have h5 : 13 * 4 ^ 12 = 218103808 := by decide
 rw [h5] at h4
 generalize uN c k = U at *
 omega
theorem loK_bd {c : Nat} {n : Int} (h0 : 0 ≤ n) (h1 : n ≤ 4194304) (hc : c ≤ 2) : -228698418577408 ≤ loK c n ∧ loK c n ≤ 228698418577408 := by
 have h2 := tV_ab h0 h1 hc (k := 11) (by omega)
 have hu : (0 : Int) < ((uN c 11 : Nat) : Int) := by have := uN_pos c 11; omega
 exact div_bd hu h2.1 h2.2
theorem hiK_bd {c : Nat} {n : Int} (h0 : 0 ≤ n) (h1 : n ≤ 4194304) (hc : c ≤ 2) : -228698418577408 ≤ -(tV c n 12 * 1048576) / ((uN c 12 : Nat) : Int) ∧ -(tV c n 12 * 1048576) / ((uN c 12 : Nat) : Int) ≤ 228698418577408 := by
 have h2 := tV_ab h0 h1 hc (k := 12) (by omega)
 have hu : (0 : Int) < ((uN c 12 : Nat) : Int) := by have := uN_pos c 12; omega
 exact div_bd hu (by omega) (by omega)
theorem ten_bd (k : Nat) (z : Int) (h : z.natAbs < BB ^ k) : (z * 1048576).natAbs < BB ^ (k + 1) := by
 rw [Int.natAbs_mul, Nat.pow_succ]
 exact Nat.mul_lt_mul_of_lt_of_le h (by decide) (by decide)
set_option maxRecDepth 100000 in
set_option maxHeartbeats 3200000 in
theorem enc_no (c : Nat) (s : Sp) (h : inB s fourS = false) (w : World) : Calls Try.prog 92 #[.agg #[.int .i64 s.lo, .int .i64 s.hi, .bool s.all], .int .i64 (c : Int)] w (PSp lineS w) := by
 have HO : Hid (∀ W : World, Calls Try.prog 45 #[.int .i64 0, .int .i64 4194304] W (PSp fourS W)) := show ∀ W : World, _ from fun W => sOf_any 0 4194304 W
 have HI : Hid (∀ W : World, Calls Try.prog 44 #[.agg #[.int .i64 s.lo, .int .i64 s.hi, .bool s.all], .agg #[.int .i64 fourS.lo, .int .i64 fourS.hi, .bool fourS.all]] W (PVal (.bool false) W)) := show ∀ W : World, _ from fun W => h ▸ In_any s fourS W
 clear h
 go_enter Try.func92, Try.ntmps92
 go_wp2
 have hX := bs2 w s.lo s.hi s.all 0 0 false
 generalize (w.alloc (.cells #[.int .i64 s.lo, .int .i64 s.hi, .bool s.all] 23)).alloc (.cells #[.int .i64 0, .int .i64 0, .bool false] 23) = w1 at *
 refine wp_region_vals 4 [some 9, some 10, some 11, some 12] (lstV [.agg #[.int .i64 s.lo, .int .i64 s.hi, .bool s.all], .agg #[.int .i64 fourS.lo, .int .i64 fourS.hi, .bool fourS.all], .bool false, .bool true]) (fun W => Bs w W [s, ⟨0, 0, false⟩]) (by kernel_rfl) (by kernel_rfl) (by decide) (hX.drew) ?_ ?_
 ·
  intro i hl hi u W hJ hd
  obtain rfl | rfl | rfl | rfl : i = 0 ∨ i = 1 ∨ i = 2 ∨ i = 3 := by omega
  ·
   clear hd
   simp only [List.getElem_cons_succ, List.getElem_cons_zero]
   clear hl
   refine .inr ⟨rfl, fun K' hK => ?_⟩
   have HK := Lib.hid hK
   clear hK
   simp only [layS, Act.put, List.setIfInBounds_toArray, List.set_cons_succ, List.set_cons_zero, Nat.zero_add, Nat.reduceAdd]
   have c00 := hJ.c0.1
   have c01 := hJ.c0.2.1
   have c02 := hJ.c0.2.2.1
   have c03 := hJ.c0.2.2.2.1
   have c04 := hJ.c0.2.2.2.2.1
   have c05 := hJ.c0.2.2.2.2.2
   go_simp
   exact HK.out _ _ (by simp [layS, updV, lstV, Act.put]) hJ
  ·
   clear hd
   simp only [List.getElem_cons_succ, List.getElem_cons_zero]
   clear hl
   refine .inr ⟨rfl, fun K' hK => ?_⟩
   have HK := Lib.hid hK
   clear hK
   simp only [layS, Act.put, List.setIfInBounds_toArray, List.set_cons_succ, List.set_cons_zero, Nat.zero_add, Nat.reduceAdd]
   go_simp
   refine (HO.out W).mono ?_
   rintro e W' ⟨rfl, hB⟩
   exact HK.out _ _ (by simp [layS, updV, lstV, Act.put]) (hJ.later hB)
  ·
   have e0 : u 0 = .agg #[.int .i64 s.lo, .int .i64 s.hi, .bool s.all] := hd 0 (by kernel_rfl)
   have e1 : u 1 = .agg #[.int .i64 fourS.lo, .int .i64 fourS.hi, .bool fourS.all] := hd 1 (by kernel_rfl)
   clear hd
   simp only [List.getElem_cons_succ, List.getElem_cons_zero]
   clear hl
   refine .inr ⟨rfl, fun K' hK => ?_⟩
   have HK := Lib.hid hK
   clear hK
   simp only [layS, Act.put, List.setIfInBounds_toArray, List.set_cons_succ, List.set_cons_zero, Nat.zero_add, Nat.reduceAdd, e0, e1]
   have E0 := Lib.hid e0
   have E1 := Lib.hid e1
   clear e0 e1
   go_simp
   refine (HI.out W).mono ?_
   rintro e W' ⟨rfl, hB⟩
   exact HK.out _ _ (by simp [layS, updV, lstV, Act.put, E0.out, E1.out]) (hJ.later hB)
  ·
   have e2 : u 2 = .bool false := hd 2 (by kernel_rfl)
   clear hd
   simp only [List.getElem_cons_succ, List.getElem_cons_zero]
   clear hl
   refine .inr ⟨rfl, fun K' hK => ?_⟩
   have HK := Lib.hid hK
   clear hK
   simp only [layS, Act.put, List.setIfInBounds_toArray, List.set_cons_succ, List.set_cons_zero, Nat.zero_add, Nat.reduceAdd, e2]
   have E2 := Lib.hid e2
   clear e2
   go_simp
   exact HK.out _ _ (by simp [layS, updV, lstV, Act.put, E2.out]) hJ
 intro W hJ
 simp only [layS, lstV, Act.put, List.setIfInBounds_toArray, List.set_cons_succ, List.set_cons_zero, Nat.zero_add, Nat.reduceAdd, List.getD_cons_zero, List.getD_cons_succ, List.drop_succ_cons, List.drop_zero, List.drop_nil]
 have c10 := hJ.c1.1
 have c11 := hJ.c1.2.1
 have c12 := hJ.c1.2.2.1
 have c13 := hJ.c1.2.2.2.1
 have c14 := hJ.c1.2.2.2.2.1
 have c15 := hJ.c1.2.2.2.2.2
 go_wp2
 have hp := hJ.put 1 (by simp) lineS
 exact bodyPost_ret (v := .agg #[.int .i64 lineS.lo, .int .i64 lineS.hi, .bool lineS.all]) (by simp [results, Try.results92, go_sem, c10, c11, c12, lineS]) rfl ⟨rfl, hp.below⟩
set_option maxRecDepth 100000 in
set_option maxHeartbeats 3200000 in
theorem enc_walk (c : Nat) (s : Sp) (X1 X2 v1 v2 q1 q2 : Int) (z : Sp) (h : inB s fourS = true) (hw2 : IntKind.i64.wrap (-q2) = -q2) (hs1 : ∀ W : World, Calls Try.prog 104 #[.int .i64 s.hi, .int .i64 (c : Int), .int .i64 12] W (PSum X1 v1 W)) (hs2 : ∀ W : World, Calls Try.prog 104 #[.int .i64 s.lo, .int .i64 (c : Int), .int .i64 13] W (PSum X2 v2 W)) (hd1 : ∀ (b : Bool) (a : Option Addr) (n k : Nat) (b' : Bool) (a' : Option Addr) (n' k' : Nat) (W : World), Num W b a n k X1 → Num W b' a' n' k' v1 → Calls Try.prog 105 #[.agg #[.bool b, .slice a n k], .agg #[.bool b', .slice a' n' k']] W (PVal (.int .i64 q1) W)) (hn2 : ∀ (b : Bool) (a : Option Addr) (n k : Nat) (W : World), Num W b a n k X2 → n ≤ 40) (hd2 : ∀ (b : Bool) (a : Option Addr) (n k : Nat) (b' : Bool) (a' : Option Addr) (n' k' : Nat) (W : World), Num W b a n k (-X2) → Num W b' a' n' k' v2 → Calls Try.prog 105 #[.agg #[.bool b, .slice a n k], .agg #[.bool b', .slice a' n' k']] W (PVal (.int .i64 q2) W)) (hf : ∀ W : World, Calls Try.prog 45 #[.int .i64 q1, .int .i64 (-q2)] W (PSp z W)) (w : World) : Calls Try.prog 92 #[.agg #[.int .i64 s.lo, .int .i64 s.hi, .bool s.all], .int .i64 (c : Int)] w (PSp z w) := by
 have HO : Hid (∀ W : World, Calls Try.prog 45 #[.int .i64 0, .int .i64 4194304] W (PSp fourS W)) := show ∀ W : World, _ from fun W => sOf_any 0 4194304 W
 have HI : Hid (∀ W : World, Calls Try.prog 44 #[.agg #[.int .i64 s.lo, .int .i64 s.hi, .bool s.all], .agg #[.int .i64 fourS.lo, .int .i64 fourS.hi, .bool fourS.all]] W (PVal (.bool true) W)) := show ∀ W : World, _ from fun W => h ▸ In_any s fourS W
 have HS1 := Lib.hid hs1
 have HS2 := Lib.hid hs2
 have HD1 := Lib.hid hd1
 have HD2 := Lib.hid hd2
 have HN2 := Lib.hid hn2
 have HF := Lib.hid hf
 clear h hs1 hs2 hd1 hd2 hn2 hf
 go_enter Try.func92, Try.ntmps92
 go_wp2
 have hX := bs2 w s.lo s.hi s.all 0 0 false
 generalize (w.alloc (.cells #[.int .i64 s.lo, .int .i64 s.hi, .bool s.all] 23)).alloc (.cells #[.int .i64 0, .int .i64 0, .bool false] 23) = w1 at *
 refine wp_region_vals 4 [some 9, some 10, some 11, some 12] (lstV [.agg #[.int .i64 s.lo, .int .i64 s.hi, .bool s.all], .agg #[.int .i64 fourS.lo, .int .i64 fourS.hi, .bool fourS.all], .bool true, .bool false]) (fun W => Bs w W [s, ⟨0, 0, false⟩]) (by kernel_rfl) (by kernel_rfl) (by decide) (hX.drew) ?_ ?_
 ·
  intro i hl hi u W hJ hd
  obtain rfl | rfl | rfl | rfl : i = 0 ∨ i = 1 ∨ i = 2 ∨ i = 3 := by omega
  ·
   clear hd
   simp only [List.getElem_cons_succ, List.getElem_cons_zero]
   clear hl
   refine .inr ⟨rfl, fun K' hK => ?_⟩
   have HK := Lib.hid hK
   clear hK
   simp only [layS, Act.put, List.setIfInBounds_toArray, List.set_cons_succ, List.set_cons_zero, Nat.zero_add, Nat.reduceAdd]
   have c00 := hJ.c0.1
   have c01 := hJ.c0.2.1
   have c02 := hJ.c0.2.2.1
   have c03 := hJ.c0.2.2.2.1
   have c04 := hJ.c0.2.2.2.2.1
   have c05 := hJ.c0.2.2.2.2.2
   go_simp
   exact HK.out _ _ (by simp [layS, updV, lstV, Act.put]) hJ
  ·
   clear hd
   simp only [List.getElem_cons_succ, List.getElem_cons_zero]
   clear hl
   refine .inr ⟨rfl, fun K' hK => ?_⟩
   have HK := Lib.hid hK
   clear hK
   simp only [layS, Act.put, List.setIfInBounds_toArray, List.set_cons_succ, List.set_cons_zero, Nat.zero_add, Nat.reduceAdd]
   go_simp
   refine (HO.out W).mono ?_
   rintro e W' ⟨rfl, hB⟩
   exact HK.out _ _ (by simp [layS, updV, lstV, Act.put]) (hJ.later hB)
  ·
   have e0 : u 0 = .agg #[.int .i64 s.lo, .int .i64 s.hi, .bool s.all] := hd 0 (by kernel_rfl)
   have e1 : u 1 = .agg #[.int .i64 fourS.lo, .int .i64 fourS.hi, .bool fourS.all] := hd 1 (by kernel_rfl)
   clear hd
   simp only [List.getElem_cons_succ, List.getElem_cons_zero]
   clear hl
   refine .inr ⟨rfl, fun K' hK => ?_⟩
   have HK := Lib.hid hK
   clear hK
   simp only [layS, Act.put, List.setIfInBounds_toArray, List.set_cons_succ, List.set_cons_zero, Nat.zero_add, Nat.reduceAdd, e0, e1]
   have E0 := Lib.hid e0
   have E1 := Lib.hid e1
   clear e0 e1
   go_simp
   refine (HI.out W).mono ?_
   rintro e W' ⟨rfl, hB⟩
   exact HK.out _ _ (by simp [layS, updV, lstV, Act.put, E0.out, E1.out]) (hJ.later hB)
  ·
   have e2 : u 2 = .bool true := hd 2 (by kernel_rfl)
   clear hd
   simp only [List.getElem_cons_succ, List.getElem_cons_zero]
   clear hl
   refine .inr ⟨rfl, fun K' hK => ?_⟩
   have HK := Lib.hid hK
   clear hK
   simp only [layS, Act.put, List.setIfInBounds_toArray, List.set_cons_succ, List.set_cons_zero, Nat.zero_add, Nat.reduceAdd, e2]
   have E2 := Lib.hid e2
   clear e2
   go_simp
   exact HK.out _ _ (by simp [layS, updV, lstV, Act.put, E2.out]) hJ
 intro W hJ
 simp only [layS, lstV, Act.put, List.setIfInBounds_toArray, List.set_cons_succ, List.set_cons_zero, Nat.zero_add, Nat.reduceAdd, List.getD_cons_zero, List.getD_cons_succ, List.drop_succ_cons, List.drop_zero, List.drop_nil]
 clear hX
 have c00 := hJ.c0.1
 have c01 := hJ.c0.2.1
 have c02 := hJ.c0.2.2.1
 have c03 := hJ.c0.2.2.2.1
 have c04 := hJ.c0.2.2.2.2.1
 have c05 := hJ.c0.2.2.2.2.2
 go_wp2_with fail
 clear c00 c01 c02 c03 c04 c05
 refine (HS1.out _).mono ?_
 rintro e W2 ⟨T1, T2, T3, T4, U1', U2', U3, U4, rfl, hT, hU, hB⟩
 replace hJ := hJ.later hB
 clear hB HS1
 have kT := (v4_new hT).later (below_nw _ (.cells #[.bool U1', .slice U2' U3 U4] 112))
 have kU := v4_new (hU.below (below_nw _ (.cells #[.bool T1, .slice T2 T3 T4] 112)))
 rw [show (W2.alloc (.cells #[.bool T1, .slice T2 T3 T4] 112)).heap.size = W2.heap.size + 1 by simp] at kU
 have hB2 : Below W2.heap.size W2 ((W2.alloc (.cells #[.bool T1, .slice T2 T3 T4] 112)).alloc (.cells #[.bool U1', .slice U2' U3 U4] 112)) := ((Below.refl _ _).alloc (Nat.le_refl _) _).alloc (by simp) _
 have hge : w.heap.size + 2 ≤ W2.heap.size := hJ.sz
 replace hJ := hJ.later hB2
 clear hB2 hT hU
 have t5 := kT.cells.1
 have t6 := kT.cells.2.1
 have t7 := kT.cells.2.2.1
 have t8 := kT.cells.2.2.2
 have u5 := kU.cells.1
 have u6 := kU.cells.2.1
 have u7 := kU.cells.2.2.1
 have u8 := kU.cells.2.2.2
 go_wp2_with fail
 clear t5 t6 t7 t8 u5 u6 u7 u8
 generalize (W2.alloc (.cells #[.bool T1, .slice T2 T3 T4] 112)).alloc (.cells #[.bool U1', .slice U2' U3 U4] 112) = W3 at *
 generalize W2.heap.size = kk at *
 refine (HD1.out _ _ _ _ _ _ _ _ _ kT.num kU.num).mono ?_
 rintro e W4 ⟨rfl, hB⟩
 replace hJ := hJ.later hB
 replace kT := kT.later hB
 replace kU := kU.later hB
 clear hB HD1
 have c00 := hJ.c0.1
 have c01 := hJ.c0.2.1
 have c02 := hJ.c0.2.2.1
 have c03 := hJ.c0.2.2.2.1
 have c04 := hJ.c0.2.2.2.2.1
 have c05 := hJ.c0.2.2.2.2.2
 go_wp2_with fail
 clear c00 c01 c02 c03 c04 c05
 refine (HS2.out _).mono ?_
 rintro e W5 ⟨P1, P2, P3, P4, R1, R2, R3, R4, rfl, hT, hU, hB⟩
 replace hJ := hJ.later hB
 replace kT := kT.later hB
 replace kU := kU.later hB
 clear hB HS2
 have jT := (kT.put hT).far (kU.far kT (by omega) (.bool P1) (.slice P2 P3 P4)) (by omega) (.bool R1) (.slice R2 R3 R4)
 have jU := (kU.far kT (by omega) (.bool P1) (.slice P2 P3 P4)).put (hU.store kT.bx (.bool P1) (.slice P2 P3 P4))
 have hJ5 : Bs w ((((W5.setCell ⟨kk, 0, none⟩ (.bool P1)).setCell ⟨kk, 1, none⟩ (.slice P2 P3 P4)).setCell ⟨kk + 1, 0, none⟩ (.bool R1)).setCell ⟨kk + 1, 1, none⟩ (.slice R2 R3 R4)) [s, ⟨0, 0, false⟩] := bs_far2 (bs_far2 hJ hge _ _) (by omega) _ _
 have t5 := kT.cells.1
 have t6 := kT.cells.2.1
 have t7 := kT.cells.2.2.1
 have t8 := kT.cells.2.2.2
 have u5 := kU.cells.1
 have u6 := kU.cells.2.1
 have u7 := kU.cells.2.2.1
 have u8 := kU.cells.2.2.2
 go_wp2
 clear t5 t6 t7 t8 u5 u6 u7 u8 kT kU hJ hT hU
 generalize (((W5.setCell ⟨kk, 0, none⟩ (.bool P1)).setCell ⟨kk, 1, none⟩ (.slice P2 P3 P4)).setCell ⟨kk + 1, 0, none⟩ (.bool R1)).setCell ⟨kk + 1, 1, none⟩ (.slice R2 R3 R4) = W6 at *
 refine wp_region_rel 6 [some 31, some 32, some 33, some 34, some 35, some 8] (lstP [Veq (.agg #[.bool P1, .slice P2 P3 P4]), VN (-X2), Veq (.agg #[.bool R1, .slice R2 R3 R4]), Veq (.int .i64 q2), Veq (.int .i64 (-q2)), Veq (.int .i64 (-q2))]) (fun W => Bs w W [s, ⟨0, 0, false⟩] ∧ V4 W kk P1 P2 P3 P4 X2 ∧ V4 W (kk + 1) R1 R2 R3 R4 v2) [] (by kernel_rfl) (by kernel_rfl) ?_ ?_ (⟨hJ5.drew, jT.drew, jU.drew⟩) ?_ ?_
 ·
  intro j v W W' hj h hb
  obtain rfl | rfl | rfl | rfl | rfl | rfl : j = 0 ∨ j = 1 ∨ j = 2 ∨ j = 3 ∨ j = 4 ∨ j = 5 := by omega
  ·
   exact Veq.later (show Veq (.agg #[.bool P1, .slice P2 P3 P4]) v W from h) hb
  ·
   exact VN.later (show VN (-X2) v W from h) hb
  ·
   exact Veq.later (show Veq (.agg #[.bool R1, .slice R2 R3 R4]) v W from h) hb
  ·
   exact Veq.later (show Veq (.int .i64 q2) v W from h) hb
  ·
   exact Veq.later (show Veq (.int .i64 (-q2)) v W from h) hb
  ·
   exact Veq.later (show Veq (.int .i64 (-q2)) v W from h) hb
 ·
  intro j v W hj hm h
  cases hm
 ·
  intro i hl hi u W hJ hd
  obtain rfl | rfl | rfl | rfl | rfl | rfl : i = 0 ∨ i = 1 ∨ i = 2 ∨ i = 3 ∨ i = 4 ∨ i = 5 := by omega
  ·
   clear hd
   simp only [List.getElem_cons_succ, List.getElem_cons_zero]
   clear hl
   refine .inr ⟨rfl, fun K' hK => ?_⟩
   have HK := Lib.hid hK
   clear hK
   simp only [layS, Act.put, List.setIfInBounds_toArray, List.set_cons_succ, List.set_cons_zero, Nat.zero_add, Nat.reduceAdd]
   have t5 := hJ.2.1.cells.1
   have t6 := hJ.2.1.cells.2.1
   go_simp
   exact HK.out _ _ (.agg #[.bool P1, .slice P2 P3 P4]) (by simp [layS, updV, Act.put]) hJ (rfl) (Below.refl _ _) (fun h => absurd h (by decide))
  ·
   have e0 : u 0 = .agg #[.bool P1, .slice P2 P3 P4] := hd 0 (by decide) (by kernel_rfl)
   clear hd
   simp only [List.getElem_cons_succ, List.getElem_cons_zero]
   clear hl
   refine .inr ⟨rfl, fun K' hK => ?_⟩
   have HK := Lib.hid hK
   clear hK
   simp only [layS, Act.put, List.setIfInBounds_toArray, List.set_cons_succ, List.set_cons_zero, Nat.zero_add, Nat.reduceAdd, e0]
   have E0 := Lib.hid e0
   clear e0
   go_simp
   refine (Neg_any P1 P2 P3 P4 X2 W hJ.2.1.num (by have := HN2.out _ _ _ _ _ hJ.2.1.num; omega)).mono ?_
   rintro e W' ⟨y1, y2, y3, y4, rfl, hy, _, hB⟩
   exact HK.out _ _ (.agg #[.bool y1, .slice y2 y3 y4]) (by simp [layS, updV, Act.put, E0.out]) (⟨hJ.1.later hB, hJ.2.1.later hB, hJ.2.2.later hB⟩) (⟨y1, y2, y3, y4, rfl, hy⟩) hB (fun h => absurd h (by decide))
  ·
   clear hd
   simp only [List.getElem_cons_succ, List.getElem_cons_zero]
   clear hl
   refine .inr ⟨rfl, fun K' hK => ?_⟩
   have HK := Lib.hid hK
   clear hK
   simp only [layS, Act.put, List.setIfInBounds_toArray, List.set_cons_succ, List.set_cons_zero, Nat.zero_add, Nat.reduceAdd]
   have t5 := hJ.2.2.cells.1
   have t6 := hJ.2.2.cells.2.1
   go_simp
   exact HK.out _ _ (.agg #[.bool R1, .slice R2 R3 R4]) (by simp [layS, updV, Act.put]) hJ (rfl) (Below.refl _ _) (fun h => absurd h (by decide))
  ·
   obtain ⟨b1, a1, n1, c1, e1, g1⟩ := (show VN (-X2) (u 1) W from hd 1 (by decide) (by kernel_rfl))
   have e2 : u 2 = .agg #[.bool R1, .slice R2 R3 R4] := hd 2 (by decide) (by kernel_rfl)
   clear hd
   simp only [List.getElem_cons_succ, List.getElem_cons_zero]
   clear hl
   refine .inr ⟨rfl, fun K' hK => ?_⟩
   have HK := Lib.hid hK
   clear hK
   simp only [layS, Act.put, List.setIfInBounds_toArray, List.set_cons_succ, List.set_cons_zero, Nat.zero_add, Nat.reduceAdd, e1, e2]
   have E1 := Lib.hid e1
   have E2 := Lib.hid e2
   clear e1 e2
   go_simp
   refine (HD2.out _ _ _ _ _ _ _ _ _ g1 hJ.2.2.num).mono ?_
   rintro e W' ⟨rfl, hB⟩
   exact HK.out _ _ (.int .i64 q2) (by simp [layS, updV, Act.put, E1.out, E2.out]) (⟨hJ.1.later hB, hJ.2.1.later hB, hJ.2.2.later hB⟩) (rfl) hB (fun h => absurd h (by decide))
  ·
   have e3 : u 3 = .int .i64 q2 := hd 3 (by decide) (by kernel_rfl)
   clear hd
   simp only [List.getElem_cons_succ, List.getElem_cons_zero]
   clear hl
   refine .inr ⟨rfl, fun K' hK => ?_⟩
   have HK := Lib.hid hK
   clear hK
   simp only [layS, Act.put, List.setIfInBounds_toArray, List.set_cons_succ, List.set_cons_zero, Nat.zero_add, Nat.reduceAdd, e3]
   have E3 := Lib.hid e3
   clear e3
   go_simp
   exact HK.out _ _ (.int .i64 (-q2)) (by simp [layS, updV, Act.put, E3.out]) hJ (rfl) (Below.refl _ _) (fun h => absurd h (by decide))
  ·
   have e4 : u 4 = .int .i64 (-q2) := hd 4 (by decide) (by kernel_rfl)
   clear hd
   simp only [List.getElem_cons_succ, List.getElem_cons_zero]
   clear hl
   refine .inr ⟨rfl, fun K' hK => ?_⟩
   have HK := Lib.hid hK
   clear hK
   simp only [layS, Act.put, List.setIfInBounds_toArray, List.set_cons_succ, List.set_cons_zero, Nat.zero_add, Nat.reduceAdd, e4]
   have E4 := Lib.hid e4
   clear e4
   go_simp
   exact HK.out _ _ (.int .i64 (-q2)) (by simp [layS, updV, Act.put, E4.out]) hJ (rfl) (Below.refl _ _) (fun h => absurd h (by decide))
 intro u W hJ hd hne
 have e0 : u 0 = .agg #[.bool P1, .slice P2 P3 P4] := hd 0 (by decide)
 obtain ⟨b1, a1, n1, c1, e1, g1⟩ := (show VN (-X2) (u 1) W from hd 1 (by decide))
 have e2 : u 2 = .agg #[.bool R1, .slice R2 R3 R4] := hd 2 (by decide)
 have e3 : u 3 = .int .i64 q2 := hd 3 (by decide)
 have e4 : u 4 = .int .i64 (-q2) := hd 4 (by decide)
 have e5 : u 5 = .int .i64 (-q2) := hd 5 (by decide)
 simp only [layS, Act.put, List.setIfInBounds_toArray, List.set_cons_succ, List.set_cons_zero, Nat.zero_add, Nat.reduceAdd, List.drop_succ_cons, List.drop_zero, e0, e1, e2, e3, e4, e5]
 have hJ := hJ.1
 clear hJ5 jT jU g1 e0 e1 e2 e3 e4 e5 hd hne
 go_wp2_with fail
 refine (HF.out _).mono ?_
 rintro e W7 ⟨rfl, hB⟩
 replace hJ := hJ.later hB
 clear hB
 have c10 := hJ.c1.1
 have c11 := hJ.c1.2.1
 have c12 := hJ.c1.2.2.1
 have c13 := hJ.c1.2.2.2.1
 have c14 := hJ.c1.2.2.2.2.1
 have c15 := hJ.c1.2.2.2.2.2
 go_wp2
 have hp := hJ.put 1 (by simp) z
 exact bodyPost_ret (v := .agg #[.int .i64 z.lo, .int .i64 z.hi, .bool z.all]) (by simp [results, Try.results92, go_sem, c10, c11, c12]) rfl ⟨rfl, hp.below⟩
theorem enc_yes (c : Nat) (s : Sp) (h : inB s fourS = true) (hc : c ≤ 2) (w : World) : Calls Try.prog 92 #[.agg #[.int .i64 s.lo, .int .i64 s.hi, .bool s.all], .int .i64 (c : Int)] w (PSp (ofS (loK c s.hi) (hiK c s.lo)) w) := by
 obtain ⟨hk, h0, h1⟩ := (in_ok (D := fourS) rfl).1 h
 have h2 := (ok_of hk).2.1
 replace h0 : 0 ≤ s.lo := h0
 replace h1 : s.hi ≤ 4194304 := h1
 have hs1 : ∀ W : World, Calls Try.prog 104 #[.int .i64 s.hi, .int .i64 (c : Int), .int .i64 12] W (PSum (tV c s.hi 11 * 1048576) ((uN c 11 : Nat) : Int) W) := fun W => ksum_any s.hi c 11 W (by omega) (by omega) hc (by omega)
 have hs2 : ∀ W : World, Calls Try.prog 104 #[.int .i64 s.lo, .int .i64 (c : Int), .int .i64 13] W (PSum (tV c s.lo 12 * 1048576) ((uN c 12 : Nat) : Int) W) := fun W => ksum_any s.lo c 12 W (by omega) (by omega) hc (by omega)
 have p1 : 0 ≤ s.hi := by omega
 have p2 : s.lo ≤ 4194304 := by omega
 have b1 := loK_bd p1 h1 hc
 have b2 := hiK_bd h0 p2 hc
 have hu1 := uN_pos c 11
 have hu2 := uN_pos c 12
 have l1 : ∀ (b : Bool) (a : Option Addr) (n k : Nat) (W : World), Num W b a n k (tV c s.hi 11 * 1048576) → n ≤ 40 := fun b a n k W g => len_bd g (ten_bd (11 + 1) _ (tV_bd p1 h1 hc (by decide))) (by decide)
 have l2 : ∀ (b : Bool) (a : Option Addr) (n k : Nat) (W : World), Num W b a n k (tV c s.lo 12 * 1048576) → n ≤ 40 := fun b a n k W g => len_bd g (ten_bd (12 + 1) _ (tV_bd h0 p2 hc (by decide))) (by decide)
 have l5 : ∀ (b : Bool) (a : Option Addr) (n k : Nat) (W : World), Num W b a n k (-(tV c s.lo 12 * 1048576)) → n ≤ 40 := fun b a n k W g => len_bd g (k := 12 + 1 + 1) (by rw [Int.natAbs_neg]; exact ten_bd (12 + 1) _ (tV_bd h0 p2 hc (by decide))) (by decide)
 have l3 : ∀ (b : Bool) (a : Option Addr) (n k : Nat) (W : World), Num W b a n k ((uN c 11 : Nat) : Int) → n ≤ 40 := fun b a n k W g => len_bd g (k := 11 + 1) (by rw [Int.natAbs_natCast]; exact uN_lt hc (by decide)) (by decide)
 have l4 : ∀ (b : Bool) (a : Option Addr) (n k : Nat) (W : World), Num W b a n k ((uN c 12 : Nat) : Int) → n ≤ 40 := fun b a n k W g => len_bd g (k := 12 + 1) (by rw [Int.natAbs_natCast]; exact uN_lt hc (by decide)) (by decide)
 clear h0 h1 h2 hc hk p1 p2
 unfold loK hiK at *
 generalize tV c s.hi 11 * 1048576 = X1 at *
 generalize tV c s.lo 12 * 1048576 = X2 at *
 generalize uN c 11 = U1 at *
 generalize uN c 12 = U2 at *
 refine enc_walk c s X1 X2 U1 U2 _ _ _ h (IntWalk.i64_in _ (by omega)) hs1 hs2 (fun b a n k b' a' n' k' W g g' => down_any b a n k X1 b' a' n' k' (U1 : Int) W g g' ?_ ?_ (by omega) (by omega) (by omega)) l2 (fun b a n k b' a' n' k' W g g' => down_any b a n k (-X2) b' a' n' k' (U2 : Int) W g g' ?_ ?_ (by omega) (by omega) (by omega)) (sOf_any _ _) w
 ·
  exact Nat.le_trans (l1 _ _ _ _ _ g) (by decide)
 ·
  exact Nat.le_trans (l3 _ _ _ _ _ g') (by decide)
 ·
  exact Nat.le_trans (l5 _ _ _ _ _ g) (by decide)
 ·
  exact Nat.le_trans (l4 _ _ _ _ _ g') (by decide)
theorem enc_any (c : Nat) (s : Sp) (w : World) (hc : c ≤ 2) : Calls Try.prog 92 #[.agg #[.int .i64 s.lo, .int .i64 s.hi, .bool s.all], .int .i64 (c : Int)] w (PSp (encS c s) w) := by
 unfold encS
 cases h : inB s fourS
 ·
  exact enc_no c s h w
 ·
  exact enc_yes c s h hc w
theorem kA_any (s : Sp) (w : World) : Calls Try.prog 66 #[.agg #[.int .i64 s.lo, .int .i64 s.hi, .bool s.all]] w (PSp (encS 1 s) w) := by
 have HE : Hid (∀ W : World, Calls Try.prog 92 #[.agg #[.int .i64 s.lo, .int .i64 s.hi, .bool s.all], .int .i64 1] W (PSp (encS 1 s) W)) := show ∀ W : World, _ from fun W => enc_any 1 s W (by omega)
 generalize encS 1 s = z at *
 go_enter Try.func66, Try.ntmps66
 go_wp2_with fail
 have hX := bs2 w s.lo s.hi s.all 0 0 false
 generalize (w.alloc (.cells #[.int .i64 s.lo, .int .i64 s.hi, .bool s.all] 23)).alloc (.cells #[.int .i64 0, .int .i64 0, .bool false] 23) = w1 at *
 refine (HE.out _).mono ?_
 rintro e W2 ⟨rfl, hB⟩
 have hJ := hX.later hB
 clear hB hX
 have c10 := hJ.c1.1
 have c11 := hJ.c1.2.1
 have c12 := hJ.c1.2.2.1
 have c13 := hJ.c1.2.2.2.1
 have c14 := hJ.c1.2.2.2.2.1
 have c15 := hJ.c1.2.2.2.2.2
 go_wp2
 have hp := hJ.put 1 (by simp) z
 exact bodyPost_ret (v := .agg #[.int .i64 z.lo, .int .i64 z.hi, .bool z.all]) (by simp [results, Try.results66, go_sem, c10, c11, c12]) rfl ⟨rfl, hp.below⟩
theorem kB_any (s : Sp) (w : World) : Calls Try.prog 67 #[.agg #[.int .i64 s.lo, .int .i64 s.hi, .bool s.all]] w (PSp (encS 2 s) w) := by
 have HE : Hid (∀ W : World, Calls Try.prog 92 #[.agg #[.int .i64 s.lo, .int .i64 s.hi, .bool s.all], .int .i64 2] W (PSp (encS 2 s) W)) := show ∀ W : World, _ from fun W => enc_any 2 s W (by omega)
 generalize encS 2 s = z at *
 go_enter Try.func67, Try.ntmps67
 go_wp2_with fail
 have hX := bs2 w s.lo s.hi s.all 0 0 false
 generalize (w.alloc (.cells #[.int .i64 s.lo, .int .i64 s.hi, .bool s.all] 23)).alloc (.cells #[.int .i64 0, .int .i64 0, .bool false] 23) = w1 at *
 refine (HE.out _).mono ?_
 rintro e W2 ⟨rfl, hB⟩
 have hJ := hX.later hB
 clear hB hX
 have c10 := hJ.c1.1
 have c11 := hJ.c1.2.1
 have c12 := hJ.c1.2.2.1
 have c13 := hJ.c1.2.2.2.1
 have c14 := hJ.c1.2.2.2.2.1
 have c15 := hJ.c1.2.2.2.2.2
 go_wp2
 have hp := hJ.put 1 (by simp) z
 exact bodyPost_ret (v := .agg #[.int .i64 z.lo, .int .i64 z.hi, .bool z.all]) (by simp [results, Try.results67, go_sem, c10, c11, c12]) rfl ⟨rfl, hp.below⟩
end Go.Proofs.Ytdochhhepmlapaa

/- Spans that hold fractions; what is enclosed holds the sum of 13 terms. No statement of the seat is proved here. -/
namespace Go.Proofs.Ytdochhhepmlapaa
open Go.RowKit
/-- The sums over any measure q of the number p. -/
def mQ (q : Nat) (c k : Nat) : Nat := q * grN (c + 2 * k) 2
def uQ (q : Nat) (c : Nat) : Nat → Nat
 | 0 => grN 0 c
 | k + 1 => uQ q c k * mQ q c k
def hV (q : Nat) (c : Nat) (p : Int) : Nat → Int
 | 0 => 1
 | k + 1 => hV q c p k * (mQ q c k : Nat) + (-p) ^ (k + 1)
theorem tV_hV (c : Nat) (n : Int) : ∀ k, tV c n k = hV 1048576 c n k
 | 0 => rfl
 | k + 1 => by
  show tV c n k * _ + _ = hV 1048576 c n k * _ + _
  rw [tV_hV c n k]
  rfl
theorem uN_uQ (c : Nat) : ∀ k, uN c k = uQ 1048576 c k
 | 0 => rfl
 | k + 1 => by
  show uN c k * _ = uQ 1048576 c k * _
  rw [uN_uQ c k]
  rfl
theorem mQ_pos {q : Nat} (h : 0 < q) (c k : Nat) : 0 < mQ q c k := Nat.mul_pos h (gr_pos _ _)
theorem uQ_pos {q : Nat} (h : 0 < q) (c : Nat) : ∀ k, 0 < uQ q c k
 | 0 => gr_pos _ _
 | k + 1 => Nat.mul_pos (uQ_pos h c k) (mQ_pos h c k)
theorem pw_nonneg {m : Int} (h : 0 ≤ m) : ∀ j : Nat, 0 ≤ m ^ j
 | 0 => by rw [Int.pow_zero]; decide
 | j + 1 => by rw [Int.pow_succ]; exact Int.mul_nonneg (pw_nonneg h j) h
theorem neg_pw (m : Int) : ∀ i : Nat, (-m) ^ (2 * i) = m ^ (2 * i) ∧ (-m) ^ (2 * i + 1) = -m ^ (2 * i + 1)
 | 0 => by simp [Int.pow_succ]
 | i + 1 => by
  obtain ⟨_, h2⟩ := neg_pw m i
  have e : (-m) ^ (2 * (i + 1)) = m ^ (2 * (i + 1)) := by
   show (-m) ^ (2 * i + 1 + 1) = m ^ (2 * i + 1 + 1)
   rw [Int.pow_succ (-m), h2, Int.pow_succ m (2 * i + 1), Int.neg_mul_neg]
  refine ⟨e, ?_⟩
  rw [Int.pow_succ, e, Int.pow_succ m, Int.mul_neg]
theorem dd {m n : Int} (h0 : 0 ≤ m) (h : m ≤ n) : ∀ j : Nat, 0 ≤ n ^ j - m ^ j ∧ (n - m) * m ^ j ≤ n ^ (j + 1) - m ^ (j + 1)
 | 0 => by simp [Int.pow_succ]
 | j + 1 => by
  obtain ⟨h1, h2⟩ := dd h0 h j
  have h3 : 0 ≤ (n - m) * m ^ j := Int.mul_nonneg (by omega) (pw_nonneg h0 j)
  refine ⟨by omega, ?_⟩
  have e : n ^ (j + 1 + 1) - m ^ (j + 1 + 1) = (n - m) * m ^ (j + 1) + n * (n ^ (j + 1) - m ^ (j + 1)) := by
   rw [Int.pow_succ n (j + 1), Int.pow_succ m (j + 1), Int.sub_mul, Int.mul_sub, Int.mul_comm (n ^ (j + 1)) n, Int.mul_comm (m ^ (j + 1)) m]
   omega
  have h4 : 0 ≤ n * (n ^ (j + 1) - m ^ (j + 1)) := Int.mul_nonneg (by omega) (by omega)
  omega
theorem dd2 {m n : Int} (h0 : 0 ≤ m) (h : m ≤ n) (j : Nat) : n ^ (j + 2) - m ^ (j + 2) ≤ (n + m) * (n ^ (j + 1) - m ^ (j + 1)) := by
 have h2 := (dd h0 h j).2
 have e : n ^ (j + 2) - m ^ (j + 2) = n * (n ^ (j + 1) - m ^ (j + 1)) + m * ((n - m) * m ^ j) := by
  show n ^ (j + 1 + 1) - m ^ (j + 1 + 1) = _
  rw [Int.pow_succ n (j + 1), Int.pow_succ m (j + 1), Int.mul_sub, Int.mul_comm (n ^ (j + 1)) n, Int.mul_comm (m ^ (j + 1)) m, ← Int.mul_assoc, Int.mul_comm m (n - m), Int.mul_assoc (n - m) m, Int.mul_comm m (m ^ j), ← Int.pow_succ, Nat.succ_eq_add_one, Int.sub_mul]
  omega
 rw [e, Int.add_mul]
 have := Int.mul_le_mul_of_nonneg_left h2 h0
 omega
theorem gr_ge {c k : Nat} : 12 ≤ grN (c + 2 * (2 * k + 1)) 2 := by
 rw [gr2]
 exact Nat.le_trans (by decide : 12 ≤ 3 * 4) (Nat.mul_le_mul (by omega) (by omega))
/-- THE SUMS FALL. -/
theorem hV_fall {q : Nat} {c : Nat} {m n : Int} (h0 : 0 ≤ m) (h : m ≤ n) (hn : n ≤ 4 * (q : Int)) : ∀ i : Nat, 0 ≤ hV q c m (2 * i) - hV q c n (2 * i) ∧ n ^ (2 * i + 1) - m ^ (2 * i + 1) ≤ hV q c m (2 * i + 1) - hV q c n (2 * i + 1) := by
 have odd : ∀ i : Nat, 0 ≤ hV q c m (2 * i) - hV q c n (2 * i) → n ^ (2 * i + 1) - m ^ (2 * i + 1) ≤ hV q c m (2 * i + 1) - hV q c n (2 * i + 1) := by
  intro i h1
  show _ ≤ (hV q c m (2 * i) * (mQ q c (2 * i) : Nat) + (-m) ^ (2 * i + 1)) - (hV q c n (2 * i) * (mQ q c (2 * i) : Nat) + (-n) ^ (2 * i + 1))
  rw [(neg_pw m i).2, (neg_pw n i).2]
  have h2 : 0 ≤ (hV q c m (2 * i) - hV q c n (2 * i)) * ((mQ q c (2 * i) : Nat) : Int) := Int.mul_nonneg h1 (by omega)
  rw [Int.sub_mul] at h2
  omega
 intro i
 induction i with
 | zero => exact ⟨by simp [hV], odd 0 (by simp [hV])⟩
 | succ i ih =>
  obtain ⟨h1, h2⟩ := ih
  have h3 : 0 ≤ hV q c m (2 * (i + 1)) - hV q c n (2 * (i + 1)) := by
   show 0 ≤ (hV q c m (2 * i + 1) * (mQ q c (2 * i + 1) : Nat) + (-m) ^ (2 * (i + 1))) - (hV q c n (2 * i + 1) * (mQ q c (2 * i + 1) : Nat) + (-n) ^ (2 * (i + 1)))
   rw [(neg_pw m (i + 1)).1, (neg_pw n (i + 1)).1]
   have h4 := dd2 h0 h (2 * i)
   have h5 := (dd h0 h (2 * i + 1)).1
   have hM : 12 * (q : Int) ≤ ((mQ q c (2 * i + 1) : Nat) : Int) := by
    have : q * 12 ≤ mQ q c (2 * i + 1) := Nat.mul_le_mul (Nat.le_refl q) gr_ge
    omega
   have h6 := Int.mul_le_mul_of_nonneg_right h2 (show 0 ≤ ((mQ q c (2 * i + 1) : Nat) : Int) by omega)
   have h7 : (n + m) * (n ^ (2 * i + 1) - m ^ (2 * i + 1)) ≤ (n ^ (2 * i + 1) - m ^ (2 * i + 1)) * ((mQ q c (2 * i + 1) : Nat) : Int) := by
    rw [Int.mul_comm (n + m)]
    exact Int.mul_le_mul_of_nonneg_left (by omega) h5
   rw [Int.sub_mul (hV q c m (2 * i + 1))] at h6
   have e : n ^ (2 * (i + 1)) = n ^ (2 * i + 2) := rfl
   have e' : m ^ (2 * (i + 1)) = m ^ (2 * i + 2) := rfl
   rw [e, e']
   omega
  exact ⟨h3, odd (i + 1) h3⟩
theorem hV_mono {q : Nat} {c : Nat} {m n : Int} (h0 : 0 ≤ m) (h : m ≤ n) (hn : n ≤ 4 * (q : Int)) (k : Nat) : hV q c n k ≤ hV q c m k := by
 have h1 := hV_fall (c := c) h0 h hn (k / 2)
 have h2 := (dd h0 h (2 * (k / 2) + 1)).1
 rcases Nat.mod_two_eq_zero_or_one k with e | e
 ·
  have : 2 * (k / 2) = k := by omega
  rw [this] at h1
  omega
 ·
  have : 2 * (k / 2) + 1 = k := by omega
  rw [this] at h1 h2
  omega
/-- A sum of 13 terms is not below that of 12. -/
theorem hV_step {q : Nat} {c : Nat} (p : Int) (i : Nat) (h0 : 0 ≤ p) : hV q c p (2 * i + 1) * ((mQ q c (2 * i + 1) : Nat) : Int) ≤ hV q c p (2 * (i + 1)) := by
 show _ ≤ hV q c p (2 * i + 1) * (mQ q c (2 * i + 1) : Nat) + (-p) ^ (2 * (i + 1))
 rw [(neg_pw p (i + 1)).1]
 have := pw_nonneg h0 (2 * (i + 1))
 omega
/-- Sums of another measure. -/
theorem hV_scale {q r : Nat} {c : Nat} (p : Int) : ∀ k, hV (q * r) c (p * r) k = hV q c p k * (r : Int) ^ k
 | 0 => by simp [hV]
 | k + 1 => by
  show hV (q * r) c (p * r) k * ((q * r * grN (c + 2 * k) 2 : Nat) : Int) + (-(p * r)) ^ (k + 1) = (hV q c p k * ((q * grN (c + 2 * k) 2 : Nat) : Int) + (-p) ^ (k + 1)) * (r : Int) ^ (k + 1)
  rw [hV_scale p k, ← Int.neg_mul, Int.mul_pow, Int.add_mul]
  congr 1
  rw [Int.pow_succ]
  simp only [Int.natCast_mul]
  ac_rfl
theorem uQ_scale {q r : Nat} {c : Nat} : ∀ k, uQ (q * r) c k = uQ q c k * r ^ k
 | 0 => by simp [uQ]
 | k + 1 => by
  show uQ (q * r) c k * (q * r * grN (c + 2 * k) 2) = uQ q c k * (q * grN (c + 2 * k) 2) * r ^ (k + 1)
  rw [uQ_scale k, Nat.pow_succ]
  ac_rfl
theorem fall_t {c : Nat} {m n : Int} (h0 : 0 ≤ m) (h : m ≤ n) (hn : n ≤ 4194304) (k : Nat) : tV c n k ≤ tV c m k := by
 rw [tV_hV, tV_hV]
 exact hV_mono h0 h (by omega) k
theorem uN_pos' (c k : Nat) : (0 : Int) < ((uN c k : Nat) : Int) := by have := uN_pos c k; omega
theorem lo_mono {c : Nat} {m n : Int} (h0 : 0 ≤ m) (h : m ≤ n) (hn : n ≤ 4194304) : loK c n ≤ loK c m :=
 Int.ediv_le_ediv (uN_pos' c 11) (Int.mul_le_mul_of_nonneg_right (fall_t h0 h hn 11) (by decide))
theorem hi_mono {c : Nat} {m n : Int} (h0 : 0 ≤ m) (h : m ≤ n) (hn : n ≤ 4194304) : hiK c n ≤ hiK c m := by
 have := Int.ediv_le_ediv (uN_pos' c 12) (Int.neg_le_neg (Int.mul_le_mul_of_nonneg_right (fall_t (c := c) h0 h hn 12) (show (0 : Int) ≤ 1048576 by decide)))
 unfold hiK
 omega
theorem lo_u (c : Nat) {n : Int} (h0 : 0 ≤ n) : loK c n * ((uN c 12 : Nat) : Int) ≤ tV c n 12 * 1048576 := by
 have h1 : loK c n * ((uN c 11 : Nat) : Int) ≤ tV c n 11 * 1048576 := Int.ediv_mul_le _ (by have := uN_pos' c 11; omega)
 have h2 : tV c n 11 * ((mN c 11 : Nat) : Int) ≤ tV c n 12 := by
  rw [tV_hV, tV_hV]
  exact hV_step n 5 h0
 have h3 := Int.mul_le_mul_of_nonneg_right h1 (show 0 ≤ ((mN c 11 : Nat) : Int) by omega)
 have h4 := Int.mul_le_mul_of_nonneg_right h2 (show (0 : Int) ≤ 1048576 by decide)
 have e : ((uN c 12 : Nat) : Int) = ((uN c 11 : Nat) : Int) * ((mN c 11 : Nat) : Int) := by
  show ((uN c 11 * mN c 11 : Nat) : Int) = _
  rw [Int.natCast_mul]
 rw [e, ← Int.mul_assoc]
 have e2 : tV c n 11 * 1048576 * ((mN c 11 : Nat) : Int) = tV c n 11 * ((mN c 11 : Nat) : Int) * 1048576 := by ac_rfl
 omega
theorem hi_u (c : Nat) (n : Int) : tV c n 12 * 1048576 ≤ hiK c n * ((uN c 12 : Nat) : Int) := by
 have h1 := Int.ediv_mul_le (-(tV c n 12 * 1048576)) (b := ((uN c 12 : Nat) : Int)) (by have := uN_pos' c 12; omega)
 unfold hiK
 rw [Int.neg_mul]
 omega
theorem le_of_mul {a b u : Int} (h : a * u ≤ b * u) (hu : 0 < u) : a ≤ b := Int.le_of_mul_le_mul_right h hu
theorem lo_le_hi {c : Nat} {m n : Int} (h0 : 0 ≤ m) (h : m ≤ n) (hn : n ≤ 4194304) : loK c n ≤ hiK c m := by
 have h1 := lo_u c (n := n) (by omega)
 have h2 := hi_u c m
 have h3 := Int.mul_le_mul_of_nonneg_right (fall_t (c := c) h0 h hn 12) (show (0 : Int) ≤ 1048576 by decide)
 exact le_of_mul (by omega) (uN_pos' c 12)
theorem lo_four : -1048576 ≤ loK 0 4194304 ∧ -1048576 ≤ loK 1 4194304 ∧ -1048576 ≤ loK 2 4194304 := of_decide_eq_true (by kernel_rfl)
theorem hi_zero : hiK 0 0 ≤ 1048576 ∧ hiK 1 0 ≤ 1048576 ∧ hiK 2 0 ≤ 1048576 := of_decide_eq_true (by kernel_rfl)
theorem lo_bd {c : Nat} {n : Int} (hc : c ≤ 2) (h0 : 0 ≤ n) (hn : n ≤ 4194304) : -1048576 ≤ loK c n := by
 have h1 := lo_mono (c := c) h0 hn (Int.le_refl _)
 have h2 := lo_four
 rcases (by omega : c = 0 ∨ c = 1 ∨ c = 2) with rfl | rfl | rfl <;> omega
theorem hi_bd {c : Nat} {n : Int} (hc : c ≤ 2) (h0 : 0 ≤ n) (hn : n ≤ 4194304) : hiK c n ≤ 1048576 := by
 have h1 := hi_mono (c := c) (Int.le_refl 0) h0 hn
 have h2 := hi_zero
 rcases (by omega : c = 0 ∨ c = 1 ∨ c = 2) with rfl | rfl | rfl <;> omega
theorem four_of {s : Sp} (h : inB s fourS = true) : okB s = true ∧ 0 ≤ s.lo ∧ s.lo ≤ s.hi ∧ s.hi ≤ 4194304 := by
 obtain ⟨hk, h0, h1⟩ := (in_ok (D := fourS) rfl).1 h
 exact ⟨hk, h0, (ok_of hk).2.1, h1⟩
theorem enc_out {c : Nat} {s : Sp} (h : inB s fourS = false) : encS c s = lineS := by unfold encS; rw [h]; rfl
theorem enc_ok {c : Nat} {s : Sp} (hc : c ≤ 2) (h : inB s fourS = true) : okB (encS c s) = true ∧ encS c s = ⟨loK c s.hi, hiK c s.lo, false⟩ ∧ -1048576 ≤ loK c s.hi ∧ loK c s.hi ≤ hiK c s.lo ∧ hiK c s.lo ≤ 1048576 := by
 obtain ⟨_, h0, h1, h2⟩ := four_of h
 have b1 := lo_bd (c := c) (n := s.hi) hc (by omega) h2
 have b2 := hi_bd (c := c) (n := s.lo) hc h0 (by omega)
 have b3 := lo_le_hi (c := c) h0 h1 h2
 have hk : okB ⟨loK c s.hi, hiK c s.lo, false⟩ = true := ok_mk (by show _ ≤ loK c s.hi; omega) b3 (by show hiK c s.lo ≤ _; omega) rfl
 have e : encS c s = ⟨loK c s.hi, hiK c s.lo, false⟩ := by
  unfold encS
  rw [h, if_pos rfl, ofS_le b3, mkS_ok hk]
 exact ⟨e ▸ hk, e, b1, b3, b2⟩
/-- A fraction is in a span. -/
def Rin (x : Sp) (N U : Int) : Prop := x.lo * U ≤ N ∧ N ≤ x.hi * U
theorem rin_enc {c : Nat} {s : Sp} (hc : c ≤ 2) (h : inB s fourS = true) {r : Nat} {p : Int} (h1 : s.lo * r ≤ p) (h2 : p ≤ s.hi * r) : Rin (encS c s) (hV (1048576 * r) c p 12 * 1048576) ((uQ (1048576 * r) c 12 : Nat) : Int) := by
 obtain ⟨_, h0, hm, h4⟩ := four_of h
 obtain ⟨_, e, _⟩ := enc_ok hc h
 have hr : (0 : Int) ≤ (r : Int) := by omega
 have p0 : 0 ≤ s.lo * r := Int.mul_nonneg h0 hr
 have p4 : s.hi * r ≤ 4 * ((1048576 * r : Nat) : Int) := by
  have := Int.mul_le_mul_of_nonneg_right h4 hr
  simp only [Int.natCast_mul]
  omega
 have m1 := hV_mono (c := c) p0 h1 (show p ≤ 4 * ((1048576 * r : Nat) : Int) by omega) 12
 have m2 := hV_mono (c := c) (show 0 ≤ p by omega) h2 p4 12
 rw [hV_scale] at m1 m2
 rw [← tV_hV] at m1 m2
 have u1 := lo_u c (n := s.hi) (by omega)
 have u2 := hi_u c s.lo
 have hk : (0 : Int) ≤ (r : Int) ^ 12 := pw_nonneg hr 12
 have v1 := Int.mul_le_mul_of_nonneg_right u1 hk
 have v2 := Int.mul_le_mul_of_nonneg_right u2 hk
 rw [e]
 have eU : ((uQ (1048576 * r) c 12 : Nat) : Int) = ((uN c 12 : Nat) : Int) * (r : Int) ^ 12 := by
  rw [uQ_scale, ← uN_uQ, Int.natCast_mul, Int.natCast_pow]
 have f1 : tV c s.hi 12 * 1048576 * (r : Int) ^ 12 = tV c s.hi 12 * (r : Int) ^ 12 * 1048576 := by ac_rfl
 have f2 : tV c s.lo 12 * 1048576 * (r : Int) ^ 12 = tV c s.lo 12 * (r : Int) ^ 12 * 1048576 := by ac_rfl
 constructor
 ·
  show loK c s.hi * _ ≤ _
  rw [eU, ← Int.mul_assoc]
  omega
 ·
  show _ ≤ hiK c s.lo * _
  rw [eU, ← Int.mul_assoc]
  omega
theorem rin_add {x y : Sp} {N M U : Int} (h : okB (addS x y) = true) (hx : Rin x N U) (hy : Rin y M U) : Rin (addS x y) (N + M) U := by
 rcases add_cases x y with e | ⟨_, _, _, e⟩
 ·
  rw [e] at h; cases h
 ·
  rw [e]
  obtain ⟨a, b⟩ := hx
  obtain ⟨c, d⟩ := hy
  constructor
  ·
   show (x.lo + y.lo) * U ≤ _
   rw [Int.add_mul]; omega
  ·
   show _ ≤ (x.hi + y.hi) * U
   rw [Int.add_mul]; omega
theorem rin_neg {x : Sp} {N U : Int} (hk : okB x = true) (hx : Rin x N U) : Rin (negS x) (-N) U := by
 have e : negS x = ⟨-x.hi, -x.lo, false⟩ := by unfold negS; rw [hk]; rfl
 rw [e]
 obtain ⟨a, b⟩ := hx
 constructor
 ·
  show -x.hi * U ≤ _
  rw [Int.neg_mul]; omega
 ·
  show _ ≤ -x.lo * U
  rw [Int.neg_mul]; omega
theorem rin_sqr {x : Sp} {N U : Int} (h : okB (sqrS x) = true) (hU : 0 < U) (hx : Rin x N U) : Rin (sqrS x) (N * N) (U * U * 1048576) := by
 have hk : okB x = true := by
  rcases sqr_cases x with e | ⟨_, h2, _⟩
  ·
   rw [e] at h; cases h
  ·
   exact h2
 have k := (ok_of hk).2.1
 have s1 := sqr_holds h (Int.le_refl x.lo) k
 have s2 := sqr_holds h k (Int.le_refl x.hi)
 have hUU : 0 ≤ U * U := Int.mul_nonneg (by omega) (by omega)
 have g1 := Int.mul_le_mul_of_nonneg_right s1.1 hUU
 have g2 := Int.mul_le_mul_of_nonneg_right s1.2 hUU
 have g3 := Int.mul_le_mul_of_nonneg_right s2.1 hUU
 have g4 := Int.mul_le_mul_of_nonneg_right s2.2 hUU
 have e1 : x.lo * U * (x.lo * U) = x.lo * x.lo * (U * U) := by ac_rfl
 have e2 : x.hi * U * (x.hi * U) = x.hi * x.hi * (U * U) := by ac_rfl
 have e3 : (sqrS x).lo * (U * U * 1048576) = (sqrS x).lo * 1048576 * (U * U) := by ac_rfl
 have e4 : (sqrS x).hi * (U * U * 1048576) = (sqrS x).hi * 1048576 * (U * U) := by ac_rfl
 have t1 := sqr_hold1 hx.1 hx.2
 rw [e1, e2] at t1
 constructor
 ·
  rw [e3]
  by_cases h0 : x.lo ≤ 0 ∧ 0 ≤ x.hi
  ·
   have s3 := (sqr_holds h h0.1 h0.2).1
   have g5 := Int.mul_le_mul_of_nonneg_right s3 hUU
   have := sq_pos N
   simp only [Int.mul_zero, Int.zero_mul] at g5
   omega
  ·
   have t2 := sqr_hold2 hx.1 hx.2 (by
    rcases Int.lt_or_le 0 x.lo with q | q
    ·
     exact .inl (Int.mul_pos q hU)
    ·
     refine .inr ?_
     have : x.hi < 0 := by omega
     exact Int.mul_neg_of_neg_of_pos this hU)
   rw [e1, e2] at t2
   omega
 ·
  rw [e4]
  omega
theorem rin_mulS {x y : Sp} {N M U V : Int} (h : okB (mulS x y) = true) (hU : 0 < U) (hV : 0 < V) (hx : Rin x N U) (hy : Rin y M V) : Rin (mulS x y) (N * M) (U * V * 1048576) := by
 obtain ⟨kx, ky⟩ : okB x = true ∧ okB y = true := by
  rcases mul_cases x y with e | ⟨_, h1, h2, _⟩
  ·
   rw [e] at h; cases h
  ·
   exact ⟨h1, h2⟩
 have k1 := (ok_of kx).2.1
 have k2 := (ok_of ky).2.1
 have hUV : 0 ≤ U * V := Int.mul_nonneg (by omega) (by omega)
 have B := bil (x := ⟨x.lo * U, x.hi * U, false⟩) (y := ⟨y.lo * V, y.hi * V, false⟩) hx.1 hx.2 hy.1 hy.2
 have c : ∀ a b : Int, a * U * (b * V) = a * b * (U * V) := fun a b => by ac_rfl
 unfold min4 max4 at B
 simp only [c] at B
 have m1 := mul_holds h (Int.le_refl x.lo) k1 (Int.le_refl y.lo) k2
 have m2 := mul_holds h (Int.le_refl x.lo) k1 k2 (Int.le_refl y.hi)
 have m3 := mul_holds h k1 (Int.le_refl x.hi) (Int.le_refl y.lo) k2
 have m4 := mul_holds h k1 (Int.le_refl x.hi) k2 (Int.le_refl y.hi)
 have q : ∀ {a b : Int}, a ≤ b → a * (U * V) ≤ b * (U * V) := fun h => Int.mul_le_mul_of_nonneg_right h hUV
 have a1 := q m1.1
 have a2 := q m2.1
 have a3 := q m3.1
 have a4 := q m4.1
 have b1 := q m1.2
 have b2 := q m2.2
 have b3 := q m3.2
 have b4 := q m4.2
 have e3 : (mulS x y).lo * (U * V * 1048576) = (mulS x y).lo * 1048576 * (U * V) := by ac_rfl
 have e4 : (mulS x y).hi * (U * V * 1048576) = (mulS x y).hi * 1048576 * (U * V) := by ac_rfl
 constructor
 ·
  rw [e3]; omega
 ·
  rw [e4]; omega
/-- Two spans that hold nearly the same meet. -/
theorem rin_le {x y : Sp} {N M D : Int} (hD : 0 < D) (hx : Rin x N D) (hy : Rin y M D) (h : N - M < D) : x.lo ≤ y.hi := by
 have h1 : x.lo * D < (y.hi + 1) * D := by
  rw [Int.add_mul]
  have := hx.1
  have := hy.2
  omega
 have := Int.lt_of_mul_lt_mul_right h1 (by omega)
 omega
theorem meet_of {x y : Sp} (h : okB x = true → okB y = true → x.lo ≤ y.hi ∧ y.lo ≤ x.hi) : meetB x y = true := by
 unfold meetB
 cases hx : okB x
 ·
  rfl
 ·
  cases hy : okB y
  ·
   rfl
  ·
   have k1 := (ok_of hx).2.1
   have k2 := (ok_of hy).2.1
   obtain ⟨h1, h2⟩ := h hx hy
   simp only [Bool.not_true, Bool.false_or, decide_eq_true_eq]
   omega
theorem of_one {n : Int} : ofS n n = lineS ∨ (okB (ofS n n) = true ∧ ofS n n = ⟨n, n, false⟩ ∧ -2147483647 ≤ n ∧ n ≤ 2147483647) := by
 rw [ofS_le (Int.le_refl n)]
 cases h : okB ⟨n, n, false⟩
 ·
  exact .inl (mkS_no h)
 ·
  have k := ok_of h
  exact .inr ⟨by rw [mkS_ok h]; exact h, mkS_ok h, k.1, k.2.2.1⟩
theorem in_of_enc {c : Nat} {s : Sp} (h : okB (encS c s) = true) : inB s fourS = true := by
 cases hs : inB s fourS
 ·
  rw [enc_out hs] at h; cases h
 ·
  rfl
end Go.Proofs.Ytdochhhepmlapaa

/- Polynomials of one and of two numbers by their lists of coefficients: enough to see that what is left of the rules of sines is small. No statement of the seat is proved here. -/
namespace Go.Proofs.Ytdochhhepmlapaa
open Go.RowKit
def ev : List Int → Int → Int
 | [], _ => 0
 | a :: l, x => a + x * ev l x
def addP : List Int → List Int → List Int
 | [], m => m
 | a :: l, [] => a :: l
 | a :: l, b :: m => (a + b) :: addP l m
def sclP (k : Int) : List Int → List Int
 | [] => []
 | a :: l => (k * a) :: sclP k l
def mulP : List Int → List Int → List Int
 | [], _ => []
 | a :: l, m => addP (sclP a m) (0 :: mulP l m)
def absP : List Int → List Int
 | [] => []
 | a :: l => (a.natAbs : Int) :: absP l
def evens : List Int → List Int
 | [] => []
 | a :: l => a :: 0 :: evens l
theorem ev_scl (k x : Int) : ∀ l, ev (sclP k l) x = k * ev l x
 | [] => by simp [sclP, ev]
 | a :: l => by
  show k * a + x * ev (sclP k l) x = k * (a + x * ev l x)
  rw [ev_scl k x l]
  grind
theorem ev_app (x : Int) (a : Int) : ∀ l, ev (l ++ [a]) x = ev l x + x ^ l.length * a
 | [] => by simp [ev]
 | b :: l => by
  show b + x * ev (l ++ [a]) x = b + x * ev l x + x ^ (l.length + 1) * a
  rw [ev_app x a l, Int.pow_succ]
  grind
theorem abs_mul_le {x r B R : Int} (h1 : -B ≤ x) (h2 : x ≤ B) (h3 : -R ≤ r) (h4 : r ≤ R) : -(B * R) ≤ x * r ∧ x * r ≤ B * R := by
 have hP : 0 ≤ B * R := Int.mul_nonneg (by omega) (by omega)
 have b := bil (x := ⟨-B, B, false⟩) (y := ⟨-R, R, false⟩) h1 h2 h3 h4
 unfold min4 max4 at b
 have e1 : -B * -R = B * R := by grind
 have e2 : -B * R = -(B * R) := by grind
 have e3 : B * -R = -(B * R) := by grind
 rw [show (⟨-B, B, false⟩ : Sp).lo = -B from rfl, show (⟨-B, B, false⟩ : Sp).hi = B from rfl, show (⟨-R, R, false⟩ : Sp).lo = -R from rfl, show (⟨-R, R, false⟩ : Sp).hi = R from rfl, e1, e2, e3] at b
 generalize B * R = P at *
 generalize x * r = z at *
 omega
/-- The sums' lists. -/
def hP (q c : Nat) : Nat → List Int
 | 0 => [1]
 | k + 1 => sclP ((mQ q c k : Nat) : Int) (hP q c k) ++ [(-1) ^ (k + 1)]
theorem scl_len (k : Int) : ∀ l, (sclP k l).length = l.length
 | [] => rfl
 | _ :: l => by
  show (sclP k l).length + 1 = l.length + 1
  rw [scl_len k l]
theorem hP_len (q c : Nat) : ∀ k, (hP q c k).length = k + 1
 | 0 => rfl
 | k + 1 => by
  show (sclP _ (hP q c k) ++ [_]).length = _
  rw [List.length_append, scl_len, hP_len q c k]
  rfl
theorem hP_ev (q c : Nat) (p : Int) : ∀ k, ev (hP q c k) p = hV q c p k
 | 0 => by simp [hP, ev, hV]
 | k + 1 => by
  show ev (sclP _ (hP q c k) ++ [_]) p = hV q c p k * ((mQ q c k : Nat) : Int) + (-p) ^ (k + 1)
  rw [ev_app, ev_scl, hP_ev q c p k, scl_len, hP_len, Int.neg_eq_neg_one_mul p, Int.mul_pow, Int.mul_comm (p ^ (k + 1)), Int.mul_comm ((mQ q c k : Nat) : Int)]
/-- Polynomials of two numbers. -/
def ev2 : List (List Int) → Int → Int → Int
 | [], _, _ => 0
 | a :: l, x, y => ev a y + x * ev2 l x y
def add2 : List (List Int) → List (List Int) → List (List Int)
 | [], m => m
 | a :: l, [] => a :: l
 | a :: l, b :: m => addP a b :: add2 l m
def scl2 (k : List Int) : List (List Int) → List (List Int)
 | [] => []
 | a :: l => mulP k a :: scl2 k l
def mul2 : List (List Int) → List (List Int) → List (List Int)
 | [], _ => []
 | a :: l, m => add2 (scl2 a m) ([] :: mul2 l m)
def abs2 : List (List Int) → List (List Int)
 | [] => []
 | a :: l => absP a :: abs2 l
def inX : List Int → List (List Int)
 | [] => []
 | a :: l => [a] :: inX l
def inXY : List Int → List (List Int)
 | [] => []
 | a :: l => add2 [[a]] (mul2 [[0, 1], [1]] (inXY l))
end Go.Proofs.Ytdochhhepmlapaa

/- Sines and cosines of numbers: what is enclosed holds them; what is left of their rules is small. No statement of the seat is proved here. -/
namespace Go.Proofs.Ytdochhhepmlapaa
open Go.RowKit
def kK (q : Nat) : Int := ((uQ q 1 12 : Nat) : Int)
def lE (q : Nat) : List Int := addP (addP (sclP (625 * (q : Int)) (mulP (hP q 0 12) (hP q 0 12))) (0 :: mulP (hP q 1 12) (hP q 1 12))) [-(kK q * kK q * (q : Int))]
theorem c20 : ev (absP (lE 1048576)) 4194304 < kK 1048576 * kK 1048576 := of_decide_eq_true (by kernel_rfl)
def hX (q : Nat) : List Int := evens (hP q 0 12)
def hS (q : Nat) : List Int := 0 :: evens (hP q 1 12)
def lF (q : Nat) : List (List Int) := add2 (scl2 [25] (add2 (mul2 (inX (hS q)) [hX q]) (mul2 (inX (hX q)) [hS q]))) (scl2 [-kK q] (inXY (hS q)))
def lG (q : Nat) : List (List Int) := add2 (add2 (scl2 [625 * (q : Int)] (mul2 (inX (hX q)) [hX q])) (scl2 [-1] (mul2 (inX (hS q)) [hS q]))) (scl2 [-(25 * (q : Int) * kK q)] (inXY (hX q)))
theorem cF : ev2 (abs2 (lF (1048576 * 1048576))) 2097152 2097152 < kK (1048576 * 1048576) * kK (1048576 * 1048576) := of_decide_eq_true (by kernel_rfl)
theorem cG : ev2 (abs2 (lG (1048576 * 1048576))) 2097152 2097152 < kK (1048576 * 1048576) * kK (1048576 * 1048576) * 1048576 := of_decide_eq_true (by kernel_rfl)
theorem k_pos {q : Nat} (h : 0 < q) : 0 < kK q := by
 have := uQ_pos h 1 12
 show (0 : Int) < ((uQ q 1 12 : Nat) : Int)
 omega
/-- The sums at an angle. -/
def C0 (x : Int) : Int := hV (1048576 * 1048576) 0 (x * x) 12
def KK : Int := kK (1048576 * 1048576)
theorem kk_pos : 0 < KK := k_pos (by decide)
theorem one_of {x : Int} (h : okB (ofS x x) = true) : ofS x x = ⟨x, x, false⟩ := by
 rcases of_one (n := x) with e | ⟨_, e, _⟩
 ·
  rw [e] at h; cases h
 ·
  exact e
end Go.Proofs.Ytdochhhepmlapaa
