/- Parts of the proof. -/
import Derived.Test.YtolpfibihialkaaGreatGr0
import Derived.Test.YtolpfibihialkaaGreatGr25
import Derived.Test.YtolpfibihialkaaGreatGr27
import Derived.Test.YtolpfibihialkaaGreatGr1
/- Sines and cosines: the walks of enclosed, A, B, C, Sin, Cos. No statement of the seat is proved here. -/
namespace Go.Proofs.YtolpfibihialkaaGreat
open Go.RowKit
theorem heap_far2 {w : World} {k j : Nat} (a b : Value) (h : k ≠ j) : ((w.setCell ⟨j, 0, none⟩ a).setCell ⟨j, 1, none⟩ b).heap[k]? = w.heap[k]? := by rw [heap_set_ne _ _ h, heap_set_ne _ _ h]
theorem bs_far2 {w W : World} {x y : Sp} (h : Bs w W [x, y]) {j : Nat} (hj : w.heap.size + 2 ≤ j) (a b : Value) : Bs w ((W.setCell ⟨j, 0, none⟩ a).setCell ⟨j, 1, none⟩ b) [x, y] := by
 refine ⟨below_put h.below (by omega) _ _, fun i x' hx => ?_⟩
 have hi : i < 2 := (List.getElem?_eq_some_iff.1 hx).1
 exact (heap_far2 (w := W) (k := w.heap.size + i) a b (by omega)).trans (h.at' i x' hx)
/-- The ends of what is enclosed. -/
def loK (c : Nat) (n : Int) : Int := tV c n 11 * 1048576 / ((uN c 11 : Nat) : Int)
def hiK (c : Nat) (n : Int) : Int := -(-(tV c n 12 * 1048576) / ((uN c 12 : Nat) : Int))
def fourS : Sp := ⟨0, 4194304, false⟩
def encS (c : Nat) (s : Sp) : Sp := if inB s fourS then ofS (loK c s.hi) (hiK c s.lo) else lineS
theorem div_bd {x u b : Int} (hu : 0 < u) (h1 : x ≤ b * u) (h2 : -(b * u) ≤ x) : -b ≤ x / u ∧ x / u ≤ b := by
 constructor
 ·
  exact (Int.le_ediv_iff_mul_le hu).2 (by rw [Int.neg_mul]; exact h2)
 ·
  have : x / u < b + 1 := (Int.ediv_lt_iff_lt_mul hu).2 (by rw [Int.add_mul]; omega)
  omega
theorem tV_ab {c k : Nat} {n : Int} (h0 : 0 ≤ n) (h1 : n ≤ 4194304) (hc : c ≤ 2) (hk : k ≤ 12) : tV c n k * 1048576 ≤ 228698418577408 * ((uN c k : Nat) : Int) ∧ -(228698418577408 * ((uN c k : Nat) : Int)) ≤ tV c n k * 1048576 := by
 have h2 := tV_u h0 h1 hc hk
 have h3 : (k + 1) * 4 ^ k ≤ 13 * 4 ^ 12 := Nat.mul_le_mul (by omega) (Nat.pow_le_pow_right (by decide) hk)
 have h4 := Nat.mul_le_mul h3 (Nat.le_refl (uN c k))
 have h5 : 13 * 4 ^ 12 = 218103808 := by decide
 rw [h5] at h4
 generalize uN c k = U at *
 omega
theorem loK_bd {c : Nat} {n : Int} (h0 : 0 ≤ n) (h1 : n ≤ 4194304) (hc : c ≤ 2) : -228698418577408 ≤ loK c n ∧ loK c n ≤ 228698418577408 := by
 have h2 := tV_ab h0 h1 hc (k := 11) (by omega)
 have hu : (0 : Int) < ((uN c 11 : Nat) : Int) := by have := uN_pos c 11; omega
 exact div_bd hu h2.1 h2.2
theorem hiK_bd {c : Nat} {n : Int} (h0 : 0 ≤ n) (h1 : n ≤ 4194304) (hc : c ≤ 2) : -228698418577408 ≤ -(tV c n 12 * 1048576) / ((uN c 12 : Nat) : Int) ∧ -(tV c n 12 * 1048576) / ((uN c 12 : Nat) : Int) ≤ 228698418577408 := by
 have h2 := tV_ab h0 h1 hc (k := 12) (by omega)
 have hu : (0 : Int) < ((uN c 12 : Nat) : Int) := by have := uN_pos c 12; omega
 exact div_bd hu (by omega) (by omega)
theorem ten_bd (k : Nat) (z : Int) (h : z.natAbs < BB ^ k) : (z * 1048576).natAbs < BB ^ (k + 1) := by
 rw [Int.natAbs_mul, Nat.pow_succ]
 exact Nat.mul_lt_mul_of_lt_of_le h (by decide) (by decide)
set_option maxRecDepth 100000 in
set_option maxHeartbeats 3200000 in
theorem enc_no (c : Nat) (s : Sp) (h : inB s fourS = false) (w : World) : Calls Tryz.prog 61 #[.agg #[.int .i64 s.lo, .int .i64 s.hi, .bool s.all], .int .i64 (c : Int)] w (PSp lineS w) := by
 have HO : Hid (∀ W : World, Calls Tryz.prog 23 #[.int .i64 0, .int .i64 4194304] W (PSp fourS W)) := show ∀ W : World, _ from fun W => sOf_any 0 4194304 W
 have HI : Hid (∀ W : World, Calls Tryz.prog 51 #[.agg #[.int .i64 s.lo, .int .i64 s.hi, .bool s.all], .agg #[.int .i64 fourS.lo, .int .i64 fourS.hi, .bool fourS.all]] W (PVal (.bool false) W)) := show ∀ W : World, _ from fun W => h ▸ In_any s fourS W
 clear h
 go_enter Tryz.func61, Tryz.ntmps61
 go_wp2
 have hX := bs2 w s.lo s.hi s.all 0 0 false
 generalize (w.alloc (.cells #[.int .i64 s.lo, .int .i64 s.hi, .bool s.all] 23)).alloc (.cells #[.int .i64 0, .int .i64 0, .bool false] 23) = w1 at *
 refine wp_region_vals 4 [some 9, some 10, some 11, some 12] (lstV [.agg #[.int .i64 s.lo, .int .i64 s.hi, .bool s.all], .agg #[.int .i64 fourS.lo, .int .i64 fourS.hi, .bool fourS.all], .bool false, .bool true]) (fun W => Bs w W [s, ⟨0, 0, false⟩]) (by kernel_rfl) (by kernel_rfl) (by decide) (hX.drew) ?_ ?_
 ·
  intro i hl hi u W hJ hd
  obtain rfl | rfl | rfl | rfl : i = 0 ∨ i = 1 ∨ i = 2 ∨ i = 3 := by omega
  ·
   clear hd
   simp only [zzA, zzB]
   clear hl
   refine .inr ⟨rfl, fun K' hK => ?_⟩
   have HK := Lib.hid hK
   clear hK
   simp only [layS, Act.put, zzC, zzD, zzE, Nat.zero_add, Nat.reduceAdd]
   have c00 := hJ.c0.1
   have c01 := hJ.c0.2.1
   have c02 := hJ.c0.2.2.1
   have c03 := hJ.c0.2.2.2.1
   have c04 := hJ.c0.2.2.2.2.1
   have c05 := hJ.c0.2.2.2.2.2
   go_simp
   exact HK.out _ _ (by simp [layS, updV, lstV, Act.put]) hJ
  ·
   clear hd
   simp only [zzA, zzB]
   clear hl
   refine .inr ⟨rfl, fun K' hK => ?_⟩
   have HK := Lib.hid hK
   clear hK
   simp only [layS, Act.put, zzC, zzD, zzE, Nat.zero_add, Nat.reduceAdd]
   go_simp
   refine (HO.out W).mono ?_
   rintro e W' ⟨rfl, hB⟩
   exact HK.out _ _ (by simp [layS, updV, lstV, Act.put]) (hJ.later hB)
  ·
   have e0 : u 0 = .agg #[.int .i64 s.lo, .int .i64 s.hi, .bool s.all] := hd 0 (by kernel_rfl)
   have e1 : u 1 = .agg #[.int .i64 fourS.lo, .int .i64 fourS.hi, .bool fourS.all] := hd 1 (by kernel_rfl)
   clear hd
   simp only [zzA, zzB]
   clear hl
   refine .inr ⟨rfl, fun K' hK => ?_⟩
   have HK := Lib.hid hK
   clear hK
   simp only [layS, Act.put, zzC, zzD, zzE, Nat.zero_add, Nat.reduceAdd, e0, e1]
   have E0 := Lib.hid e0
   have E1 := Lib.hid e1
   clear e0 e1
   go_simp
   refine (HI.out W).mono ?_
   rintro e W' ⟨rfl, hB⟩
   exact HK.out _ _ (by simp [layS, updV, lstV, Act.put, E0.out, E1.out]) (hJ.later hB)
  ·
   have e2 : u 2 = .bool false := hd 2 (by kernel_rfl)
   clear hd
   simp only [zzA, zzB]
   clear hl
   refine .inr ⟨rfl, fun K' hK => ?_⟩
   have HK := Lib.hid hK
   clear hK
   simp only [layS, Act.put, zzC, zzD, zzE, Nat.zero_add, Nat.reduceAdd, e2]
   have E2 := Lib.hid e2
   clear e2
   go_simp
   exact HK.out _ _ (by simp [layS, updV, lstV, Act.put, E2.out]) hJ
 intro W hJ
 simp only [layS, lstV, Act.put, zzC, zzD, zzE, Nat.zero_add, Nat.reduceAdd, List.getD_cons_zero, List.getD_cons_succ, List.drop_succ_cons, List.drop_zero, List.drop_nil]
 have c10 := hJ.c1.1
 have c11 := hJ.c1.2.1
 have c12 := hJ.c1.2.2.1
 have c13 := hJ.c1.2.2.2.1
 have c14 := hJ.c1.2.2.2.2.1
 have c15 := hJ.c1.2.2.2.2.2
 go_wp2
 have hp := hJ.put 1 (by simp) lineS
 exact bodyPost_ret (v := .agg #[.int .i64 lineS.lo, .int .i64 lineS.hi, .bool lineS.all]) (by simp [results, Tryz.results61, go_sem, c10, c11, c12, lineS]) rfl ⟨rfl, hp.below⟩
set_option maxRecDepth 100000 in
set_option maxHeartbeats 3200000 in
theorem enc_walk (c : Nat) (s : Sp) (X1 X2 v1 v2 q1 q2 : Int) (z : Sp) (h : inB s fourS = true) (hw2 : IntKind.i64.wrap (-q2) = -q2) (hs1 : ∀ W : World, Calls Tryz.prog 81 #[.int .i64 s.hi, .int .i64 (c : Int), .int .i64 12] W (PSum X1 v1 W)) (hs2 : ∀ W : World, Calls Tryz.prog 81 #[.int .i64 s.lo, .int .i64 (c : Int), .int .i64 13] W (PSum X2 v2 W)) (hd1 : ∀ (b : Bool) (a : Option Addr) (n k : Nat) (b' : Bool) (a' : Option Addr) (n' k' : Nat) (W : World), Num W b a n k X1 → Num W b' a' n' k' v1 → Calls Tryz.prog 82 #[.agg #[.bool b, .slice a n k], .agg #[.bool b', .slice a' n' k']] W (PVal (.int .i64 q1) W)) (hn2 : ∀ (b : Bool) (a : Option Addr) (n k : Nat) (W : World), Num W b a n k X2 → n ≤ 40) (hd2 : ∀ (b : Bool) (a : Option Addr) (n k : Nat) (b' : Bool) (a' : Option Addr) (n' k' : Nat) (W : World), Num W b a n k (-X2) → Num W b' a' n' k' v2 → Calls Tryz.prog 82 #[.agg #[.bool b, .slice a n k], .agg #[.bool b', .slice a' n' k']] W (PVal (.int .i64 q2) W)) (hf : ∀ W : World, Calls Tryz.prog 23 #[.int .i64 q1, .int .i64 (-q2)] W (PSp z W)) (w : World) : Calls Tryz.prog 61 #[.agg #[.int .i64 s.lo, .int .i64 s.hi, .bool s.all], .int .i64 (c : Int)] w (PSp z w) := by
 have HO : Hid (∀ W : World, Calls Tryz.prog 23 #[.int .i64 0, .int .i64 4194304] W (PSp fourS W)) := show ∀ W : World, _ from fun W => sOf_any 0 4194304 W
 have HI : Hid (∀ W : World, Calls Tryz.prog 51 #[.agg #[.int .i64 s.lo, .int .i64 s.hi, .bool s.all], .agg #[.int .i64 fourS.lo, .int .i64 fourS.hi, .bool fourS.all]] W (PVal (.bool true) W)) := show ∀ W : World, _ from fun W => h ▸ In_any s fourS W
 have HS1 := Lib.hid hs1
 have HS2 := Lib.hid hs2
 have HD1 := Lib.hid hd1
 have HD2 := Lib.hid hd2
 have HN2 := Lib.hid hn2
 have HF := Lib.hid hf
 clear h hs1 hs2 hd1 hd2 hn2 hf
 go_enter Tryz.func61, Tryz.ntmps61
 go_wp2
 have hX := bs2 w s.lo s.hi s.all 0 0 false
 generalize (w.alloc (.cells #[.int .i64 s.lo, .int .i64 s.hi, .bool s.all] 23)).alloc (.cells #[.int .i64 0, .int .i64 0, .bool false] 23) = w1 at *
 refine wp_region_vals 4 [some 9, some 10, some 11, some 12] (lstV [.agg #[.int .i64 s.lo, .int .i64 s.hi, .bool s.all], .agg #[.int .i64 fourS.lo, .int .i64 fourS.hi, .bool fourS.all], .bool true, .bool false]) (fun W => Bs w W [s, ⟨0, 0, false⟩]) (by kernel_rfl) (by kernel_rfl) (by decide) (hX.drew) ?_ ?_
 ·
  intro i hl hi u W hJ hd
  obtain rfl | rfl | rfl | rfl : i = 0 ∨ i = 1 ∨ i = 2 ∨ i = 3 := by omega
  ·
   clear hd
   simp only [zzA, zzB]
   clear hl
   refine .inr ⟨rfl, fun K' hK => ?_⟩
   have HK := Lib.hid hK
   clear hK
   simp only [layS, Act.put, zzC, zzD, zzE, Nat.zero_add, Nat.reduceAdd]
   have c00 := hJ.c0.1
   have c01 := hJ.c0.2.1
   have c02 := hJ.c0.2.2.1
   have c03 := hJ.c0.2.2.2.1
   have c04 := hJ.c0.2.2.2.2.1
   have c05 := hJ.c0.2.2.2.2.2
   go_simp
   exact HK.out _ _ (by simp [layS, updV, lstV, Act.put]) hJ
  ·
   clear hd
   simp only [zzA, zzB]
   clear hl
   refine .inr ⟨rfl, fun K' hK => ?_⟩
   have HK := Lib.hid hK
   clear hK
   simp only [layS, Act.put, zzC, zzD, zzE, Nat.zero_add, Nat.reduceAdd]
   go_simp
   refine (HO.out W).mono ?_
   rintro e W' ⟨rfl, hB⟩
   exact HK.out _ _ (by simp [layS, updV, lstV, Act.put]) (hJ.later hB)
  ·
   have e0 : u 0 = .agg #[.int .i64 s.lo, .int .i64 s.hi, .bool s.all] := hd 0 (by kernel_rfl)
   have e1 : u 1 = .agg #[.int .i64 fourS.lo, .int .i64 fourS.hi, .bool fourS.all] := hd 1 (by kernel_rfl)
   clear hd
   simp only [zzA, zzB]
   clear hl
   refine .inr ⟨rfl, fun K' hK => ?_⟩
   have HK := Lib.hid hK
   clear hK
   simp only [layS, Act.put, zzC, zzD, zzE, Nat.zero_add, Nat.reduceAdd, e0, e1]
   have E0 := Lib.hid e0
   have E1 := Lib.hid e1
   clear e0 e1
   go_simp
   refine (HI.out W).mono ?_
   rintro e W' ⟨rfl, hB⟩
   exact HK.out _ _ (by simp [layS, updV, lstV, Act.put, E0.out, E1.out]) (hJ.later hB)
  ·
   have e2 : u 2 = .bool true := hd 2 (by kernel_rfl)
   clear hd
   simp only [zzA, zzB]
   clear hl
   refine .inr ⟨rfl, fun K' hK => ?_⟩
   have HK := Lib.hid hK
   clear hK
   simp only [layS, Act.put, zzC, zzD, zzE, Nat.zero_add, Nat.reduceAdd, e2]
   have E2 := Lib.hid e2
   clear e2
   go_simp
   exact HK.out _ _ (by simp [layS, updV, lstV, Act.put, E2.out]) hJ
 intro W hJ
 simp only [layS, lstV, Act.put, zzC, zzD, zzE, Nat.zero_add, Nat.reduceAdd, List.getD_cons_zero, List.getD_cons_succ, List.drop_succ_cons, List.drop_zero, List.drop_nil]
 clear hX
 have c00 := hJ.c0.1
 have c01 := hJ.c0.2.1
 have c02 := hJ.c0.2.2.1
 have c03 := hJ.c0.2.2.2.1
 have c04 := hJ.c0.2.2.2.2.1
 have c05 := hJ.c0.2.2.2.2.2
 go_wp2_with fail
 clear c00 c01 c02 c03 c04 c05
 refine (HS1.out _).mono ?_
 rintro e W2 ⟨T1, T2, T3, T4, U1', U2', U3, U4, rfl, hT, hU, hB⟩
 replace hJ := hJ.later hB
 clear hB HS1
 have kT := (v4_new hT).later (below_nw _ (.cells #[.bool U1', .slice U2' U3 U4] 89))
 have kU := v4_new (hU.below (below_nw _ (.cells #[.bool T1, .slice T2 T3 T4] 89)))
 rw [show (W2.alloc (.cells #[.bool T1, .slice T2 T3 T4] 89)).heap.size = W2.heap.size + 1 by simp] at kU
 have hB2 : Below W2.heap.size W2 ((W2.alloc (.cells #[.bool T1, .slice T2 T3 T4] 89)).alloc (.cells #[.bool U1', .slice U2' U3 U4] 89)) := ((Below.refl _ _).alloc (Nat.le_refl _) _).alloc (by simp) _
 have hge : w.heap.size + 2 ≤ W2.heap.size := hJ.sz
 replace hJ := hJ.later hB2
 clear hB2 hT hU
 have t5 := kT.cells.1
 have t6 := kT.cells.2.1
 have t7 := kT.cells.2.2.1
 have t8 := kT.cells.2.2.2
 have u5 := kU.cells.1
 have u6 := kU.cells.2.1
 have u7 := kU.cells.2.2.1
 have u8 := kU.cells.2.2.2
 go_wp2_with fail
 clear t5 t6 t7 t8 u5 u6 u7 u8
 generalize (W2.alloc (.cells #[.bool T1, .slice T2 T3 T4] 89)).alloc (.cells #[.bool U1', .slice U2' U3 U4] 89) = W3 at *
 generalize W2.heap.size = kk at *
 refine (HD1.out _ _ _ _ _ _ _ _ _ kT.num kU.num).mono ?_
 rintro e W4 ⟨rfl, hB⟩
 replace hJ := hJ.later hB
 replace kT := kT.later hB
 replace kU := kU.later hB
 clear hB HD1
 have c00 := hJ.c0.1
 have c01 := hJ.c0.2.1
 have c02 := hJ.c0.2.2.1
 have c03 := hJ.c0.2.2.2.1
 have c04 := hJ.c0.2.2.2.2.1
 have c05 := hJ.c0.2.2.2.2.2
 go_wp2_with fail
 clear c00 c01 c02 c03 c04 c05
 refine (HS2.out _).mono ?_
 rintro e W5 ⟨P1, P2, P3, P4, R1, R2, R3, R4, rfl, hT, hU, hB⟩
 replace hJ := hJ.later hB
 replace kT := kT.later hB
 replace kU := kU.later hB
 clear hB HS2
 have jT := (kT.put hT).far (kU.far kT (by omega) (.bool P1) (.slice P2 P3 P4)) (by omega) (.bool R1) (.slice R2 R3 R4)
 have jU := (kU.far kT (by omega) (.bool P1) (.slice P2 P3 P4)).put (hU.store kT.bx (.bool P1) (.slice P2 P3 P4))
 have hJ5 : Bs w ((((W5.setCell ⟨kk, 0, none⟩ (.bool P1)).setCell ⟨kk, 1, none⟩ (.slice P2 P3 P4)).setCell ⟨kk + 1, 0, none⟩ (.bool R1)).setCell ⟨kk + 1, 1, none⟩ (.slice R2 R3 R4)) [s, ⟨0, 0, false⟩] := bs_far2 (bs_far2 hJ hge _ _) (by omega) _ _
 have t5 := kT.cells.1
 have t6 := kT.cells.2.1
 have t7 := kT.cells.2.2.1
 have t8 := kT.cells.2.2.2
 have u5 := kU.cells.1
 have u6 := kU.cells.2.1
 have u7 := kU.cells.2.2.1
 have u8 := kU.cells.2.2.2
 go_wp2
 clear t5 t6 t7 t8 u5 u6 u7 u8 kT kU hJ hT hU
 generalize (((W5.setCell ⟨kk, 0, none⟩ (.bool P1)).setCell ⟨kk, 1, none⟩ (.slice P2 P3 P4)).setCell ⟨kk + 1, 0, none⟩ (.bool R1)).setCell ⟨kk + 1, 1, none⟩ (.slice R2 R3 R4) = W6 at *
 refine wp_region_rel 6 [some 31, some 32, some 33, some 34, some 35, some 8] (lstP [Veq (.agg #[.bool P1, .slice P2 P3 P4]), VN (-X2), Veq (.agg #[.bool R1, .slice R2 R3 R4]), Veq (.int .i64 q2), Veq (.int .i64 (-q2)), Veq (.int .i64 (-q2))]) (fun W => Bs w W [s, ⟨0, 0, false⟩] ∧ V4 W kk P1 P2 P3 P4 X2 ∧ V4 W (kk + 1) R1 R2 R3 R4 v2) [] (by kernel_rfl) (by kernel_rfl) ?_ ?_ (⟨hJ5.drew, jT.drew, jU.drew⟩) ?_ ?_
 ·
  intro j v W W' hj h hb
  obtain rfl | rfl | rfl | rfl | rfl | rfl : j = 0 ∨ j = 1 ∨ j = 2 ∨ j = 3 ∨ j = 4 ∨ j = 5 := by omega
  ·
   exact Veq.later (show Veq (.agg #[.bool P1, .slice P2 P3 P4]) v W from h) hb
  ·
   exact VN.later (show VN (-X2) v W from h) hb
  ·
   exact Veq.later (show Veq (.agg #[.bool R1, .slice R2 R3 R4]) v W from h) hb
  ·
   exact Veq.later (show Veq (.int .i64 q2) v W from h) hb
  ·
   exact Veq.later (show Veq (.int .i64 (-q2)) v W from h) hb
  ·
   exact Veq.later (show Veq (.int .i64 (-q2)) v W from h) hb
 ·
  intro j v W hj hm h
  cases hm
 ·
  intro i hl hi u W hJ hd
  obtain rfl | rfl | rfl | rfl | rfl | rfl : i = 0 ∨ i = 1 ∨ i = 2 ∨ i = 3 ∨ i = 4 ∨ i = 5 := by omega
  ·
   clear hd
   simp only [zzA, zzB]
   clear hl
   refine .inr ⟨rfl, fun K' hK => ?_⟩
   have HK := Lib.hid hK
   clear hK
   simp only [layS, Act.put, zzC, zzD, zzE, Nat.zero_add, Nat.reduceAdd]
   have t5 := hJ.2.1.cells.1
   have t6 := hJ.2.1.cells.2.1
   go_simp
   exact HK.out _ _ (.agg #[.bool P1, .slice P2 P3 P4]) (by simp [layS, updV, Act.put]) hJ (rfl) (Below.refl _ _) (fun h => absurd h (by decide))
  ·
   have e0 : u 0 = .agg #[.bool P1, .slice P2 P3 P4] := hd 0 (by decide) (by kernel_rfl)
   clear hd
   simp only [zzA, zzB]
   clear hl
   refine .inr ⟨rfl, fun K' hK => ?_⟩
   have HK := Lib.hid hK
   clear hK
   simp only [layS, Act.put, zzC, zzD, zzE, Nat.zero_add, Nat.reduceAdd, e0]
   have E0 := Lib.hid e0
   clear e0
   go_simp
   refine (Neg_any P1 P2 P3 P4 X2 W hJ.2.1.num (by have := HN2.out _ _ _ _ _ hJ.2.1.num; omega)).mono ?_
   rintro e W' ⟨y1, y2, y3, y4, rfl, hy, _, hB⟩
   exact HK.out _ _ (.agg #[.bool y1, .slice y2 y3 y4]) (by simp [layS, updV, Act.put, E0.out]) (⟨hJ.1.later hB, hJ.2.1.later hB, hJ.2.2.later hB⟩) (⟨y1, y2, y3, y4, rfl, hy⟩) hB (fun h => absurd h (by decide))
  ·
   clear hd
   simp only [zzA, zzB]
   clear hl
   refine .inr ⟨rfl, fun K' hK => ?_⟩
   have HK := Lib.hid hK
   clear hK
   simp only [layS, Act.put, zzC, zzD, zzE, Nat.zero_add, Nat.reduceAdd]
   have t5 := hJ.2.2.cells.1
   have t6 := hJ.2.2.cells.2.1
   go_simp
   exact HK.out _ _ (.agg #[.bool R1, .slice R2 R3 R4]) (by simp [layS, updV, Act.put]) hJ (rfl) (Below.refl _ _) (fun h => absurd h (by decide))
  ·
   obtain ⟨b1, a1, n1, c1, e1, g1⟩ := (show VN (-X2) (u 1) W from hd 1 (by decide) (by kernel_rfl))
   have e2 : u 2 = .agg #[.bool R1, .slice R2 R3 R4] := hd 2 (by decide) (by kernel_rfl)
   clear hd
   simp only [zzA, zzB]
   clear hl
   refine .inr ⟨rfl, fun K' hK => ?_⟩
   have HK := Lib.hid hK
   clear hK
   simp only [layS, Act.put, zzC, zzD, zzE, Nat.zero_add, Nat.reduceAdd, e1, e2]
   have E1 := Lib.hid e1
   have E2 := Lib.hid e2
   clear e1 e2
   go_simp
   refine (HD2.out _ _ _ _ _ _ _ _ _ g1 hJ.2.2.num).mono ?_
   rintro e W' ⟨rfl, hB⟩
   exact HK.out _ _ (.int .i64 q2) (by simp [layS, updV, Act.put, E1.out, E2.out]) (⟨hJ.1.later hB, hJ.2.1.later hB, hJ.2.2.later hB⟩) (rfl) hB (fun h => absurd h (by decide))
  ·
   have e3 : u 3 = .int .i64 q2 := hd 3 (by decide) (by kernel_rfl)
   clear hd
   simp only [zzA, zzB]
   clear hl
   refine .inr ⟨rfl, fun K' hK => ?_⟩
   have HK := Lib.hid hK
   clear hK
   simp only [layS, Act.put, zzC, zzD, zzE, Nat.zero_add, Nat.reduceAdd, e3]
   have E3 := Lib.hid e3
   clear e3
   go_simp
   exact HK.out _ _ (.int .i64 (-q2)) (by simp [layS, updV, Act.put, E3.out]) hJ (rfl) (Below.refl _ _) (fun h => absurd h (by decide))
  ·
   have e4 : u 4 = .int .i64 (-q2) := hd 4 (by decide) (by kernel_rfl)
   clear hd
   simp only [zzA, zzB]
   clear hl
   refine .inr ⟨rfl, fun K' hK => ?_⟩
   have HK := Lib.hid hK
   clear hK
   simp only [layS, Act.put, zzC, zzD, zzE, Nat.zero_add, Nat.reduceAdd, e4]
   have E4 := Lib.hid e4
   clear e4
   go_simp
   exact HK.out _ _ (.int .i64 (-q2)) (by simp [layS, updV, Act.put, E4.out]) hJ (rfl) (Below.refl _ _) (fun h => absurd h (by decide))
 intro u W hJ hd hne
 have e0 : u 0 = .agg #[.bool P1, .slice P2 P3 P4] := hd 0 (by decide)
 obtain ⟨b1, a1, n1, c1, e1, g1⟩ := (show VN (-X2) (u 1) W from hd 1 (by decide))
 have e2 : u 2 = .agg #[.bool R1, .slice R2 R3 R4] := hd 2 (by decide)
 have e3 : u 3 = .int .i64 q2 := hd 3 (by decide)
 have e4 : u 4 = .int .i64 (-q2) := hd 4 (by decide)
 have e5 : u 5 = .int .i64 (-q2) := hd 5 (by decide)
 simp only [layS, Act.put, zzC, zzD, zzE, Nat.zero_add, Nat.reduceAdd, List.drop_succ_cons, List.drop_zero, e0, e1, e2, e3, e4, e5]
 have hJ := hJ.1
 clear hJ5 jT jU g1 e0 e1 e2 e3 e4 e5 hd hne
 go_wp2_with fail
 refine (HF.out _).mono ?_
 rintro e W7 ⟨rfl, hB⟩
 replace hJ := hJ.later hB
 clear hB
 have c10 := hJ.c1.1
 have c11 := hJ.c1.2.1
 have c12 := hJ.c1.2.2.1
 have c13 := hJ.c1.2.2.2.1
 have c14 := hJ.c1.2.2.2.2.1
 have c15 := hJ.c1.2.2.2.2.2
 go_wp2
 have hp := hJ.put 1 (by simp) z
 exact bodyPost_ret (v := .agg #[.int .i64 z.lo, .int .i64 z.hi, .bool z.all]) (by simp [results, Tryz.results61, go_sem, c10, c11, c12]) rfl ⟨rfl, hp.below⟩
theorem enc_yes (c : Nat) (s : Sp) (h : inB s fourS = true) (hc : c ≤ 2) (w : World) : Calls Tryz.prog 61 #[.agg #[.int .i64 s.lo, .int .i64 s.hi, .bool s.all], .int .i64 (c : Int)] w (PSp (ofS (loK c s.hi) (hiK c s.lo)) w) := by
 obtain ⟨hk, h0, h1⟩ := (in_ok (D := fourS) rfl).1 h
 have h2 := (ok_of hk).2.1
 replace h0 : 0 ≤ s.lo := h0
 replace h1 : s.hi ≤ 4194304 := h1
 have hs1 : ∀ W : World, Calls Tryz.prog 81 #[.int .i64 s.hi, .int .i64 (c : Int), .int .i64 12] W (PSum (tV c s.hi 11 * 1048576) ((uN c 11 : Nat) : Int) W) := fun W => ksum_any s.hi c 11 W (by omega) (by omega) hc (by omega)
 have hs2 : ∀ W : World, Calls Tryz.prog 81 #[.int .i64 s.lo, .int .i64 (c : Int), .int .i64 13] W (PSum (tV c s.lo 12 * 1048576) ((uN c 12 : Nat) : Int) W) := fun W => ksum_any s.lo c 12 W (by omega) (by omega) hc (by omega)
 have p1 : 0 ≤ s.hi := by omega
 have p2 : s.lo ≤ 4194304 := by omega
 have b1 := loK_bd p1 h1 hc
 have b2 := hiK_bd h0 p2 hc
 have hu1 := uN_pos c 11
 have hu2 := uN_pos c 12
 have l1 : ∀ (b : Bool) (a : Option Addr) (n k : Nat) (W : World), Num W b a n k (tV c s.hi 11 * 1048576) → n ≤ 40 := fun b a n k W g => len_bd g (ten_bd (11 + 1) _ (tV_bd p1 h1 hc (by decide))) (by decide)
 have l2 : ∀ (b : Bool) (a : Option Addr) (n k : Nat) (W : World), Num W b a n k (tV c s.lo 12 * 1048576) → n ≤ 40 := fun b a n k W g => len_bd g (ten_bd (12 + 1) _ (tV_bd h0 p2 hc (by decide))) (by decide)
 have l5 : ∀ (b : Bool) (a : Option Addr) (n k : Nat) (W : World), Num W b a n k (-(tV c s.lo 12 * 1048576)) → n ≤ 40 := fun b a n k W g => len_bd g (k := 12 + 1 + 1) (by rw [Int.natAbs_neg]; exact ten_bd (12 + 1) _ (tV_bd h0 p2 hc (by decide))) (by decide)
 have l3 : ∀ (b : Bool) (a : Option Addr) (n k : Nat) (W : World), Num W b a n k ((uN c 11 : Nat) : Int) → n ≤ 40 := fun b a n k W g => len_bd g (k := 11 + 1) (by rw [Int.natAbs_natCast]; exact uN_lt hc (by decide)) (by decide)
 have l4 : ∀ (b : Bool) (a : Option Addr) (n k : Nat) (W : World), Num W b a n k ((uN c 12 : Nat) : Int) → n ≤ 40 := fun b a n k W g => len_bd g (k := 12 + 1) (by rw [Int.natAbs_natCast]; exact uN_lt hc (by decide)) (by decide)
 clear h0 h1 h2 hc hk p1 p2
 unfold loK hiK at *
 generalize tV c s.hi 11 * 1048576 = X1 at *
 generalize tV c s.lo 12 * 1048576 = X2 at *
 generalize uN c 11 = U1 at *
 generalize uN c 12 = U2 at *
 refine enc_walk c s X1 X2 U1 U2 _ _ _ h (IntWalk.i64_in _ (by omega)) hs1 hs2 (fun b a n k b' a' n' k' W g g' => down_any b a n k X1 b' a' n' k' (U1 : Int) W g g' ?_ ?_ (by omega) (by omega) (by omega)) l2 (fun b a n k b' a' n' k' W g g' => down_any b a n k (-X2) b' a' n' k' (U2 : Int) W g g' ?_ ?_ (by omega) (by omega) (by omega)) (sOf_any _ _) w
 ·
  exact Nat.le_trans (l1 _ _ _ _ _ g) (by decide)
 ·
  exact Nat.le_trans (l3 _ _ _ _ _ g') (by decide)
 ·
  exact Nat.le_trans (l5 _ _ _ _ _ g) (by decide)
 ·
  exact Nat.le_trans (l4 _ _ _ _ _ g') (by decide)
theorem enc_any (c : Nat) (s : Sp) (w : World) (hc : c ≤ 2) : Calls Tryz.prog 61 #[.agg #[.int .i64 s.lo, .int .i64 s.hi, .bool s.all], .int .i64 (c : Int)] w (PSp (encS c s) w) := by
 unfold encS
 cases h : inB s fourS
 ·
  exact enc_no c s h w
 ·
  exact enc_yes c s h hc w
theorem kA_any (s : Sp) (w : World) : Calls Tryz.prog 36 #[.agg #[.int .i64 s.lo, .int .i64 s.hi, .bool s.all]] w (PSp (encS 1 s) w) := by
 have HE : Hid (∀ W : World, Calls Tryz.prog 61 #[.agg #[.int .i64 s.lo, .int .i64 s.hi, .bool s.all], .int .i64 1] W (PSp (encS 1 s) W)) := show ∀ W : World, _ from fun W => enc_any 1 s W (by omega)
 generalize encS 1 s = z at *
 go_enter Tryz.func36, Tryz.ntmps36
 go_wp2_with fail
 have hX := bs2 w s.lo s.hi s.all 0 0 false
 generalize (w.alloc (.cells #[.int .i64 s.lo, .int .i64 s.hi, .bool s.all] 23)).alloc (.cells #[.int .i64 0, .int .i64 0, .bool false] 23) = w1 at *
 refine (HE.out _).mono ?_
 rintro e W2 ⟨rfl, hB⟩
 have hJ := hX.later hB
 clear hB hX
 have c10 := hJ.c1.1
 have c11 := hJ.c1.2.1
 have c12 := hJ.c1.2.2.1
 have c13 := hJ.c1.2.2.2.1
 have c14 := hJ.c1.2.2.2.2.1
 have c15 := hJ.c1.2.2.2.2.2
 go_wp2
 have hp := hJ.put 1 (by simp) z
 exact bodyPost_ret (v := .agg #[.int .i64 z.lo, .int .i64 z.hi, .bool z.all]) (by simp [results, Tryz.results36, go_sem, c10, c11, c12]) rfl ⟨rfl, hp.below⟩
theorem kB_any (s : Sp) (w : World) : Calls Tryz.prog 37 #[.agg #[.int .i64 s.lo, .int .i64 s.hi, .bool s.all]] w (PSp (encS 2 s) w) := by
 have HE : Hid (∀ W : World, Calls Tryz.prog 61 #[.agg #[.int .i64 s.lo, .int .i64 s.hi, .bool s.all], .int .i64 2] W (PSp (encS 2 s) W)) := show ∀ W : World, _ from fun W => enc_any 2 s W (by omega)
 generalize encS 2 s = z at *
 go_enter Tryz.func37, Tryz.ntmps37
 go_wp2_with fail
 have hX := bs2 w s.lo s.hi s.all 0 0 false
 generalize (w.alloc (.cells #[.int .i64 s.lo, .int .i64 s.hi, .bool s.all] 23)).alloc (.cells #[.int .i64 0, .int .i64 0, .bool false] 23) = w1 at *
 refine (HE.out _).mono ?_
 rintro e W2 ⟨rfl, hB⟩
 have hJ := hX.later hB
 clear hB hX
 have c10 := hJ.c1.1
 have c11 := hJ.c1.2.1
 have c12 := hJ.c1.2.2.1
 have c13 := hJ.c1.2.2.2.1
 have c14 := hJ.c1.2.2.2.2.1
 have c15 := hJ.c1.2.2.2.2.2
 go_wp2
 have hp := hJ.put 1 (by simp) z
 exact bodyPost_ret (v := .agg #[.int .i64 z.lo, .int .i64 z.hi, .bool z.all]) (by simp [results, Tryz.results37, go_sem, c10, c11, c12]) rfl ⟨rfl, hp.below⟩
end Go.Proofs.YtolpfibihialkaaGreat

/- Spans that hold fractions; what is enclosed holds the sum of 13 terms. No statement of the seat is proved here. -/
namespace Go.Proofs.YtolpfibihialkaaGreat
open Go.RowKit
/-- The sums over any measure q of the number p. -/
def mQ (q : Nat) (c k : Nat) : Nat := q * grN (c + 2 * k) 2
def uQ (q : Nat) (c : Nat) : Nat → Nat
 | 0 => grN 0 c
 | k + 1 => uQ q c k * mQ q c k
def hV (q : Nat) (c : Nat) (p : Int) : Nat → Int
 | 0 => 1
 | k + 1 => hV q c p k * (mQ q c k : Nat) + (-p) ^ (k + 1)
theorem pw_nonneg {m : Int} (h : 0 ≤ m) : ∀ j : Nat, 0 ≤ m ^ j
 | 0 => by rw [Int.pow_zero]; decide
 | j + 1 => by rw [Int.pow_succ]; exact Int.mul_nonneg (pw_nonneg h j) h
theorem dd {m n : Int} (h0 : 0 ≤ m) (h : m ≤ n) : ∀ j : Nat, 0 ≤ n ^ j - m ^ j ∧ (n - m) * m ^ j ≤ n ^ (j + 1) - m ^ (j + 1)
 | 0 => by simp [Int.pow_succ]
 | j + 1 => by
  obtain ⟨h1, h2⟩ := dd h0 h j
  have h3 : 0 ≤ (n - m) * m ^ j := Int.mul_nonneg (by omega) (pw_nonneg h0 j)
  refine ⟨by omega, ?_⟩
  have e : n ^ (j + 1 + 1) - m ^ (j + 1 + 1) = (n - m) * m ^ (j + 1) + n * (n ^ (j + 1) - m ^ (j + 1)) := by
   rw [Int.pow_succ n (j + 1), Int.pow_succ m (j + 1), Int.sub_mul, Int.mul_sub, Int.mul_comm (n ^ (j + 1)) n, Int.mul_comm (m ^ (j + 1)) m]
   omega
  have h4 : 0 ≤ n * (n ^ (j + 1) - m ^ (j + 1)) := Int.mul_nonneg (by omega) (by omega)
  omega
theorem dd2 {m n : Int} (h0 : 0 ≤ m) (h : m ≤ n) (j : Nat) : n ^ (j + 2) - m ^ (j + 2) ≤ (n + m) * (n ^ (j + 1) - m ^ (j + 1)) := by
 have h2 := (dd h0 h j).2
 have e : n ^ (j + 2) - m ^ (j + 2) = n * (n ^ (j + 1) - m ^ (j + 1)) + m * ((n - m) * m ^ j) := by
  show n ^ (j + 1 + 1) - m ^ (j + 1 + 1) = _
  rw [Int.pow_succ n (j + 1), Int.pow_succ m (j + 1), Int.mul_sub, Int.mul_comm (n ^ (j + 1)) n, Int.mul_comm (m ^ (j + 1)) m, ← Int.mul_assoc, Int.mul_comm m (n - m), Int.mul_assoc (n - m) m, Int.mul_comm m (m ^ j), ← Int.pow_succ, Nat.succ_eq_add_one, Int.sub_mul]
  omega
 rw [e, Int.add_mul]
 have := Int.mul_le_mul_of_nonneg_left h2 h0
 omega
theorem line_no {x y : Sp} (h : okB x = false) : mulS x y = lineS ∧ addS x y = lineS := by
 constructor
 ·
  rcases mul_cases x y with e | ⟨_, h2, _⟩
  ·
   exact e
  ·
   rw [h] at h2; cases h2
 ·
  rcases add_cases x y with e | ⟨_, h2, _⟩
  ·
   exact e
  ·
   rw [h] at h2; cases h2
end Go.Proofs.YtolpfibihialkaaGreat

/- Polynomials of one and of two numbers by their lists of coefficients: enough to see that what is left of the rules of sines is small. No statement of the seat is proved here. -/
namespace Go.Proofs.YtolpfibihialkaaGreat
open Go.RowKit
def ev : List Int → Int → Int
 | [], _ => 0
 | a :: l, x => a + x * ev l x
def addP : List Int → List Int → List Int
 | [], m => m
 | a :: l, [] => a :: l
 | a :: l, b :: m => (a + b) :: addP l m
def sclP (k : Int) : List Int → List Int
 | [] => []
 | a :: l => (k * a) :: sclP k l
def mulP : List Int → List Int → List Int
 | [], _ => []
 | a :: l, m => addP (sclP a m) (0 :: mulP l m)
def absP : List Int → List Int
 | [] => []
 | a :: l => (a.natAbs : Int) :: absP l
def evens : List Int → List Int
 | [] => []
 | a :: l => a :: 0 :: evens l
/-- The sums' lists. -/
def hP (q c : Nat) : Nat → List Int
 | 0 => [1]
 | k + 1 => sclP ((mQ q c k : Nat) : Int) (hP q c k) ++ [(-1) ^ (k + 1)]
end Go.Proofs.YtolpfibihialkaaGreat

/- Sines and cosines of numbers: what is enclosed holds them; what is left of their rules is small. No statement of the seat is proved here. -/
namespace Go.Proofs.YtolpfibihialkaaGreat
open Go.RowKit
def kK (q : Nat) : Int := ((uQ q 1 12 : Nat) : Int)
def lE (q : Nat) : List Int := addP (addP (sclP (625 * (q : Int)) (mulP (hP q 0 12) (hP q 0 12))) (0 :: mulP (hP q 1 12) (hP q 1 12))) [-(kK q * kK q * (q : Int))]
theorem c20 : ev (absP (lE 1048576)) 4194304 < kK 1048576 * kK 1048576 := of_decide_eq_true (by kernel_rfl)
def hX (q : Nat) : List Int := evens (hP q 0 12)
def hS (q : Nat) : List Int := 0 :: evens (hP q 1 12)
end Go.Proofs.YtolpfibihialkaaGreat
