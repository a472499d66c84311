/- Parts of the proof. -/
import Derived.Test.YtolpfibihialkaaGreatGr0
import Derived.Test.YtolpfibihialkaaGreatGr18
/- Spans: the walks of Join, Has, In, Meet, Mid, Rad, Neg. -/
namespace Go.Proofs.YtolpfibihialkaaGreat
open Go.RowKit
attribute [local go_sem ↓] run_eqlS run_neqS
theorem line_eq (x : Sp) : eqS (mkS x).lo (mkS x).hi (mkS x).all lineS.lo lineS.hi lineS.all = !okB x := by
 cases h : okB x
 ·
  rw [mkS_no h]; rfl
 ·
  rw [mkS_ok h]
  have := (ok_of h).2.2.2
  unfold eqS
  rw [this]
  simp [lineS]
set_option maxHeartbeats 1600000 in
theorem Join_no1 (x y x1 y1 : Sp) (hcx : ∀ W : World, Calls Tryz.prog 72 #[.agg #[.int .i64 x.lo, .int .i64 x.hi, .bool x.all]] W (PSp x1 W)) (hcy : ∀ W : World, Calls Tryz.prog 72 #[.agg #[.int .i64 y.lo, .int .i64 y.hi, .bool y.all]] W (PSp y1 W)) (hqx : eqS x1.lo x1.hi x1.all lineS.lo lineS.hi lineS.all = true) (w : World) : Calls Tryz.prog 71 #[.agg #[.int .i64 x.lo, .int .i64 x.hi, .bool x.all], .agg #[.int .i64 y.lo, .int .i64 y.hi, .bool y.all]] w (PSp lineS w) := by
 have HCX := Lib.hid hcx
 clear hcx
 have HCY := Lib.hid hcy
 clear hcy
 go_enter Tryz.func71, Tryz.ntmps71
 go_wp2
 have hX := bs3 w x.lo x.hi x.all y.lo y.hi y.all 0 0 false
 generalize ((w.alloc (.cells #[.int .i64 x.lo, .int .i64 x.hi, .bool x.all] 23)).alloc (.cells #[.int .i64 y.lo, .int .i64 y.hi, .bool y.all] 23)).alloc (.cells #[.int .i64 0, .int .i64 0, .bool false] 23) = w1 at *
 refine wp_region_vals 4 [some 5, some 6, some 7, some 8] (lstV [.agg #[.int .i64 x.lo, .int .i64 x.hi, .bool x.all], .agg #[.int .i64 x1.lo, .int .i64 x1.hi, .bool x1.all], .agg #[.int .i64 y.lo, .int .i64 y.hi, .bool y.all], .agg #[.int .i64 y1.lo, .int .i64 y1.hi, .bool y1.all]]) (fun W => Bs w W [x, y, ⟨0, 0, false⟩]) (by kernel_rfl) (by kernel_rfl) (by decide) (hX.drew) ?_ ?_
 ·
  intro i hl hi u W hJ hd
  obtain rfl | rfl | rfl | rfl : i = 0 ∨ i = 1 ∨ i = 2 ∨ i = 3 := by omega
  ·
   clear hd
   simp only [zzA, zzB]
   clear hl
   refine .inr ⟨rfl, fun K' hK => ?_⟩
   have HK := Lib.hid hK
   clear hK
   simp only [layS, Act.put, zzC, zzD, zzE, Nat.zero_add, Nat.reduceAdd]
   have c00 := hJ.c0.1
   have c01 := hJ.c0.2.1
   have c02 := hJ.c0.2.2.1
   have c03 := hJ.c0.2.2.2.1
   have c04 := hJ.c0.2.2.2.2.1
   have c05 := hJ.c0.2.2.2.2.2
   have c10 := hJ.c1.1
   have c11 := hJ.c1.2.1
   have c12 := hJ.c1.2.2.1
   have c13 := hJ.c1.2.2.2.1
   have c14 := hJ.c1.2.2.2.2.1
   have c15 := hJ.c1.2.2.2.2.2
   go_simp
   exact HK.out _ _ (by simp [layS, updV, lstV, Act.put]) hJ
  ·
   have e0 : u 0 = .agg #[.int .i64 x.lo, .int .i64 x.hi, .bool x.all] := hd 0 (by kernel_rfl)
   clear hd
   simp only [zzA, zzB]
   clear hl
   refine .inr ⟨rfl, fun K' hK => ?_⟩
   have HK := Lib.hid hK
   clear hK
   simp only [layS, Act.put, zzC, zzD, zzE, Nat.zero_add, Nat.reduceAdd, e0]
   have E0 := Lib.hid e0
   clear e0
   have c00 := hJ.c0.1
   have c01 := hJ.c0.2.1
   have c02 := hJ.c0.2.2.1
   have c03 := hJ.c0.2.2.2.1
   have c04 := hJ.c0.2.2.2.2.1
   have c05 := hJ.c0.2.2.2.2.2
   have c10 := hJ.c1.1
   have c11 := hJ.c1.2.1
   have c12 := hJ.c1.2.2.1
   have c13 := hJ.c1.2.2.2.1
   have c14 := hJ.c1.2.2.2.2.1
   have c15 := hJ.c1.2.2.2.2.2
   go_simp
   refine (HCX.out W).mono ?_
   rintro e W' ⟨rfl, hB⟩
   exact HK.out _ _ (by simp [layS, updV, lstV, Act.put, E0.out]) (hJ.later hB)
  ·
   clear hd
   simp only [zzA, zzB]
   clear hl
   refine .inr ⟨rfl, fun K' hK => ?_⟩
   have HK := Lib.hid hK
   clear hK
   simp only [layS, Act.put, zzC, zzD, zzE, Nat.zero_add, Nat.reduceAdd]
   have c00 := hJ.c0.1
   have c01 := hJ.c0.2.1
   have c02 := hJ.c0.2.2.1
   have c03 := hJ.c0.2.2.2.1
   have c04 := hJ.c0.2.2.2.2.1
   have c05 := hJ.c0.2.2.2.2.2
   have c10 := hJ.c1.1
   have c11 := hJ.c1.2.1
   have c12 := hJ.c1.2.2.1
   have c13 := hJ.c1.2.2.2.1
   have c14 := hJ.c1.2.2.2.2.1
   have c15 := hJ.c1.2.2.2.2.2
   go_simp
   exact HK.out _ _ (by simp [layS, updV, lstV, Act.put]) hJ
  ·
   have e2 : u 2 = .agg #[.int .i64 y.lo, .int .i64 y.hi, .bool y.all] := hd 2 (by kernel_rfl)
   clear hd
   simp only [zzA, zzB]
   clear hl
   refine .inr ⟨rfl, fun K' hK => ?_⟩
   have HK := Lib.hid hK
   clear hK
   simp only [layS, Act.put, zzC, zzD, zzE, Nat.zero_add, Nat.reduceAdd, e2]
   have E2 := Lib.hid e2
   clear e2
   have c00 := hJ.c0.1
   have c01 := hJ.c0.2.1
   have c02 := hJ.c0.2.2.1
   have c03 := hJ.c0.2.2.2.1
   have c04 := hJ.c0.2.2.2.2.1
   have c05 := hJ.c0.2.2.2.2.2
   have c10 := hJ.c1.1
   have c11 := hJ.c1.2.1
   have c12 := hJ.c1.2.2.1
   have c13 := hJ.c1.2.2.2.1
   have c14 := hJ.c1.2.2.2.2.1
   have c15 := hJ.c1.2.2.2.2.2
   go_simp
   refine (HCY.out W).mono ?_
   rintro e W' ⟨rfl, hB⟩
   exact HK.out _ _ (by simp [layS, updV, lstV, Act.put, E2.out]) (hJ.later hB)
 intro W hJ
 simp only [layS, lstV, Act.put, zzC, zzD, zzE, Nat.zero_add, Nat.reduceAdd, List.getD_cons_zero, List.getD_cons_succ, List.drop_succ_cons, List.drop_zero, List.drop_nil]
 have c00 := hJ.c0.1
 have c01 := hJ.c0.2.1
 have c02 := hJ.c0.2.2.1
 have c03 := hJ.c0.2.2.2.1
 have c04 := hJ.c0.2.2.2.2.1
 have c05 := hJ.c0.2.2.2.2.2
 have c10 := hJ.c1.1
 have c11 := hJ.c1.2.1
 have c12 := hJ.c1.2.2.1
 have c13 := hJ.c1.2.2.2.1
 have c14 := hJ.c1.2.2.2.2.1
 have c15 := hJ.c1.2.2.2.2.2
 go_wp2
 have hJ1 : Bs w _ [x1, y1, ⟨0, 0, false⟩] := (hJ.put 0 (by simp) x1).put 1 (by simp) y1
 simp only [Nat.add_zero] at hJ1
 clear c00 c01 c02 c03 c04 c05 c10 c11 c12 c13 c14 c15 hJ hX
 refine wp_region_vals 8 [some 9, some 10, some 11, some 12, some 13, some 14, some 15, some 16] (lstV [.agg #[.int .i64 x1.lo, .int .i64 x1.hi, .bool x1.all], .agg #[.int .i64 lineS.lo, .int .i64 lineS.hi, .bool lineS.all], .bool true, .bool true, undef, undef, undef, .bool true]) (fun W => Bs w W [x1, y1, ⟨0, 0, false⟩]) (by kernel_rfl) (by kernel_rfl) (by decide) (hJ1.drew) ?_ ?_
 ·
  intro i hl hi u W hJ hd
  obtain rfl | rfl | rfl | rfl | rfl | rfl | rfl | rfl : i = 0 ∨ i = 1 ∨ i = 2 ∨ i = 3 ∨ i = 4 ∨ i = 5 ∨ i = 6 ∨ i = 7 := by omega
  ·
   clear hd
   simp only [zzA, zzB]
   clear hl
   refine .inr ⟨rfl, fun K' hK => ?_⟩
   have HK := Lib.hid hK
   clear hK
   simp only [layS, Act.put, zzC, zzD, zzE, Nat.zero_add, Nat.reduceAdd]
   have c00 := hJ.c0.1
   have c01 := hJ.c0.2.1
   have c02 := hJ.c0.2.2.1
   have c03 := hJ.c0.2.2.2.1
   have c04 := hJ.c0.2.2.2.2.1
   have c05 := hJ.c0.2.2.2.2.2
   have c10 := hJ.c1.1
   have c11 := hJ.c1.2.1
   have c12 := hJ.c1.2.2.1
   have c13 := hJ.c1.2.2.2.1
   have c14 := hJ.c1.2.2.2.2.1
   have c15 := hJ.c1.2.2.2.2.2
   go_simp
   exact HK.out _ _ (by simp [layS, updV, lstV, Act.put]) hJ
  ·
   clear hd
   simp only [zzA, zzB]
   clear hl
   refine .inr ⟨rfl, fun K' hK => ?_⟩
   have HK := Lib.hid hK
   clear hK
   simp only [layS, Act.put, zzC, zzD, zzE, Nat.zero_add, Nat.reduceAdd]
   have c00 := hJ.c0.1
   have c01 := hJ.c0.2.1
   have c02 := hJ.c0.2.2.1
   have c03 := hJ.c0.2.2.2.1
   have c04 := hJ.c0.2.2.2.2.1
   have c05 := hJ.c0.2.2.2.2.2
   have c10 := hJ.c1.1
   have c11 := hJ.c1.2.1
   have c12 := hJ.c1.2.2.1
   have c13 := hJ.c1.2.2.2.1
   have c14 := hJ.c1.2.2.2.2.1
   have c15 := hJ.c1.2.2.2.2.2
   go_simp
   refine (whole_any W).mono ?_
   rintro e W' ⟨rfl, hB⟩
   exact HK.out _ _ (by simp [layS, updV, lstV, Act.put]) (hJ.later hB)
  ·
   have e0 : u 0 = .agg #[.int .i64 x1.lo, .int .i64 x1.hi, .bool x1.all] := hd 0 (by kernel_rfl)
   have e1 : u 1 = .agg #[.int .i64 lineS.lo, .int .i64 lineS.hi, .bool lineS.all] := hd 1 (by kernel_rfl)
   clear hd
   simp only [zzA, zzB]
   clear hl
   refine .inr ⟨rfl, fun K' hK => ?_⟩
   have HK := Lib.hid hK
   clear hK
   simp only [layS, Act.put, zzC, zzD, zzE, Nat.zero_add, Nat.reduceAdd, e0, e1]
   have E0 := Lib.hid e0
   have E1 := Lib.hid e1
   clear e0 e1
   have c00 := hJ.c0.1
   have c01 := hJ.c0.2.1
   have c02 := hJ.c0.2.2.1
   have c03 := hJ.c0.2.2.2.1
   have c04 := hJ.c0.2.2.2.2.1
   have c05 := hJ.c0.2.2.2.2.2
   have c10 := hJ.c1.1
   have c11 := hJ.c1.2.1
   have c12 := hJ.c1.2.2.1
   have c13 := hJ.c1.2.2.2.1
   have c14 := hJ.c1.2.2.2.2.1
   have c15 := hJ.c1.2.2.2.2.2
   go_simp
   exact HK.out _ _ (by simp [layS, updV, lstV, Act.put, E0.out, E1.out]) hJ
  ·
   have e2 : u 2 = .bool true := hd 2 (by kernel_rfl)
   clear hd
   simp only [zzA, zzB]
   clear hl
   refine .inr ⟨rfl, fun K' hK => ?_⟩
   have HK := Lib.hid hK
   clear hK
   simp only [layS, Act.put, zzC, zzD, zzE, Nat.zero_add, Nat.reduceAdd, e2]
   have E2 := Lib.hid e2
   clear e2
   have c00 := hJ.c0.1
   have c01 := hJ.c0.2.1
   have c02 := hJ.c0.2.2.1
   have c03 := hJ.c0.2.2.2.1
   have c04 := hJ.c0.2.2.2.2.1
   have c05 := hJ.c0.2.2.2.2.2
   have c10 := hJ.c1.1
   have c11 := hJ.c1.2.1
   have c12 := hJ.c1.2.2.1
   have c13 := hJ.c1.2.2.2.1
   have c14 := hJ.c1.2.2.2.2.1
   have c15 := hJ.c1.2.2.2.2.2
   go_simp
   exact HK.out _ _ (by simp [layS, updV, lstV, Act.put, E2.out]) hJ
  ·
   have e3 : u 3 = .bool true := hd 3 (by kernel_rfl)
   clear hd
   simp only [zzA, zzB]
   clear hl
   refine .inl ⟨?_, ?_⟩
   ·
    simp [Region.wanted, yielded, layS, Act.put, e3]
   ·
    simp [layS, updV, lstV, Act.put]
  ·
   have e3 : u 3 = .bool true := hd 3 (by kernel_rfl)
   clear hd
   simp only [zzA, zzB]
   clear hl
   refine .inl ⟨?_, ?_⟩
   ·
    simp [Region.wanted, yielded, layS, Act.put, e3]
   ·
    simp [layS, updV, lstV, Act.put]
  ·
   have e3 : u 3 = .bool true := hd 3 (by kernel_rfl)
   have e4 : u 4 = undef := hd 4 (by kernel_rfl)
   have e5 : u 5 = undef := hd 5 (by kernel_rfl)
   clear hd
   simp only [zzA, zzB]
   clear hl
   refine .inl ⟨?_, ?_⟩
   ·
    simp [Region.wanted, yielded, layS, Act.put, e3, e4, e5]
   ·
    simp [layS, updV, lstV, Act.put]
  ·
   have e3 : u 3 = .bool true := hd 3 (by kernel_rfl)
   have e6 : u 6 = undef := hd 6 (by kernel_rfl)
   clear hd
   simp only [zzA, zzB]
   clear hl
   refine .inr ⟨rfl, fun K' hK => ?_⟩
   have HK := Lib.hid hK
   clear hK
   simp only [layS, Act.put, zzC, zzD, zzE, Nat.zero_add, Nat.reduceAdd, e3, e6]
   have E3 := Lib.hid e3
   have E6 := Lib.hid e6
   clear e3 e6
   have c00 := hJ.c0.1
   have c01 := hJ.c0.2.1
   have c02 := hJ.c0.2.2.1
   have c03 := hJ.c0.2.2.2.1
   have c04 := hJ.c0.2.2.2.2.1
   have c05 := hJ.c0.2.2.2.2.2
   have c10 := hJ.c1.1
   have c11 := hJ.c1.2.1
   have c12 := hJ.c1.2.2.1
   have c13 := hJ.c1.2.2.2.1
   have c14 := hJ.c1.2.2.2.2.1
   have c15 := hJ.c1.2.2.2.2.2
   go_simp
   exact HK.out _ _ (by simp [layS, updV, lstV, Act.put, E3.out, E6.out]) hJ
 intro W hJ
 simp only [layS, lstV, Act.put, zzC, zzD, zzE, Nat.zero_add, Nat.reduceAdd, List.getD_cons_zero, List.getD_cons_succ, List.drop_succ_cons, List.drop_zero, List.drop_nil]
 go_wp2_with fail
 refine (whole_any _).mono ?_
 rintro e W2 ⟨rfl, hB⟩
 have hJ2 := hJ.later hB
 have c20 := hJ2.c2.1
 have c21 := hJ2.c2.2.1
 have c22 := hJ2.c2.2.2.1
 have c23 := hJ2.c2.2.2.2.1
 have c24 := hJ2.c2.2.2.2.2.1
 have c25 := hJ2.c2.2.2.2.2.2
 go_wp2
 have hp := hJ2.put 2 (by simp) lineS
 exact bodyPost_ret (v := .agg #[.int .i64 lineS.lo, .int .i64 lineS.hi, .bool lineS.all]) (by simp [results, Tryz.results71, go_sem, c20, c21, c22]) rfl ⟨rfl, hp.below⟩
set_option maxHeartbeats 1600000 in
theorem Join_no2 (x y x1 y1 : Sp) (hcx : ∀ W : World, Calls Tryz.prog 72 #[.agg #[.int .i64 x.lo, .int .i64 x.hi, .bool x.all]] W (PSp x1 W)) (hcy : ∀ W : World, Calls Tryz.prog 72 #[.agg #[.int .i64 y.lo, .int .i64 y.hi, .bool y.all]] W (PSp y1 W)) (hqx : eqS x1.lo x1.hi x1.all lineS.lo lineS.hi lineS.all = false) (hqy : eqS y1.lo y1.hi y1.all lineS.lo lineS.hi lineS.all = true) (w : World) : Calls Tryz.prog 71 #[.agg #[.int .i64 x.lo, .int .i64 x.hi, .bool x.all], .agg #[.int .i64 y.lo, .int .i64 y.hi, .bool y.all]] w (PSp lineS w) := by
 have HCX := Lib.hid hcx
 clear hcx
 have HCY := Lib.hid hcy
 clear hcy
 go_enter Tryz.func71, Tryz.ntmps71
 go_wp2
 have hX := bs3 w x.lo x.hi x.all y.lo y.hi y.all 0 0 false
 generalize ((w.alloc (.cells #[.int .i64 x.lo, .int .i64 x.hi, .bool x.all] 23)).alloc (.cells #[.int .i64 y.lo, .int .i64 y.hi, .bool y.all] 23)).alloc (.cells #[.int .i64 0, .int .i64 0, .bool false] 23) = w1 at *
 refine wp_region_vals 4 [some 5, some 6, some 7, some 8] (lstV [.agg #[.int .i64 x.lo, .int .i64 x.hi, .bool x.all], .agg #[.int .i64 x1.lo, .int .i64 x1.hi, .bool x1.all], .agg #[.int .i64 y.lo, .int .i64 y.hi, .bool y.all], .agg #[.int .i64 y1.lo, .int .i64 y1.hi, .bool y1.all]]) (fun W => Bs w W [x, y, ⟨0, 0, false⟩]) (by kernel_rfl) (by kernel_rfl) (by decide) (hX.drew) ?_ ?_
 ·
  intro i hl hi u W hJ hd
  obtain rfl | rfl | rfl | rfl : i = 0 ∨ i = 1 ∨ i = 2 ∨ i = 3 := by omega
  ·
   clear hd
   simp only [zzA, zzB]
   clear hl
   refine .inr ⟨rfl, fun K' hK => ?_⟩
   have HK := Lib.hid hK
   clear hK
   simp only [layS, Act.put, zzC, zzD, zzE, Nat.zero_add, Nat.reduceAdd]
   have c00 := hJ.c0.1
   have c01 := hJ.c0.2.1
   have c02 := hJ.c0.2.2.1
   have c03 := hJ.c0.2.2.2.1
   have c04 := hJ.c0.2.2.2.2.1
   have c05 := hJ.c0.2.2.2.2.2
   have c10 := hJ.c1.1
   have c11 := hJ.c1.2.1
   have c12 := hJ.c1.2.2.1
   have c13 := hJ.c1.2.2.2.1
   have c14 := hJ.c1.2.2.2.2.1
   have c15 := hJ.c1.2.2.2.2.2
   go_simp
   exact HK.out _ _ (by simp [layS, updV, lstV, Act.put]) hJ
  ·
   have e0 : u 0 = .agg #[.int .i64 x.lo, .int .i64 x.hi, .bool x.all] := hd 0 (by kernel_rfl)
   clear hd
   simp only [zzA, zzB]
   clear hl
   refine .inr ⟨rfl, fun K' hK => ?_⟩
   have HK := Lib.hid hK
   clear hK
   simp only [layS, Act.put, zzC, zzD, zzE, Nat.zero_add, Nat.reduceAdd, e0]
   have E0 := Lib.hid e0
   clear e0
   have c00 := hJ.c0.1
   have c01 := hJ.c0.2.1
   have c02 := hJ.c0.2.2.1
   have c03 := hJ.c0.2.2.2.1
   have c04 := hJ.c0.2.2.2.2.1
   have c05 := hJ.c0.2.2.2.2.2
   have c10 := hJ.c1.1
   have c11 := hJ.c1.2.1
   have c12 := hJ.c1.2.2.1
   have c13 := hJ.c1.2.2.2.1
   have c14 := hJ.c1.2.2.2.2.1
   have c15 := hJ.c1.2.2.2.2.2
   go_simp
   refine (HCX.out W).mono ?_
   rintro e W' ⟨rfl, hB⟩
   exact HK.out _ _ (by simp [layS, updV, lstV, Act.put, E0.out]) (hJ.later hB)
  ·
   clear hd
   simp only [zzA, zzB]
   clear hl
   refine .inr ⟨rfl, fun K' hK => ?_⟩
   have HK := Lib.hid hK
   clear hK
   simp only [layS, Act.put, zzC, zzD, zzE, Nat.zero_add, Nat.reduceAdd]
   have c00 := hJ.c0.1
   have c01 := hJ.c0.2.1
   have c02 := hJ.c0.2.2.1
   have c03 := hJ.c0.2.2.2.1
   have c04 := hJ.c0.2.2.2.2.1
   have c05 := hJ.c0.2.2.2.2.2
   have c10 := hJ.c1.1
   have c11 := hJ.c1.2.1
   have c12 := hJ.c1.2.2.1
   have c13 := hJ.c1.2.2.2.1
   have c14 := hJ.c1.2.2.2.2.1
   have c15 := hJ.c1.2.2.2.2.2
   go_simp
   exact HK.out _ _ (by simp [layS, updV, lstV, Act.put]) hJ
  ·
   have e2 : u 2 = .agg #[.int .i64 y.lo, .int .i64 y.hi, .bool y.all] := hd 2 (by kernel_rfl)
   clear hd
   simp only [zzA, zzB]
   clear hl
   refine .inr ⟨rfl, fun K' hK => ?_⟩
   have HK := Lib.hid hK
   clear hK
   simp only [layS, Act.put, zzC, zzD, zzE, Nat.zero_add, Nat.reduceAdd, e2]
   have E2 := Lib.hid e2
   clear e2
   have c00 := hJ.c0.1
   have c01 := hJ.c0.2.1
   have c02 := hJ.c0.2.2.1
   have c03 := hJ.c0.2.2.2.1
   have c04 := hJ.c0.2.2.2.2.1
   have c05 := hJ.c0.2.2.2.2.2
   have c10 := hJ.c1.1
   have c11 := hJ.c1.2.1
   have c12 := hJ.c1.2.2.1
   have c13 := hJ.c1.2.2.2.1
   have c14 := hJ.c1.2.2.2.2.1
   have c15 := hJ.c1.2.2.2.2.2
   go_simp
   refine (HCY.out W).mono ?_
   rintro e W' ⟨rfl, hB⟩
   exact HK.out _ _ (by simp [layS, updV, lstV, Act.put, E2.out]) (hJ.later hB)
 intro W hJ
 simp only [layS, lstV, Act.put, zzC, zzD, zzE, Nat.zero_add, Nat.reduceAdd, List.getD_cons_zero, List.getD_cons_succ, List.drop_succ_cons, List.drop_zero, List.drop_nil]
 have c00 := hJ.c0.1
 have c01 := hJ.c0.2.1
 have c02 := hJ.c0.2.2.1
 have c03 := hJ.c0.2.2.2.1
 have c04 := hJ.c0.2.2.2.2.1
 have c05 := hJ.c0.2.2.2.2.2
 have c10 := hJ.c1.1
 have c11 := hJ.c1.2.1
 have c12 := hJ.c1.2.2.1
 have c13 := hJ.c1.2.2.2.1
 have c14 := hJ.c1.2.2.2.2.1
 have c15 := hJ.c1.2.2.2.2.2
 go_wp2
 have hJ1 : Bs w _ [x1, y1, ⟨0, 0, false⟩] := (hJ.put 0 (by simp) x1).put 1 (by simp) y1
 simp only [Nat.add_zero] at hJ1
 clear c00 c01 c02 c03 c04 c05 c10 c11 c12 c13 c14 c15 hJ hX
 refine wp_region_vals 8 [some 9, some 10, some 11, some 12, some 13, some 14, some 15, some 16] (lstV [.agg #[.int .i64 x1.lo, .int .i64 x1.hi, .bool x1.all], .agg #[.int .i64 lineS.lo, .int .i64 lineS.hi, .bool lineS.all], .bool false, .bool false, .agg #[.int .i64 y1.lo, .int .i64 y1.hi, .bool y1.all], .agg #[.int .i64 lineS.lo, .int .i64 lineS.hi, .bool lineS.all], .bool true, .bool true]) (fun W => Bs w W [x1, y1, ⟨0, 0, false⟩]) (by kernel_rfl) (by kernel_rfl) (by decide) (hJ1.drew) ?_ ?_
 ·
  intro i hl hi u W hJ hd
  obtain rfl | rfl | rfl | rfl | rfl | rfl | rfl | rfl : i = 0 ∨ i = 1 ∨ i = 2 ∨ i = 3 ∨ i = 4 ∨ i = 5 ∨ i = 6 ∨ i = 7 := by omega
  ·
   clear hd
   simp only [zzA, zzB]
   clear hl
   refine .inr ⟨rfl, fun K' hK => ?_⟩
   have HK := Lib.hid hK
   clear hK
   simp only [layS, Act.put, zzC, zzD, zzE, Nat.zero_add, Nat.reduceAdd]
   have c00 := hJ.c0.1
   have c01 := hJ.c0.2.1
   have c02 := hJ.c0.2.2.1
   have c03 := hJ.c0.2.2.2.1
   have c04 := hJ.c0.2.2.2.2.1
   have c05 := hJ.c0.2.2.2.2.2
   have c10 := hJ.c1.1
   have c11 := hJ.c1.2.1
   have c12 := hJ.c1.2.2.1
   have c13 := hJ.c1.2.2.2.1
   have c14 := hJ.c1.2.2.2.2.1
   have c15 := hJ.c1.2.2.2.2.2
   go_simp
   exact HK.out _ _ (by simp [layS, updV, lstV, Act.put]) hJ
  ·
   clear hd
   simp only [zzA, zzB]
   clear hl
   refine .inr ⟨rfl, fun K' hK => ?_⟩
   have HK := Lib.hid hK
   clear hK
   simp only [layS, Act.put, zzC, zzD, zzE, Nat.zero_add, Nat.reduceAdd]
   have c00 := hJ.c0.1
   have c01 := hJ.c0.2.1
   have c02 := hJ.c0.2.2.1
   have c03 := hJ.c0.2.2.2.1
   have c04 := hJ.c0.2.2.2.2.1
   have c05 := hJ.c0.2.2.2.2.2
   have c10 := hJ.c1.1
   have c11 := hJ.c1.2.1
   have c12 := hJ.c1.2.2.1
   have c13 := hJ.c1.2.2.2.1
   have c14 := hJ.c1.2.2.2.2.1
   have c15 := hJ.c1.2.2.2.2.2
   go_simp
   refine (whole_any W).mono ?_
   rintro e W' ⟨rfl, hB⟩
   exact HK.out _ _ (by simp [layS, updV, lstV, Act.put]) (hJ.later hB)
  ·
   have e0 : u 0 = .agg #[.int .i64 x1.lo, .int .i64 x1.hi, .bool x1.all] := hd 0 (by kernel_rfl)
   have e1 : u 1 = .agg #[.int .i64 lineS.lo, .int .i64 lineS.hi, .bool lineS.all] := hd 1 (by kernel_rfl)
   clear hd
   simp only [zzA, zzB]
   clear hl
   refine .inr ⟨rfl, fun K' hK => ?_⟩
   have HK := Lib.hid hK
   clear hK
   simp only [layS, Act.put, zzC, zzD, zzE, Nat.zero_add, Nat.reduceAdd, e0, e1]
   have E0 := Lib.hid e0
   have E1 := Lib.hid e1
   clear e0 e1
   have c00 := hJ.c0.1
   have c01 := hJ.c0.2.1
   have c02 := hJ.c0.2.2.1
   have c03 := hJ.c0.2.2.2.1
   have c04 := hJ.c0.2.2.2.2.1
   have c05 := hJ.c0.2.2.2.2.2
   have c10 := hJ.c1.1
   have c11 := hJ.c1.2.1
   have c12 := hJ.c1.2.2.1
   have c13 := hJ.c1.2.2.2.1
   have c14 := hJ.c1.2.2.2.2.1
   have c15 := hJ.c1.2.2.2.2.2
   go_simp
   exact HK.out _ _ (by simp [layS, updV, lstV, Act.put, E0.out, E1.out]) hJ
  ·
   have e2 : u 2 = .bool false := hd 2 (by kernel_rfl)
   clear hd
   simp only [zzA, zzB]
   clear hl
   refine .inr ⟨rfl, fun K' hK => ?_⟩
   have HK := Lib.hid hK
   clear hK
   simp only [layS, Act.put, zzC, zzD, zzE, Nat.zero_add, Nat.reduceAdd, e2]
   have E2 := Lib.hid e2
   clear e2
   have c00 := hJ.c0.1
   have c01 := hJ.c0.2.1
   have c02 := hJ.c0.2.2.1
   have c03 := hJ.c0.2.2.2.1
   have c04 := hJ.c0.2.2.2.2.1
   have c05 := hJ.c0.2.2.2.2.2
   have c10 := hJ.c1.1
   have c11 := hJ.c1.2.1
   have c12 := hJ.c1.2.2.1
   have c13 := hJ.c1.2.2.2.1
   have c14 := hJ.c1.2.2.2.2.1
   have c15 := hJ.c1.2.2.2.2.2
   go_simp
   exact HK.out _ _ (by simp [layS, updV, lstV, Act.put, E2.out]) hJ
  ·
   have e3 : u 3 = .bool false := hd 3 (by kernel_rfl)
   clear hd
   simp only [zzA, zzB]
   clear hl
   refine .inr ⟨?_, fun K' hK => ?_⟩
   ·
    simp [Region.wanted, yielded, layS, Act.put, e3]
   have HK := Lib.hid hK
   clear hK
   simp only [layS, Act.put, zzC, zzD, zzE, Nat.zero_add, Nat.reduceAdd, e3]
   have E3 := Lib.hid e3
   clear e3
   have c00 := hJ.c0.1
   have c01 := hJ.c0.2.1
   have c02 := hJ.c0.2.2.1
   have c03 := hJ.c0.2.2.2.1
   have c04 := hJ.c0.2.2.2.2.1
   have c05 := hJ.c0.2.2.2.2.2
   have c10 := hJ.c1.1
   have c11 := hJ.c1.2.1
   have c12 := hJ.c1.2.2.1
   have c13 := hJ.c1.2.2.2.1
   have c14 := hJ.c1.2.2.2.2.1
   have c15 := hJ.c1.2.2.2.2.2
   go_simp
   exact HK.out _ _ (by simp [layS, updV, lstV, Act.put, E3.out]) hJ
  ·
   have e3 : u 3 = .bool false := hd 3 (by kernel_rfl)
   clear hd
   simp only [zzA, zzB]
   clear hl
   refine .inr ⟨?_, fun K' hK => ?_⟩
   ·
    simp [Region.wanted, yielded, layS, Act.put, e3]
   have HK := Lib.hid hK
   clear hK
   simp only [layS, Act.put, zzC, zzD, zzE, Nat.zero_add, Nat.reduceAdd, e3]
   have E3 := Lib.hid e3
   clear e3
   have c00 := hJ.c0.1
   have c01 := hJ.c0.2.1
   have c02 := hJ.c0.2.2.1
   have c03 := hJ.c0.2.2.2.1
   have c04 := hJ.c0.2.2.2.2.1
   have c05 := hJ.c0.2.2.2.2.2
   have c10 := hJ.c1.1
   have c11 := hJ.c1.2.1
   have c12 := hJ.c1.2.2.1
   have c13 := hJ.c1.2.2.2.1
   have c14 := hJ.c1.2.2.2.2.1
   have c15 := hJ.c1.2.2.2.2.2
   go_simp
   refine (whole_any W).mono ?_
   rintro e W' ⟨rfl, hB⟩
   exact HK.out _ _ (by simp [layS, updV, lstV, Act.put, E3.out]) (hJ.later hB)
  ·
   have e3 : u 3 = .bool false := hd 3 (by kernel_rfl)
   have e4 : u 4 = .agg #[.int .i64 y1.lo, .int .i64 y1.hi, .bool y1.all] := hd 4 (by kernel_rfl)
   have e5 : u 5 = .agg #[.int .i64 lineS.lo, .int .i64 lineS.hi, .bool lineS.all] := hd 5 (by kernel_rfl)
   clear hd
   simp only [zzA, zzB]
   clear hl
   refine .inr ⟨?_, fun K' hK => ?_⟩
   ·
    simp [Region.wanted, yielded, layS, Act.put, e3, e4, e5]
   have HK := Lib.hid hK
   clear hK
   simp only [layS, Act.put, zzC, zzD, zzE, Nat.zero_add, Nat.reduceAdd, e3, e4, e5]
   have E3 := Lib.hid e3
   have E4 := Lib.hid e4
   have E5 := Lib.hid e5
   clear e3 e4 e5
   have c00 := hJ.c0.1
   have c01 := hJ.c0.2.1
   have c02 := hJ.c0.2.2.1
   have c03 := hJ.c0.2.2.2.1
   have c04 := hJ.c0.2.2.2.2.1
   have c05 := hJ.c0.2.2.2.2.2
   have c10 := hJ.c1.1
   have c11 := hJ.c1.2.1
   have c12 := hJ.c1.2.2.1
   have c13 := hJ.c1.2.2.2.1
   have c14 := hJ.c1.2.2.2.2.1
   have c15 := hJ.c1.2.2.2.2.2
   go_simp
   exact HK.out _ _ (by simp [layS, updV, lstV, Act.put, E3.out, E4.out, E5.out]) hJ
  ·
   have e3 : u 3 = .bool false := hd 3 (by kernel_rfl)
   have e6 : u 6 = .bool true := hd 6 (by kernel_rfl)
   clear hd
   simp only [zzA, zzB]
   clear hl
   refine .inr ⟨rfl, fun K' hK => ?_⟩
   have HK := Lib.hid hK
   clear hK
   simp only [layS, Act.put, zzC, zzD, zzE, Nat.zero_add, Nat.reduceAdd, e3, e6]
   have E3 := Lib.hid e3
   have E6 := Lib.hid e6
   clear e3 e6
   have c00 := hJ.c0.1
   have c01 := hJ.c0.2.1
   have c02 := hJ.c0.2.2.1
   have c03 := hJ.c0.2.2.2.1
   have c04 := hJ.c0.2.2.2.2.1
   have c05 := hJ.c0.2.2.2.2.2
   have c10 := hJ.c1.1
   have c11 := hJ.c1.2.1
   have c12 := hJ.c1.2.2.1
   have c13 := hJ.c1.2.2.2.1
   have c14 := hJ.c1.2.2.2.2.1
   have c15 := hJ.c1.2.2.2.2.2
   go_simp
   exact HK.out _ _ (by simp [layS, updV, lstV, Act.put, E3.out, E6.out]) hJ
 intro W hJ
 simp only [layS, lstV, Act.put, zzC, zzD, zzE, Nat.zero_add, Nat.reduceAdd, List.getD_cons_zero, List.getD_cons_succ, List.drop_succ_cons, List.drop_zero, List.drop_nil]
 go_wp2_with fail
 refine (whole_any _).mono ?_
 rintro e W2 ⟨rfl, hB⟩
 have hJ2 := hJ.later hB
 have c20 := hJ2.c2.1
 have c21 := hJ2.c2.2.1
 have c22 := hJ2.c2.2.2.1
 have c23 := hJ2.c2.2.2.2.1
 have c24 := hJ2.c2.2.2.2.2.1
 have c25 := hJ2.c2.2.2.2.2.2
 go_wp2
 have hp := hJ2.put 2 (by simp) lineS
 exact bodyPost_ret (v := .agg #[.int .i64 lineS.lo, .int .i64 lineS.hi, .bool lineS.all]) (by simp [results, Tryz.results71, go_sem, c20, c21, c22]) rfl ⟨rfl, hp.below⟩
set_option maxHeartbeats 1600000 in
theorem Join_ok (x y x1 y1 : Sp) (hcx : ∀ W : World, Calls Tryz.prog 72 #[.agg #[.int .i64 x.lo, .int .i64 x.hi, .bool x.all]] W (PSp x1 W)) (hcy : ∀ W : World, Calls Tryz.prog 72 #[.agg #[.int .i64 y.lo, .int .i64 y.hi, .bool y.all]] W (PSp y1 W)) (hqx : eqS x1.lo x1.hi x1.all lineS.lo lineS.hi lineS.all = false) (hqy : eqS y1.lo y1.hi y1.all lineS.lo lineS.hi lineS.all = false) (w : World) : Calls Tryz.prog 71 #[.agg #[.int .i64 x.lo, .int .i64 x.hi, .bool x.all], .agg #[.int .i64 y.lo, .int .i64 y.hi, .bool y.all]] w (PSp ⟨min x1.lo y1.lo, max x1.hi y1.hi, false⟩ w) := by
 have HCX := Lib.hid hcx
 clear hcx
 have HCY := Lib.hid hcy
 clear hcy
 go_enter Tryz.func71, Tryz.ntmps71
 go_wp2
 have hX := bs3 w x.lo x.hi x.all y.lo y.hi y.all 0 0 false
 generalize ((w.alloc (.cells #[.int .i64 x.lo, .int .i64 x.hi, .bool x.all] 23)).alloc (.cells #[.int .i64 y.lo, .int .i64 y.hi, .bool y.all] 23)).alloc (.cells #[.int .i64 0, .int .i64 0, .bool false] 23) = w1 at *
 refine wp_region_vals 4 [some 5, some 6, some 7, some 8] (lstV [.agg #[.int .i64 x.lo, .int .i64 x.hi, .bool x.all], .agg #[.int .i64 x1.lo, .int .i64 x1.hi, .bool x1.all], .agg #[.int .i64 y.lo, .int .i64 y.hi, .bool y.all], .agg #[.int .i64 y1.lo, .int .i64 y1.hi, .bool y1.all]]) (fun W => Bs w W [x, y, ⟨0, 0, false⟩]) (by kernel_rfl) (by kernel_rfl) (by decide) (hX.drew) ?_ ?_
 ·
  intro i hl hi u W hJ hd
  obtain rfl | rfl | rfl | rfl : i = 0 ∨ i = 1 ∨ i = 2 ∨ i = 3 := by omega
  ·
   clear hd
   simp only [zzA, zzB]
   clear hl
   refine .inr ⟨rfl, fun K' hK => ?_⟩
   have HK := Lib.hid hK
   clear hK
   simp only [layS, Act.put, zzC, zzD, zzE, Nat.zero_add, Nat.reduceAdd]
   have c00 := hJ.c0.1
   have c01 := hJ.c0.2.1
   have c02 := hJ.c0.2.2.1
   have c03 := hJ.c0.2.2.2.1
   have c04 := hJ.c0.2.2.2.2.1
   have c05 := hJ.c0.2.2.2.2.2
   have c10 := hJ.c1.1
   have c11 := hJ.c1.2.1
   have c12 := hJ.c1.2.2.1
   have c13 := hJ.c1.2.2.2.1
   have c14 := hJ.c1.2.2.2.2.1
   have c15 := hJ.c1.2.2.2.2.2
   go_simp
   exact HK.out _ _ (by simp [layS, updV, lstV, Act.put]) hJ
  ·
   have e0 : u 0 = .agg #[.int .i64 x.lo, .int .i64 x.hi, .bool x.all] := hd 0 (by kernel_rfl)
   clear hd
   simp only [zzA, zzB]
   clear hl
   refine .inr ⟨rfl, fun K' hK => ?_⟩
   have HK := Lib.hid hK
   clear hK
   simp only [layS, Act.put, zzC, zzD, zzE, Nat.zero_add, Nat.reduceAdd, e0]
   have E0 := Lib.hid e0
   clear e0
   have c00 := hJ.c0.1
   have c01 := hJ.c0.2.1
   have c02 := hJ.c0.2.2.1
   have c03 := hJ.c0.2.2.2.1
   have c04 := hJ.c0.2.2.2.2.1
   have c05 := hJ.c0.2.2.2.2.2
   have c10 := hJ.c1.1
   have c11 := hJ.c1.2.1
   have c12 := hJ.c1.2.2.1
   have c13 := hJ.c1.2.2.2.1
   have c14 := hJ.c1.2.2.2.2.1
   have c15 := hJ.c1.2.2.2.2.2
   go_simp
   refine (HCX.out W).mono ?_
   rintro e W' ⟨rfl, hB⟩
   exact HK.out _ _ (by simp [layS, updV, lstV, Act.put, E0.out]) (hJ.later hB)
  ·
   clear hd
   simp only [zzA, zzB]
   clear hl
   refine .inr ⟨rfl, fun K' hK => ?_⟩
   have HK := Lib.hid hK
   clear hK
   simp only [layS, Act.put, zzC, zzD, zzE, Nat.zero_add, Nat.reduceAdd]
   have c00 := hJ.c0.1
   have c01 := hJ.c0.2.1
   have c02 := hJ.c0.2.2.1
   have c03 := hJ.c0.2.2.2.1
   have c04 := hJ.c0.2.2.2.2.1
   have c05 := hJ.c0.2.2.2.2.2
   have c10 := hJ.c1.1
   have c11 := hJ.c1.2.1
   have c12 := hJ.c1.2.2.1
   have c13 := hJ.c1.2.2.2.1
   have c14 := hJ.c1.2.2.2.2.1
   have c15 := hJ.c1.2.2.2.2.2
   go_simp
   exact HK.out _ _ (by simp [layS, updV, lstV, Act.put]) hJ
  ·
   have e2 : u 2 = .agg #[.int .i64 y.lo, .int .i64 y.hi, .bool y.all] := hd 2 (by kernel_rfl)
   clear hd
   simp only [zzA, zzB]
   clear hl
   refine .inr ⟨rfl, fun K' hK => ?_⟩
   have HK := Lib.hid hK
   clear hK
   simp only [layS, Act.put, zzC, zzD, zzE, Nat.zero_add, Nat.reduceAdd, e2]
   have E2 := Lib.hid e2
   clear e2
   have c00 := hJ.c0.1
   have c01 := hJ.c0.2.1
   have c02 := hJ.c0.2.2.1
   have c03 := hJ.c0.2.2.2.1
   have c04 := hJ.c0.2.2.2.2.1
   have c05 := hJ.c0.2.2.2.2.2
   have c10 := hJ.c1.1
   have c11 := hJ.c1.2.1
   have c12 := hJ.c1.2.2.1
   have c13 := hJ.c1.2.2.2.1
   have c14 := hJ.c1.2.2.2.2.1
   have c15 := hJ.c1.2.2.2.2.2
   go_simp
   refine (HCY.out W).mono ?_
   rintro e W' ⟨rfl, hB⟩
   exact HK.out _ _ (by simp [layS, updV, lstV, Act.put, E2.out]) (hJ.later hB)
 intro W hJ
 simp only [layS, lstV, Act.put, zzC, zzD, zzE, Nat.zero_add, Nat.reduceAdd, List.getD_cons_zero, List.getD_cons_succ, List.drop_succ_cons, List.drop_zero, List.drop_nil]
 have c00 := hJ.c0.1
 have c01 := hJ.c0.2.1
 have c02 := hJ.c0.2.2.1
 have c03 := hJ.c0.2.2.2.1
 have c04 := hJ.c0.2.2.2.2.1
 have c05 := hJ.c0.2.2.2.2.2
 have c10 := hJ.c1.1
 have c11 := hJ.c1.2.1
 have c12 := hJ.c1.2.2.1
 have c13 := hJ.c1.2.2.2.1
 have c14 := hJ.c1.2.2.2.2.1
 have c15 := hJ.c1.2.2.2.2.2
 go_wp2
 have hJ1 : Bs w _ [x1, y1, ⟨0, 0, false⟩] := (hJ.put 0 (by simp) x1).put 1 (by simp) y1
 simp only [Nat.add_zero] at hJ1
 clear c00 c01 c02 c03 c04 c05 c10 c11 c12 c13 c14 c15 hJ hX
 refine wp_region_vals 8 [some 9, some 10, some 11, some 12, some 13, some 14, some 15, some 16] (lstV [.agg #[.int .i64 x1.lo, .int .i64 x1.hi, .bool x1.all], .agg #[.int .i64 lineS.lo, .int .i64 lineS.hi, .bool lineS.all], .bool false, .bool false, .agg #[.int .i64 y1.lo, .int .i64 y1.hi, .bool y1.all], .agg #[.int .i64 lineS.lo, .int .i64 lineS.hi, .bool lineS.all], .bool false, .bool false]) (fun W => Bs w W [x1, y1, ⟨0, 0, false⟩]) (by kernel_rfl) (by kernel_rfl) (by decide) (hJ1.drew) ?_ ?_
 ·
  intro i hl hi u W hJ hd
  obtain rfl | rfl | rfl | rfl | rfl | rfl | rfl | rfl : i = 0 ∨ i = 1 ∨ i = 2 ∨ i = 3 ∨ i = 4 ∨ i = 5 ∨ i = 6 ∨ i = 7 := by omega
  ·
   clear hd
   simp only [zzA, zzB]
   clear hl
   refine .inr ⟨rfl, fun K' hK => ?_⟩
   have HK := Lib.hid hK
   clear hK
   simp only [layS, Act.put, zzC, zzD, zzE, Nat.zero_add, Nat.reduceAdd]
   have c00 := hJ.c0.1
   have c01 := hJ.c0.2.1
   have c02 := hJ.c0.2.2.1
   have c03 := hJ.c0.2.2.2.1
   have c04 := hJ.c0.2.2.2.2.1
   have c05 := hJ.c0.2.2.2.2.2
   have c10 := hJ.c1.1
   have c11 := hJ.c1.2.1
   have c12 := hJ.c1.2.2.1
   have c13 := hJ.c1.2.2.2.1
   have c14 := hJ.c1.2.2.2.2.1
   have c15 := hJ.c1.2.2.2.2.2
   go_simp
   exact HK.out _ _ (by simp [layS, updV, lstV, Act.put]) hJ
  ·
   clear hd
   simp only [zzA, zzB]
   clear hl
   refine .inr ⟨rfl, fun K' hK => ?_⟩
   have HK := Lib.hid hK
   clear hK
   simp only [layS, Act.put, zzC, zzD, zzE, Nat.zero_add, Nat.reduceAdd]
   have c00 := hJ.c0.1
   have c01 := hJ.c0.2.1
   have c02 := hJ.c0.2.2.1
   have c03 := hJ.c0.2.2.2.1
   have c04 := hJ.c0.2.2.2.2.1
   have c05 := hJ.c0.2.2.2.2.2
   have c10 := hJ.c1.1
   have c11 := hJ.c1.2.1
   have c12 := hJ.c1.2.2.1
   have c13 := hJ.c1.2.2.2.1
   have c14 := hJ.c1.2.2.2.2.1
   have c15 := hJ.c1.2.2.2.2.2
   go_simp
   refine (whole_any W).mono ?_
   rintro e W' ⟨rfl, hB⟩
   exact HK.out _ _ (by simp [layS, updV, lstV, Act.put]) (hJ.later hB)
  ·
   have e0 : u 0 = .agg #[.int .i64 x1.lo, .int .i64 x1.hi, .bool x1.all] := hd 0 (by kernel_rfl)
   have e1 : u 1 = .agg #[.int .i64 lineS.lo, .int .i64 lineS.hi, .bool lineS.all] := hd 1 (by kernel_rfl)
   clear hd
   simp only [zzA, zzB]
   clear hl
   refine .inr ⟨rfl, fun K' hK => ?_⟩
   have HK := Lib.hid hK
   clear hK
   simp only [layS, Act.put, zzC, zzD, zzE, Nat.zero_add, Nat.reduceAdd, e0, e1]
   have E0 := Lib.hid e0
   have E1 := Lib.hid e1
   clear e0 e1
   have c00 := hJ.c0.1
   have c01 := hJ.c0.2.1
   have c02 := hJ.c0.2.2.1
   have c03 := hJ.c0.2.2.2.1
   have c04 := hJ.c0.2.2.2.2.1
   have c05 := hJ.c0.2.2.2.2.2
   have c10 := hJ.c1.1
   have c11 := hJ.c1.2.1
   have c12 := hJ.c1.2.2.1
   have c13 := hJ.c1.2.2.2.1
   have c14 := hJ.c1.2.2.2.2.1
   have c15 := hJ.c1.2.2.2.2.2
   go_simp
   exact HK.out _ _ (by simp [layS, updV, lstV, Act.put, E0.out, E1.out]) hJ
  ·
   have e2 : u 2 = .bool false := hd 2 (by kernel_rfl)
   clear hd
   simp only [zzA, zzB]
   clear hl
   refine .inr ⟨rfl, fun K' hK => ?_⟩
   have HK := Lib.hid hK
   clear hK
   simp only [layS, Act.put, zzC, zzD, zzE, Nat.zero_add, Nat.reduceAdd, e2]
   have E2 := Lib.hid e2
   clear e2
   have c00 := hJ.c0.1
   have c01 := hJ.c0.2.1
   have c02 := hJ.c0.2.2.1
   have c03 := hJ.c0.2.2.2.1
   have c04 := hJ.c0.2.2.2.2.1
   have c05 := hJ.c0.2.2.2.2.2
   have c10 := hJ.c1.1
   have c11 := hJ.c1.2.1
   have c12 := hJ.c1.2.2.1
   have c13 := hJ.c1.2.2.2.1
   have c14 := hJ.c1.2.2.2.2.1
   have c15 := hJ.c1.2.2.2.2.2
   go_simp
   exact HK.out _ _ (by simp [layS, updV, lstV, Act.put, E2.out]) hJ
  ·
   have e3 : u 3 = .bool false := hd 3 (by kernel_rfl)
   clear hd
   simp only [zzA, zzB]
   clear hl
   refine .inr ⟨?_, fun K' hK => ?_⟩
   ·
    simp [Region.wanted, yielded, layS, Act.put, e3]
   have HK := Lib.hid hK
   clear hK
   simp only [layS, Act.put, zzC, zzD, zzE, Nat.zero_add, Nat.reduceAdd, e3]
   have E3 := Lib.hid e3
   clear e3
   have c00 := hJ.c0.1
   have c01 := hJ.c0.2.1
   have c02 := hJ.c0.2.2.1
   have c03 := hJ.c0.2.2.2.1
   have c04 := hJ.c0.2.2.2.2.1
   have c05 := hJ.c0.2.2.2.2.2
   have c10 := hJ.c1.1
   have c11 := hJ.c1.2.1
   have c12 := hJ.c1.2.2.1
   have c13 := hJ.c1.2.2.2.1
   have c14 := hJ.c1.2.2.2.2.1
   have c15 := hJ.c1.2.2.2.2.2
   go_simp
   exact HK.out _ _ (by simp [layS, updV, lstV, Act.put, E3.out]) hJ
  ·
   have e3 : u 3 = .bool false := hd 3 (by kernel_rfl)
   clear hd
   simp only [zzA, zzB]
   clear hl
   refine .inr ⟨?_, fun K' hK => ?_⟩
   ·
    simp [Region.wanted, yielded, layS, Act.put, e3]
   have HK := Lib.hid hK
   clear hK
   simp only [layS, Act.put, zzC, zzD, zzE, Nat.zero_add, Nat.reduceAdd, e3]
   have E3 := Lib.hid e3
   clear e3
   have c00 := hJ.c0.1
   have c01 := hJ.c0.2.1
   have c02 := hJ.c0.2.2.1
   have c03 := hJ.c0.2.2.2.1
   have c04 := hJ.c0.2.2.2.2.1
   have c05 := hJ.c0.2.2.2.2.2
   have c10 := hJ.c1.1
   have c11 := hJ.c1.2.1
   have c12 := hJ.c1.2.2.1
   have c13 := hJ.c1.2.2.2.1
   have c14 := hJ.c1.2.2.2.2.1
   have c15 := hJ.c1.2.2.2.2.2
   go_simp
   refine (whole_any W).mono ?_
   rintro e W' ⟨rfl, hB⟩
   exact HK.out _ _ (by simp [layS, updV, lstV, Act.put, E3.out]) (hJ.later hB)
  ·
   have e3 : u 3 = .bool false := hd 3 (by kernel_rfl)
   have e4 : u 4 = .agg #[.int .i64 y1.lo, .int .i64 y1.hi, .bool y1.all] := hd 4 (by kernel_rfl)
   have e5 : u 5 = .agg #[.int .i64 lineS.lo, .int .i64 lineS.hi, .bool lineS.all] := hd 5 (by kernel_rfl)
   clear hd
   simp only [zzA, zzB]
   clear hl
   refine .inr ⟨?_, fun K' hK => ?_⟩
   ·
    simp [Region.wanted, yielded, layS, Act.put, e3, e4, e5]
   have HK := Lib.hid hK
   clear hK
   simp only [layS, Act.put, zzC, zzD, zzE, Nat.zero_add, Nat.reduceAdd, e3, e4, e5]
   have E3 := Lib.hid e3
   have E4 := Lib.hid e4
   have E5 := Lib.hid e5
   clear e3 e4 e5
   have c00 := hJ.c0.1
   have c01 := hJ.c0.2.1
   have c02 := hJ.c0.2.2.1
   have c03 := hJ.c0.2.2.2.1
   have c04 := hJ.c0.2.2.2.2.1
   have c05 := hJ.c0.2.2.2.2.2
   have c10 := hJ.c1.1
   have c11 := hJ.c1.2.1
   have c12 := hJ.c1.2.2.1
   have c13 := hJ.c1.2.2.2.1
   have c14 := hJ.c1.2.2.2.2.1
   have c15 := hJ.c1.2.2.2.2.2
   go_simp
   exact HK.out _ _ (by simp [layS, updV, lstV, Act.put, E3.out, E4.out, E5.out]) hJ
  ·
   have e3 : u 3 = .bool false := hd 3 (by kernel_rfl)
   have e6 : u 6 = .bool false := hd 6 (by kernel_rfl)
   clear hd
   simp only [zzA, zzB]
   clear hl
   refine .inr ⟨rfl, fun K' hK => ?_⟩
   have HK := Lib.hid hK
   clear hK
   simp only [layS, Act.put, zzC, zzD, zzE, Nat.zero_add, Nat.reduceAdd, e3, e6]
   have E3 := Lib.hid e3
   have E6 := Lib.hid e6
   clear e3 e6
   have c00 := hJ.c0.1
   have c01 := hJ.c0.2.1
   have c02 := hJ.c0.2.2.1
   have c03 := hJ.c0.2.2.2.1
   have c04 := hJ.c0.2.2.2.2.1
   have c05 := hJ.c0.2.2.2.2.2
   have c10 := hJ.c1.1
   have c11 := hJ.c1.2.1
   have c12 := hJ.c1.2.2.1
   have c13 := hJ.c1.2.2.2.1
   have c14 := hJ.c1.2.2.2.2.1
   have c15 := hJ.c1.2.2.2.2.2
   go_simp
   exact HK.out _ _ (by simp [layS, updV, lstV, Act.put, E3.out, E6.out]) hJ
 intro W hJ
 simp only [layS, lstV, Act.put, zzC, zzD, zzE, Nat.zero_add, Nat.reduceAdd, List.getD_cons_zero, List.getD_cons_succ, List.drop_succ_cons, List.drop_zero, List.drop_nil]
 have c00 := hJ.c0.1
 have c01 := hJ.c0.2.1
 have c02 := hJ.c0.2.2.1
 have c03 := hJ.c0.2.2.2.1
 have c04 := hJ.c0.2.2.2.2.1
 have c05 := hJ.c0.2.2.2.2.2
 have c10 := hJ.c1.1
 have c11 := hJ.c1.2.1
 have c12 := hJ.c1.2.2.1
 have c13 := hJ.c1.2.2.2.1
 have c14 := hJ.c1.2.2.2.2.1
 have c15 := hJ.c1.2.2.2.2.2
 have c20 := hJ.c2.1
 have c21 := hJ.c2.2.1
 have c22 := hJ.c2.2.2.1
 have c23 := hJ.c2.2.2.2.1
 have c24 := hJ.c2.2.2.2.2.1
 have c25 := hJ.c2.2.2.2.2.2
 go_wp2
 have hp := hJ.put 2 (by simp) ⟨min x1.lo y1.lo, max x1.hi y1.hi, false⟩
 exact bodyPost_ret (v := .agg #[.int .i64 (min x1.lo y1.lo), .int .i64 (max x1.hi y1.hi), .bool false]) (by simp [results, Tryz.results71, go_sem, c20, c21, c22]) rfl ⟨rfl, hp.below⟩
theorem Join_any (x y : Sp) (w : World) : Calls Tryz.prog 71 #[.agg #[.int .i64 x.lo, .int .i64 x.hi, .bool x.all], .agg #[.int .i64 y.lo, .int .i64 y.hi, .bool y.all]] w (PSp (joinS x y) w) := by
 have lx := line_eq x
 have ly := line_eq y
 cases hx : okB x
 ·
  rw [join_no (by rw [hx]; rfl)]
  rw [hx] at lx
  exact Join_no1 x y _ _ (counted_any x) (counted_any y) lx w
 ·
  rw [hx] at lx
  cases hy : okB y
  ·
   rw [join_no (by rw [hx, hy]; rfl)]
   rw [hy] at ly
   exact Join_no2 x y _ _ (counted_any x) (counted_any y) lx ly w
  ·
   rw [hy] at ly
   rw [join_ok hx hy]
   have := Join_ok x y _ _ (counted_any x) (counted_any y) lx ly w
   rw [mkS_ok hx, mkS_ok hy] at this
   exact this
end Go.Proofs.YtolpfibihialkaaGreat
