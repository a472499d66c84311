/- Parts of the proof. -/
import Derived.Test.YtolpfibihialkaaGreatGr0
import Derived.Test.YtolpfibihialkaaGreatGr19
/- Spans: the walks of Has, In, Meet, Mid, Rad, Neg. -/
namespace Go.Proofs.YtolpfibihialkaaGreat
open Go.RowKit
attribute [local go_sem ↓] run_eqlS run_neqS
set_option maxHeartbeats 1600000 in
theorem Has_no (x x1 : Sp) (n : Int) (hcx : ∀ W : World, Calls Tryz.prog 72 #[.agg #[.int .i64 x.lo, .int .i64 x.hi, .bool x.all]] W (PSp x1 W)) (hqx : eqS x1.lo x1.hi x1.all lineS.lo lineS.hi lineS.all = true) (w : World) : Calls Tryz.prog 80 #[.agg #[.int .i64 x.lo, .int .i64 x.hi, .bool x.all], .int .i64 n] w (PVal (.bool (true)) w) := by
 have HCX := Lib.hid hcx
 clear hcx
 go_enter Tryz.func80, Tryz.ntmps80
 go_wp2_with fail
 have hX := bs1 w x.lo x.hi x.all
 generalize w.alloc (.cells #[.int .i64 x.lo, .int .i64 x.hi, .bool x.all] 23) = w1 at *
 refine (HCX.out _).mono ?_
 rintro e w2 ⟨rfl, hB⟩
 have hX2 := hX.later hB
 have c00 := hX2.c0.1
 have c01 := hX2.c0.2.1
 have c02 := hX2.c0.2.2.1
 have c03 := hX2.c0.2.2.2.1
 have c04 := hX2.c0.2.2.2.2.1
 have c05 := hX2.c0.2.2.2.2.2
 go_wp2
 have hJ1 : Bs w _ [x1] := hX2.put 0 (by simp) x1
 simp only [Nat.add_zero] at hJ1
 clear c00 c01 c02 c03 c04 c05 hX hX2 hB
 refine wp_region_vals 16 [some 7, some 8, some 9, some 10, some 11, some 12, some 13, some 14, some 15, some 16, some 17, some 18, some 19, some 20, some 21, some 4] (lstV [.agg #[.int .i64 x1.lo, .int .i64 x1.hi, .bool x1.all], .agg #[.int .i64 lineS.lo, .int .i64 lineS.hi, .bool lineS.all], .bool true, .bool true, undef, undef, undef, undef, undef, undef, undef, undef, undef, undef, .bool true, .bool true]) (fun W => Bs w W [x1]) (by kernel_rfl) (by kernel_rfl) (by decide) (hJ1.drew) ?_ ?_
 ·
  intro i hl hi u W hJ hd
  obtain rfl | rfl | rfl | rfl | rfl | rfl | rfl | rfl | rfl | rfl | rfl | rfl | rfl | rfl | rfl | rfl : i = 0 ∨ i = 1 ∨ i = 2 ∨ i = 3 ∨ i = 4 ∨ i = 5 ∨ i = 6 ∨ i = 7 ∨ i = 8 ∨ i = 9 ∨ i = 10 ∨ i = 11 ∨ i = 12 ∨ i = 13 ∨ i = 14 ∨ i = 15 := by omega
  ·
   clear hd
   simp only [zzA, zzB]
   clear hl
   refine .inr ⟨rfl, fun K' hK => ?_⟩
   have HK := Lib.hid hK
   clear hK
   simp only [layS, Act.put, zzC, zzD, zzE, Nat.zero_add, Nat.reduceAdd]
   have c00 := hJ.c0.1
   have c01 := hJ.c0.2.1
   have c02 := hJ.c0.2.2.1
   have c03 := hJ.c0.2.2.2.1
   have c04 := hJ.c0.2.2.2.2.1
   have c05 := hJ.c0.2.2.2.2.2
   go_simp
   exact HK.out _ _ (by simp [layS, updV, lstV, Act.put]) hJ
  ·
   clear hd
   simp only [zzA, zzB]
   clear hl
   refine .inr ⟨rfl, fun K' hK => ?_⟩
   have HK := Lib.hid hK
   clear hK
   simp only [layS, Act.put, zzC, zzD, zzE, Nat.zero_add, Nat.reduceAdd]
   have c00 := hJ.c0.1
   have c01 := hJ.c0.2.1
   have c02 := hJ.c0.2.2.1
   have c03 := hJ.c0.2.2.2.1
   have c04 := hJ.c0.2.2.2.2.1
   have c05 := hJ.c0.2.2.2.2.2
   go_simp
   refine (whole_any W).mono ?_
   rintro e W' ⟨rfl, hB⟩
   exact HK.out _ _ (by simp [layS, updV, lstV, Act.put]) (hJ.later hB)
  ·
   have e0 : u 0 = .agg #[.int .i64 x1.lo, .int .i64 x1.hi, .bool x1.all] := hd 0 (by kernel_rfl)
   have e1 : u 1 = .agg #[.int .i64 lineS.lo, .int .i64 lineS.hi, .bool lineS.all] := hd 1 (by kernel_rfl)
   clear hd
   simp only [zzA, zzB]
   clear hl
   refine .inr ⟨rfl, fun K' hK => ?_⟩
   have HK := Lib.hid hK
   clear hK
   simp only [layS, Act.put, zzC, zzD, zzE, Nat.zero_add, Nat.reduceAdd, e0, e1]
   have E0 := Lib.hid e0
   have E1 := Lib.hid e1
   clear e0 e1
   have c00 := hJ.c0.1
   have c01 := hJ.c0.2.1
   have c02 := hJ.c0.2.2.1
   have c03 := hJ.c0.2.2.2.1
   have c04 := hJ.c0.2.2.2.2.1
   have c05 := hJ.c0.2.2.2.2.2
   go_simp
   exact HK.out _ _ (by simp [layS, updV, lstV, Act.put, E0.out, E1.out]) hJ
  ·
   have e2 : u 2 = .bool true := hd 2 (by kernel_rfl)
   clear hd
   simp only [zzA, zzB]
   clear hl
   refine .inr ⟨rfl, fun K' hK => ?_⟩
   have HK := Lib.hid hK
   clear hK
   simp only [layS, Act.put, zzC, zzD, zzE, Nat.zero_add, Nat.reduceAdd, e2]
   have E2 := Lib.hid e2
   clear e2
   have c00 := hJ.c0.1
   have c01 := hJ.c0.2.1
   have c02 := hJ.c0.2.2.1
   have c03 := hJ.c0.2.2.2.1
   have c04 := hJ.c0.2.2.2.2.1
   have c05 := hJ.c0.2.2.2.2.2
   go_simp
   exact HK.out _ _ (by simp [layS, updV, lstV, Act.put, E2.out]) hJ
  ·
   have e3 : u 3 = .bool true := hd 3 (by kernel_rfl)
   clear hd
   simp only [zzA, zzB]
   clear hl
   refine .inl ⟨?_, ?_⟩
   ·
    simp [Region.wanted, yielded, layS, Act.put, e3]
   ·
    simp [layS, updV, lstV, Act.put]
  ·
   have e3 : u 3 = .bool true := hd 3 (by kernel_rfl)
   have e4 : u 4 = undef := hd 4 (by kernel_rfl)
   clear hd
   simp only [zzA, zzB]
   clear hl
   refine .inl ⟨?_, ?_⟩
   ·
    simp [Region.wanted, yielded, layS, Act.put, e3, e4]
   ·
    simp [layS, updV, lstV, Act.put]
  ·
   have e3 : u 3 = .bool true := hd 3 (by kernel_rfl)
   clear hd
   simp only [zzA, zzB]
   clear hl
   refine .inl ⟨?_, ?_⟩
   ·
    simp [Region.wanted, yielded, layS, Act.put, e3]
   ·
    simp [layS, updV, lstV, Act.put]
  ·
   have e3 : u 3 = .bool true := hd 3 (by kernel_rfl)
   have e5 : u 5 = undef := hd 5 (by kernel_rfl)
   have e6 : u 6 = undef := hd 6 (by kernel_rfl)
   clear hd
   simp only [zzA, zzB]
   clear hl
   refine .inl ⟨?_, ?_⟩
   ·
    simp [Region.wanted, yielded, layS, Act.put, e3, e5, e6]
   ·
    simp [layS, updV, lstV, Act.put]
  ·
   have e3 : u 3 = .bool true := hd 3 (by kernel_rfl)
   have e7 : u 7 = undef := hd 7 (by kernel_rfl)
   clear hd
   simp only [zzA, zzB]
   clear hl
   refine .inl ⟨?_, ?_⟩
   ·
    simp [Region.wanted, yielded, layS, Act.put, e3, e7]
   ·
    simp [layS, updV, lstV, Act.put]
  ·
   have e8 : u 8 = undef := hd 8 (by kernel_rfl)
   clear hd
   simp only [zzA, zzB]
   clear hl
   refine .inl ⟨?_, ?_⟩
   ·
    simp [Region.wanted, yielded, layS, Act.put, e8, undef]
   ·
    simp [layS, updV, lstV, Act.put]
  ·
   have e8 : u 8 = undef := hd 8 (by kernel_rfl)
   clear hd
   simp only [zzA, zzB]
   clear hl
   refine .inl ⟨?_, ?_⟩
   ·
    simp [Region.wanted, yielded, layS, Act.put, e8, undef]
   ·
    simp [layS, updV, lstV, Act.put]
  ·
   have e8 : u 8 = undef := hd 8 (by kernel_rfl)
   have e10 : u 10 = undef := hd 10 (by kernel_rfl)
   clear hd
   simp only [zzA, zzB]
   clear hl
   refine .inl ⟨?_, ?_⟩
   ·
    simp [Region.wanted, yielded, layS, Act.put, e8, e10, undef]
   ·
    simp [layS, updV, lstV, Act.put]
  ·
   have e8 : u 8 = undef := hd 8 (by kernel_rfl)
   have e9 : u 9 = undef := hd 9 (by kernel_rfl)
   have e11 : u 11 = undef := hd 11 (by kernel_rfl)
   clear hd
   simp only [zzA, zzB]
   clear hl
   refine .inl ⟨?_, ?_⟩
   ·
    simp [Region.wanted, yielded, layS, Act.put, e8, e9, e11, undef]
   ·
    simp [layS, updV, lstV, Act.put]
  ·
   have e3 : u 3 = .bool true := hd 3 (by kernel_rfl)
   have e8 : u 8 = undef := hd 8 (by kernel_rfl)
   have e12 : u 12 = undef := hd 12 (by kernel_rfl)
   clear hd
   simp only [zzA, zzB]
   clear hl
   refine .inl ⟨?_, ?_⟩
   ·
    simp [Region.wanted, yielded, layS, Act.put, e3, e8, e12]
   ·
    simp [layS, updV, lstV, Act.put]
  ·
   have e3 : u 3 = .bool true := hd 3 (by kernel_rfl)
   have e13 : u 13 = undef := hd 13 (by kernel_rfl)
   clear hd
   simp only [zzA, zzB]
   clear hl
   refine .inr ⟨rfl, fun K' hK => ?_⟩
   have HK := Lib.hid hK
   clear hK
   simp only [layS, Act.put, zzC, zzD, zzE, Nat.zero_add, Nat.reduceAdd, e3, e13]
   have E3 := Lib.hid e3
   have E13 := Lib.hid e13
   clear e3 e13
   have c00 := hJ.c0.1
   have c01 := hJ.c0.2.1
   have c02 := hJ.c0.2.2.1
   have c03 := hJ.c0.2.2.2.1
   have c04 := hJ.c0.2.2.2.2.1
   have c05 := hJ.c0.2.2.2.2.2
   go_simp
   exact HK.out _ _ (by simp [layS, updV, lstV, Act.put, E3.out, E13.out]) hJ
  ·
   have e14 : u 14 = .bool true := hd 14 (by kernel_rfl)
   clear hd
   simp only [zzA, zzB]
   clear hl
   refine .inr ⟨rfl, fun K' hK => ?_⟩
   have HK := Lib.hid hK
   clear hK
   simp only [layS, Act.put, zzC, zzD, zzE, Nat.zero_add, Nat.reduceAdd, e14]
   have E14 := Lib.hid e14
   clear e14
   have c00 := hJ.c0.1
   have c01 := hJ.c0.2.1
   have c02 := hJ.c0.2.2.1
   have c03 := hJ.c0.2.2.2.1
   have c04 := hJ.c0.2.2.2.2.1
   have c05 := hJ.c0.2.2.2.2.2
   go_simp
   exact HK.out _ _ (by simp [layS, updV, lstV, Act.put, E14.out]) hJ
 intro W hJ
 simp only [layS, lstV, Act.put, zzC, zzD, zzE, Nat.zero_add, Nat.reduceAdd, List.getD_cons_zero, List.getD_cons_succ, List.drop_succ_cons, List.drop_zero, List.drop_nil]
 go_wp2
 go_ret
 exact ⟨rfl, hJ.below⟩
set_option maxHeartbeats 1600000 in
theorem Has_lo (x x1 : Sp) (n : Int) (hcx : ∀ W : World, Calls Tryz.prog 72 #[.agg #[.int .i64 x.lo, .int .i64 x.hi, .bool x.all]] W (PSp x1 W)) (hqx : eqS x1.lo x1.hi x1.all lineS.lo lineS.hi lineS.all = false) (hd1 : decide (x1.lo ≤ n) = false) (w : World) : Calls Tryz.prog 80 #[.agg #[.int .i64 x.lo, .int .i64 x.hi, .bool x.all], .int .i64 n] w (PVal (.bool (false)) w) := by
 have HCX := Lib.hid hcx
 clear hcx
 go_enter Tryz.func80, Tryz.ntmps80
 go_wp2_with fail
 have hX := bs1 w x.lo x.hi x.all
 generalize w.alloc (.cells #[.int .i64 x.lo, .int .i64 x.hi, .bool x.all] 23) = w1 at *
 refine (HCX.out _).mono ?_
 rintro e w2 ⟨rfl, hB⟩
 have hX2 := hX.later hB
 have c00 := hX2.c0.1
 have c01 := hX2.c0.2.1
 have c02 := hX2.c0.2.2.1
 have c03 := hX2.c0.2.2.2.1
 have c04 := hX2.c0.2.2.2.2.1
 have c05 := hX2.c0.2.2.2.2.2
 go_wp2
 have hJ1 : Bs w _ [x1] := hX2.put 0 (by simp) x1
 simp only [Nat.add_zero] at hJ1
 clear c00 c01 c02 c03 c04 c05 hX hX2 hB
 refine wp_region_vals 16 [some 7, some 8, some 9, some 10, some 11, some 12, some 13, some 14, some 15, some 16, some 17, some 18, some 19, some 20, some 21, some 4] (lstV [.agg #[.int .i64 x1.lo, .int .i64 x1.hi, .bool x1.all], .agg #[.int .i64 lineS.lo, .int .i64 lineS.hi, .bool lineS.all], .bool false, .bool false, .pointer (some ⟨w.heap.size, 0, none⟩), .int .i64 x1.lo, .int .i64 n, .bool false, .bool false, undef, undef, undef, undef, .bool false, .bool false, .bool false]) (fun W => Bs w W [x1]) (by kernel_rfl) (by kernel_rfl) (by decide) (hJ1.drew) ?_ ?_
 ·
  intro i hl hi u W hJ hd
  obtain rfl | rfl | rfl | rfl | rfl | rfl | rfl | rfl | rfl | rfl | rfl | rfl | rfl | rfl | rfl | rfl : i = 0 ∨ i = 1 ∨ i = 2 ∨ i = 3 ∨ i = 4 ∨ i = 5 ∨ i = 6 ∨ i = 7 ∨ i = 8 ∨ i = 9 ∨ i = 10 ∨ i = 11 ∨ i = 12 ∨ i = 13 ∨ i = 14 ∨ i = 15 := by omega
  ·
   clear hd
   simp only [zzA, zzB]
   clear hl
   refine .inr ⟨rfl, fun K' hK => ?_⟩
   have HK := Lib.hid hK
   clear hK
   simp only [layS, Act.put, zzC, zzD, zzE, Nat.zero_add, Nat.reduceAdd]
   have c00 := hJ.c0.1
   have c01 := hJ.c0.2.1
   have c02 := hJ.c0.2.2.1
   have c03 := hJ.c0.2.2.2.1
   have c04 := hJ.c0.2.2.2.2.1
   have c05 := hJ.c0.2.2.2.2.2
   go_simp
   exact HK.out _ _ (by simp [layS, updV, lstV, Act.put]) hJ
  ·
   clear hd
   simp only [zzA, zzB]
   clear hl
   refine .inr ⟨rfl, fun K' hK => ?_⟩
   have HK := Lib.hid hK
   clear hK
   simp only [layS, Act.put, zzC, zzD, zzE, Nat.zero_add, Nat.reduceAdd]
   have c00 := hJ.c0.1
   have c01 := hJ.c0.2.1
   have c02 := hJ.c0.2.2.1
   have c03 := hJ.c0.2.2.2.1
   have c04 := hJ.c0.2.2.2.2.1
   have c05 := hJ.c0.2.2.2.2.2
   go_simp
   refine (whole_any W).mono ?_
   rintro e W' ⟨rfl, hB⟩
   exact HK.out _ _ (by simp [layS, updV, lstV, Act.put]) (hJ.later hB)
  ·
   have e0 : u 0 = .agg #[.int .i64 x1.lo, .int .i64 x1.hi, .bool x1.all] := hd 0 (by kernel_rfl)
   have e1 : u 1 = .agg #[.int .i64 lineS.lo, .int .i64 lineS.hi, .bool lineS.all] := hd 1 (by kernel_rfl)
   clear hd
   simp only [zzA, zzB]
   clear hl
   refine .inr ⟨rfl, fun K' hK => ?_⟩
   have HK := Lib.hid hK
   clear hK
   simp only [layS, Act.put, zzC, zzD, zzE, Nat.zero_add, Nat.reduceAdd, e0, e1]
   have E0 := Lib.hid e0
   have E1 := Lib.hid e1
   clear e0 e1
   have c00 := hJ.c0.1
   have c01 := hJ.c0.2.1
   have c02 := hJ.c0.2.2.1
   have c03 := hJ.c0.2.2.2.1
   have c04 := hJ.c0.2.2.2.2.1
   have c05 := hJ.c0.2.2.2.2.2
   go_simp
   exact HK.out _ _ (by simp [layS, updV, lstV, Act.put, E0.out, E1.out]) hJ
  ·
   have e2 : u 2 = .bool false := hd 2 (by kernel_rfl)
   clear hd
   simp only [zzA, zzB]
   clear hl
   refine .inr ⟨rfl, fun K' hK => ?_⟩
   have HK := Lib.hid hK
   clear hK
   simp only [layS, Act.put, zzC, zzD, zzE, Nat.zero_add, Nat.reduceAdd, e2]
   have E2 := Lib.hid e2
   clear e2
   have c00 := hJ.c0.1
   have c01 := hJ.c0.2.1
   have c02 := hJ.c0.2.2.1
   have c03 := hJ.c0.2.2.2.1
   have c04 := hJ.c0.2.2.2.2.1
   have c05 := hJ.c0.2.2.2.2.2
   go_simp
   exact HK.out _ _ (by simp [layS, updV, lstV, Act.put, E2.out]) hJ
  ·
   have e3 : u 3 = .bool false := hd 3 (by kernel_rfl)
   clear hd
   simp only [zzA, zzB]
   clear hl
   refine .inr ⟨?_, fun K' hK => ?_⟩
   ·
    simp [Region.wanted, yielded, layS, Act.put, e3]
   have HK := Lib.hid hK
   clear hK
   simp only [layS, Act.put, zzC, zzD, zzE, Nat.zero_add, Nat.reduceAdd, e3]
   have E3 := Lib.hid e3
   clear e3
   have c00 := hJ.c0.1
   have c01 := hJ.c0.2.1
   have c02 := hJ.c0.2.2.1
   have c03 := hJ.c0.2.2.2.1
   have c04 := hJ.c0.2.2.2.2.1
   have c05 := hJ.c0.2.2.2.2.2
   go_simp
   exact HK.out _ _ (by simp [layS, updV, lstV, Act.put, E3.out]) hJ
  ·
   have e3 : u 3 = .bool false := hd 3 (by kernel_rfl)
   have e4 : u 4 = .pointer (some ⟨w.heap.size, 0, none⟩) := hd 4 (by kernel_rfl)
   clear hd
   simp only [zzA, zzB]
   clear hl
   refine .inr ⟨?_, fun K' hK => ?_⟩
   ·
    simp [Region.wanted, yielded, layS, Act.put, e3, e4]
   have HK := Lib.hid hK
   clear hK
   simp only [layS, Act.put, zzC, zzD, zzE, Nat.zero_add, Nat.reduceAdd, e3, e4]
   have E3 := Lib.hid e3
   have E4 := Lib.hid e4
   clear e3 e4
   have c00 := hJ.c0.1
   have c01 := hJ.c0.2.1
   have c02 := hJ.c0.2.2.1
   have c03 := hJ.c0.2.2.2.1
   have c04 := hJ.c0.2.2.2.2.1
   have c05 := hJ.c0.2.2.2.2.2
   go_simp
   exact HK.out _ _ (by simp [layS, updV, lstV, Act.put, E3.out, E4.out]) hJ
  ·
   have e3 : u 3 = .bool false := hd 3 (by kernel_rfl)
   clear hd
   simp only [zzA, zzB]
   clear hl
   refine .inr ⟨?_, fun K' hK => ?_⟩
   ·
    simp [Region.wanted, yielded, layS, Act.put, e3]
   have HK := Lib.hid hK
   clear hK
   simp only [layS, Act.put, zzC, zzD, zzE, Nat.zero_add, Nat.reduceAdd, e3]
   have E3 := Lib.hid e3
   clear e3
   have c00 := hJ.c0.1
   have c01 := hJ.c0.2.1
   have c02 := hJ.c0.2.2.1
   have c03 := hJ.c0.2.2.2.1
   have c04 := hJ.c0.2.2.2.2.1
   have c05 := hJ.c0.2.2.2.2.2
   go_simp
   exact HK.out _ _ (by simp [layS, updV, lstV, Act.put, E3.out]) hJ
  ·
   have e3 : u 3 = .bool false := hd 3 (by kernel_rfl)
   have e5 : u 5 = .int .i64 x1.lo := hd 5 (by kernel_rfl)
   have e6 : u 6 = .int .i64 n := hd 6 (by kernel_rfl)
   clear hd
   simp only [zzA, zzB]
   clear hl
   refine .inr ⟨?_, fun K' hK => ?_⟩
   ·
    simp [Region.wanted, yielded, layS, Act.put, e3, e5, e6]
   have HK := Lib.hid hK
   clear hK
   simp only [layS, Act.put, zzC, zzD, zzE, Nat.zero_add, Nat.reduceAdd, e3, e5, e6]
   have E3 := Lib.hid e3
   have E5 := Lib.hid e5
   have E6 := Lib.hid e6
   clear e3 e5 e6
   have c00 := hJ.c0.1
   have c01 := hJ.c0.2.1
   have c02 := hJ.c0.2.2.1
   have c03 := hJ.c0.2.2.2.1
   have c04 := hJ.c0.2.2.2.2.1
   have c05 := hJ.c0.2.2.2.2.2
   go_simp
   exact HK.out _ _ (by simp [layS, updV, lstV, Act.put, E3.out, E5.out, E6.out]) hJ
  ·
   have e3 : u 3 = .bool false := hd 3 (by kernel_rfl)
   have e7 : u 7 = .bool false := hd 7 (by kernel_rfl)
   clear hd
   simp only [zzA, zzB]
   clear hl
   refine .inr ⟨?_, fun K' hK => ?_⟩
   ·
    simp [Region.wanted, yielded, layS, Act.put, e3, e7]
   have HK := Lib.hid hK
   clear hK
   simp only [layS, Act.put, zzC, zzD, zzE, Nat.zero_add, Nat.reduceAdd, e3, e7]
   have E3 := Lib.hid e3
   have E7 := Lib.hid e7
   clear e3 e7
   have c00 := hJ.c0.1
   have c01 := hJ.c0.2.1
   have c02 := hJ.c0.2.2.1
   have c03 := hJ.c0.2.2.2.1
   have c04 := hJ.c0.2.2.2.2.1
   have c05 := hJ.c0.2.2.2.2.2
   go_simp
   exact HK.out _ _ (by simp [layS, updV, lstV, Act.put, E3.out, E7.out]) hJ
  ·
   have e8 : u 8 = .bool false := hd 8 (by kernel_rfl)
   clear hd
   simp only [zzA, zzB]
   clear hl
   refine .inl ⟨?_, ?_⟩
   ·
    simp [Region.wanted, yielded, layS, Act.put, e8]
   ·
    simp [layS, updV, lstV, Act.put]
  ·
   have e8 : u 8 = .bool false := hd 8 (by kernel_rfl)
   clear hd
   simp only [zzA, zzB]
   clear hl
   refine .inl ⟨?_, ?_⟩
   ·
    simp [Region.wanted, yielded, layS, Act.put, e8]
   ·
    simp [layS, updV, lstV, Act.put]
  ·
   have e8 : u 8 = .bool false := hd 8 (by kernel_rfl)
   have e10 : u 10 = undef := hd 10 (by kernel_rfl)
   clear hd
   simp only [zzA, zzB]
   clear hl
   refine .inl ⟨?_, ?_⟩
   ·
    simp [Region.wanted, yielded, layS, Act.put, e8, e10]
   ·
    simp [layS, updV, lstV, Act.put]
  ·
   have e8 : u 8 = .bool false := hd 8 (by kernel_rfl)
   have e9 : u 9 = undef := hd 9 (by kernel_rfl)
   have e11 : u 11 = undef := hd 11 (by kernel_rfl)
   clear hd
   simp only [zzA, zzB]
   clear hl
   refine .inl ⟨?_, ?_⟩
   ·
    simp [Region.wanted, yielded, layS, Act.put, e8, e9, e11]
   ·
    simp [layS, updV, lstV, Act.put]
  ·
   have e3 : u 3 = .bool false := hd 3 (by kernel_rfl)
   have e8 : u 8 = .bool false := hd 8 (by kernel_rfl)
   have e12 : u 12 = undef := hd 12 (by kernel_rfl)
   clear hd
   simp only [zzA, zzB]
   clear hl
   refine .inr ⟨?_, fun K' hK => ?_⟩
   ·
    simp [Region.wanted, yielded, layS, Act.put, e3, e8, e12]
   have HK := Lib.hid hK
   clear hK
   simp only [layS, Act.put, zzC, zzD, zzE, Nat.zero_add, Nat.reduceAdd, e3, e8, e12]
   have E3 := Lib.hid e3
   have E8 := Lib.hid e8
   have E12 := Lib.hid e12
   clear e3 e8 e12
   have c00 := hJ.c0.1
   have c01 := hJ.c0.2.1
   have c02 := hJ.c0.2.2.1
   have c03 := hJ.c0.2.2.2.1
   have c04 := hJ.c0.2.2.2.2.1
   have c05 := hJ.c0.2.2.2.2.2
   go_simp
   exact HK.out _ _ (by simp [layS, updV, lstV, Act.put, E3.out, E8.out, E12.out]) hJ
  ·
   have e3 : u 3 = .bool false := hd 3 (by kernel_rfl)
   have e13 : u 13 = .bool false := hd 13 (by kernel_rfl)
   clear hd
   simp only [zzA, zzB]
   clear hl
   refine .inr ⟨rfl, fun K' hK => ?_⟩
   have HK := Lib.hid hK
   clear hK
   simp only [layS, Act.put, zzC, zzD, zzE, Nat.zero_add, Nat.reduceAdd, e3, e13]
   have E3 := Lib.hid e3
   have E13 := Lib.hid e13
   clear e3 e13
   have c00 := hJ.c0.1
   have c01 := hJ.c0.2.1
   have c02 := hJ.c0.2.2.1
   have c03 := hJ.c0.2.2.2.1
   have c04 := hJ.c0.2.2.2.2.1
   have c05 := hJ.c0.2.2.2.2.2
   go_simp
   exact HK.out _ _ (by simp [layS, updV, lstV, Act.put, E3.out, E13.out]) hJ
  ·
   have e14 : u 14 = .bool false := hd 14 (by kernel_rfl)
   clear hd
   simp only [zzA, zzB]
   clear hl
   refine .inr ⟨rfl, fun K' hK => ?_⟩
   have HK := Lib.hid hK
   clear hK
   simp only [layS, Act.put, zzC, zzD, zzE, Nat.zero_add, Nat.reduceAdd, e14]
   have E14 := Lib.hid e14
   clear e14
   have c00 := hJ.c0.1
   have c01 := hJ.c0.2.1
   have c02 := hJ.c0.2.2.1
   have c03 := hJ.c0.2.2.2.1
   have c04 := hJ.c0.2.2.2.2.1
   have c05 := hJ.c0.2.2.2.2.2
   go_simp
   exact HK.out _ _ (by simp [layS, updV, lstV, Act.put, E14.out]) hJ
 intro W hJ
 simp only [layS, lstV, Act.put, zzC, zzD, zzE, Nat.zero_add, Nat.reduceAdd, List.getD_cons_zero, List.getD_cons_succ, List.drop_succ_cons, List.drop_zero, List.drop_nil]
 go_wp2
 go_ret
 exact ⟨rfl, hJ.below⟩
set_option maxHeartbeats 1600000 in
theorem Has_hi (x x1 : Sp) (n : Int) (hcx : ∀ W : World, Calls Tryz.prog 72 #[.agg #[.int .i64 x.lo, .int .i64 x.hi, .bool x.all]] W (PSp x1 W)) (hqx : eqS x1.lo x1.hi x1.all lineS.lo lineS.hi lineS.all = false) (hd1 : decide (x1.lo ≤ n) = true) (w : World) : Calls Tryz.prog 80 #[.agg #[.int .i64 x.lo, .int .i64 x.hi, .bool x.all], .int .i64 n] w (PVal (.bool (decide (n ≤ x1.hi))) w) := by
 have HCX := Lib.hid hcx
 clear hcx
 go_enter Tryz.func80, Tryz.ntmps80
 go_wp2_with fail
 have hX := bs1 w x.lo x.hi x.all
 generalize w.alloc (.cells #[.int .i64 x.lo, .int .i64 x.hi, .bool x.all] 23) = w1 at *
 refine (HCX.out _).mono ?_
 rintro e w2 ⟨rfl, hB⟩
 have hX2 := hX.later hB
 have c00 := hX2.c0.1
 have c01 := hX2.c0.2.1
 have c02 := hX2.c0.2.2.1
 have c03 := hX2.c0.2.2.2.1
 have c04 := hX2.c0.2.2.2.2.1
 have c05 := hX2.c0.2.2.2.2.2
 go_wp2
 have hJ1 : Bs w _ [x1] := hX2.put 0 (by simp) x1
 simp only [Nat.add_zero] at hJ1
 clear c00 c01 c02 c03 c04 c05 hX hX2 hB
 refine wp_region_vals 16 [some 7, some 8, some 9, some 10, some 11, some 12, some 13, some 14, some 15, some 16, some 17, some 18, some 19, some 20, some 21, some 4] (lstV [.agg #[.int .i64 x1.lo, .int .i64 x1.hi, .bool x1.all], .agg #[.int .i64 lineS.lo, .int .i64 lineS.hi, .bool lineS.all], .bool false, .bool false, .pointer (some ⟨w.heap.size, 0, none⟩), .int .i64 x1.lo, .int .i64 n, .bool true, .bool true, .int .i64 n, .pointer (some ⟨w.heap.size, 1, none⟩), .int .i64 x1.hi, .bool (decide (n ≤ x1.hi)), .bool (decide (n ≤ x1.hi)), .bool (decide (n ≤ x1.hi)), .bool (decide (n ≤ x1.hi))]) (fun W => Bs w W [x1]) (by kernel_rfl) (by kernel_rfl) (by decide) (hJ1.drew) ?_ ?_
 ·
  intro i hl hi u W hJ hd
  obtain rfl | rfl | rfl | rfl | rfl | rfl | rfl | rfl | rfl | rfl | rfl | rfl | rfl | rfl | rfl | rfl : i = 0 ∨ i = 1 ∨ i = 2 ∨ i = 3 ∨ i = 4 ∨ i = 5 ∨ i = 6 ∨ i = 7 ∨ i = 8 ∨ i = 9 ∨ i = 10 ∨ i = 11 ∨ i = 12 ∨ i = 13 ∨ i = 14 ∨ i = 15 := by omega
  ·
   clear hd
   simp only [zzA, zzB]
   clear hl
   refine .inr ⟨rfl, fun K' hK => ?_⟩
   have HK := Lib.hid hK
   clear hK
   simp only [layS, Act.put, zzC, zzD, zzE, Nat.zero_add, Nat.reduceAdd]
   have c00 := hJ.c0.1
   have c01 := hJ.c0.2.1
   have c02 := hJ.c0.2.2.1
   have c03 := hJ.c0.2.2.2.1
   have c04 := hJ.c0.2.2.2.2.1
   have c05 := hJ.c0.2.2.2.2.2
   go_simp
   exact HK.out _ _ (by simp [layS, updV, lstV, Act.put]) hJ
  ·
   clear hd
   simp only [zzA, zzB]
   clear hl
   refine .inr ⟨rfl, fun K' hK => ?_⟩
   have HK := Lib.hid hK
   clear hK
   simp only [layS, Act.put, zzC, zzD, zzE, Nat.zero_add, Nat.reduceAdd]
   have c00 := hJ.c0.1
   have c01 := hJ.c0.2.1
   have c02 := hJ.c0.2.2.1
   have c03 := hJ.c0.2.2.2.1
   have c04 := hJ.c0.2.2.2.2.1
   have c05 := hJ.c0.2.2.2.2.2
   go_simp
   refine (whole_any W).mono ?_
   rintro e W' ⟨rfl, hB⟩
   exact HK.out _ _ (by simp [layS, updV, lstV, Act.put]) (hJ.later hB)
  ·
   have e0 : u 0 = .agg #[.int .i64 x1.lo, .int .i64 x1.hi, .bool x1.all] := hd 0 (by kernel_rfl)
   have e1 : u 1 = .agg #[.int .i64 lineS.lo, .int .i64 lineS.hi, .bool lineS.all] := hd 1 (by kernel_rfl)
   clear hd
   simp only [zzA, zzB]
   clear hl
   refine .inr ⟨rfl, fun K' hK => ?_⟩
   have HK := Lib.hid hK
   clear hK
   simp only [layS, Act.put, zzC, zzD, zzE, Nat.zero_add, Nat.reduceAdd, e0, e1]
   have E0 := Lib.hid e0
   have E1 := Lib.hid e1
   clear e0 e1
   have c00 := hJ.c0.1
   have c01 := hJ.c0.2.1
   have c02 := hJ.c0.2.2.1
   have c03 := hJ.c0.2.2.2.1
   have c04 := hJ.c0.2.2.2.2.1
   have c05 := hJ.c0.2.2.2.2.2
   go_simp
   exact HK.out _ _ (by simp [layS, updV, lstV, Act.put, E0.out, E1.out]) hJ
  ·
   have e2 : u 2 = .bool false := hd 2 (by kernel_rfl)
   clear hd
   simp only [zzA, zzB]
   clear hl
   refine .inr ⟨rfl, fun K' hK => ?_⟩
   have HK := Lib.hid hK
   clear hK
   simp only [layS, Act.put, zzC, zzD, zzE, Nat.zero_add, Nat.reduceAdd, e2]
   have E2 := Lib.hid e2
   clear e2
   have c00 := hJ.c0.1
   have c01 := hJ.c0.2.1
   have c02 := hJ.c0.2.2.1
   have c03 := hJ.c0.2.2.2.1
   have c04 := hJ.c0.2.2.2.2.1
   have c05 := hJ.c0.2.2.2.2.2
   go_simp
   exact HK.out _ _ (by simp [layS, updV, lstV, Act.put, E2.out]) hJ
  ·
   have e3 : u 3 = .bool false := hd 3 (by kernel_rfl)
   clear hd
   simp only [zzA, zzB]
   clear hl
   refine .inr ⟨?_, fun K' hK => ?_⟩
   ·
    simp [Region.wanted, yielded, layS, Act.put, e3]
   have HK := Lib.hid hK
   clear hK
   simp only [layS, Act.put, zzC, zzD, zzE, Nat.zero_add, Nat.reduceAdd, e3]
   have E3 := Lib.hid e3
   clear e3
   have c00 := hJ.c0.1
   have c01 := hJ.c0.2.1
   have c02 := hJ.c0.2.2.1
   have c03 := hJ.c0.2.2.2.1
   have c04 := hJ.c0.2.2.2.2.1
   have c05 := hJ.c0.2.2.2.2.2
   go_simp
   exact HK.out _ _ (by simp [layS, updV, lstV, Act.put, E3.out]) hJ
  ·
   have e3 : u 3 = .bool false := hd 3 (by kernel_rfl)
   have e4 : u 4 = .pointer (some ⟨w.heap.size, 0, none⟩) := hd 4 (by kernel_rfl)
   clear hd
   simp only [zzA, zzB]
   clear hl
   refine .inr ⟨?_, fun K' hK => ?_⟩
   ·
    simp [Region.wanted, yielded, layS, Act.put, e3, e4]
   have HK := Lib.hid hK
   clear hK
   simp only [layS, Act.put, zzC, zzD, zzE, Nat.zero_add, Nat.reduceAdd, e3, e4]
   have E3 := Lib.hid e3
   have E4 := Lib.hid e4
   clear e3 e4
   have c00 := hJ.c0.1
   have c01 := hJ.c0.2.1
   have c02 := hJ.c0.2.2.1
   have c03 := hJ.c0.2.2.2.1
   have c04 := hJ.c0.2.2.2.2.1
   have c05 := hJ.c0.2.2.2.2.2
   go_simp
   exact HK.out _ _ (by simp [layS, updV, lstV, Act.put, E3.out, E4.out]) hJ
  ·
   have e3 : u 3 = .bool false := hd 3 (by kernel_rfl)
   clear hd
   simp only [zzA, zzB]
   clear hl
   refine .inr ⟨?_, fun K' hK => ?_⟩
   ·
    simp [Region.wanted, yielded, layS, Act.put, e3]
   have HK := Lib.hid hK
   clear hK
   simp only [layS, Act.put, zzC, zzD, zzE, Nat.zero_add, Nat.reduceAdd, e3]
   have E3 := Lib.hid e3
   clear e3
   have c00 := hJ.c0.1
   have c01 := hJ.c0.2.1
   have c02 := hJ.c0.2.2.1
   have c03 := hJ.c0.2.2.2.1
   have c04 := hJ.c0.2.2.2.2.1
   have c05 := hJ.c0.2.2.2.2.2
   go_simp
   exact HK.out _ _ (by simp [layS, updV, lstV, Act.put, E3.out]) hJ
  ·
   have e3 : u 3 = .bool false := hd 3 (by kernel_rfl)
   have e5 : u 5 = .int .i64 x1.lo := hd 5 (by kernel_rfl)
   have e6 : u 6 = .int .i64 n := hd 6 (by kernel_rfl)
   clear hd
   simp only [zzA, zzB]
   clear hl
   refine .inr ⟨?_, fun K' hK => ?_⟩
   ·
    simp [Region.wanted, yielded, layS, Act.put, e3, e5, e6]
   have HK := Lib.hid hK
   clear hK
   simp only [layS, Act.put, zzC, zzD, zzE, Nat.zero_add, Nat.reduceAdd, e3, e5, e6]
   have E3 := Lib.hid e3
   have E5 := Lib.hid e5
   have E6 := Lib.hid e6
   clear e3 e5 e6
   have c00 := hJ.c0.1
   have c01 := hJ.c0.2.1
   have c02 := hJ.c0.2.2.1
   have c03 := hJ.c0.2.2.2.1
   have c04 := hJ.c0.2.2.2.2.1
   have c05 := hJ.c0.2.2.2.2.2
   go_simp
   exact HK.out _ _ (by simp [layS, updV, lstV, Act.put, E3.out, E5.out, E6.out]) hJ
  ·
   have e3 : u 3 = .bool false := hd 3 (by kernel_rfl)
   have e7 : u 7 = .bool true := hd 7 (by kernel_rfl)
   clear hd
   simp only [zzA, zzB]
   clear hl
   refine .inr ⟨?_, fun K' hK => ?_⟩
   ·
    simp [Region.wanted, yielded, layS, Act.put, e3, e7]
   have HK := Lib.hid hK
   clear hK
   simp only [layS, Act.put, zzC, zzD, zzE, Nat.zero_add, Nat.reduceAdd, e3, e7]
   have E3 := Lib.hid e3
   have E7 := Lib.hid e7
   clear e3 e7
   have c00 := hJ.c0.1
   have c01 := hJ.c0.2.1
   have c02 := hJ.c0.2.2.1
   have c03 := hJ.c0.2.2.2.1
   have c04 := hJ.c0.2.2.2.2.1
   have c05 := hJ.c0.2.2.2.2.2
   go_simp
   exact HK.out _ _ (by simp [layS, updV, lstV, Act.put, E3.out, E7.out]) hJ
  ·
   have e8 : u 8 = .bool true := hd 8 (by kernel_rfl)
   clear hd
   simp only [zzA, zzB]
   clear hl
   refine .inr ⟨?_, fun K' hK => ?_⟩
   ·
    simp [Region.wanted, yielded, layS, Act.put, e8]
   have HK := Lib.hid hK
   clear hK
   simp only [layS, Act.put, zzC, zzD, zzE, Nat.zero_add, Nat.reduceAdd, e8]
   have E8 := Lib.hid e8
   clear e8
   have c00 := hJ.c0.1
   have c01 := hJ.c0.2.1
   have c02 := hJ.c0.2.2.1
   have c03 := hJ.c0.2.2.2.1
   have c04 := hJ.c0.2.2.2.2.1
   have c05 := hJ.c0.2.2.2.2.2
   go_simp
   exact HK.out _ _ (by simp [layS, updV, lstV, Act.put, E8.out]) hJ
  ·
   have e8 : u 8 = .bool true := hd 8 (by kernel_rfl)
   clear hd
   simp only [zzA, zzB]
   clear hl
   refine .inr ⟨?_, fun K' hK => ?_⟩
   ·
    simp [Region.wanted, yielded, layS, Act.put, e8]
   have HK := Lib.hid hK
   clear hK
   simp only [layS, Act.put, zzC, zzD, zzE, Nat.zero_add, Nat.reduceAdd, e8]
   have E8 := Lib.hid e8
   clear e8
   have c00 := hJ.c0.1
   have c01 := hJ.c0.2.1
   have c02 := hJ.c0.2.2.1
   have c03 := hJ.c0.2.2.2.1
   have c04 := hJ.c0.2.2.2.2.1
   have c05 := hJ.c0.2.2.2.2.2
   go_simp
   exact HK.out _ _ (by simp [layS, updV, lstV, Act.put, E8.out]) hJ
  ·
   have e8 : u 8 = .bool true := hd 8 (by kernel_rfl)
   have e10 : u 10 = .pointer (some ⟨w.heap.size, 1, none⟩) := hd 10 (by kernel_rfl)
   clear hd
   simp only [zzA, zzB]
   clear hl
   refine .inr ⟨?_, fun K' hK => ?_⟩
   ·
    simp [Region.wanted, yielded, layS, Act.put, e8, e10]
   have HK := Lib.hid hK
   clear hK
   simp only [layS, Act.put, zzC, zzD, zzE, Nat.zero_add, Nat.reduceAdd, e8, e10]
   have E8 := Lib.hid e8
   have E10 := Lib.hid e10
   clear e8 e10
   have c00 := hJ.c0.1
   have c01 := hJ.c0.2.1
   have c02 := hJ.c0.2.2.1
   have c03 := hJ.c0.2.2.2.1
   have c04 := hJ.c0.2.2.2.2.1
   have c05 := hJ.c0.2.2.2.2.2
   go_simp
   exact HK.out _ _ (by simp [layS, updV, lstV, Act.put, E8.out, E10.out]) hJ
  ·
   have e8 : u 8 = .bool true := hd 8 (by kernel_rfl)
   have e9 : u 9 = .int .i64 n := hd 9 (by kernel_rfl)
   have e11 : u 11 = .int .i64 x1.hi := hd 11 (by kernel_rfl)
   clear hd
   simp only [zzA, zzB]
   clear hl
   refine .inr ⟨?_, fun K' hK => ?_⟩
   ·
    simp [Region.wanted, yielded, layS, Act.put, e8, e9, e11]
   have HK := Lib.hid hK
   clear hK
   simp only [layS, Act.put, zzC, zzD, zzE, Nat.zero_add, Nat.reduceAdd, e8, e9, e11]
   have E8 := Lib.hid e8
   have E9 := Lib.hid e9
   have E11 := Lib.hid e11
   clear e8 e9 e11
   have c00 := hJ.c0.1
   have c01 := hJ.c0.2.1
   have c02 := hJ.c0.2.2.1
   have c03 := hJ.c0.2.2.2.1
   have c04 := hJ.c0.2.2.2.2.1
   have c05 := hJ.c0.2.2.2.2.2
   go_simp
   exact HK.out _ _ (by simp [layS, updV, lstV, Act.put, E8.out, E9.out, E11.out]) hJ
  ·
   have e3 : u 3 = .bool false := hd 3 (by kernel_rfl)
   have e8 : u 8 = .bool true := hd 8 (by kernel_rfl)
   have e12 : u 12 = .bool (decide (n ≤ x1.hi)) := hd 12 (by kernel_rfl)
   clear hd
   simp only [zzA, zzB]
   clear hl
   refine .inr ⟨?_, fun K' hK => ?_⟩
   ·
    simp [Region.wanted, yielded, layS, Act.put, e3, e8, e12]
   have HK := Lib.hid hK
   clear hK
   simp only [layS, Act.put, zzC, zzD, zzE, Nat.zero_add, Nat.reduceAdd, e3, e8, e12]
   have E3 := Lib.hid e3
   have E8 := Lib.hid e8
   have E12 := Lib.hid e12
   clear e3 e8 e12
   have c00 := hJ.c0.1
   have c01 := hJ.c0.2.1
   have c02 := hJ.c0.2.2.1
   have c03 := hJ.c0.2.2.2.1
   have c04 := hJ.c0.2.2.2.2.1
   have c05 := hJ.c0.2.2.2.2.2
   go_simp
   exact HK.out _ _ (by simp [layS, updV, lstV, Act.put, E3.out, E8.out, E12.out]) hJ
  ·
   have e3 : u 3 = .bool false := hd 3 (by kernel_rfl)
   have e13 : u 13 = .bool (decide (n ≤ x1.hi)) := hd 13 (by kernel_rfl)
   clear hd
   simp only [zzA, zzB]
   clear hl
   refine .inr ⟨rfl, fun K' hK => ?_⟩
   have HK := Lib.hid hK
   clear hK
   simp only [layS, Act.put, zzC, zzD, zzE, Nat.zero_add, Nat.reduceAdd, e3, e13]
   have E3 := Lib.hid e3
   have E13 := Lib.hid e13
   clear e3 e13
   have c00 := hJ.c0.1
   have c01 := hJ.c0.2.1
   have c02 := hJ.c0.2.2.1
   have c03 := hJ.c0.2.2.2.1
   have c04 := hJ.c0.2.2.2.2.1
   have c05 := hJ.c0.2.2.2.2.2
   go_simp
   exact HK.out _ _ (by simp [layS, updV, lstV, Act.put, E3.out, E13.out]) hJ
  ·
   have e14 : u 14 = .bool (decide (n ≤ x1.hi)) := hd 14 (by kernel_rfl)
   clear hd
   simp only [zzA, zzB]
   clear hl
   refine .inr ⟨rfl, fun K' hK => ?_⟩
   have HK := Lib.hid hK
   clear hK
   simp only [layS, Act.put, zzC, zzD, zzE, Nat.zero_add, Nat.reduceAdd, e14]
   have E14 := Lib.hid e14
   clear e14
   have c00 := hJ.c0.1
   have c01 := hJ.c0.2.1
   have c02 := hJ.c0.2.2.1
   have c03 := hJ.c0.2.2.2.1
   have c04 := hJ.c0.2.2.2.2.1
   have c05 := hJ.c0.2.2.2.2.2
   go_simp
   exact HK.out _ _ (by simp [layS, updV, lstV, Act.put, E14.out]) hJ
 intro W hJ
 simp only [layS, lstV, Act.put, zzC, zzD, zzE, Nat.zero_add, Nat.reduceAdd, List.getD_cons_zero, List.getD_cons_succ, List.drop_succ_cons, List.drop_zero, List.drop_nil]
 go_wp2
 go_ret
 exact ⟨rfl, hJ.below⟩
theorem Has_any (x : Sp) (n : Int) (w : World) : Calls Tryz.prog 80 #[.agg #[.int .i64 x.lo, .int .i64 x.hi, .bool x.all], .int .i64 n] w (PVal (.bool (hasB x n)) w) := by
 have lx := line_eq x
 unfold hasB
 cases hx : okB x
 ·
  rw [hx] at lx
  exact Has_no x _ n (counted_any x) lx w
 ·
  rw [hx] at lx
  have h1 := Has_lo x _ n (counted_any x) lx
  have h2 := Has_hi x _ n (counted_any x) lx
  rw [mkS_ok hx] at h1 h2
  cases hd : decide (x.lo ≤ n)
  ·
   exact h1 hd w
  ·
   have := h2 hd w
   simpa using this
theorem in_eq (x y : Sp) : eqS (joinS x y).lo (joinS x y).hi (joinS x y).all (mkS y).lo (mkS y).hi (mkS y).all = inB x y := by
 unfold inB
 cases hy : okB y
 ·
  rw [join_no (by rw [hy, Bool.and_false]), mkS_no hy]; rfl
 ·
  have ky := (ok_of hy).2.2.2
  cases hx : okB x
  ·
   rw [join_no (by rw [hx]; rfl), mkS_ok hy]
   unfold eqS lineS
   rw [ky]
   simp
  ·
   rw [join_ok hx hy, mkS_ok hy]
   unfold eqS
   rw [ky]
   simp only [Bool.not_true, Bool.false_or, Bool.true_and, beq_self_eq_true, Bool.and_true]
   congr 1
   ·
    rw [Bool.eq_iff_iff]; simp only [beq_iff_eq, decide_eq_true_eq]; omega
   ·
    rw [Bool.eq_iff_iff]; simp only [beq_iff_eq, decide_eq_true_eq]; omega
set_option maxHeartbeats 1600000 in
theorem In_any (x y : Sp) (w : World) : Calls Tryz.prog 51 #[.agg #[.int .i64 x.lo, .int .i64 x.hi, .bool x.all], .agg #[.int .i64 y.lo, .int .i64 y.hi, .bool y.all]] w (PVal (.bool (inB x y)) w) := by
 have he := in_eq x y
 have hcj : ∀ W : World, Calls Tryz.prog 71 #[.agg #[.int .i64 x.lo, .int .i64 x.hi, .bool x.all], .agg #[.int .i64 y.lo, .int .i64 y.hi, .bool y.all]] W (PSp (joinS x y) W) := Join_any x y
 have hcy : ∀ W : World, Calls Tryz.prog 72 #[.agg #[.int .i64 y.lo, .int .i64 y.hi, .bool y.all]] W (PSp (mkS y) W) := counted_any y
 generalize joinS x y = z at *
 generalize mkS y = y1 at *
 generalize inB x y = r at *
 have HCJ := Lib.hid hcj
 have HCY := Lib.hid hcy
 clear hcj hcy
 go_enter Tryz.func51, Tryz.ntmps51
 go_wp2
 have hX := bs2 w x.lo x.hi x.all y.lo y.hi y.all
 generalize (w.alloc (.cells #[.int .i64 x.lo, .int .i64 x.hi, .bool x.all] 23)).alloc (.cells #[.int .i64 y.lo, .int .i64 y.hi, .bool y.all] 23) = w1 at *
 refine wp_region_vals 7 [some 5, some 6, some 7, some 8, some 9, some 10, some 4] (lstV [.agg #[.int .i64 x.lo, .int .i64 x.hi, .bool x.all], .agg #[.int .i64 y.lo, .int .i64 y.hi, .bool y.all], .agg #[.int .i64 z.lo, .int .i64 z.hi, .bool z.all], .agg #[.int .i64 y.lo, .int .i64 y.hi, .bool y.all], .agg #[.int .i64 y1.lo, .int .i64 y1.hi, .bool y1.all], .bool r, .bool r]) (fun W => Bs w W [x, y]) (by kernel_rfl) (by kernel_rfl) (by decide) (hX.drew) ?_ ?_
 ·
  intro i hl hi u W hJ hd
  obtain rfl | rfl | rfl | rfl | rfl | rfl | rfl : i = 0 ∨ i = 1 ∨ i = 2 ∨ i = 3 ∨ i = 4 ∨ i = 5 ∨ i = 6 := by omega
  ·
   clear hd
   simp only [zzA, zzB]
   clear hl
   refine .inr ⟨rfl, fun K' hK => ?_⟩
   have HK := Lib.hid hK
   clear hK
   simp only [layS, Act.put, zzC, zzD, zzE, Nat.zero_add, Nat.reduceAdd]
   have c00 := hJ.c0.1
   have c01 := hJ.c0.2.1
   have c02 := hJ.c0.2.2.1
   have c03 := hJ.c0.2.2.2.1
   have c04 := hJ.c0.2.2.2.2.1
   have c05 := hJ.c0.2.2.2.2.2
   have c10 := hJ.c1.1
   have c11 := hJ.c1.2.1
   have c12 := hJ.c1.2.2.1
   have c13 := hJ.c1.2.2.2.1
   have c14 := hJ.c1.2.2.2.2.1
   have c15 := hJ.c1.2.2.2.2.2
   go_simp
   exact HK.out _ _ (by simp [layS, updV, lstV, Act.put]) hJ
  ·
   clear hd
   simp only [zzA, zzB]
   clear hl
   refine .inr ⟨rfl, fun K' hK => ?_⟩
   have HK := Lib.hid hK
   clear hK
   simp only [layS, Act.put, zzC, zzD, zzE, Nat.zero_add, Nat.reduceAdd]
   have c00 := hJ.c0.1
   have c01 := hJ.c0.2.1
   have c02 := hJ.c0.2.2.1
   have c03 := hJ.c0.2.2.2.1
   have c04 := hJ.c0.2.2.2.2.1
   have c05 := hJ.c0.2.2.2.2.2
   have c10 := hJ.c1.1
   have c11 := hJ.c1.2.1
   have c12 := hJ.c1.2.2.1
   have c13 := hJ.c1.2.2.2.1
   have c14 := hJ.c1.2.2.2.2.1
   have c15 := hJ.c1.2.2.2.2.2
   go_simp
   exact HK.out _ _ (by simp [layS, updV, lstV, Act.put]) hJ
  ·
   have e0 : u 0 = .agg #[.int .i64 x.lo, .int .i64 x.hi, .bool x.all] := hd 0 (by kernel_rfl)
   have e1 : u 1 = .agg #[.int .i64 y.lo, .int .i64 y.hi, .bool y.all] := hd 1 (by kernel_rfl)
   clear hd
   simp only [zzA, zzB]
   clear hl
   refine .inr ⟨rfl, fun K' hK => ?_⟩
   have HK := Lib.hid hK
   clear hK
   simp only [layS, Act.put, zzC, zzD, zzE, Nat.zero_add, Nat.reduceAdd, e0, e1]
   have E0 := Lib.hid e0
   have E1 := Lib.hid e1
   clear e0 e1
   have c00 := hJ.c0.1
   have c01 := hJ.c0.2.1
   have c02 := hJ.c0.2.2.1
   have c03 := hJ.c0.2.2.2.1
   have c04 := hJ.c0.2.2.2.2.1
   have c05 := hJ.c0.2.2.2.2.2
   have c10 := hJ.c1.1
   have c11 := hJ.c1.2.1
   have c12 := hJ.c1.2.2.1
   have c13 := hJ.c1.2.2.2.1
   have c14 := hJ.c1.2.2.2.2.1
   have c15 := hJ.c1.2.2.2.2.2
   go_simp
   refine (HCJ.out W).mono ?_
   rintro e W' ⟨rfl, hB⟩
   exact HK.out _ _ (by simp [layS, updV, lstV, Act.put, E0.out, E1.out]) (hJ.later hB)
  ·
   clear hd
   simp only [zzA, zzB]
   clear hl
   refine .inr ⟨rfl, fun K' hK => ?_⟩
   have HK := Lib.hid hK
   clear hK
   simp only [layS, Act.put, zzC, zzD, zzE, Nat.zero_add, Nat.reduceAdd]
   have c00 := hJ.c0.1
   have c01 := hJ.c0.2.1
   have c02 := hJ.c0.2.2.1
   have c03 := hJ.c0.2.2.2.1
   have c04 := hJ.c0.2.2.2.2.1
   have c05 := hJ.c0.2.2.2.2.2
   have c10 := hJ.c1.1
   have c11 := hJ.c1.2.1
   have c12 := hJ.c1.2.2.1
   have c13 := hJ.c1.2.2.2.1
   have c14 := hJ.c1.2.2.2.2.1
   have c15 := hJ.c1.2.2.2.2.2
   go_simp
   exact HK.out _ _ (by simp [layS, updV, lstV, Act.put]) hJ
  ·
   have e3 : u 3 = .agg #[.int .i64 y.lo, .int .i64 y.hi, .bool y.all] := hd 3 (by kernel_rfl)
   clear hd
   simp only [zzA, zzB]
   clear hl
   refine .inr ⟨rfl, fun K' hK => ?_⟩
   have HK := Lib.hid hK
   clear hK
   simp only [layS, Act.put, zzC, zzD, zzE, Nat.zero_add, Nat.reduceAdd, e3]
   have E3 := Lib.hid e3
   clear e3
   have c00 := hJ.c0.1
   have c01 := hJ.c0.2.1
   have c02 := hJ.c0.2.2.1
   have c03 := hJ.c0.2.2.2.1
   have c04 := hJ.c0.2.2.2.2.1
   have c05 := hJ.c0.2.2.2.2.2
   have c10 := hJ.c1.1
   have c11 := hJ.c1.2.1
   have c12 := hJ.c1.2.2.1
   have c13 := hJ.c1.2.2.2.1
   have c14 := hJ.c1.2.2.2.2.1
   have c15 := hJ.c1.2.2.2.2.2
   go_simp
   refine (HCY.out W).mono ?_
   rintro e W' ⟨rfl, hB⟩
   exact HK.out _ _ (by simp [layS, updV, lstV, Act.put, E3.out]) (hJ.later hB)
  ·
   have e2 : u 2 = .agg #[.int .i64 z.lo, .int .i64 z.hi, .bool z.all] := hd 2 (by kernel_rfl)
   have e4 : u 4 = .agg #[.int .i64 y1.lo, .int .i64 y1.hi, .bool y1.all] := hd 4 (by kernel_rfl)
   clear hd
   simp only [zzA, zzB]
   clear hl
   refine .inr ⟨rfl, fun K' hK => ?_⟩
   have HK := Lib.hid hK
   clear hK
   simp only [layS, Act.put, zzC, zzD, zzE, Nat.zero_add, Nat.reduceAdd, e2, e4]
   have E2 := Lib.hid e2
   have E4 := Lib.hid e4
   clear e2 e4
   have c00 := hJ.c0.1
   have c01 := hJ.c0.2.1
   have c02 := hJ.c0.2.2.1
   have c03 := hJ.c0.2.2.2.1
   have c04 := hJ.c0.2.2.2.2.1
   have c05 := hJ.c0.2.2.2.2.2
   have c10 := hJ.c1.1
   have c11 := hJ.c1.2.1
   have c12 := hJ.c1.2.2.1
   have c13 := hJ.c1.2.2.2.1
   have c14 := hJ.c1.2.2.2.2.1
   have c15 := hJ.c1.2.2.2.2.2
   go_simp
   exact HK.out _ _ (by simp [layS, updV, lstV, Act.put, E2.out, E4.out]) hJ
  ·
   have e5 : u 5 = .bool r := hd 5 (by kernel_rfl)
   clear hd
   simp only [zzA, zzB]
   clear hl
   refine .inr ⟨rfl, fun K' hK => ?_⟩
   have HK := Lib.hid hK
   clear hK
   simp only [layS, Act.put, zzC, zzD, zzE, Nat.zero_add, Nat.reduceAdd, e5]
   have E5 := Lib.hid e5
   clear e5
   have c00 := hJ.c0.1
   have c01 := hJ.c0.2.1
   have c02 := hJ.c0.2.2.1
   have c03 := hJ.c0.2.2.2.1
   have c04 := hJ.c0.2.2.2.2.1
   have c05 := hJ.c0.2.2.2.2.2
   have c10 := hJ.c1.1
   have c11 := hJ.c1.2.1
   have c12 := hJ.c1.2.2.1
   have c13 := hJ.c1.2.2.2.1
   have c14 := hJ.c1.2.2.2.2.1
   have c15 := hJ.c1.2.2.2.2.2
   go_simp
   exact HK.out _ _ (by simp [layS, updV, lstV, Act.put, E5.out]) hJ
 intro W hJ
 simp only [layS, lstV, Act.put, zzC, zzD, zzE, Nat.zero_add, Nat.reduceAdd, List.getD_cons_zero, List.getD_cons_succ, List.drop_succ_cons, List.drop_zero, List.drop_nil]
 go_wp2
 go_ret
 exact ⟨rfl, hJ.below⟩
set_option maxHeartbeats 1600000 in
theorem Neg_no (x x1 : Sp) (hcx : ∀ W : World, Calls Tryz.prog 72 #[.agg #[.int .i64 x.lo, .int .i64 x.hi, .bool x.all]] W (PSp x1 W)) (hqx : eqS x1.lo x1.hi x1.all lineS.lo lineS.hi lineS.all = true) (w : World) : Calls Tryz.prog 63 #[.agg #[.int .i64 x.lo, .int .i64 x.hi, .bool x.all]] w (PSp lineS w) := by
 have HCX := Lib.hid hcx
 clear hcx
 go_enter Tryz.func63, Tryz.ntmps63
 go_wp2_with fail
 have hX := bs2 w x.lo x.hi x.all 0 0 false
 generalize (w.alloc (.cells #[.int .i64 x.lo, .int .i64 x.hi, .bool x.all] 23)).alloc (.cells #[.int .i64 0, .int .i64 0, .bool false] 23) = w1 at *
 refine (HCX.out _).mono ?_
 rintro e w2 ⟨rfl, hB⟩
 have hX2 := hX.later hB
 have c00 := hX2.c0.1
 have c01 := hX2.c0.2.1
 have c02 := hX2.c0.2.2.1
 have c03 := hX2.c0.2.2.2.1
 have c04 := hX2.c0.2.2.2.2.1
 have c05 := hX2.c0.2.2.2.2.2
 go_wp2
 have hJ1 : Bs w _ [x1, ⟨0, 0, false⟩] := hX2.put 0 (by simp) x1
 simp only [Nat.add_zero] at hJ1
 clear c00 c01 c02 c03 c04 c05 hX hX2 hB
 refine wp_region_vals 3 [some 5, some 6, some 7] (lstV [.agg #[.int .i64 x1.lo, .int .i64 x1.hi, .bool x1.all], .agg #[.int .i64 lineS.lo, .int .i64 lineS.hi, .bool lineS.all], .bool true]) (fun W => Bs w W [x1, ⟨0, 0, false⟩]) (by kernel_rfl) (by kernel_rfl) (by decide) (hJ1.drew) ?_ ?_
 ·
  intro i hl hi u W hJ hd
  obtain rfl | rfl | rfl : i = 0 ∨ i = 1 ∨ i = 2 := by omega
  ·
   clear hd
   simp only [zzA, zzB]
   clear hl
   refine .inr ⟨rfl, fun K' hK => ?_⟩
   have HK := Lib.hid hK
   clear hK
   simp only [layS, Act.put, zzC, zzD, zzE, Nat.zero_add, Nat.reduceAdd]
   have c00 := hJ.c0.1
   have c01 := hJ.c0.2.1
   have c02 := hJ.c0.2.2.1
   have c03 := hJ.c0.2.2.2.1
   have c04 := hJ.c0.2.2.2.2.1
   have c05 := hJ.c0.2.2.2.2.2
   go_simp
   exact HK.out _ _ (by simp [layS, updV, lstV, Act.put]) hJ
  ·
   clear hd
   simp only [zzA, zzB]
   clear hl
   refine .inr ⟨rfl, fun K' hK => ?_⟩
   have HK := Lib.hid hK
   clear hK
   simp only [layS, Act.put, zzC, zzD, zzE, Nat.zero_add, Nat.reduceAdd]
   have c00 := hJ.c0.1
   have c01 := hJ.c0.2.1
   have c02 := hJ.c0.2.2.1
   have c03 := hJ.c0.2.2.2.1
   have c04 := hJ.c0.2.2.2.2.1
   have c05 := hJ.c0.2.2.2.2.2
   go_simp
   refine (whole_any W).mono ?_
   rintro e W' ⟨rfl, hB⟩
   exact HK.out _ _ (by simp [layS, updV, lstV, Act.put]) (hJ.later hB)
  ·
   have e0 : u 0 = .agg #[.int .i64 x1.lo, .int .i64 x1.hi, .bool x1.all] := hd 0 (by kernel_rfl)
   have e1 : u 1 = .agg #[.int .i64 lineS.lo, .int .i64 lineS.hi, .bool lineS.all] := hd 1 (by kernel_rfl)
   clear hd
   simp only [zzA, zzB]
   clear hl
   refine .inr ⟨rfl, fun K' hK => ?_⟩
   have HK := Lib.hid hK
   clear hK
   simp only [layS, Act.put, zzC, zzD, zzE, Nat.zero_add, Nat.reduceAdd, e0, e1]
   have E0 := Lib.hid e0
   have E1 := Lib.hid e1
   clear e0 e1
   have c00 := hJ.c0.1
   have c01 := hJ.c0.2.1
   have c02 := hJ.c0.2.2.1
   have c03 := hJ.c0.2.2.2.1
   have c04 := hJ.c0.2.2.2.2.1
   have c05 := hJ.c0.2.2.2.2.2
   go_simp
   exact HK.out _ _ (by simp [layS, updV, lstV, Act.put, E0.out, E1.out]) hJ
 intro W hJ
 simp only [layS, lstV, Act.put, zzC, zzD, zzE, Nat.zero_add, Nat.reduceAdd, List.getD_cons_zero, List.getD_cons_succ, List.drop_succ_cons, List.drop_zero, List.drop_nil]
 go_wp2_with fail
 refine (whole_any _).mono ?_
 rintro e W2 ⟨rfl, hB⟩
 have hJ2 := hJ.later hB
 have c10 := hJ2.c1.1
 have c11 := hJ2.c1.2.1
 have c12 := hJ2.c1.2.2.1
 have c13 := hJ2.c1.2.2.2.1
 have c14 := hJ2.c1.2.2.2.2.1
 have c15 := hJ2.c1.2.2.2.2.2
 go_wp2
 have hp := hJ2.put 1 (by simp) lineS
 exact bodyPost_ret (v := .agg #[.int .i64 lineS.lo, .int .i64 lineS.hi, .bool lineS.all]) (by simp [results, Tryz.results63, go_sem, c10, c11, c12]) rfl ⟨rfl, hp.below⟩
set_option maxHeartbeats 1600000 in
theorem Neg_ok (x x1 : Sp) (hcx : ∀ W : World, Calls Tryz.prog 72 #[.agg #[.int .i64 x.lo, .int .i64 x.hi, .bool x.all]] W (PSp x1 W)) (hqx : eqS x1.lo x1.hi x1.all lineS.lo lineS.hi lineS.all = false) (k1 : -2147483647 ≤ x1.lo) (k2 : x1.lo ≤ x1.hi) (k3 : x1.hi ≤ 2147483647) (w : World) : Calls Tryz.prog 63 #[.agg #[.int .i64 x.lo, .int .i64 x.hi, .bool x.all]] w (PSp (ofS (-x1.lo) (-x1.hi)) w) := by
 have HCX := Lib.hid hcx
 clear hcx
 go_enter Tryz.func63, Tryz.ntmps63
 go_wp2_with fail
 have hX := bs2 w x.lo x.hi x.all 0 0 false
 generalize (w.alloc (.cells #[.int .i64 x.lo, .int .i64 x.hi, .bool x.all] 23)).alloc (.cells #[.int .i64 0, .int .i64 0, .bool false] 23) = w1 at *
 refine (HCX.out _).mono ?_
 rintro e w2 ⟨rfl, hB⟩
 have hX2 := hX.later hB
 have c00 := hX2.c0.1
 have c01 := hX2.c0.2.1
 have c02 := hX2.c0.2.2.1
 have c03 := hX2.c0.2.2.2.1
 have c04 := hX2.c0.2.2.2.2.1
 have c05 := hX2.c0.2.2.2.2.2
 go_wp2
 have hJ1 : Bs w _ [x1, ⟨0, 0, false⟩] := hX2.put 0 (by simp) x1
 simp only [Nat.add_zero] at hJ1
 clear c00 c01 c02 c03 c04 c05 hX hX2 hB
 refine wp_region_vals 3 [some 5, some 6, some 7] (lstV [.agg #[.int .i64 x1.lo, .int .i64 x1.hi, .bool x1.all], .agg #[.int .i64 lineS.lo, .int .i64 lineS.hi, .bool lineS.all], .bool false]) (fun W => Bs w W [x1, ⟨0, 0, false⟩]) (by kernel_rfl) (by kernel_rfl) (by decide) (hJ1.drew) ?_ ?_
 ·
  intro i hl hi u W hJ hd
  obtain rfl | rfl | rfl : i = 0 ∨ i = 1 ∨ i = 2 := by omega
  ·
   clear hd
   simp only [zzA, zzB]
   clear hl
   refine .inr ⟨rfl, fun K' hK => ?_⟩
   have HK := Lib.hid hK
   clear hK
   simp only [layS, Act.put, zzC, zzD, zzE, Nat.zero_add, Nat.reduceAdd]
   have c00 := hJ.c0.1
   have c01 := hJ.c0.2.1
   have c02 := hJ.c0.2.2.1
   have c03 := hJ.c0.2.2.2.1
   have c04 := hJ.c0.2.2.2.2.1
   have c05 := hJ.c0.2.2.2.2.2
   go_simp
   exact HK.out _ _ (by simp [layS, updV, lstV, Act.put]) hJ
  ·
   clear hd
   simp only [zzA, zzB]
   clear hl
   refine .inr ⟨rfl, fun K' hK => ?_⟩
   have HK := Lib.hid hK
   clear hK
   simp only [layS, Act.put, zzC, zzD, zzE, Nat.zero_add, Nat.reduceAdd]
   have c00 := hJ.c0.1
   have c01 := hJ.c0.2.1
   have c02 := hJ.c0.2.2.1
   have c03 := hJ.c0.2.2.2.1
   have c04 := hJ.c0.2.2.2.2.1
   have c05 := hJ.c0.2.2.2.2.2
   go_simp
   refine (whole_any W).mono ?_
   rintro e W' ⟨rfl, hB⟩
   exact HK.out _ _ (by simp [layS, updV, lstV, Act.put]) (hJ.later hB)
  ·
   have e0 : u 0 = .agg #[.int .i64 x1.lo, .int .i64 x1.hi, .bool x1.all] := hd 0 (by kernel_rfl)
   have e1 : u 1 = .agg #[.int .i64 lineS.lo, .int .i64 lineS.hi, .bool lineS.all] := hd 1 (by kernel_rfl)
   clear hd
   simp only [zzA, zzB]
   clear hl
   refine .inr ⟨rfl, fun K' hK => ?_⟩
   have HK := Lib.hid hK
   clear hK
   simp only [layS, Act.put, zzC, zzD, zzE, Nat.zero_add, Nat.reduceAdd, e0, e1]
   have E0 := Lib.hid e0
   have E1 := Lib.hid e1
   clear e0 e1
   have c00 := hJ.c0.1
   have c01 := hJ.c0.2.1
   have c02 := hJ.c0.2.2.1
   have c03 := hJ.c0.2.2.2.1
   have c04 := hJ.c0.2.2.2.2.1
   have c05 := hJ.c0.2.2.2.2.2
   go_simp
   exact HK.out _ _ (by simp [layS, updV, lstV, Act.put, E0.out, E1.out]) hJ
 intro W hJ
 simp only [layS, lstV, Act.put, zzC, zzD, zzE, Nat.zero_add, Nat.reduceAdd, List.getD_cons_zero, List.getD_cons_succ, List.drop_succ_cons, List.drop_zero, List.drop_nil]
 have c00 := hJ.c0.1
 have c01 := hJ.c0.2.1
 have c02 := hJ.c0.2.2.1
 have c03 := hJ.c0.2.2.2.1
 have c04 := hJ.c0.2.2.2.2.1
 have c05 := hJ.c0.2.2.2.2.2
 go_wp2_with fail
 refine (sOf_any (-x1.lo) (-x1.hi) _).mono ?_
 rintro e W2 ⟨rfl, hB⟩
 have hJ2 := hJ.later hB
 clear c00 c01 c02 c03 c04 c05
 have c10 := hJ2.c1.1
 have c11 := hJ2.c1.2.1
 have c12 := hJ2.c1.2.2.1
 have c13 := hJ2.c1.2.2.2.1
 have c14 := hJ2.c1.2.2.2.2.1
 have c15 := hJ2.c1.2.2.2.2.2
 generalize ofS (-x1.lo) (-x1.hi) = z at *
 go_wp2
 have hp := hJ2.put 1 (by simp) z
 exact bodyPost_ret (v := .agg #[.int .i64 z.lo, .int .i64 z.hi, .bool z.all]) (by simp [results, Tryz.results63, go_sem, c10, c11, c12]) rfl ⟨rfl, hp.below⟩
theorem sNeg_any (x : Sp) (w : World) : Calls Tryz.prog 63 #[.agg #[.int .i64 x.lo, .int .i64 x.hi, .bool x.all]] w (PSp (negS x) w) := by
 have lx := line_eq x
 unfold negS
 cases hx : okB x
 ·
  rw [hx] at lx
  exact Neg_no x _ (counted_any x) lx w
 ·
  rw [hx] at lx
  obtain ⟨k1, k2, k3, k4⟩ := ok_of hx
  have h := Neg_ok x _ (counted_any x) lx
  rw [mkS_ok hx] at h
  have := h k1 k2 k3 w
  rw [ofS_ge (by omega), mkS_ok (ok_mk (by show _ ≤ -x.hi; omega) (by show -x.hi ≤ -x.lo; omega) (by show -x.lo ≤ _; omega) rfl)] at this
  exact this
set_option maxHeartbeats 1600000 in
theorem Mid_w (x x1 : Sp) (hcx : ∀ W : World, Calls Tryz.prog 72 #[.agg #[.int .i64 x.lo, .int .i64 x.hi, .bool x.all]] W (PSp x1 W)) (k1 : -2147483647 ≤ x1.lo) (k2 : x1.lo ≤ x1.hi) (k3 : x1.hi ≤ 2147483647) (w : World) : Calls Tryz.prog 73 #[.agg #[.int .i64 x.lo, .int .i64 x.hi, .bool x.all]] w (PVal (.int .i64 ((x1.lo + x1.hi) / 2)) w) := by
 have HCX := Lib.hid hcx
 clear hcx
 go_enter Tryz.func73, Tryz.ntmps73
 go_wp2_with fail
 have hX := bs1 w x.lo x.hi x.all
 generalize w.alloc (.cells #[.int .i64 x.lo, .int .i64 x.hi, .bool x.all] 23) = w1 at *
 refine (HCX.out _).mono ?_
 rintro e w2 ⟨rfl, hB⟩
 have hX2 := hX.later hB
 have c00 := hX2.c0.1
 have c01 := hX2.c0.2.1
 have c02 := hX2.c0.2.2.1
 have c03 := hX2.c0.2.2.2.1
 have c04 := hX2.c0.2.2.2.2.1
 have c05 := hX2.c0.2.2.2.2.2
 go_wp2_with fail
 have hJ1 : Bs w _ [x1] := hX2.put 0 (by simp) x1
 simp only [Nat.add_zero] at hJ1
 clear c00 c01 c02 c03 c04 c05 hX hX2 hB
 go_ret
 exact ⟨ret_int (by rfl), hJ1.below⟩
end Go.Proofs.YtolpfibihialkaaGreat
