/- Parts of the proof. -/
import Derived.Test.YtdochhhepmlapaaGe19
/- Spans: the walks of Mid, Rad, Meet. -/
namespace Go.Proofs.Ytdochhhepmlapaa
open Go.RowKit
attribute [local go_sem ↓] run_eqlS run_neqS
/-- A span and whether there is one are handed back. -/
def PSp2 (x : Sp) (b : Bool) (w : World) (e : Ending) (w' : World) : Prop := e = .returned (.tuple #[.agg #[.int .i64 x.lo, .int .i64 x.hi, .bool x.all], .bool b]) ∧ Below w.heap.size w w'
set_option maxHeartbeats 1600000 in
theorem Meet_no1 (x y x1 y1 : Sp) (hcx : ∀ W : World, Calls Try.prog 75 #[.agg #[.int .i64 x.lo, .int .i64 x.hi, .bool x.all]] W (PSp x1 W)) (hcy : ∀ W : World, Calls Try.prog 75 #[.agg #[.int .i64 y.lo, .int .i64 y.hi, .bool y.all]] W (PSp y1 W)) (hqx : eqS x1.lo x1.hi x1.all lineS.lo lineS.hi lineS.all = true) (w : World) : Calls Try.prog 41 #[.agg #[.int .i64 x.lo, .int .i64 x.hi, .bool x.all], .agg #[.int .i64 y.lo, .int .i64 y.hi, .bool y.all]] w (PSp2 y1 true w) := by
 have HCX := Lib.hid hcx
 clear hcx
 have HCY := Lib.hid hcy
 clear hcy
 go_enter Try.func41, Try.ntmps41
 go_wp2
 have hX := bs3 w x.lo x.hi x.all y.lo y.hi y.all 0 0 false
 generalize ((w.alloc (.cells #[.int .i64 x.lo, .int .i64 x.hi, .bool x.all] 23)).alloc (.cells #[.int .i64 y.lo, .int .i64 y.hi, .bool y.all] 23)).alloc (.cells #[.int .i64 0, .int .i64 0, .bool false] 23) = w1 at *
 refine wp_region_vals 4 [some 8, some 9, some 10, some 11] (lstV [.agg #[.int .i64 x.lo, .int .i64 x.hi, .bool x.all], .agg #[.int .i64 x1.lo, .int .i64 x1.hi, .bool x1.all], .agg #[.int .i64 y.lo, .int .i64 y.hi, .bool y.all], .agg #[.int .i64 y1.lo, .int .i64 y1.hi, .bool y1.all]]) (fun W => Bs w W [x, y, ⟨0, 0, false⟩]) (by kernel_rfl) (by kernel_rfl) (by decide) (hX.drew) ?_ ?_
 ·
  intro i hl hi u W hJ hd
  obtain rfl | rfl | rfl | rfl : i = 0 ∨ i = 1 ∨ i = 2 ∨ i = 3 := by omega
  ·
   clear hd
   simp only [List.getElem_cons_succ, List.getElem_cons_zero]
   clear hl
   refine .inr ⟨rfl, fun K' hK => ?_⟩
   have HK := Lib.hid hK
   clear hK
   simp only [layS, Act.put, List.setIfInBounds_toArray, List.set_cons_succ, List.set_cons_zero, Nat.zero_add, Nat.reduceAdd]
   have c00 := hJ.c0.1
   have c01 := hJ.c0.2.1
   have c02 := hJ.c0.2.2.1
   have c03 := hJ.c0.2.2.2.1
   have c04 := hJ.c0.2.2.2.2.1
   have c05 := hJ.c0.2.2.2.2.2
   have c10 := hJ.c1.1
   have c11 := hJ.c1.2.1
   have c12 := hJ.c1.2.2.1
   have c13 := hJ.c1.2.2.2.1
   have c14 := hJ.c1.2.2.2.2.1
   have c15 := hJ.c1.2.2.2.2.2
   go_simp
   exact HK.out _ _ (by simp [layS, updV, lstV, Act.put]) hJ
  ·
   have e0 : u 0 = .agg #[.int .i64 x.lo, .int .i64 x.hi, .bool x.all] := hd 0 (by kernel_rfl)
   clear hd
   simp only [List.getElem_cons_succ, List.getElem_cons_zero]
   clear hl
   refine .inr ⟨rfl, fun K' hK => ?_⟩
   have HK := Lib.hid hK
   clear hK
   simp only [layS, Act.put, List.setIfInBounds_toArray, List.set_cons_succ, List.set_cons_zero, Nat.zero_add, Nat.reduceAdd, e0]
   have E0 := Lib.hid e0
   clear e0
   have c00 := hJ.c0.1
   have c01 := hJ.c0.2.1
   have c02 := hJ.c0.2.2.1
   have c03 := hJ.c0.2.2.2.1
   have c04 := hJ.c0.2.2.2.2.1
   have c05 := hJ.c0.2.2.2.2.2
   have c10 := hJ.c1.1
   have c11 := hJ.c1.2.1
   have c12 := hJ.c1.2.2.1
   have c13 := hJ.c1.2.2.2.1
   have c14 := hJ.c1.2.2.2.2.1
   have c15 := hJ.c1.2.2.2.2.2
   go_simp
   refine (HCX.out W).mono ?_
   rintro e W' ⟨rfl, hB⟩
   exact HK.out _ _ (by simp [layS, updV, lstV, Act.put, E0.out]) (hJ.later hB)
  ·
   clear hd
   simp only [List.getElem_cons_succ, List.getElem_cons_zero]
   clear hl
   refine .inr ⟨rfl, fun K' hK => ?_⟩
   have HK := Lib.hid hK
   clear hK
   simp only [layS, Act.put, List.setIfInBounds_toArray, List.set_cons_succ, List.set_cons_zero, Nat.zero_add, Nat.reduceAdd]
   have c00 := hJ.c0.1
   have c01 := hJ.c0.2.1
   have c02 := hJ.c0.2.2.1
   have c03 := hJ.c0.2.2.2.1
   have c04 := hJ.c0.2.2.2.2.1
   have c05 := hJ.c0.2.2.2.2.2
   have c10 := hJ.c1.1
   have c11 := hJ.c1.2.1
   have c12 := hJ.c1.2.2.1
   have c13 := hJ.c1.2.2.2.1
   have c14 := hJ.c1.2.2.2.2.1
   have c15 := hJ.c1.2.2.2.2.2
   go_simp
   exact HK.out _ _ (by simp [layS, updV, lstV, Act.put]) hJ
  ·
   have e2 : u 2 = .agg #[.int .i64 y.lo, .int .i64 y.hi, .bool y.all] := hd 2 (by kernel_rfl)
   clear hd
   simp only [List.getElem_cons_succ, List.getElem_cons_zero]
   clear hl
   refine .inr ⟨rfl, fun K' hK => ?_⟩
   have HK := Lib.hid hK
   clear hK
   simp only [layS, Act.put, List.setIfInBounds_toArray, List.set_cons_succ, List.set_cons_zero, Nat.zero_add, Nat.reduceAdd, e2]
   have E2 := Lib.hid e2
   clear e2
   have c00 := hJ.c0.1
   have c01 := hJ.c0.2.1
   have c02 := hJ.c0.2.2.1
   have c03 := hJ.c0.2.2.2.1
   have c04 := hJ.c0.2.2.2.2.1
   have c05 := hJ.c0.2.2.2.2.2
   have c10 := hJ.c1.1
   have c11 := hJ.c1.2.1
   have c12 := hJ.c1.2.2.1
   have c13 := hJ.c1.2.2.2.1
   have c14 := hJ.c1.2.2.2.2.1
   have c15 := hJ.c1.2.2.2.2.2
   go_simp
   refine (HCY.out W).mono ?_
   rintro e W' ⟨rfl, hB⟩
   exact HK.out _ _ (by simp [layS, updV, lstV, Act.put, E2.out]) (hJ.later hB)
 intro W hJ
 simp only [layS, lstV, Act.put, List.setIfInBounds_toArray, List.set_cons_succ, List.set_cons_zero, Nat.zero_add, Nat.reduceAdd, List.getD_cons_zero, List.getD_cons_succ, List.drop_succ_cons, List.drop_zero, List.drop_nil]
 have c00 := hJ.c0.1
 have c01 := hJ.c0.2.1
 have c02 := hJ.c0.2.2.1
 have c03 := hJ.c0.2.2.2.1
 have c04 := hJ.c0.2.2.2.2.1
 have c05 := hJ.c0.2.2.2.2.2
 have c10 := hJ.c1.1
 have c11 := hJ.c1.2.1
 have c12 := hJ.c1.2.2.1
 have c13 := hJ.c1.2.2.2.1
 have c14 := hJ.c1.2.2.2.2.1
 have c15 := hJ.c1.2.2.2.2.2
 go_wp2
 have hJ1 : Bs w _ [x1, y1, ⟨0, 0, false⟩] := (hJ.put 0 (by simp) x1).put 1 (by simp) y1
 simp only [Nat.add_zero] at hJ1
 clear c00 c01 c02 c03 c04 c05 c10 c11 c12 c13 c14 c15 hJ hX
 refine wp_region_vals 3 [some 12, some 13, some 14] (lstV [.agg #[.int .i64 x1.lo, .int .i64 x1.hi, .bool x1.all], .agg #[.int .i64 lineS.lo, .int .i64 lineS.hi, .bool lineS.all], .bool true]) (fun W => Bs w W [x1, y1, ⟨0, 0, false⟩]) (by kernel_rfl) (by kernel_rfl) (by decide) (hJ1.drew) ?_ ?_
 ·
  intro i hl hi u W hJ hd
  obtain rfl | rfl | rfl : i = 0 ∨ i = 1 ∨ i = 2 := by omega
  ·
   clear hd
   simp only [List.getElem_cons_succ, List.getElem_cons_zero]
   clear hl
   refine .inr ⟨rfl, fun K' hK => ?_⟩
   have HK := Lib.hid hK
   clear hK
   simp only [layS, Act.put, List.setIfInBounds_toArray, List.set_cons_succ, List.set_cons_zero, Nat.zero_add, Nat.reduceAdd]
   have c00 := hJ.c0.1
   have c01 := hJ.c0.2.1
   have c02 := hJ.c0.2.2.1
   have c03 := hJ.c0.2.2.2.1
   have c04 := hJ.c0.2.2.2.2.1
   have c05 := hJ.c0.2.2.2.2.2
   go_simp
   exact HK.out _ _ (by simp [layS, updV, lstV, Act.put]) hJ
  ·
   clear hd
   simp only [List.getElem_cons_succ, List.getElem_cons_zero]
   clear hl
   refine .inr ⟨rfl, fun K' hK => ?_⟩
   have HK := Lib.hid hK
   clear hK
   simp only [layS, Act.put, List.setIfInBounds_toArray, List.set_cons_succ, List.set_cons_zero, Nat.zero_add, Nat.reduceAdd]
   have c00 := hJ.c0.1
   have c01 := hJ.c0.2.1
   have c02 := hJ.c0.2.2.1
   have c03 := hJ.c0.2.2.2.1
   have c04 := hJ.c0.2.2.2.2.1
   have c05 := hJ.c0.2.2.2.2.2
   go_simp
   refine (whole_any W).mono ?_
   rintro e W' ⟨rfl, hB⟩
   exact HK.out _ _ (by simp [layS, updV, lstV, Act.put]) (hJ.later hB)
  ·
   have e0 : u 0 = .agg #[.int .i64 x1.lo, .int .i64 x1.hi, .bool x1.all] := hd 0 (by kernel_rfl)
   have e1 : u 1 = .agg #[.int .i64 lineS.lo, .int .i64 lineS.hi, .bool lineS.all] := hd 1 (by kernel_rfl)
   clear hd
   simp only [List.getElem_cons_succ, List.getElem_cons_zero]
   clear hl
   refine .inr ⟨rfl, fun K' hK => ?_⟩
   have HK := Lib.hid hK
   clear hK
   simp only [layS, Act.put, List.setIfInBounds_toArray, List.set_cons_succ, List.set_cons_zero, Nat.zero_add, Nat.reduceAdd, e0, e1]
   have E0 := Lib.hid e0
   have E1 := Lib.hid e1
   clear e0 e1
   have c00 := hJ.c0.1
   have c01 := hJ.c0.2.1
   have c02 := hJ.c0.2.2.1
   have c03 := hJ.c0.2.2.2.1
   have c04 := hJ.c0.2.2.2.2.1
   have c05 := hJ.c0.2.2.2.2.2
   go_simp
   exact HK.out _ _ (by simp [layS, updV, lstV, Act.put, E0.out, E1.out]) hJ
 intro W hJ
 simp only [layS, lstV, Act.put, List.setIfInBounds_toArray, List.set_cons_succ, List.set_cons_zero, Nat.zero_add, Nat.reduceAdd, List.getD_cons_zero, List.getD_cons_succ, List.drop_succ_cons, List.drop_zero, List.drop_nil]
 have c00 := hJ.c0.1
 have c01 := hJ.c0.2.1
 have c02 := hJ.c0.2.2.1
 have c03 := hJ.c0.2.2.2.1
 have c04 := hJ.c0.2.2.2.2.1
 have c05 := hJ.c0.2.2.2.2.2
 have c10 := hJ.c1.1
 have c11 := hJ.c1.2.1
 have c12 := hJ.c1.2.2.1
 have c13 := hJ.c1.2.2.2.1
 have c14 := hJ.c1.2.2.2.2.1
 have c15 := hJ.c1.2.2.2.2.2
 have c20 := hJ.c2.1
 have c21 := hJ.c2.2.1
 have c22 := hJ.c2.2.2.1
 have c23 := hJ.c2.2.2.2.1
 have c24 := hJ.c2.2.2.2.2.1
 have c25 := hJ.c2.2.2.2.2.2
 go_wp2
 have hp := hJ.put 2 (by simp) y1
 exact bodyPost_ret (v := .tuple #[.agg #[.int .i64 y1.lo, .int .i64 y1.hi, .bool y1.all], .bool true]) (by simp [results, Try.results41, go_sem, c20, c21, c22]) rfl ⟨rfl, hp.below⟩
set_option maxHeartbeats 1600000 in
theorem Meet_no2 (x y x1 y1 : Sp) (hcx : ∀ W : World, Calls Try.prog 75 #[.agg #[.int .i64 x.lo, .int .i64 x.hi, .bool x.all]] W (PSp x1 W)) (hcy : ∀ W : World, Calls Try.prog 75 #[.agg #[.int .i64 y.lo, .int .i64 y.hi, .bool y.all]] W (PSp y1 W)) (hqx : eqS x1.lo x1.hi x1.all lineS.lo lineS.hi lineS.all = false) (hqy : eqS y1.lo y1.hi y1.all lineS.lo lineS.hi lineS.all = true) (w : World) : Calls Try.prog 41 #[.agg #[.int .i64 x.lo, .int .i64 x.hi, .bool x.all], .agg #[.int .i64 y.lo, .int .i64 y.hi, .bool y.all]] w (PSp2 x1 true w) := by
 have HCX := Lib.hid hcx
 clear hcx
 have HCY := Lib.hid hcy
 clear hcy
 go_enter Try.func41, Try.ntmps41
 go_wp2
 have hX := bs3 w x.lo x.hi x.all y.lo y.hi y.all 0 0 false
 generalize ((w.alloc (.cells #[.int .i64 x.lo, .int .i64 x.hi, .bool x.all] 23)).alloc (.cells #[.int .i64 y.lo, .int .i64 y.hi, .bool y.all] 23)).alloc (.cells #[.int .i64 0, .int .i64 0, .bool false] 23) = w1 at *
 refine wp_region_vals 4 [some 8, some 9, some 10, some 11] (lstV [.agg #[.int .i64 x.lo, .int .i64 x.hi, .bool x.all], .agg #[.int .i64 x1.lo, .int .i64 x1.hi, .bool x1.all], .agg #[.int .i64 y.lo, .int .i64 y.hi, .bool y.all], .agg #[.int .i64 y1.lo, .int .i64 y1.hi, .bool y1.all]]) (fun W => Bs w W [x, y, ⟨0, 0, false⟩]) (by kernel_rfl) (by kernel_rfl) (by decide) (hX.drew) ?_ ?_
 ·
  intro i hl hi u W hJ hd
  obtain rfl | rfl | rfl | rfl : i = 0 ∨ i = 1 ∨ i = 2 ∨ i = 3 := by omega
  ·
   clear hd
   simp only [List.getElem_cons_succ, List.getElem_cons_zero]
   clear hl
   refine .inr ⟨rfl, fun K' hK => ?_⟩
   have HK := Lib.hid hK
   clear hK
   simp only [layS, Act.put, List.setIfInBounds_toArray, List.set_cons_succ, List.set_cons_zero, Nat.zero_add, Nat.reduceAdd]
   have c00 := hJ.c0.1
   have c01 := hJ.c0.2.1
   have c02 := hJ.c0.2.2.1
   have c03 := hJ.c0.2.2.2.1
   have c04 := hJ.c0.2.2.2.2.1
   have c05 := hJ.c0.2.2.2.2.2
   have c10 := hJ.c1.1
   have c11 := hJ.c1.2.1
   have c12 := hJ.c1.2.2.1
   have c13 := hJ.c1.2.2.2.1
   have c14 := hJ.c1.2.2.2.2.1
   have c15 := hJ.c1.2.2.2.2.2
   go_simp
   exact HK.out _ _ (by simp [layS, updV, lstV, Act.put]) hJ
  ·
   have e0 : u 0 = .agg #[.int .i64 x.lo, .int .i64 x.hi, .bool x.all] := hd 0 (by kernel_rfl)
   clear hd
   simp only [List.getElem_cons_succ, List.getElem_cons_zero]
   clear hl
   refine .inr ⟨rfl, fun K' hK => ?_⟩
   have HK := Lib.hid hK
   clear hK
   simp only [layS, Act.put, List.setIfInBounds_toArray, List.set_cons_succ, List.set_cons_zero, Nat.zero_add, Nat.reduceAdd, e0]
   have E0 := Lib.hid e0
   clear e0
   have c00 := hJ.c0.1
   have c01 := hJ.c0.2.1
   have c02 := hJ.c0.2.2.1
   have c03 := hJ.c0.2.2.2.1
   have c04 := hJ.c0.2.2.2.2.1
   have c05 := hJ.c0.2.2.2.2.2
   have c10 := hJ.c1.1
   have c11 := hJ.c1.2.1
   have c12 := hJ.c1.2.2.1
   have c13 := hJ.c1.2.2.2.1
   have c14 := hJ.c1.2.2.2.2.1
   have c15 := hJ.c1.2.2.2.2.2
   go_simp
   refine (HCX.out W).mono ?_
   rintro e W' ⟨rfl, hB⟩
   exact HK.out _ _ (by simp [layS, updV, lstV, Act.put, E0.out]) (hJ.later hB)
  ·
   clear hd
   simp only [List.getElem_cons_succ, List.getElem_cons_zero]
   clear hl
   refine .inr ⟨rfl, fun K' hK => ?_⟩
   have HK := Lib.hid hK
   clear hK
   simp only [layS, Act.put, List.setIfInBounds_toArray, List.set_cons_succ, List.set_cons_zero, Nat.zero_add, Nat.reduceAdd]
   have c00 := hJ.c0.1
   have c01 := hJ.c0.2.1
   have c02 := hJ.c0.2.2.1
   have c03 := hJ.c0.2.2.2.1
   have c04 := hJ.c0.2.2.2.2.1
   have c05 := hJ.c0.2.2.2.2.2
   have c10 := hJ.c1.1
   have c11 := hJ.c1.2.1
   have c12 := hJ.c1.2.2.1
   have c13 := hJ.c1.2.2.2.1
   have c14 := hJ.c1.2.2.2.2.1
   have c15 := hJ.c1.2.2.2.2.2
   go_simp
   exact HK.out _ _ (by simp [layS, updV, lstV, Act.put]) hJ
  ·
   have e2 : u 2 = .agg #[.int .i64 y.lo, .int .i64 y.hi, .bool y.all] := hd 2 (by kernel_rfl)
   clear hd
   simp only [List.getElem_cons_succ, List.getElem_cons_zero]
   clear hl
   refine .inr ⟨rfl, fun K' hK => ?_⟩
   have HK := Lib.hid hK
   clear hK
   simp only [layS, Act.put, List.setIfInBounds_toArray, List.set_cons_succ, List.set_cons_zero, Nat.zero_add, Nat.reduceAdd, e2]
   have E2 := Lib.hid e2
   clear e2
   have c00 := hJ.c0.1
   have c01 := hJ.c0.2.1
   have c02 := hJ.c0.2.2.1
   have c03 := hJ.c0.2.2.2.1
   have c04 := hJ.c0.2.2.2.2.1
   have c05 := hJ.c0.2.2.2.2.2
   have c10 := hJ.c1.1
   have c11 := hJ.c1.2.1
   have c12 := hJ.c1.2.2.1
   have c13 := hJ.c1.2.2.2.1
   have c14 := hJ.c1.2.2.2.2.1
   have c15 := hJ.c1.2.2.2.2.2
   go_simp
   refine (HCY.out W).mono ?_
   rintro e W' ⟨rfl, hB⟩
   exact HK.out _ _ (by simp [layS, updV, lstV, Act.put, E2.out]) (hJ.later hB)
 intro W hJ
 simp only [layS, lstV, Act.put, List.setIfInBounds_toArray, List.set_cons_succ, List.set_cons_zero, Nat.zero_add, Nat.reduceAdd, List.getD_cons_zero, List.getD_cons_succ, List.drop_succ_cons, List.drop_zero, List.drop_nil]
 have c00 := hJ.c0.1
 have c01 := hJ.c0.2.1
 have c02 := hJ.c0.2.2.1
 have c03 := hJ.c0.2.2.2.1
 have c04 := hJ.c0.2.2.2.2.1
 have c05 := hJ.c0.2.2.2.2.2
 have c10 := hJ.c1.1
 have c11 := hJ.c1.2.1
 have c12 := hJ.c1.2.2.1
 have c13 := hJ.c1.2.2.2.1
 have c14 := hJ.c1.2.2.2.2.1
 have c15 := hJ.c1.2.2.2.2.2
 go_wp2
 have hJ1 : Bs w _ [x1, y1, ⟨0, 0, false⟩] := (hJ.put 0 (by simp) x1).put 1 (by simp) y1
 simp only [Nat.add_zero] at hJ1
 clear c00 c01 c02 c03 c04 c05 c10 c11 c12 c13 c14 c15 hJ hX
 refine wp_region_vals 3 [some 12, some 13, some 14] (lstV [.agg #[.int .i64 x1.lo, .int .i64 x1.hi, .bool x1.all], .agg #[.int .i64 lineS.lo, .int .i64 lineS.hi, .bool lineS.all], .bool false]) (fun W => Bs w W [x1, y1, ⟨0, 0, false⟩]) (by kernel_rfl) (by kernel_rfl) (by decide) (hJ1.drew) ?_ ?_
 ·
  intro i hl hi u W hJ hd
  obtain rfl | rfl | rfl : i = 0 ∨ i = 1 ∨ i = 2 := by omega
  ·
   clear hd
   simp only [List.getElem_cons_succ, List.getElem_cons_zero]
   clear hl
   refine .inr ⟨rfl, fun K' hK => ?_⟩
   have HK := Lib.hid hK
   clear hK
   simp only [layS, Act.put, List.setIfInBounds_toArray, List.set_cons_succ, List.set_cons_zero, Nat.zero_add, Nat.reduceAdd]
   have c00 := hJ.c0.1
   have c01 := hJ.c0.2.1
   have c02 := hJ.c0.2.2.1
   have c03 := hJ.c0.2.2.2.1
   have c04 := hJ.c0.2.2.2.2.1
   have c05 := hJ.c0.2.2.2.2.2
   go_simp
   exact HK.out _ _ (by simp [layS, updV, lstV, Act.put]) hJ
  ·
   clear hd
   simp only [List.getElem_cons_succ, List.getElem_cons_zero]
   clear hl
   refine .inr ⟨rfl, fun K' hK => ?_⟩
   have HK := Lib.hid hK
   clear hK
   simp only [layS, Act.put, List.setIfInBounds_toArray, List.set_cons_succ, List.set_cons_zero, Nat.zero_add, Nat.reduceAdd]
   have c00 := hJ.c0.1
   have c01 := hJ.c0.2.1
   have c02 := hJ.c0.2.2.1
   have c03 := hJ.c0.2.2.2.1
   have c04 := hJ.c0.2.2.2.2.1
   have c05 := hJ.c0.2.2.2.2.2
   go_simp
   refine (whole_any W).mono ?_
   rintro e W' ⟨rfl, hB⟩
   exact HK.out _ _ (by simp [layS, updV, lstV, Act.put]) (hJ.later hB)
  ·
   have e0 : u 0 = .agg #[.int .i64 x1.lo, .int .i64 x1.hi, .bool x1.all] := hd 0 (by kernel_rfl)
   have e1 : u 1 = .agg #[.int .i64 lineS.lo, .int .i64 lineS.hi, .bool lineS.all] := hd 1 (by kernel_rfl)
   clear hd
   simp only [List.getElem_cons_succ, List.getElem_cons_zero]
   clear hl
   refine .inr ⟨rfl, fun K' hK => ?_⟩
   have HK := Lib.hid hK
   clear hK
   simp only [layS, Act.put, List.setIfInBounds_toArray, List.set_cons_succ, List.set_cons_zero, Nat.zero_add, Nat.reduceAdd, e0, e1]
   have E0 := Lib.hid e0
   have E1 := Lib.hid e1
   clear e0 e1
   have c00 := hJ.c0.1
   have c01 := hJ.c0.2.1
   have c02 := hJ.c0.2.2.1
   have c03 := hJ.c0.2.2.2.1
   have c04 := hJ.c0.2.2.2.2.1
   have c05 := hJ.c0.2.2.2.2.2
   go_simp
   exact HK.out _ _ (by simp [layS, updV, lstV, Act.put, E0.out, E1.out]) hJ
 intro W hJ
 simp only [layS, lstV, Act.put, List.setIfInBounds_toArray, List.set_cons_succ, List.set_cons_zero, Nat.zero_add, Nat.reduceAdd, List.getD_cons_zero, List.getD_cons_succ, List.drop_succ_cons, List.drop_zero, List.drop_nil]
 go_wp2
 refine wp_region_vals 3 [some 16, some 17, some 18] (lstV [.agg #[.int .i64 y1.lo, .int .i64 y1.hi, .bool y1.all], .agg #[.int .i64 lineS.lo, .int .i64 lineS.hi, .bool lineS.all], .bool true]) (fun W => Bs w W [x1, y1, ⟨0, 0, false⟩]) (by kernel_rfl) (by kernel_rfl) (by decide) (hJ.drew) ?_ ?_
 ·
  intro i hl hi u W hJ hd
  obtain rfl | rfl | rfl : i = 0 ∨ i = 1 ∨ i = 2 := by omega
  ·
   clear hd
   simp only [List.getElem_cons_succ, List.getElem_cons_zero]
   clear hl
   refine .inr ⟨rfl, fun K' hK => ?_⟩
   have HK := Lib.hid hK
   clear hK
   simp only [layS, Act.put, List.setIfInBounds_toArray, List.set_cons_succ, List.set_cons_zero, Nat.zero_add, Nat.reduceAdd]
   have c10 := hJ.c1.1
   have c11 := hJ.c1.2.1
   have c12 := hJ.c1.2.2.1
   have c13 := hJ.c1.2.2.2.1
   have c14 := hJ.c1.2.2.2.2.1
   have c15 := hJ.c1.2.2.2.2.2
   go_simp
   exact HK.out _ _ (by simp [layS, updV, lstV, Act.put]) hJ
  ·
   clear hd
   simp only [List.getElem_cons_succ, List.getElem_cons_zero]
   clear hl
   refine .inr ⟨rfl, fun K' hK => ?_⟩
   have HK := Lib.hid hK
   clear hK
   simp only [layS, Act.put, List.setIfInBounds_toArray, List.set_cons_succ, List.set_cons_zero, Nat.zero_add, Nat.reduceAdd]
   have c10 := hJ.c1.1
   have c11 := hJ.c1.2.1
   have c12 := hJ.c1.2.2.1
   have c13 := hJ.c1.2.2.2.1
   have c14 := hJ.c1.2.2.2.2.1
   have c15 := hJ.c1.2.2.2.2.2
   go_simp
   refine (whole_any W).mono ?_
   rintro e W' ⟨rfl, hB⟩
   exact HK.out _ _ (by simp [layS, updV, lstV, Act.put]) (hJ.later hB)
  ·
   have e0 : u 0 = .agg #[.int .i64 y1.lo, .int .i64 y1.hi, .bool y1.all] := hd 0 (by kernel_rfl)
   have e1 : u 1 = .agg #[.int .i64 lineS.lo, .int .i64 lineS.hi, .bool lineS.all] := hd 1 (by kernel_rfl)
   clear hd
   simp only [List.getElem_cons_succ, List.getElem_cons_zero]
   clear hl
   refine .inr ⟨rfl, fun K' hK => ?_⟩
   have HK := Lib.hid hK
   clear hK
   simp only [layS, Act.put, List.setIfInBounds_toArray, List.set_cons_succ, List.set_cons_zero, Nat.zero_add, Nat.reduceAdd, e0, e1]
   have E0 := Lib.hid e0
   have E1 := Lib.hid e1
   clear e0 e1
   have c10 := hJ.c1.1
   have c11 := hJ.c1.2.1
   have c12 := hJ.c1.2.2.1
   have c13 := hJ.c1.2.2.2.1
   have c14 := hJ.c1.2.2.2.2.1
   have c15 := hJ.c1.2.2.2.2.2
   go_simp
   exact HK.out _ _ (by simp [layS, updV, lstV, Act.put, E0.out, E1.out]) hJ
 intro W hJ
 simp only [layS, lstV, Act.put, List.setIfInBounds_toArray, List.set_cons_succ, List.set_cons_zero, Nat.zero_add, Nat.reduceAdd, List.getD_cons_zero, List.getD_cons_succ, List.drop_succ_cons, List.drop_zero, List.drop_nil]
 have c00 := hJ.c0.1
 have c01 := hJ.c0.2.1
 have c02 := hJ.c0.2.2.1
 have c03 := hJ.c0.2.2.2.1
 have c04 := hJ.c0.2.2.2.2.1
 have c05 := hJ.c0.2.2.2.2.2
 have c10 := hJ.c1.1
 have c11 := hJ.c1.2.1
 have c12 := hJ.c1.2.2.1
 have c13 := hJ.c1.2.2.2.1
 have c14 := hJ.c1.2.2.2.2.1
 have c15 := hJ.c1.2.2.2.2.2
 have c20 := hJ.c2.1
 have c21 := hJ.c2.2.1
 have c22 := hJ.c2.2.2.1
 have c23 := hJ.c2.2.2.2.1
 have c24 := hJ.c2.2.2.2.2.1
 have c25 := hJ.c2.2.2.2.2.2
 go_wp2
 have hp := hJ.put 2 (by simp) x1
 exact bodyPost_ret (v := .tuple #[.agg #[.int .i64 x1.lo, .int .i64 x1.hi, .bool x1.all], .bool true]) (by simp [results, Try.results41, go_sem, c20, c21, c22]) rfl ⟨rfl, hp.below⟩
set_option maxHeartbeats 1600000 in
theorem Meet_ok (x y x1 y1 : Sp) (hcx : ∀ W : World, Calls Try.prog 75 #[.agg #[.int .i64 x.lo, .int .i64 x.hi, .bool x.all]] W (PSp x1 W)) (hcy : ∀ W : World, Calls Try.prog 75 #[.agg #[.int .i64 y.lo, .int .i64 y.hi, .bool y.all]] W (PSp y1 W)) (hqx : eqS x1.lo x1.hi x1.all lineS.lo lineS.hi lineS.all = false) (hqy : eqS y1.lo y1.hi y1.all lineS.lo lineS.hi lineS.all = false) (hl : max x1.lo y1.lo ≤ min x1.hi y1.hi) (w : World) : Calls Try.prog 41 #[.agg #[.int .i64 x.lo, .int .i64 x.hi, .bool x.all], .agg #[.int .i64 y.lo, .int .i64 y.hi, .bool y.all]] w (PSp2 ⟨max x1.lo y1.lo, min x1.hi y1.hi, false⟩ true w) := by
 have HCX := Lib.hid hcx
 clear hcx
 have HCY := Lib.hid hcy
 clear hcy
 go_enter Try.func41, Try.ntmps41
 go_wp2
 have hX := bs3 w x.lo x.hi x.all y.lo y.hi y.all 0 0 false
 generalize ((w.alloc (.cells #[.int .i64 x.lo, .int .i64 x.hi, .bool x.all] 23)).alloc (.cells #[.int .i64 y.lo, .int .i64 y.hi, .bool y.all] 23)).alloc (.cells #[.int .i64 0, .int .i64 0, .bool false] 23) = w1 at *
 refine wp_region_vals 4 [some 8, some 9, some 10, some 11] (lstV [.agg #[.int .i64 x.lo, .int .i64 x.hi, .bool x.all], .agg #[.int .i64 x1.lo, .int .i64 x1.hi, .bool x1.all], .agg #[.int .i64 y.lo, .int .i64 y.hi, .bool y.all], .agg #[.int .i64 y1.lo, .int .i64 y1.hi, .bool y1.all]]) (fun W => Bs w W [x, y, ⟨0, 0, false⟩]) (by kernel_rfl) (by kernel_rfl) (by decide) (hX.drew) ?_ ?_
 ·
  intro i hl hi u W hJ hd
  obtain rfl | rfl | rfl | rfl : i = 0 ∨ i = 1 ∨ i = 2 ∨ i = 3 := by omega
  ·
   clear hd
   simp only [List.getElem_cons_succ, List.getElem_cons_zero]
   clear hl
   refine .inr ⟨rfl, fun K' hK => ?_⟩
   have HK := Lib.hid hK
   clear hK
   simp only [layS, Act.put, List.setIfInBounds_toArray, List.set_cons_succ, List.set_cons_zero, Nat.zero_add, Nat.reduceAdd]
   have c00 := hJ.c0.1
   have c01 := hJ.c0.2.1
   have c02 := hJ.c0.2.2.1
   have c03 := hJ.c0.2.2.2.1
   have c04 := hJ.c0.2.2.2.2.1
   have c05 := hJ.c0.2.2.2.2.2
   have c10 := hJ.c1.1
   have c11 := hJ.c1.2.1
   have c12 := hJ.c1.2.2.1
   have c13 := hJ.c1.2.2.2.1
   have c14 := hJ.c1.2.2.2.2.1
   have c15 := hJ.c1.2.2.2.2.2
   go_simp
   exact HK.out _ _ (by simp [layS, updV, lstV, Act.put]) hJ
  ·
   have e0 : u 0 = .agg #[.int .i64 x.lo, .int .i64 x.hi, .bool x.all] := hd 0 (by kernel_rfl)
   clear hd
   simp only [List.getElem_cons_succ, List.getElem_cons_zero]
   clear hl
   refine .inr ⟨rfl, fun K' hK => ?_⟩
   have HK := Lib.hid hK
   clear hK
   simp only [layS, Act.put, List.setIfInBounds_toArray, List.set_cons_succ, List.set_cons_zero, Nat.zero_add, Nat.reduceAdd, e0]
   have E0 := Lib.hid e0
   clear e0
   have c00 := hJ.c0.1
   have c01 := hJ.c0.2.1
   have c02 := hJ.c0.2.2.1
   have c03 := hJ.c0.2.2.2.1
   have c04 := hJ.c0.2.2.2.2.1
   have c05 := hJ.c0.2.2.2.2.2
   have c10 := hJ.c1.1
   have c11 := hJ.c1.2.1
   have c12 := hJ.c1.2.2.1
   have c13 := hJ.c1.2.2.2.1
   have c14 := hJ.c1.2.2.2.2.1
   have c15 := hJ.c1.2.2.2.2.2
   go_simp
   refine (HCX.out W).mono ?_
   rintro e W' ⟨rfl, hB⟩
   exact HK.out _ _ (by simp [layS, updV, lstV, Act.put, E0.out]) (hJ.later hB)
  ·
   clear hd
   simp only [List.getElem_cons_succ, List.getElem_cons_zero]
   clear hl
   refine .inr ⟨rfl, fun K' hK => ?_⟩
   have HK := Lib.hid hK
   clear hK
   simp only [layS, Act.put, List.setIfInBounds_toArray, List.set_cons_succ, List.set_cons_zero, Nat.zero_add, Nat.reduceAdd]
   have c00 := hJ.c0.1
   have c01 := hJ.c0.2.1
   have c02 := hJ.c0.2.2.1
   have c03 := hJ.c0.2.2.2.1
   have c04 := hJ.c0.2.2.2.2.1
   have c05 := hJ.c0.2.2.2.2.2
   have c10 := hJ.c1.1
   have c11 := hJ.c1.2.1
   have c12 := hJ.c1.2.2.1
   have c13 := hJ.c1.2.2.2.1
   have c14 := hJ.c1.2.2.2.2.1
   have c15 := hJ.c1.2.2.2.2.2
   go_simp
   exact HK.out _ _ (by simp [layS, updV, lstV, Act.put]) hJ
  ·
   have e2 : u 2 = .agg #[.int .i64 y.lo, .int .i64 y.hi, .bool y.all] := hd 2 (by kernel_rfl)
   clear hd
   simp only [List.getElem_cons_succ, List.getElem_cons_zero]
   clear hl
   refine .inr ⟨rfl, fun K' hK => ?_⟩
   have HK := Lib.hid hK
   clear hK
   simp only [layS, Act.put, List.setIfInBounds_toArray, List.set_cons_succ, List.set_cons_zero, Nat.zero_add, Nat.reduceAdd, e2]
   have E2 := Lib.hid e2
   clear e2
   have c00 := hJ.c0.1
   have c01 := hJ.c0.2.1
   have c02 := hJ.c0.2.2.1
   have c03 := hJ.c0.2.2.2.1
   have c04 := hJ.c0.2.2.2.2.1
   have c05 := hJ.c0.2.2.2.2.2
   have c10 := hJ.c1.1
   have c11 := hJ.c1.2.1
   have c12 := hJ.c1.2.2.1
   have c13 := hJ.c1.2.2.2.1
   have c14 := hJ.c1.2.2.2.2.1
   have c15 := hJ.c1.2.2.2.2.2
   go_simp
   refine (HCY.out W).mono ?_
   rintro e W' ⟨rfl, hB⟩
   exact HK.out _ _ (by simp [layS, updV, lstV, Act.put, E2.out]) (hJ.later hB)
 intro W hJ
 simp only [layS, lstV, Act.put, List.setIfInBounds_toArray, List.set_cons_succ, List.set_cons_zero, Nat.zero_add, Nat.reduceAdd, List.getD_cons_zero, List.getD_cons_succ, List.drop_succ_cons, List.drop_zero, List.drop_nil]
 have c00 := hJ.c0.1
 have c01 := hJ.c0.2.1
 have c02 := hJ.c0.2.2.1
 have c03 := hJ.c0.2.2.2.1
 have c04 := hJ.c0.2.2.2.2.1
 have c05 := hJ.c0.2.2.2.2.2
 have c10 := hJ.c1.1
 have c11 := hJ.c1.2.1
 have c12 := hJ.c1.2.2.1
 have c13 := hJ.c1.2.2.2.1
 have c14 := hJ.c1.2.2.2.2.1
 have c15 := hJ.c1.2.2.2.2.2
 go_wp2
 have hJ1 : Bs w _ [x1, y1, ⟨0, 0, false⟩] := (hJ.put 0 (by simp) x1).put 1 (by simp) y1
 simp only [Nat.add_zero] at hJ1
 clear c00 c01 c02 c03 c04 c05 c10 c11 c12 c13 c14 c15 hJ hX
 refine wp_region_vals 3 [some 12, some 13, some 14] (lstV [.agg #[.int .i64 x1.lo, .int .i64 x1.hi, .bool x1.all], .agg #[.int .i64 lineS.lo, .int .i64 lineS.hi, .bool lineS.all], .bool false]) (fun W => Bs w W [x1, y1, ⟨0, 0, false⟩]) (by kernel_rfl) (by kernel_rfl) (by decide) (hJ1.drew) ?_ ?_
 ·
  intro i hl hi u W hJ hd
  obtain rfl | rfl | rfl : i = 0 ∨ i = 1 ∨ i = 2 := by omega
  ·
   clear hd
   simp only [List.getElem_cons_succ, List.getElem_cons_zero]
   clear hl
   refine .inr ⟨rfl, fun K' hK => ?_⟩
   have HK := Lib.hid hK
   clear hK
   simp only [layS, Act.put, List.setIfInBounds_toArray, List.set_cons_succ, List.set_cons_zero, Nat.zero_add, Nat.reduceAdd]
   have c00 := hJ.c0.1
   have c01 := hJ.c0.2.1
   have c02 := hJ.c0.2.2.1
   have c03 := hJ.c0.2.2.2.1
   have c04 := hJ.c0.2.2.2.2.1
   have c05 := hJ.c0.2.2.2.2.2
   go_simp
   exact HK.out _ _ (by simp [layS, updV, lstV, Act.put]) hJ
  ·
   clear hd
   simp only [List.getElem_cons_succ, List.getElem_cons_zero]
   clear hl
   refine .inr ⟨rfl, fun K' hK => ?_⟩
   have HK := Lib.hid hK
   clear hK
   simp only [layS, Act.put, List.setIfInBounds_toArray, List.set_cons_succ, List.set_cons_zero, Nat.zero_add, Nat.reduceAdd]
   have c00 := hJ.c0.1
   have c01 := hJ.c0.2.1
   have c02 := hJ.c0.2.2.1
   have c03 := hJ.c0.2.2.2.1
   have c04 := hJ.c0.2.2.2.2.1
   have c05 := hJ.c0.2.2.2.2.2
   go_simp
   refine (whole_any W).mono ?_
   rintro e W' ⟨rfl, hB⟩
   exact HK.out _ _ (by simp [layS, updV, lstV, Act.put]) (hJ.later hB)
  ·
   have e0 : u 0 = .agg #[.int .i64 x1.lo, .int .i64 x1.hi, .bool x1.all] := hd 0 (by kernel_rfl)
   have e1 : u 1 = .agg #[.int .i64 lineS.lo, .int .i64 lineS.hi, .bool lineS.all] := hd 1 (by kernel_rfl)
   clear hd
   simp only [List.getElem_cons_succ, List.getElem_cons_zero]
   clear hl
   refine .inr ⟨rfl, fun K' hK => ?_⟩
   have HK := Lib.hid hK
   clear hK
   simp only [layS, Act.put, List.setIfInBounds_toArray, List.set_cons_succ, List.set_cons_zero, Nat.zero_add, Nat.reduceAdd, e0, e1]
   have E0 := Lib.hid e0
   have E1 := Lib.hid e1
   clear e0 e1
   have c00 := hJ.c0.1
   have c01 := hJ.c0.2.1
   have c02 := hJ.c0.2.2.1
   have c03 := hJ.c0.2.2.2.1
   have c04 := hJ.c0.2.2.2.2.1
   have c05 := hJ.c0.2.2.2.2.2
   go_simp
   exact HK.out _ _ (by simp [layS, updV, lstV, Act.put, E0.out, E1.out]) hJ
 intro W hJ
 simp only [layS, lstV, Act.put, List.setIfInBounds_toArray, List.set_cons_succ, List.set_cons_zero, Nat.zero_add, Nat.reduceAdd, List.getD_cons_zero, List.getD_cons_succ, List.drop_succ_cons, List.drop_zero, List.drop_nil]
 go_wp2
 refine wp_region_vals 3 [some 16, some 17, some 18] (lstV [.agg #[.int .i64 y1.lo, .int .i64 y1.hi, .bool y1.all], .agg #[.int .i64 lineS.lo, .int .i64 lineS.hi, .bool lineS.all], .bool false]) (fun W => Bs w W [x1, y1, ⟨0, 0, false⟩]) (by kernel_rfl) (by kernel_rfl) (by decide) (hJ.drew) ?_ ?_
 ·
  intro i hl hi u W hJ hd
  obtain rfl | rfl | rfl : i = 0 ∨ i = 1 ∨ i = 2 := by omega
  ·
   clear hd
   simp only [List.getElem_cons_succ, List.getElem_cons_zero]
   clear hl
   refine .inr ⟨rfl, fun K' hK => ?_⟩
   have HK := Lib.hid hK
   clear hK
   simp only [layS, Act.put, List.setIfInBounds_toArray, List.set_cons_succ, List.set_cons_zero, Nat.zero_add, Nat.reduceAdd]
   have c10 := hJ.c1.1
   have c11 := hJ.c1.2.1
   have c12 := hJ.c1.2.2.1
   have c13 := hJ.c1.2.2.2.1
   have c14 := hJ.c1.2.2.2.2.1
   have c15 := hJ.c1.2.2.2.2.2
   go_simp
   exact HK.out _ _ (by simp [layS, updV, lstV, Act.put]) hJ
  ·
   clear hd
   simp only [List.getElem_cons_succ, List.getElem_cons_zero]
   clear hl
   refine .inr ⟨rfl, fun K' hK => ?_⟩
   have HK := Lib.hid hK
   clear hK
   simp only [layS, Act.put, List.setIfInBounds_toArray, List.set_cons_succ, List.set_cons_zero, Nat.zero_add, Nat.reduceAdd]
   have c10 := hJ.c1.1
   have c11 := hJ.c1.2.1
   have c12 := hJ.c1.2.2.1
   have c13 := hJ.c1.2.2.2.1
   have c14 := hJ.c1.2.2.2.2.1
   have c15 := hJ.c1.2.2.2.2.2
   go_simp
   refine (whole_any W).mono ?_
   rintro e W' ⟨rfl, hB⟩
   exact HK.out _ _ (by simp [layS, updV, lstV, Act.put]) (hJ.later hB)
  ·
   have e0 : u 0 = .agg #[.int .i64 y1.lo, .int .i64 y1.hi, .bool y1.all] := hd 0 (by kernel_rfl)
   have e1 : u 1 = .agg #[.int .i64 lineS.lo, .int .i64 lineS.hi, .bool lineS.all] := hd 1 (by kernel_rfl)
   clear hd
   simp only [List.getElem_cons_succ, List.getElem_cons_zero]
   clear hl
   refine .inr ⟨rfl, fun K' hK => ?_⟩
   have HK := Lib.hid hK
   clear hK
   simp only [layS, Act.put, List.setIfInBounds_toArray, List.set_cons_succ, List.set_cons_zero, Nat.zero_add, Nat.reduceAdd, e0, e1]
   have E0 := Lib.hid e0
   have E1 := Lib.hid e1
   clear e0 e1
   have c10 := hJ.c1.1
   have c11 := hJ.c1.2.1
   have c12 := hJ.c1.2.2.1
   have c13 := hJ.c1.2.2.2.1
   have c14 := hJ.c1.2.2.2.2.1
   have c15 := hJ.c1.2.2.2.2.2
   go_simp
   exact HK.out _ _ (by simp [layS, updV, lstV, Act.put, E0.out, E1.out]) hJ
 intro W hJ
 simp only [layS, lstV, Act.put, List.setIfInBounds_toArray, List.set_cons_succ, List.set_cons_zero, Nat.zero_add, Nat.reduceAdd, List.getD_cons_zero, List.getD_cons_succ, List.drop_succ_cons, List.drop_zero, List.drop_nil]
 go_wp2
 refine wp_region_vals 12 [some 20, some 21, some 22, some 23, some 24, some 25, some 26, some 27, some 28, some 29, some 6, some 7] (lstV [.pointer (some ⟨w.heap.size, 0, none⟩), .int .i64 x1.lo, .pointer (some ⟨w.heap.size + 1, 0, none⟩), .int .i64 y1.lo, .int .i64 (max x1.lo y1.lo), .pointer (some ⟨w.heap.size, 1, none⟩), .int .i64 x1.hi, .pointer (some ⟨w.heap.size + 1, 1, none⟩), .int .i64 y1.hi, .int .i64 (min x1.hi y1.hi), .int .i64 (max x1.lo y1.lo), .int .i64 (min x1.hi y1.hi)]) (fun W => Bs w W [x1, y1, ⟨0, 0, false⟩]) (by kernel_rfl) (by kernel_rfl) (by decide) (hJ.drew) ?_ ?_
 ·
  intro i hl hi u W hJ hd
  obtain rfl | rfl | rfl | rfl | rfl | rfl | rfl | rfl | rfl | rfl | rfl | rfl : i = 0 ∨ i = 1 ∨ i = 2 ∨ i = 3 ∨ i = 4 ∨ i = 5 ∨ i = 6 ∨ i = 7 ∨ i = 8 ∨ i = 9 ∨ i = 10 ∨ i = 11 := by omega
  ·
   clear hd
   simp only [List.getElem_cons_succ, List.getElem_cons_zero]
   clear hl
   refine .inr ⟨rfl, fun K' hK => ?_⟩
   have HK := Lib.hid hK
   clear hK
   simp only [layS, Act.put, List.setIfInBounds_toArray, List.set_cons_succ, List.set_cons_zero, Nat.zero_add, Nat.reduceAdd]
   have c00 := hJ.c0.1
   have c01 := hJ.c0.2.1
   have c02 := hJ.c0.2.2.1
   have c03 := hJ.c0.2.2.2.1
   have c04 := hJ.c0.2.2.2.2.1
   have c05 := hJ.c0.2.2.2.2.2
   have c10 := hJ.c1.1
   have c11 := hJ.c1.2.1
   have c12 := hJ.c1.2.2.1
   have c13 := hJ.c1.2.2.2.1
   have c14 := hJ.c1.2.2.2.2.1
   have c15 := hJ.c1.2.2.2.2.2
   go_simp
   exact HK.out _ _ (by simp [layS, updV, lstV, Act.put]) hJ
  ·
   have e0 : u 0 = .pointer (some ⟨w.heap.size, 0, none⟩) := hd 0 (by kernel_rfl)
   clear hd
   simp only [List.getElem_cons_succ, List.getElem_cons_zero]
   clear hl
   refine .inr ⟨rfl, fun K' hK => ?_⟩
   have HK := Lib.hid hK
   clear hK
   simp only [layS, Act.put, List.setIfInBounds_toArray, List.set_cons_succ, List.set_cons_zero, Nat.zero_add, Nat.reduceAdd, e0]
   have E0 := Lib.hid e0
   clear e0
   have c00 := hJ.c0.1
   have c01 := hJ.c0.2.1
   have c02 := hJ.c0.2.2.1
   have c03 := hJ.c0.2.2.2.1
   have c04 := hJ.c0.2.2.2.2.1
   have c05 := hJ.c0.2.2.2.2.2
   have c10 := hJ.c1.1
   have c11 := hJ.c1.2.1
   have c12 := hJ.c1.2.2.1
   have c13 := hJ.c1.2.2.2.1
   have c14 := hJ.c1.2.2.2.2.1
   have c15 := hJ.c1.2.2.2.2.2
   go_simp
   exact HK.out _ _ (by simp [layS, updV, lstV, Act.put, E0.out]) hJ
  ·
   clear hd
   simp only [List.getElem_cons_succ, List.getElem_cons_zero]
   clear hl
   refine .inr ⟨rfl, fun K' hK => ?_⟩
   have HK := Lib.hid hK
   clear hK
   simp only [layS, Act.put, List.setIfInBounds_toArray, List.set_cons_succ, List.set_cons_zero, Nat.zero_add, Nat.reduceAdd]
   have c00 := hJ.c0.1
   have c01 := hJ.c0.2.1
   have c02 := hJ.c0.2.2.1
   have c03 := hJ.c0.2.2.2.1
   have c04 := hJ.c0.2.2.2.2.1
   have c05 := hJ.c0.2.2.2.2.2
   have c10 := hJ.c1.1
   have c11 := hJ.c1.2.1
   have c12 := hJ.c1.2.2.1
   have c13 := hJ.c1.2.2.2.1
   have c14 := hJ.c1.2.2.2.2.1
   have c15 := hJ.c1.2.2.2.2.2
   go_simp
   exact HK.out _ _ (by simp [layS, updV, lstV, Act.put]) hJ
  ·
   have e2 : u 2 = .pointer (some ⟨w.heap.size + 1, 0, none⟩) := hd 2 (by kernel_rfl)
   clear hd
   simp only [List.getElem_cons_succ, List.getElem_cons_zero]
   clear hl
   refine .inr ⟨rfl, fun K' hK => ?_⟩
   have HK := Lib.hid hK
   clear hK
   simp only [layS, Act.put, List.setIfInBounds_toArray, List.set_cons_succ, List.set_cons_zero, Nat.zero_add, Nat.reduceAdd, e2]
   have E2 := Lib.hid e2
   clear e2
   have c00 := hJ.c0.1
   have c01 := hJ.c0.2.1
   have c02 := hJ.c0.2.2.1
   have c03 := hJ.c0.2.2.2.1
   have c04 := hJ.c0.2.2.2.2.1
   have c05 := hJ.c0.2.2.2.2.2
   have c10 := hJ.c1.1
   have c11 := hJ.c1.2.1
   have c12 := hJ.c1.2.2.1
   have c13 := hJ.c1.2.2.2.1
   have c14 := hJ.c1.2.2.2.2.1
   have c15 := hJ.c1.2.2.2.2.2
   go_simp
   exact HK.out _ _ (by simp [layS, updV, lstV, Act.put, E2.out]) hJ
  ·
   have e1 : u 1 = .int .i64 x1.lo := hd 1 (by kernel_rfl)
   have e3 : u 3 = .int .i64 y1.lo := hd 3 (by kernel_rfl)
   clear hd
   simp only [List.getElem_cons_succ, List.getElem_cons_zero]
   clear hl
   refine .inr ⟨rfl, fun K' hK => ?_⟩
   have HK := Lib.hid hK
   clear hK
   simp only [layS, Act.put, List.setIfInBounds_toArray, List.set_cons_succ, List.set_cons_zero, Nat.zero_add, Nat.reduceAdd, e1, e3]
   have E1 := Lib.hid e1
   have E3 := Lib.hid e3
   clear e1 e3
   have c00 := hJ.c0.1
   have c01 := hJ.c0.2.1
   have c02 := hJ.c0.2.2.1
   have c03 := hJ.c0.2.2.2.1
   have c04 := hJ.c0.2.2.2.2.1
   have c05 := hJ.c0.2.2.2.2.2
   have c10 := hJ.c1.1
   have c11 := hJ.c1.2.1
   have c12 := hJ.c1.2.2.1
   have c13 := hJ.c1.2.2.2.1
   have c14 := hJ.c1.2.2.2.2.1
   have c15 := hJ.c1.2.2.2.2.2
   go_simp
   exact HK.out _ _ (by simp [layS, updV, lstV, Act.put, E1.out, E3.out]) hJ
  ·
   clear hd
   simp only [List.getElem_cons_succ, List.getElem_cons_zero]
   clear hl
   refine .inr ⟨rfl, fun K' hK => ?_⟩
   have HK := Lib.hid hK
   clear hK
   simp only [layS, Act.put, List.setIfInBounds_toArray, List.set_cons_succ, List.set_cons_zero, Nat.zero_add, Nat.reduceAdd]
   have c00 := hJ.c0.1
   have c01 := hJ.c0.2.1
   have c02 := hJ.c0.2.2.1
   have c03 := hJ.c0.2.2.2.1
   have c04 := hJ.c0.2.2.2.2.1
   have c05 := hJ.c0.2.2.2.2.2
   have c10 := hJ.c1.1
   have c11 := hJ.c1.2.1
   have c12 := hJ.c1.2.2.1
   have c13 := hJ.c1.2.2.2.1
   have c14 := hJ.c1.2.2.2.2.1
   have c15 := hJ.c1.2.2.2.2.2
   go_simp
   exact HK.out _ _ (by simp [layS, updV, lstV, Act.put]) hJ
  ·
   have e5 : u 5 = .pointer (some ⟨w.heap.size, 1, none⟩) := hd 5 (by kernel_rfl)
   clear hd
   simp only [List.getElem_cons_succ, List.getElem_cons_zero]
   clear hl
   refine .inr ⟨rfl, fun K' hK => ?_⟩
   have HK := Lib.hid hK
   clear hK
   simp only [layS, Act.put, List.setIfInBounds_toArray, List.set_cons_succ, List.set_cons_zero, Nat.zero_add, Nat.reduceAdd, e5]
   have E5 := Lib.hid e5
   clear e5
   have c00 := hJ.c0.1
   have c01 := hJ.c0.2.1
   have c02 := hJ.c0.2.2.1
   have c03 := hJ.c0.2.2.2.1
   have c04 := hJ.c0.2.2.2.2.1
   have c05 := hJ.c0.2.2.2.2.2
   have c10 := hJ.c1.1
   have c11 := hJ.c1.2.1
   have c12 := hJ.c1.2.2.1
   have c13 := hJ.c1.2.2.2.1
   have c14 := hJ.c1.2.2.2.2.1
   have c15 := hJ.c1.2.2.2.2.2
   go_simp
   exact HK.out _ _ (by simp [layS, updV, lstV, Act.put, E5.out]) hJ
  ·
   clear hd
   simp only [List.getElem_cons_succ, List.getElem_cons_zero]
   clear hl
   refine .inr ⟨rfl, fun K' hK => ?_⟩
   have HK := Lib.hid hK
   clear hK
   simp only [layS, Act.put, List.setIfInBounds_toArray, List.set_cons_succ, List.set_cons_zero, Nat.zero_add, Nat.reduceAdd]
   have c00 := hJ.c0.1
   have c01 := hJ.c0.2.1
   have c02 := hJ.c0.2.2.1
   have c03 := hJ.c0.2.2.2.1
   have c04 := hJ.c0.2.2.2.2.1
   have c05 := hJ.c0.2.2.2.2.2
   have c10 := hJ.c1.1
   have c11 := hJ.c1.2.1
   have c12 := hJ.c1.2.2.1
   have c13 := hJ.c1.2.2.2.1
   have c14 := hJ.c1.2.2.2.2.1
   have c15 := hJ.c1.2.2.2.2.2
   go_simp
   exact HK.out _ _ (by simp [layS, updV, lstV, Act.put]) hJ
  ·
   have e7 : u 7 = .pointer (some ⟨w.heap.size + 1, 1, none⟩) := hd 7 (by kernel_rfl)
   clear hd
   simp only [List.getElem_cons_succ, List.getElem_cons_zero]
   clear hl
   refine .inr ⟨rfl, fun K' hK => ?_⟩
   have HK := Lib.hid hK
   clear hK
   simp only [layS, Act.put, List.setIfInBounds_toArray, List.set_cons_succ, List.set_cons_zero, Nat.zero_add, Nat.reduceAdd, e7]
   have E7 := Lib.hid e7
   clear e7
   have c00 := hJ.c0.1
   have c01 := hJ.c0.2.1
   have c02 := hJ.c0.2.2.1
   have c03 := hJ.c0.2.2.2.1
   have c04 := hJ.c0.2.2.2.2.1
   have c05 := hJ.c0.2.2.2.2.2
   have c10 := hJ.c1.1
   have c11 := hJ.c1.2.1
   have c12 := hJ.c1.2.2.1
   have c13 := hJ.c1.2.2.2.1
   have c14 := hJ.c1.2.2.2.2.1
   have c15 := hJ.c1.2.2.2.2.2
   go_simp
   exact HK.out _ _ (by simp [layS, updV, lstV, Act.put, E7.out]) hJ
  ·
   have e6 : u 6 = .int .i64 x1.hi := hd 6 (by kernel_rfl)
   have e8 : u 8 = .int .i64 y1.hi := hd 8 (by kernel_rfl)
   clear hd
   simp only [List.getElem_cons_succ, List.getElem_cons_zero]
   clear hl
   refine .inr ⟨rfl, fun K' hK => ?_⟩
   have HK := Lib.hid hK
   clear hK
   simp only [layS, Act.put, List.setIfInBounds_toArray, List.set_cons_succ, List.set_cons_zero, Nat.zero_add, Nat.reduceAdd, e6, e8]
   have E6 := Lib.hid e6
   have E8 := Lib.hid e8
   clear e6 e8
   have c00 := hJ.c0.1
   have c01 := hJ.c0.2.1
   have c02 := hJ.c0.2.2.1
   have c03 := hJ.c0.2.2.2.1
   have c04 := hJ.c0.2.2.2.2.1
   have c05 := hJ.c0.2.2.2.2.2
   have c10 := hJ.c1.1
   have c11 := hJ.c1.2.1
   have c12 := hJ.c1.2.2.1
   have c13 := hJ.c1.2.2.2.1
   have c14 := hJ.c1.2.2.2.2.1
   have c15 := hJ.c1.2.2.2.2.2
   go_simp
   exact HK.out _ _ (by simp [layS, updV, lstV, Act.put, E6.out, E8.out]) hJ
  ·
   have e4 : u 4 = .int .i64 (max x1.lo y1.lo) := hd 4 (by kernel_rfl)
   clear hd
   simp only [List.getElem_cons_succ, List.getElem_cons_zero]
   clear hl
   refine .inr ⟨rfl, fun K' hK => ?_⟩
   have HK := Lib.hid hK
   clear hK
   simp only [layS, Act.put, List.setIfInBounds_toArray, List.set_cons_succ, List.set_cons_zero, Nat.zero_add, Nat.reduceAdd, e4]
   have E4 := Lib.hid e4
   clear e4
   have c00 := hJ.c0.1
   have c01 := hJ.c0.2.1
   have c02 := hJ.c0.2.2.1
   have c03 := hJ.c0.2.2.2.1
   have c04 := hJ.c0.2.2.2.2.1
   have c05 := hJ.c0.2.2.2.2.2
   have c10 := hJ.c1.1
   have c11 := hJ.c1.2.1
   have c12 := hJ.c1.2.2.1
   have c13 := hJ.c1.2.2.2.1
   have c14 := hJ.c1.2.2.2.2.1
   have c15 := hJ.c1.2.2.2.2.2
   go_simp
   exact HK.out _ _ (by simp [layS, updV, lstV, Act.put, E4.out]) hJ
  ·
   have e9 : u 9 = .int .i64 (min x1.hi y1.hi) := hd 9 (by kernel_rfl)
   clear hd
   simp only [List.getElem_cons_succ, List.getElem_cons_zero]
   clear hl
   refine .inr ⟨rfl, fun K' hK => ?_⟩
   have HK := Lib.hid hK
   clear hK
   simp only [layS, Act.put, List.setIfInBounds_toArray, List.set_cons_succ, List.set_cons_zero, Nat.zero_add, Nat.reduceAdd, e9]
   have E9 := Lib.hid e9
   clear e9
   have c00 := hJ.c0.1
   have c01 := hJ.c0.2.1
   have c02 := hJ.c0.2.2.1
   have c03 := hJ.c0.2.2.2.1
   have c04 := hJ.c0.2.2.2.2.1
   have c05 := hJ.c0.2.2.2.2.2
   have c10 := hJ.c1.1
   have c11 := hJ.c1.2.1
   have c12 := hJ.c1.2.2.1
   have c13 := hJ.c1.2.2.2.1
   have c14 := hJ.c1.2.2.2.2.1
   have c15 := hJ.c1.2.2.2.2.2
   go_simp
   exact HK.out _ _ (by simp [layS, updV, lstV, Act.put, E9.out]) hJ
 intro W hJ
 simp only [layS, lstV, Act.put, List.setIfInBounds_toArray, List.set_cons_succ, List.set_cons_zero, Nat.zero_add, Nat.reduceAdd, List.getD_cons_zero, List.getD_cons_succ, List.drop_succ_cons, List.drop_zero, List.drop_nil]
 have c20 := hJ.c2.1
 have c21 := hJ.c2.2.1
 have c22 := hJ.c2.2.2.1
 have c23 := hJ.c2.2.2.2.1
 have c24 := hJ.c2.2.2.2.2.1
 have c25 := hJ.c2.2.2.2.2.2
 generalize max x1.lo y1.lo = p at *
 generalize min x1.hi y1.hi = q at *
 have hl1 : decide (q < p) = false := by simp; omega
 go_wp2
 have hp := hJ.put 2 (by simp) ⟨p, q, false⟩
 exact bodyPost_ret (v := .tuple #[.agg #[.int .i64 p, .int .i64 q, .bool false], .bool true]) (by simp [results, Try.results41, go_sem, c20, c21, c22]) rfl ⟨rfl, hp.below⟩
set_option maxHeartbeats 1600000 in
theorem Meet_none (x y x1 y1 : Sp) (hcx : ∀ W : World, Calls Try.prog 75 #[.agg #[.int .i64 x.lo, .int .i64 x.hi, .bool x.all]] W (PSp x1 W)) (hcy : ∀ W : World, Calls Try.prog 75 #[.agg #[.int .i64 y.lo, .int .i64 y.hi, .bool y.all]] W (PSp y1 W)) (hqx : eqS x1.lo x1.hi x1.all lineS.lo lineS.hi lineS.all = false) (hqy : eqS y1.lo y1.hi y1.all lineS.lo lineS.hi lineS.all = false) (hl : min x1.hi y1.hi < max x1.lo y1.lo) (w : World) : Calls Try.prog 41 #[.agg #[.int .i64 x.lo, .int .i64 x.hi, .bool x.all], .agg #[.int .i64 y.lo, .int .i64 y.hi, .bool y.all]] w (PSp2 ⟨0, 0, false⟩ false w) := by
 have HCX := Lib.hid hcx
 clear hcx
 have HCY := Lib.hid hcy
 clear hcy
 go_enter Try.func41, Try.ntmps41
 go_wp2
 have hX := bs3 w x.lo x.hi x.all y.lo y.hi y.all 0 0 false
 generalize ((w.alloc (.cells #[.int .i64 x.lo, .int .i64 x.hi, .bool x.all] 23)).alloc (.cells #[.int .i64 y.lo, .int .i64 y.hi, .bool y.all] 23)).alloc (.cells #[.int .i64 0, .int .i64 0, .bool false] 23) = w1 at *
 refine wp_region_vals 4 [some 8, some 9, some 10, some 11] (lstV [.agg #[.int .i64 x.lo, .int .i64 x.hi, .bool x.all], .agg #[.int .i64 x1.lo, .int .i64 x1.hi, .bool x1.all], .agg #[.int .i64 y.lo, .int .i64 y.hi, .bool y.all], .agg #[.int .i64 y1.lo, .int .i64 y1.hi, .bool y1.all]]) (fun W => Bs w W [x, y, ⟨0, 0, false⟩]) (by kernel_rfl) (by kernel_rfl) (by decide) (hX.drew) ?_ ?_
 ·
  intro i hl hi u W hJ hd
  obtain rfl | rfl | rfl | rfl : i = 0 ∨ i = 1 ∨ i = 2 ∨ i = 3 := by omega
  ·
   clear hd
   simp only [List.getElem_cons_succ, List.getElem_cons_zero]
   clear hl
   refine .inr ⟨rfl, fun K' hK => ?_⟩
   have HK := Lib.hid hK
   clear hK
   simp only [layS, Act.put, List.setIfInBounds_toArray, List.set_cons_succ, List.set_cons_zero, Nat.zero_add, Nat.reduceAdd]
   have c00 := hJ.c0.1
   have c01 := hJ.c0.2.1
   have c02 := hJ.c0.2.2.1
   have c03 := hJ.c0.2.2.2.1
   have c04 := hJ.c0.2.2.2.2.1
   have c05 := hJ.c0.2.2.2.2.2
   have c10 := hJ.c1.1
   have c11 := hJ.c1.2.1
   have c12 := hJ.c1.2.2.1
   have c13 := hJ.c1.2.2.2.1
   have c14 := hJ.c1.2.2.2.2.1
   have c15 := hJ.c1.2.2.2.2.2
   go_simp
   exact HK.out _ _ (by simp [layS, updV, lstV, Act.put]) hJ
  ·
   have e0 : u 0 = .agg #[.int .i64 x.lo, .int .i64 x.hi, .bool x.all] := hd 0 (by kernel_rfl)
   clear hd
   simp only [List.getElem_cons_succ, List.getElem_cons_zero]
   clear hl
   refine .inr ⟨rfl, fun K' hK => ?_⟩
   have HK := Lib.hid hK
   clear hK
   simp only [layS, Act.put, List.setIfInBounds_toArray, List.set_cons_succ, List.set_cons_zero, Nat.zero_add, Nat.reduceAdd, e0]
   have E0 := Lib.hid e0
   clear e0
   have c00 := hJ.c0.1
   have c01 := hJ.c0.2.1
   have c02 := hJ.c0.2.2.1
   have c03 := hJ.c0.2.2.2.1
   have c04 := hJ.c0.2.2.2.2.1
   have c05 := hJ.c0.2.2.2.2.2
   have c10 := hJ.c1.1
   have c11 := hJ.c1.2.1
   have c12 := hJ.c1.2.2.1
   have c13 := hJ.c1.2.2.2.1
   have c14 := hJ.c1.2.2.2.2.1
   have c15 := hJ.c1.2.2.2.2.2
   go_simp
   refine (HCX.out W).mono ?_
   rintro e W' ⟨rfl, hB⟩
   exact HK.out _ _ (by simp [layS, updV, lstV, Act.put, E0.out]) (hJ.later hB)
  ·
   clear hd
   simp only [List.getElem_cons_succ, List.getElem_cons_zero]
   clear hl
   refine .inr ⟨rfl, fun K' hK => ?_⟩
   have HK := Lib.hid hK
   clear hK
   simp only [layS, Act.put, List.setIfInBounds_toArray, List.set_cons_succ, List.set_cons_zero, Nat.zero_add, Nat.reduceAdd]
   have c00 := hJ.c0.1
   have c01 := hJ.c0.2.1
   have c02 := hJ.c0.2.2.1
   have c03 := hJ.c0.2.2.2.1
   have c04 := hJ.c0.2.2.2.2.1
   have c05 := hJ.c0.2.2.2.2.2
   have c10 := hJ.c1.1
   have c11 := hJ.c1.2.1
   have c12 := hJ.c1.2.2.1
   have c13 := hJ.c1.2.2.2.1
   have c14 := hJ.c1.2.2.2.2.1
   have c15 := hJ.c1.2.2.2.2.2
   go_simp
   exact HK.out _ _ (by simp [layS, updV, lstV, Act.put]) hJ
  ·
   have e2 : u 2 = .agg #[.int .i64 y.lo, .int .i64 y.hi, .bool y.all] := hd 2 (by kernel_rfl)
   clear hd
   simp only [List.getElem_cons_succ, List.getElem_cons_zero]
   clear hl
   refine .inr ⟨rfl, fun K' hK => ?_⟩
   have HK := Lib.hid hK
   clear hK
   simp only [layS, Act.put, List.setIfInBounds_toArray, List.set_cons_succ, List.set_cons_zero, Nat.zero_add, Nat.reduceAdd, e2]
   have E2 := Lib.hid e2
   clear e2
   have c00 := hJ.c0.1
   have c01 := hJ.c0.2.1
   have c02 := hJ.c0.2.2.1
   have c03 := hJ.c0.2.2.2.1
   have c04 := hJ.c0.2.2.2.2.1
   have c05 := hJ.c0.2.2.2.2.2
   have c10 := hJ.c1.1
   have c11 := hJ.c1.2.1
   have c12 := hJ.c1.2.2.1
   have c13 := hJ.c1.2.2.2.1
   have c14 := hJ.c1.2.2.2.2.1
   have c15 := hJ.c1.2.2.2.2.2
   go_simp
   refine (HCY.out W).mono ?_
   rintro e W' ⟨rfl, hB⟩
   exact HK.out _ _ (by simp [layS, updV, lstV, Act.put, E2.out]) (hJ.later hB)
 intro W hJ
 simp only [layS, lstV, Act.put, List.setIfInBounds_toArray, List.set_cons_succ, List.set_cons_zero, Nat.zero_add, Nat.reduceAdd, List.getD_cons_zero, List.getD_cons_succ, List.drop_succ_cons, List.drop_zero, List.drop_nil]
 have c00 := hJ.c0.1
 have c01 := hJ.c0.2.1
 have c02 := hJ.c0.2.2.1
 have c03 := hJ.c0.2.2.2.1
 have c04 := hJ.c0.2.2.2.2.1
 have c05 := hJ.c0.2.2.2.2.2
 have c10 := hJ.c1.1
 have c11 := hJ.c1.2.1
 have c12 := hJ.c1.2.2.1
 have c13 := hJ.c1.2.2.2.1
 have c14 := hJ.c1.2.2.2.2.1
 have c15 := hJ.c1.2.2.2.2.2
 go_wp2
 have hJ1 : Bs w _ [x1, y1, ⟨0, 0, false⟩] := (hJ.put 0 (by simp) x1).put 1 (by simp) y1
 simp only [Nat.add_zero] at hJ1
 clear c00 c01 c02 c03 c04 c05 c10 c11 c12 c13 c14 c15 hJ hX
 refine wp_region_vals 3 [some 12, some 13, some 14] (lstV [.agg #[.int .i64 x1.lo, .int .i64 x1.hi, .bool x1.all], .agg #[.int .i64 lineS.lo, .int .i64 lineS.hi, .bool lineS.all], .bool false]) (fun W => Bs w W [x1, y1, ⟨0, 0, false⟩]) (by kernel_rfl) (by kernel_rfl) (by decide) (hJ1.drew) ?_ ?_
 ·
  intro i hl hi u W hJ hd
  obtain rfl | rfl | rfl : i = 0 ∨ i = 1 ∨ i = 2 := by omega
  ·
   clear hd
   simp only [List.getElem_cons_succ, List.getElem_cons_zero]
   clear hl
   refine .inr ⟨rfl, fun K' hK => ?_⟩
   have HK := Lib.hid hK
   clear hK
   simp only [layS, Act.put, List.setIfInBounds_toArray, List.set_cons_succ, List.set_cons_zero, Nat.zero_add, Nat.reduceAdd]
   have c00 := hJ.c0.1
   have c01 := hJ.c0.2.1
   have c02 := hJ.c0.2.2.1
   have c03 := hJ.c0.2.2.2.1
   have c04 := hJ.c0.2.2.2.2.1
   have c05 := hJ.c0.2.2.2.2.2
   go_simp
   exact HK.out _ _ (by simp [layS, updV, lstV, Act.put]) hJ
  ·
   clear hd
   simp only [List.getElem_cons_succ, List.getElem_cons_zero]
   clear hl
   refine .inr ⟨rfl, fun K' hK => ?_⟩
   have HK := Lib.hid hK
   clear hK
   simp only [layS, Act.put, List.setIfInBounds_toArray, List.set_cons_succ, List.set_cons_zero, Nat.zero_add, Nat.reduceAdd]
   have c00 := hJ.c0.1
   have c01 := hJ.c0.2.1
   have c02 := hJ.c0.2.2.1
   have c03 := hJ.c0.2.2.2.1
   have c04 := hJ.c0.2.2.2.2.1
   have c05 := hJ.c0.2.2.2.2.2
   go_simp
   refine (whole_any W).mono ?_
   rintro e W' ⟨rfl, hB⟩
   exact HK.out _ _ (by simp [layS, updV, lstV, Act.put]) (hJ.later hB)
  ·
   have e0 : u 0 = .agg #[.int .i64 x1.lo, .int .i64 x1.hi, .bool x1.all] := hd 0 (by kernel_rfl)
   have e1 : u 1 = .agg #[.int .i64 lineS.lo, .int .i64 lineS.hi, .bool lineS.all] := hd 1 (by kernel_rfl)
   clear hd
   simp only [List.getElem_cons_succ, List.getElem_cons_zero]
   clear hl
   refine .inr ⟨rfl, fun K' hK => ?_⟩
   have HK := Lib.hid hK
   clear hK
   simp only [layS, Act.put, List.setIfInBounds_toArray, List.set_cons_succ, List.set_cons_zero, Nat.zero_add, Nat.reduceAdd, e0, e1]
   have E0 := Lib.hid e0
   have E1 := Lib.hid e1
   clear e0 e1
   have c00 := hJ.c0.1
   have c01 := hJ.c0.2.1
   have c02 := hJ.c0.2.2.1
   have c03 := hJ.c0.2.2.2.1
   have c04 := hJ.c0.2.2.2.2.1
   have c05 := hJ.c0.2.2.2.2.2
   go_simp
   exact HK.out _ _ (by simp [layS, updV, lstV, Act.put, E0.out, E1.out]) hJ
 intro W hJ
 simp only [layS, lstV, Act.put, List.setIfInBounds_toArray, List.set_cons_succ, List.set_cons_zero, Nat.zero_add, Nat.reduceAdd, List.getD_cons_zero, List.getD_cons_succ, List.drop_succ_cons, List.drop_zero, List.drop_nil]
 go_wp2
 refine wp_region_vals 3 [some 16, some 17, some 18] (lstV [.agg #[.int .i64 y1.lo, .int .i64 y1.hi, .bool y1.all], .agg #[.int .i64 lineS.lo, .int .i64 lineS.hi, .bool lineS.all], .bool false]) (fun W => Bs w W [x1, y1, ⟨0, 0, false⟩]) (by kernel_rfl) (by kernel_rfl) (by decide) (hJ.drew) ?_ ?_
 ·
  intro i hl hi u W hJ hd
  obtain rfl | rfl | rfl : i = 0 ∨ i = 1 ∨ i = 2 := by omega
  ·
   clear hd
   simp only [List.getElem_cons_succ, List.getElem_cons_zero]
   clear hl
   refine .inr ⟨rfl, fun K' hK => ?_⟩
   have HK := Lib.hid hK
   clear hK
   simp only [layS, Act.put, List.setIfInBounds_toArray, List.set_cons_succ, List.set_cons_zero, Nat.zero_add, Nat.reduceAdd]
   have c10 := hJ.c1.1
   have c11 := hJ.c1.2.1
   have c12 := hJ.c1.2.2.1
   have c13 := hJ.c1.2.2.2.1
   have c14 := hJ.c1.2.2.2.2.1
   have c15 := hJ.c1.2.2.2.2.2
   go_simp
   exact HK.out _ _ (by simp [layS, updV, lstV, Act.put]) hJ
  ·
   clear hd
   simp only [List.getElem_cons_succ, List.getElem_cons_zero]
   clear hl
   refine .inr ⟨rfl, fun K' hK => ?_⟩
   have HK := Lib.hid hK
   clear hK
   simp only [layS, Act.put, List.setIfInBounds_toArray, List.set_cons_succ, List.set_cons_zero, Nat.zero_add, Nat.reduceAdd]
   have c10 := hJ.c1.1
   have c11 := hJ.c1.2.1
   have c12 := hJ.c1.2.2.1
   have c13 := hJ.c1.2.2.2.1
   have c14 := hJ.c1.2.2.2.2.1
   have c15 := hJ.c1.2.2.2.2.2
   go_simp
   refine (whole_any W).mono ?_
   rintro e W' ⟨rfl, hB⟩
   exact HK.out _ _ (by simp [layS, updV, lstV, Act.put]) (hJ.later hB)
  ·
   have e0 : u 0 = .agg #[.int .i64 y1.lo, .int .i64 y1.hi, .bool y1.all] := hd 0 (by kernel_rfl)
   have e1 : u 1 = .agg #[.int .i64 lineS.lo, .int .i64 lineS.hi, .bool lineS.all] := hd 1 (by kernel_rfl)
   clear hd
   simp only [List.getElem_cons_succ, List.getElem_cons_zero]
   clear hl
   refine .inr ⟨rfl, fun K' hK => ?_⟩
   have HK := Lib.hid hK
   clear hK
   simp only [layS, Act.put, List.setIfInBounds_toArray, List.set_cons_succ, List.set_cons_zero, Nat.zero_add, Nat.reduceAdd, e0, e1]
   have E0 := Lib.hid e0
   have E1 := Lib.hid e1
   clear e0 e1
   have c10 := hJ.c1.1
   have c11 := hJ.c1.2.1
   have c12 := hJ.c1.2.2.1
   have c13 := hJ.c1.2.2.2.1
   have c14 := hJ.c1.2.2.2.2.1
   have c15 := hJ.c1.2.2.2.2.2
   go_simp
   exact HK.out _ _ (by simp [layS, updV, lstV, Act.put, E0.out, E1.out]) hJ
 intro W hJ
 simp only [layS, lstV, Act.put, List.setIfInBounds_toArray, List.set_cons_succ, List.set_cons_zero, Nat.zero_add, Nat.reduceAdd, List.getD_cons_zero, List.getD_cons_succ, List.drop_succ_cons, List.drop_zero, List.drop_nil]
 go_wp2
 refine wp_region_vals 12 [some 20, some 21, some 22, some 23, some 24, some 25, some 26, some 27, some 28, some 29, some 6, some 7] (lstV [.pointer (some ⟨w.heap.size, 0, none⟩), .int .i64 x1.lo, .pointer (some ⟨w.heap.size + 1, 0, none⟩), .int .i64 y1.lo, .int .i64 (max x1.lo y1.lo), .pointer (some ⟨w.heap.size, 1, none⟩), .int .i64 x1.hi, .pointer (some ⟨w.heap.size + 1, 1, none⟩), .int .i64 y1.hi, .int .i64 (min x1.hi y1.hi), .int .i64 (max x1.lo y1.lo), .int .i64 (min x1.hi y1.hi)]) (fun W => Bs w W [x1, y1, ⟨0, 0, false⟩]) (by kernel_rfl) (by kernel_rfl) (by decide) (hJ.drew) ?_ ?_
 ·
  intro i hl hi u W hJ hd
  obtain rfl | rfl | rfl | rfl | rfl | rfl | rfl | rfl | rfl | rfl | rfl | rfl : i = 0 ∨ i = 1 ∨ i = 2 ∨ i = 3 ∨ i = 4 ∨ i = 5 ∨ i = 6 ∨ i = 7 ∨ i = 8 ∨ i = 9 ∨ i = 10 ∨ i = 11 := by omega
  ·
   clear hd
   simp only [List.getElem_cons_succ, List.getElem_cons_zero]
   clear hl
   refine .inr ⟨rfl, fun K' hK => ?_⟩
   have HK := Lib.hid hK
   clear hK
   simp only [layS, Act.put, List.setIfInBounds_toArray, List.set_cons_succ, List.set_cons_zero, Nat.zero_add, Nat.reduceAdd]
   have c00 := hJ.c0.1
   have c01 := hJ.c0.2.1
   have c02 := hJ.c0.2.2.1
   have c03 := hJ.c0.2.2.2.1
   have c04 := hJ.c0.2.2.2.2.1
   have c05 := hJ.c0.2.2.2.2.2
   have c10 := hJ.c1.1
   have c11 := hJ.c1.2.1
   have c12 := hJ.c1.2.2.1
   have c13 := hJ.c1.2.2.2.1
   have c14 := hJ.c1.2.2.2.2.1
   have c15 := hJ.c1.2.2.2.2.2
   go_simp
   exact HK.out _ _ (by simp [layS, updV, lstV, Act.put]) hJ
  ·
   have e0 : u 0 = .pointer (some ⟨w.heap.size, 0, none⟩) := hd 0 (by kernel_rfl)
   clear hd
   simp only [List.getElem_cons_succ, List.getElem_cons_zero]
   clear hl
   refine .inr ⟨rfl, fun K' hK => ?_⟩
   have HK := Lib.hid hK
   clear hK
   simp only [layS, Act.put, List.setIfInBounds_toArray, List.set_cons_succ, List.set_cons_zero, Nat.zero_add, Nat.reduceAdd, e0]
   have E0 := Lib.hid e0
   clear e0
   have c00 := hJ.c0.1
   have c01 := hJ.c0.2.1
   have c02 := hJ.c0.2.2.1
   have c03 := hJ.c0.2.2.2.1
   have c04 := hJ.c0.2.2.2.2.1
   have c05 := hJ.c0.2.2.2.2.2
   have c10 := hJ.c1.1
   have c11 := hJ.c1.2.1
   have c12 := hJ.c1.2.2.1
   have c13 := hJ.c1.2.2.2.1
   have c14 := hJ.c1.2.2.2.2.1
   have c15 := hJ.c1.2.2.2.2.2
   go_simp
   exact HK.out _ _ (by simp [layS, updV, lstV, Act.put, E0.out]) hJ
  ·
   clear hd
   simp only [List.getElem_cons_succ, List.getElem_cons_zero]
   clear hl
   refine .inr ⟨rfl, fun K' hK => ?_⟩
   have HK := Lib.hid hK
   clear hK
   simp only [layS, Act.put, List.setIfInBounds_toArray, List.set_cons_succ, List.set_cons_zero, Nat.zero_add, Nat.reduceAdd]
   have c00 := hJ.c0.1
   have c01 := hJ.c0.2.1
   have c02 := hJ.c0.2.2.1
   have c03 := hJ.c0.2.2.2.1
   have c04 := hJ.c0.2.2.2.2.1
   have c05 := hJ.c0.2.2.2.2.2
   have c10 := hJ.c1.1
   have c11 := hJ.c1.2.1
   have c12 := hJ.c1.2.2.1
   have c13 := hJ.c1.2.2.2.1
   have c14 := hJ.c1.2.2.2.2.1
   have c15 := hJ.c1.2.2.2.2.2
   go_simp
   exact HK.out _ _ (by simp [layS, updV, lstV, Act.put]) hJ
  ·
   have e2 : u 2 = .pointer (some ⟨w.heap.size + 1, 0, none⟩) := hd 2 (by kernel_rfl)
   clear hd
   simp only [List.getElem_cons_succ, List.getElem_cons_zero]
   clear hl
   refine .inr ⟨rfl, fun K' hK => ?_⟩
   have HK := Lib.hid hK
   clear hK
   simp only [layS, Act.put, List.setIfInBounds_toArray, List.set_cons_succ, List.set_cons_zero, Nat.zero_add, Nat.reduceAdd, e2]
   have E2 := Lib.hid e2
   clear e2
   have c00 := hJ.c0.1
   have c01 := hJ.c0.2.1
   have c02 := hJ.c0.2.2.1
   have c03 := hJ.c0.2.2.2.1
   have c04 := hJ.c0.2.2.2.2.1
   have c05 := hJ.c0.2.2.2.2.2
   have c10 := hJ.c1.1
   have c11 := hJ.c1.2.1
   have c12 := hJ.c1.2.2.1
   have c13 := hJ.c1.2.2.2.1
   have c14 := hJ.c1.2.2.2.2.1
   have c15 := hJ.c1.2.2.2.2.2
   go_simp
   exact HK.out _ _ (by simp [layS, updV, lstV, Act.put, E2.out]) hJ
  ·
   have e1 : u 1 = .int .i64 x1.lo := hd 1 (by kernel_rfl)
   have e3 : u 3 = .int .i64 y1.lo := hd 3 (by kernel_rfl)
   clear hd
   simp only [List.getElem_cons_succ, List.getElem_cons_zero]
   clear hl
   refine .inr ⟨rfl, fun K' hK => ?_⟩
   have HK := Lib.hid hK
   clear hK
   simp only [layS, Act.put, List.setIfInBounds_toArray, List.set_cons_succ, List.set_cons_zero, Nat.zero_add, Nat.reduceAdd, e1, e3]
   have E1 := Lib.hid e1
   have E3 := Lib.hid e3
   clear e1 e3
   have c00 := hJ.c0.1
   have c01 := hJ.c0.2.1
   have c02 := hJ.c0.2.2.1
   have c03 := hJ.c0.2.2.2.1
   have c04 := hJ.c0.2.2.2.2.1
   have c05 := hJ.c0.2.2.2.2.2
   have c10 := hJ.c1.1
   have c11 := hJ.c1.2.1
   have c12 := hJ.c1.2.2.1
   have c13 := hJ.c1.2.2.2.1
   have c14 := hJ.c1.2.2.2.2.1
   have c15 := hJ.c1.2.2.2.2.2
   go_simp
   exact HK.out _ _ (by simp [layS, updV, lstV, Act.put, E1.out, E3.out]) hJ
  ·
   clear hd
   simp only [List.getElem_cons_succ, List.getElem_cons_zero]
   clear hl
   refine .inr ⟨rfl, fun K' hK => ?_⟩
   have HK := Lib.hid hK
   clear hK
   simp only [layS, Act.put, List.setIfInBounds_toArray, List.set_cons_succ, List.set_cons_zero, Nat.zero_add, Nat.reduceAdd]
   have c00 := hJ.c0.1
   have c01 := hJ.c0.2.1
   have c02 := hJ.c0.2.2.1
   have c03 := hJ.c0.2.2.2.1
   have c04 := hJ.c0.2.2.2.2.1
   have c05 := hJ.c0.2.2.2.2.2
   have c10 := hJ.c1.1
   have c11 := hJ.c1.2.1
   have c12 := hJ.c1.2.2.1
   have c13 := hJ.c1.2.2.2.1
   have c14 := hJ.c1.2.2.2.2.1
   have c15 := hJ.c1.2.2.2.2.2
   go_simp
   exact HK.out _ _ (by simp [layS, updV, lstV, Act.put]) hJ
  ·
   have e5 : u 5 = .pointer (some ⟨w.heap.size, 1, none⟩) := hd 5 (by kernel_rfl)
   clear hd
   simp only [List.getElem_cons_succ, List.getElem_cons_zero]
   clear hl
   refine .inr ⟨rfl, fun K' hK => ?_⟩
   have HK := Lib.hid hK
   clear hK
   simp only [layS, Act.put, List.setIfInBounds_toArray, List.set_cons_succ, List.set_cons_zero, Nat.zero_add, Nat.reduceAdd, e5]
   have E5 := Lib.hid e5
   clear e5
   have c00 := hJ.c0.1
   have c01 := hJ.c0.2.1
   have c02 := hJ.c0.2.2.1
   have c03 := hJ.c0.2.2.2.1
   have c04 := hJ.c0.2.2.2.2.1
   have c05 := hJ.c0.2.2.2.2.2
   have c10 := hJ.c1.1
   have c11 := hJ.c1.2.1
   have c12 := hJ.c1.2.2.1
   have c13 := hJ.c1.2.2.2.1
   have c14 := hJ.c1.2.2.2.2.1
   have c15 := hJ.c1.2.2.2.2.2
   go_simp
   exact HK.out _ _ (by simp [layS, updV, lstV, Act.put, E5.out]) hJ
  ·
   clear hd
   simp only [List.getElem_cons_succ, List.getElem_cons_zero]
   clear hl
   refine .inr ⟨rfl, fun K' hK => ?_⟩
   have HK := Lib.hid hK
   clear hK
   simp only [layS, Act.put, List.setIfInBounds_toArray, List.set_cons_succ, List.set_cons_zero, Nat.zero_add, Nat.reduceAdd]
   have c00 := hJ.c0.1
   have c01 := hJ.c0.2.1
   have c02 := hJ.c0.2.2.1
   have c03 := hJ.c0.2.2.2.1
   have c04 := hJ.c0.2.2.2.2.1
   have c05 := hJ.c0.2.2.2.2.2
   have c10 := hJ.c1.1
   have c11 := hJ.c1.2.1
   have c12 := hJ.c1.2.2.1
   have c13 := hJ.c1.2.2.2.1
   have c14 := hJ.c1.2.2.2.2.1
   have c15 := hJ.c1.2.2.2.2.2
   go_simp
   exact HK.out _ _ (by simp [layS, updV, lstV, Act.put]) hJ
  ·
   have e7 : u 7 = .pointer (some ⟨w.heap.size + 1, 1, none⟩) := hd 7 (by kernel_rfl)
   clear hd
   simp only [List.getElem_cons_succ, List.getElem_cons_zero]
   clear hl
   refine .inr ⟨rfl, fun K' hK => ?_⟩
   have HK := Lib.hid hK
   clear hK
   simp only [layS, Act.put, List.setIfInBounds_toArray, List.set_cons_succ, List.set_cons_zero, Nat.zero_add, Nat.reduceAdd, e7]
   have E7 := Lib.hid e7
   clear e7
   have c00 := hJ.c0.1
   have c01 := hJ.c0.2.1
   have c02 := hJ.c0.2.2.1
   have c03 := hJ.c0.2.2.2.1
   have c04 := hJ.c0.2.2.2.2.1
   have c05 := hJ.c0.2.2.2.2.2
   have c10 := hJ.c1.1
   have c11 := hJ.c1.2.1
   have c12 := hJ.c1.2.2.1
   have c13 := hJ.c1.2.2.2.1
   have c14 := hJ.c1.2.2.2.2.1
   have c15 := hJ.c1.2.2.2.2.2
   go_simp
   exact HK.out _ _ (by simp [layS, updV, lstV, Act.put, E7.out]) hJ
  ·
   have e6 : u 6 = .int .i64 x1.hi := hd 6 (by kernel_rfl)
   have e8 : u 8 = .int .i64 y1.hi := hd 8 (by kernel_rfl)
   clear hd
   simp only [List.getElem_cons_succ, List.getElem_cons_zero]
   clear hl
   refine .inr ⟨rfl, fun K' hK => ?_⟩
   have HK := Lib.hid hK
   clear hK
   simp only [layS, Act.put, List.setIfInBounds_toArray, List.set_cons_succ, List.set_cons_zero, Nat.zero_add, Nat.reduceAdd, e6, e8]
   have E6 := Lib.hid e6
   have E8 := Lib.hid e8
   clear e6 e8
   have c00 := hJ.c0.1
   have c01 := hJ.c0.2.1
   have c02 := hJ.c0.2.2.1
   have c03 := hJ.c0.2.2.2.1
   have c04 := hJ.c0.2.2.2.2.1
   have c05 := hJ.c0.2.2.2.2.2
   have c10 := hJ.c1.1
   have c11 := hJ.c1.2.1
   have c12 := hJ.c1.2.2.1
   have c13 := hJ.c1.2.2.2.1
   have c14 := hJ.c1.2.2.2.2.1
   have c15 := hJ.c1.2.2.2.2.2
   go_simp
   exact HK.out _ _ (by simp [layS, updV, lstV, Act.put, E6.out, E8.out]) hJ
  ·
   have e4 : u 4 = .int .i64 (max x1.lo y1.lo) := hd 4 (by kernel_rfl)
   clear hd
   simp only [List.getElem_cons_succ, List.getElem_cons_zero]
   clear hl
   refine .inr ⟨rfl, fun K' hK => ?_⟩
   have HK := Lib.hid hK
   clear hK
   simp only [layS, Act.put, List.setIfInBounds_toArray, List.set_cons_succ, List.set_cons_zero, Nat.zero_add, Nat.reduceAdd, e4]
   have E4 := Lib.hid e4
   clear e4
   have c00 := hJ.c0.1
   have c01 := hJ.c0.2.1
   have c02 := hJ.c0.2.2.1
   have c03 := hJ.c0.2.2.2.1
   have c04 := hJ.c0.2.2.2.2.1
   have c05 := hJ.c0.2.2.2.2.2
   have c10 := hJ.c1.1
   have c11 := hJ.c1.2.1
   have c12 := hJ.c1.2.2.1
   have c13 := hJ.c1.2.2.2.1
   have c14 := hJ.c1.2.2.2.2.1
   have c15 := hJ.c1.2.2.2.2.2
   go_simp
   exact HK.out _ _ (by simp [layS, updV, lstV, Act.put, E4.out]) hJ
  ·
   have e9 : u 9 = .int .i64 (min x1.hi y1.hi) := hd 9 (by kernel_rfl)
   clear hd
   simp only [List.getElem_cons_succ, List.getElem_cons_zero]
   clear hl
   refine .inr ⟨rfl, fun K' hK => ?_⟩
   have HK := Lib.hid hK
   clear hK
   simp only [layS, Act.put, List.setIfInBounds_toArray, List.set_cons_succ, List.set_cons_zero, Nat.zero_add, Nat.reduceAdd, e9]
   have E9 := Lib.hid e9
   clear e9
   have c00 := hJ.c0.1
   have c01 := hJ.c0.2.1
   have c02 := hJ.c0.2.2.1
   have c03 := hJ.c0.2.2.2.1
   have c04 := hJ.c0.2.2.2.2.1
   have c05 := hJ.c0.2.2.2.2.2
   have c10 := hJ.c1.1
   have c11 := hJ.c1.2.1
   have c12 := hJ.c1.2.2.1
   have c13 := hJ.c1.2.2.2.1
   have c14 := hJ.c1.2.2.2.2.1
   have c15 := hJ.c1.2.2.2.2.2
   go_simp
   exact HK.out _ _ (by simp [layS, updV, lstV, Act.put, E9.out]) hJ
 intro W hJ
 simp only [layS, lstV, Act.put, List.setIfInBounds_toArray, List.set_cons_succ, List.set_cons_zero, Nat.zero_add, Nat.reduceAdd, List.getD_cons_zero, List.getD_cons_succ, List.drop_succ_cons, List.drop_zero, List.drop_nil]
 have c20 := hJ.c2.1
 have c21 := hJ.c2.2.1
 have c22 := hJ.c2.2.2.1
 have c23 := hJ.c2.2.2.2.1
 have c24 := hJ.c2.2.2.2.2.1
 have c25 := hJ.c2.2.2.2.2.2
 generalize max x1.lo y1.lo = p at *
 generalize min x1.hi y1.hi = q at *
 have hl1 : decide (q < p) = true := by simp; omega
 go_wp2
 have hp := hJ.put 2 (by simp) ⟨0, 0, false⟩
 exact bodyPost_ret (v := .tuple #[.agg #[.int .i64 0, .int .i64 0, .bool false], .bool false]) (by simp [results, Try.results41, go_sem, c20, c21, c22]) rfl ⟨rfl, hp.below⟩
theorem Meet_any (x y : Sp) (w : World) : Calls Try.prog 41 #[.agg #[.int .i64 x.lo, .int .i64 x.hi, .bool x.all], .agg #[.int .i64 y.lo, .int .i64 y.hi, .bool y.all]] w (PSp2 (meetS x y) (meetB x y) w) := by
 have lx := line_eq x
 have ly := line_eq y
 unfold meetS meetB
 cases hx : okB x
 ·
  rw [hx] at lx
  exact Meet_no1 x y _ _ (counted_any x) (counted_any y) lx w
 ·
  rw [hx] at lx
  cases hy : okB y
  ·
   rw [hy] at ly
   have := Meet_no2 x y _ _ (counted_any x) (counted_any y) lx ly w
   rw [mkS_ok hx] at this
   exact this
  ·
   rw [hy] at ly
   have h1 := Meet_ok x y _ _ (counted_any x) (counted_any y) lx ly
   have h2 := Meet_none x y _ _ (counted_any x) (counted_any y) lx ly
   rw [mkS_ok hx, mkS_ok hy] at h1 h2
   by_cases hl : max x.lo y.lo ≤ min x.hi y.hi
   ·
    have := h1 hl w
    simpa [hl] using this
   ·
    have := h2 (by omega) w
    simpa [hl] using this
end Go.Proofs.Ytdochhhepmlapaa
