/- Parts of the proof. -/
import Derived.Test.YtolpfibihialkaaGreatGr0
import Derived.Test.YtolpfibihialkaaGreatGr19
import Derived.Test.YtolpfibihialkaaGreatGr3
import Derived.LoopN
import Derived.Lib.SmallJoins
import Derived.Shelf.Abstract
/- Spans: the walk of fromEnds. -/
namespace Go.Proofs.YtolpfibihialkaaGreat
open Go.RowKit
attribute [local go_sem ↓] run_eqlS run_neqS
theorem Bs.sz {w W : World} {xs : List Sp} (h : Bs w W xs) : w.heap.size + xs.length ≤ W.heap.size := by
 rcases Nat.eq_zero_or_pos xs.length with h0 | h0
 ·
  rw [h0]; exact h.below.size
 ·
  have h1 := h.at' (xs.length - 1) _ (List.getElem?_eq_getElem (by omega))
  have := (Array.getElem?_eq_some_iff.1 h1).1
  omega
theorem Bs.row {w W : World} {xs : List Sp} (h : Bs w W xs) {b : Nat} (hb : w.heap.size + xs.length ≤ b) (cs : Array Value) : Bs w (W.setRow b cs) xs := by
 refine ⟨below_setRow h.below (by omega) cs, fun i x hx => ?_⟩
 have := (List.getElem?_eq_some_iff.1 hx).1
 show (W.setRow b cs).heap[w.heap.size + i]? = _
 rw [setRow_other _ _ _ _ (by omega)]
 exact h.at' i x hx
theorem Bs.far {w W : World} {xs : List Sp} (h : Bs w W xs) {b : Nat} (hb : w.heap.size + xs.length ≤ b) (y : Sp) : Bs w (((W.setCell ⟨b, 0, none⟩ (.int .i64 y.lo)).setCell ⟨b, 1, none⟩ (.int .i64 y.hi)).setCell ⟨b, 2, none⟩ (.bool y.all)) xs := by
 refine ⟨((h.below.setCell (p := ⟨b, 0, none⟩) (by show w.heap.size ≤ b; omega) _).setCell (p := ⟨b, 1, none⟩) (by show w.heap.size ≤ b; omega) _).setCell (p := ⟨b, 2, none⟩) (by show w.heap.size ≤ b; omega) _, fun j x hj => ?_⟩
 have := (List.getElem?_eq_some_iff.1 hj).1
 exact (h.at' j x hj).other (by omega) _ _ _
theorem run_idx0 (a0 b0 : Int) (c0 : Bool) (a1 b1 : Int) (c1 : Bool) (a2 b2 : Int) (c2 : Bool) (a3 b3 : Int) (c3 : Bool) (W : World) : Sem.run Tryz.prog (Instr.index 94 (.agg #[.int .i64 a0, .int .i64 b0, .bool c0, .int .i64 a1, .int .i64 b1, .bool c1, .int .i64 a2, .int .i64 b2, .bool c2, .int .i64 a3, .int .i64 b3, .bool c3]) (.int .i64 0)) W = .ok (.agg #[.int .i64 a0, .int .i64 b0, .bool c0]) W := by kernel_rfl
theorem run_idx1 (a0 b0 : Int) (c0 : Bool) (a1 b1 : Int) (c1 : Bool) (a2 b2 : Int) (c2 : Bool) (a3 b3 : Int) (c3 : Bool) (W : World) : Sem.run Tryz.prog (Instr.index 94 (.agg #[.int .i64 a0, .int .i64 b0, .bool c0, .int .i64 a1, .int .i64 b1, .bool c1, .int .i64 a2, .int .i64 b2, .bool c2, .int .i64 a3, .int .i64 b3, .bool c3]) (.int .i64 1)) W = .ok (.agg #[.int .i64 a1, .int .i64 b1, .bool c1]) W := by kernel_rfl
theorem run_idx2 (a0 b0 : Int) (c0 : Bool) (a1 b1 : Int) (c1 : Bool) (a2 b2 : Int) (c2 : Bool) (a3 b3 : Int) (c3 : Bool) (W : World) : Sem.run Tryz.prog (Instr.index 94 (.agg #[.int .i64 a0, .int .i64 b0, .bool c0, .int .i64 a1, .int .i64 b1, .bool c1, .int .i64 a2, .int .i64 b2, .bool c2, .int .i64 a3, .int .i64 b3, .bool c3]) (.int .i64 2)) W = .ok (.agg #[.int .i64 a2, .int .i64 b2, .bool c2]) W := by kernel_rfl
theorem run_idx3 (a0 b0 : Int) (c0 : Bool) (a1 b1 : Int) (c1 : Bool) (a2 b2 : Int) (c2 : Bool) (a3 b3 : Int) (c3 : Bool) (W : World) : Sem.run Tryz.prog (Instr.index 94 (.agg #[.int .i64 a0, .int .i64 b0, .bool c0, .int .i64 a1, .int .i64 b1, .bool c1, .int .i64 a2, .int .i64 b2, .bool c2, .int .i64 a3, .int .i64 b3, .bool c3]) (.int .i64 3)) W = .ok (.agg #[.int .i64 a3, .int .i64 b3, .bool c3]) W := by kernel_rfl
attribute [local go_sem] run_idx0 run_idx1 run_idx2 run_idx3
set_option maxRecDepth 100000 in
set_option maxHeartbeats 3200000 in
theorem fends_no1 (k : FuncId) (x y x1 y1 : Sp) (hcx : ∀ W : World, Calls Tryz.prog 72 #[.agg #[.int .i64 x.lo, .int .i64 x.hi, .bool x.all]] W (PSp x1 W)) (hcy : ∀ W : World, Calls Tryz.prog 72 #[.agg #[.int .i64 y.lo, .int .i64 y.hi, .bool y.all]] W (PSp y1 W)) (hqx : eqS x1.lo x1.hi x1.all lineS.lo lineS.hi lineS.all = true) (w : World) : Calls Tryz.prog 65 #[.agg #[.int .i64 x.lo, .int .i64 x.hi, .bool x.all], .agg #[.int .i64 y.lo, .int .i64 y.hi, .bool y.all], .func (.func k) #[] #[]] w (PSp lineS w) := by
 have HCX := Lib.hid hcx
 clear hcx
 have HCY := Lib.hid hcy
 clear hcy
 go_enter Tryz.func65, Tryz.ntmps65
 go_wp2
 have hX := bs3 w x.lo x.hi x.all y.lo y.hi y.all 0 0 false
 generalize ((w.alloc (.cells #[.int .i64 x.lo, .int .i64 x.hi, .bool x.all] 23)).alloc (.cells #[.int .i64 y.lo, .int .i64 y.hi, .bool y.all] 23)).alloc (.cells #[.int .i64 0, .int .i64 0, .bool false] 23) = w1 at *
 refine wp_region_vals 4 [some 11, some 12, some 13, some 14] (lstV [.agg #[.int .i64 x.lo, .int .i64 x.hi, .bool x.all], .agg #[.int .i64 x1.lo, .int .i64 x1.hi, .bool x1.all], .agg #[.int .i64 y.lo, .int .i64 y.hi, .bool y.all], .agg #[.int .i64 y1.lo, .int .i64 y1.hi, .bool y1.all]]) (fun W => Bs w W [x, y, ⟨0, 0, false⟩]) (by kernel_rfl) (by kernel_rfl) (by decide) (hX.drew) ?_ ?_
 ·
  intro i hl hi u W hJ hd
  obtain rfl | rfl | rfl | rfl : i = 0 ∨ i = 1 ∨ i = 2 ∨ i = 3 := by omega
  ·
   clear hd
   simp only [zzA, zzB]
   clear hl
   refine .inr ⟨rfl, fun K' hK => ?_⟩
   have HK := Lib.hid hK
   clear hK
   simp only [layS, Act.put, zzC, zzD, zzE, Nat.zero_add, Nat.reduceAdd]
   have c00 := hJ.c0.1
   have c01 := hJ.c0.2.1
   have c02 := hJ.c0.2.2.1
   have c03 := hJ.c0.2.2.2.1
   have c04 := hJ.c0.2.2.2.2.1
   have c05 := hJ.c0.2.2.2.2.2
   have c10 := hJ.c1.1
   have c11 := hJ.c1.2.1
   have c12 := hJ.c1.2.2.1
   have c13 := hJ.c1.2.2.2.1
   have c14 := hJ.c1.2.2.2.2.1
   have c15 := hJ.c1.2.2.2.2.2
   go_simp
   exact HK.out _ _ (by simp [layS, updV, lstV, Act.put]) hJ
  ·
   have e0 : u 0 = .agg #[.int .i64 x.lo, .int .i64 x.hi, .bool x.all] := hd 0 (by kernel_rfl)
   clear hd
   simp only [zzA, zzB]
   clear hl
   refine .inr ⟨rfl, fun K' hK => ?_⟩
   have HK := Lib.hid hK
   clear hK
   simp only [layS, Act.put, zzC, zzD, zzE, Nat.zero_add, Nat.reduceAdd, e0]
   have E0 := Lib.hid e0
   clear e0
   have c00 := hJ.c0.1
   have c01 := hJ.c0.2.1
   have c02 := hJ.c0.2.2.1
   have c03 := hJ.c0.2.2.2.1
   have c04 := hJ.c0.2.2.2.2.1
   have c05 := hJ.c0.2.2.2.2.2
   have c10 := hJ.c1.1
   have c11 := hJ.c1.2.1
   have c12 := hJ.c1.2.2.1
   have c13 := hJ.c1.2.2.2.1
   have c14 := hJ.c1.2.2.2.2.1
   have c15 := hJ.c1.2.2.2.2.2
   go_simp
   refine (HCX.out W).mono ?_
   rintro e W' ⟨rfl, hB⟩
   exact HK.out _ _ (by simp [layS, updV, lstV, Act.put, E0.out]) (hJ.later hB)
  ·
   clear hd
   simp only [zzA, zzB]
   clear hl
   refine .inr ⟨rfl, fun K' hK => ?_⟩
   have HK := Lib.hid hK
   clear hK
   simp only [layS, Act.put, zzC, zzD, zzE, Nat.zero_add, Nat.reduceAdd]
   have c00 := hJ.c0.1
   have c01 := hJ.c0.2.1
   have c02 := hJ.c0.2.2.1
   have c03 := hJ.c0.2.2.2.1
   have c04 := hJ.c0.2.2.2.2.1
   have c05 := hJ.c0.2.2.2.2.2
   have c10 := hJ.c1.1
   have c11 := hJ.c1.2.1
   have c12 := hJ.c1.2.2.1
   have c13 := hJ.c1.2.2.2.1
   have c14 := hJ.c1.2.2.2.2.1
   have c15 := hJ.c1.2.2.2.2.2
   go_simp
   exact HK.out _ _ (by simp [layS, updV, lstV, Act.put]) hJ
  ·
   have e2 : u 2 = .agg #[.int .i64 y.lo, .int .i64 y.hi, .bool y.all] := hd 2 (by kernel_rfl)
   clear hd
   simp only [zzA, zzB]
   clear hl
   refine .inr ⟨rfl, fun K' hK => ?_⟩
   have HK := Lib.hid hK
   clear hK
   simp only [layS, Act.put, zzC, zzD, zzE, Nat.zero_add, Nat.reduceAdd, e2]
   have E2 := Lib.hid e2
   clear e2
   have c00 := hJ.c0.1
   have c01 := hJ.c0.2.1
   have c02 := hJ.c0.2.2.1
   have c03 := hJ.c0.2.2.2.1
   have c04 := hJ.c0.2.2.2.2.1
   have c05 := hJ.c0.2.2.2.2.2
   have c10 := hJ.c1.1
   have c11 := hJ.c1.2.1
   have c12 := hJ.c1.2.2.1
   have c13 := hJ.c1.2.2.2.1
   have c14 := hJ.c1.2.2.2.2.1
   have c15 := hJ.c1.2.2.2.2.2
   go_simp
   refine (HCY.out W).mono ?_
   rintro e W' ⟨rfl, hB⟩
   exact HK.out _ _ (by simp [layS, updV, lstV, Act.put, E2.out]) (hJ.later hB)
 intro W hJ
 simp only [layS, lstV, Act.put, zzC, zzD, zzE, Nat.zero_add, Nat.reduceAdd, List.getD_cons_zero, List.getD_cons_succ, List.drop_succ_cons, List.drop_zero, List.drop_nil]
 have c00 := hJ.c0.1
 have c01 := hJ.c0.2.1
 have c02 := hJ.c0.2.2.1
 have c03 := hJ.c0.2.2.2.1
 have c04 := hJ.c0.2.2.2.2.1
 have c05 := hJ.c0.2.2.2.2.2
 have c10 := hJ.c1.1
 have c11 := hJ.c1.2.1
 have c12 := hJ.c1.2.2.1
 have c13 := hJ.c1.2.2.2.1
 have c14 := hJ.c1.2.2.2.2.1
 have c15 := hJ.c1.2.2.2.2.2
 go_wp2
 have hJ1 : Bs w _ [x1, y1, ⟨0, 0, false⟩] := (hJ.put 0 (by simp) x1).put 1 (by simp) y1
 simp only [Nat.add_zero] at hJ1
 clear c00 c01 c02 c03 c04 c05 c10 c11 c12 c13 c14 c15 hJ hX
 refine wp_region_vals 8 [some 15, some 16, some 17, some 18, some 19, some 20, some 21, some 22] (lstV [.agg #[.int .i64 x1.lo, .int .i64 x1.hi, .bool x1.all], .agg #[.int .i64 lineS.lo, .int .i64 lineS.hi, .bool lineS.all], .bool true, .bool true, undef, undef, undef, .bool true]) (fun W => Bs w W [x1, y1, ⟨0, 0, false⟩]) (by kernel_rfl) (by kernel_rfl) (by decide) (hJ1.drew) ?_ ?_
 ·
  intro i hl hi u W hJ hd
  obtain rfl | rfl | rfl | rfl | rfl | rfl | rfl | rfl : i = 0 ∨ i = 1 ∨ i = 2 ∨ i = 3 ∨ i = 4 ∨ i = 5 ∨ i = 6 ∨ i = 7 := by omega
  ·
   clear hd
   simp only [zzA, zzB]
   clear hl
   refine .inr ⟨rfl, fun K' hK => ?_⟩
   have HK := Lib.hid hK
   clear hK
   simp only [layS, Act.put, zzC, zzD, zzE, Nat.zero_add, Nat.reduceAdd]
   have c00 := hJ.c0.1
   have c01 := hJ.c0.2.1
   have c02 := hJ.c0.2.2.1
   have c03 := hJ.c0.2.2.2.1
   have c04 := hJ.c0.2.2.2.2.1
   have c05 := hJ.c0.2.2.2.2.2
   have c10 := hJ.c1.1
   have c11 := hJ.c1.2.1
   have c12 := hJ.c1.2.2.1
   have c13 := hJ.c1.2.2.2.1
   have c14 := hJ.c1.2.2.2.2.1
   have c15 := hJ.c1.2.2.2.2.2
   go_simp
   exact HK.out _ _ (by simp [layS, updV, lstV, Act.put]) hJ
  ·
   clear hd
   simp only [zzA, zzB]
   clear hl
   refine .inr ⟨rfl, fun K' hK => ?_⟩
   have HK := Lib.hid hK
   clear hK
   simp only [layS, Act.put, zzC, zzD, zzE, Nat.zero_add, Nat.reduceAdd]
   have c00 := hJ.c0.1
   have c01 := hJ.c0.2.1
   have c02 := hJ.c0.2.2.1
   have c03 := hJ.c0.2.2.2.1
   have c04 := hJ.c0.2.2.2.2.1
   have c05 := hJ.c0.2.2.2.2.2
   have c10 := hJ.c1.1
   have c11 := hJ.c1.2.1
   have c12 := hJ.c1.2.2.1
   have c13 := hJ.c1.2.2.2.1
   have c14 := hJ.c1.2.2.2.2.1
   have c15 := hJ.c1.2.2.2.2.2
   go_simp
   refine (whole_any W).mono ?_
   rintro e W' ⟨rfl, hB⟩
   exact HK.out _ _ (by simp [layS, updV, lstV, Act.put]) (hJ.later hB)
  ·
   have e0 : u 0 = .agg #[.int .i64 x1.lo, .int .i64 x1.hi, .bool x1.all] := hd 0 (by kernel_rfl)
   have e1 : u 1 = .agg #[.int .i64 lineS.lo, .int .i64 lineS.hi, .bool lineS.all] := hd 1 (by kernel_rfl)
   clear hd
   simp only [zzA, zzB]
   clear hl
   refine .inr ⟨rfl, fun K' hK => ?_⟩
   have HK := Lib.hid hK
   clear hK
   simp only [layS, Act.put, zzC, zzD, zzE, Nat.zero_add, Nat.reduceAdd, e0, e1]
   have E0 := Lib.hid e0
   have E1 := Lib.hid e1
   clear e0 e1
   have c00 := hJ.c0.1
   have c01 := hJ.c0.2.1
   have c02 := hJ.c0.2.2.1
   have c03 := hJ.c0.2.2.2.1
   have c04 := hJ.c0.2.2.2.2.1
   have c05 := hJ.c0.2.2.2.2.2
   have c10 := hJ.c1.1
   have c11 := hJ.c1.2.1
   have c12 := hJ.c1.2.2.1
   have c13 := hJ.c1.2.2.2.1
   have c14 := hJ.c1.2.2.2.2.1
   have c15 := hJ.c1.2.2.2.2.2
   go_simp
   exact HK.out _ _ (by simp [layS, updV, lstV, Act.put, E0.out, E1.out]) hJ
  ·
   have e2 : u 2 = .bool true := hd 2 (by kernel_rfl)
   clear hd
   simp only [zzA, zzB]
   clear hl
   refine .inr ⟨rfl, fun K' hK => ?_⟩
   have HK := Lib.hid hK
   clear hK
   simp only [layS, Act.put, zzC, zzD, zzE, Nat.zero_add, Nat.reduceAdd, e2]
   have E2 := Lib.hid e2
   clear e2
   have c00 := hJ.c0.1
   have c01 := hJ.c0.2.1
   have c02 := hJ.c0.2.2.1
   have c03 := hJ.c0.2.2.2.1
   have c04 := hJ.c0.2.2.2.2.1
   have c05 := hJ.c0.2.2.2.2.2
   have c10 := hJ.c1.1
   have c11 := hJ.c1.2.1
   have c12 := hJ.c1.2.2.1
   have c13 := hJ.c1.2.2.2.1
   have c14 := hJ.c1.2.2.2.2.1
   have c15 := hJ.c1.2.2.2.2.2
   go_simp
   exact HK.out _ _ (by simp [layS, updV, lstV, Act.put, E2.out]) hJ
  ·
   have e3 : u 3 = .bool true := hd 3 (by kernel_rfl)
   clear hd
   simp only [zzA, zzB]
   clear hl
   refine .inl ⟨?_, ?_⟩
   ·
    simp [Region.wanted, yielded, layS, Act.put, e3]
   ·
    simp [layS, updV, lstV, Act.put]
  ·
   have e3 : u 3 = .bool true := hd 3 (by kernel_rfl)
   clear hd
   simp only [zzA, zzB]
   clear hl
   refine .inl ⟨?_, ?_⟩
   ·
    simp [Region.wanted, yielded, layS, Act.put, e3]
   ·
    simp [layS, updV, lstV, Act.put]
  ·
   have e3 : u 3 = .bool true := hd 3 (by kernel_rfl)
   have e4 : u 4 = undef := hd 4 (by kernel_rfl)
   have e5 : u 5 = undef := hd 5 (by kernel_rfl)
   clear hd
   simp only [zzA, zzB]
   clear hl
   refine .inl ⟨?_, ?_⟩
   ·
    simp [Region.wanted, yielded, layS, Act.put, e3, e4, e5]
   ·
    simp [layS, updV, lstV, Act.put]
  ·
   have e3 : u 3 = .bool true := hd 3 (by kernel_rfl)
   have e6 : u 6 = undef := hd 6 (by kernel_rfl)
   clear hd
   simp only [zzA, zzB]
   clear hl
   refine .inr ⟨rfl, fun K' hK => ?_⟩
   have HK := Lib.hid hK
   clear hK
   simp only [layS, Act.put, zzC, zzD, zzE, Nat.zero_add, Nat.reduceAdd, e3, e6]
   have E3 := Lib.hid e3
   have E6 := Lib.hid e6
   clear e3 e6
   have c00 := hJ.c0.1
   have c01 := hJ.c0.2.1
   have c02 := hJ.c0.2.2.1
   have c03 := hJ.c0.2.2.2.1
   have c04 := hJ.c0.2.2.2.2.1
   have c05 := hJ.c0.2.2.2.2.2
   have c10 := hJ.c1.1
   have c11 := hJ.c1.2.1
   have c12 := hJ.c1.2.2.1
   have c13 := hJ.c1.2.2.2.1
   have c14 := hJ.c1.2.2.2.2.1
   have c15 := hJ.c1.2.2.2.2.2
   go_simp
   exact HK.out _ _ (by simp [layS, updV, lstV, Act.put, E3.out, E6.out]) hJ
 intro W hJ
 simp only [layS, lstV, Act.put, zzC, zzD, zzE, Nat.zero_add, Nat.reduceAdd, List.getD_cons_zero, List.getD_cons_succ, List.drop_succ_cons, List.drop_zero, List.drop_nil]
 go_wp2_with fail
 refine (whole_any _).mono ?_
 rintro e W2 ⟨rfl, hB⟩
 have hJ2 := hJ.later hB
 have c20 := hJ2.c2.1
 have c21 := hJ2.c2.2.1
 have c22 := hJ2.c2.2.2.1
 have c23 := hJ2.c2.2.2.2.1
 have c24 := hJ2.c2.2.2.2.2.1
 have c25 := hJ2.c2.2.2.2.2.2
 go_wp2
 have hp := hJ2.put 2 (by simp) lineS
 exact bodyPost_ret (v := .agg #[.int .i64 lineS.lo, .int .i64 lineS.hi, .bool lineS.all]) (by simp [results, Tryz.results65, go_sem, c20, c21, c22]) rfl ⟨rfl, hp.below⟩
set_option maxRecDepth 100000 in
set_option maxHeartbeats 3200000 in
theorem fends_no2 (k : FuncId) (x y x1 y1 : Sp) (hcx : ∀ W : World, Calls Tryz.prog 72 #[.agg #[.int .i64 x.lo, .int .i64 x.hi, .bool x.all]] W (PSp x1 W)) (hcy : ∀ W : World, Calls Tryz.prog 72 #[.agg #[.int .i64 y.lo, .int .i64 y.hi, .bool y.all]] W (PSp y1 W)) (hqx : eqS x1.lo x1.hi x1.all lineS.lo lineS.hi lineS.all = false) (hqy : eqS y1.lo y1.hi y1.all lineS.lo lineS.hi lineS.all = true) (w : World) : Calls Tryz.prog 65 #[.agg #[.int .i64 x.lo, .int .i64 x.hi, .bool x.all], .agg #[.int .i64 y.lo, .int .i64 y.hi, .bool y.all], .func (.func k) #[] #[]] w (PSp lineS w) := by
 have HCX := Lib.hid hcx
 clear hcx
 have HCY := Lib.hid hcy
 clear hcy
 go_enter Tryz.func65, Tryz.ntmps65
 go_wp2
 have hX := bs3 w x.lo x.hi x.all y.lo y.hi y.all 0 0 false
 generalize ((w.alloc (.cells #[.int .i64 x.lo, .int .i64 x.hi, .bool x.all] 23)).alloc (.cells #[.int .i64 y.lo, .int .i64 y.hi, .bool y.all] 23)).alloc (.cells #[.int .i64 0, .int .i64 0, .bool false] 23) = w1 at *
 refine wp_region_vals 4 [some 11, some 12, some 13, some 14] (lstV [.agg #[.int .i64 x.lo, .int .i64 x.hi, .bool x.all], .agg #[.int .i64 x1.lo, .int .i64 x1.hi, .bool x1.all], .agg #[.int .i64 y.lo, .int .i64 y.hi, .bool y.all], .agg #[.int .i64 y1.lo, .int .i64 y1.hi, .bool y1.all]]) (fun W => Bs w W [x, y, ⟨0, 0, false⟩]) (by kernel_rfl) (by kernel_rfl) (by decide) (hX.drew) ?_ ?_
 ·
  intro i hl hi u W hJ hd
  obtain rfl | rfl | rfl | rfl : i = 0 ∨ i = 1 ∨ i = 2 ∨ i = 3 := by omega
  ·
   clear hd
   simp only [zzA, zzB]
   clear hl
   refine .inr ⟨rfl, fun K' hK => ?_⟩
   have HK := Lib.hid hK
   clear hK
   simp only [layS, Act.put, zzC, zzD, zzE, Nat.zero_add, Nat.reduceAdd]
   have c00 := hJ.c0.1
   have c01 := hJ.c0.2.1
   have c02 := hJ.c0.2.2.1
   have c03 := hJ.c0.2.2.2.1
   have c04 := hJ.c0.2.2.2.2.1
   have c05 := hJ.c0.2.2.2.2.2
   have c10 := hJ.c1.1
   have c11 := hJ.c1.2.1
   have c12 := hJ.c1.2.2.1
   have c13 := hJ.c1.2.2.2.1
   have c14 := hJ.c1.2.2.2.2.1
   have c15 := hJ.c1.2.2.2.2.2
   go_simp
   exact HK.out _ _ (by simp [layS, updV, lstV, Act.put]) hJ
  ·
   have e0 : u 0 = .agg #[.int .i64 x.lo, .int .i64 x.hi, .bool x.all] := hd 0 (by kernel_rfl)
   clear hd
   simp only [zzA, zzB]
   clear hl
   refine .inr ⟨rfl, fun K' hK => ?_⟩
   have HK := Lib.hid hK
   clear hK
   simp only [layS, Act.put, zzC, zzD, zzE, Nat.zero_add, Nat.reduceAdd, e0]
   have E0 := Lib.hid e0
   clear e0
   have c00 := hJ.c0.1
   have c01 := hJ.c0.2.1
   have c02 := hJ.c0.2.2.1
   have c03 := hJ.c0.2.2.2.1
   have c04 := hJ.c0.2.2.2.2.1
   have c05 := hJ.c0.2.2.2.2.2
   have c10 := hJ.c1.1
   have c11 := hJ.c1.2.1
   have c12 := hJ.c1.2.2.1
   have c13 := hJ.c1.2.2.2.1
   have c14 := hJ.c1.2.2.2.2.1
   have c15 := hJ.c1.2.2.2.2.2
   go_simp
   refine (HCX.out W).mono ?_
   rintro e W' ⟨rfl, hB⟩
   exact HK.out _ _ (by simp [layS, updV, lstV, Act.put, E0.out]) (hJ.later hB)
  ·
   clear hd
   simp only [zzA, zzB]
   clear hl
   refine .inr ⟨rfl, fun K' hK => ?_⟩
   have HK := Lib.hid hK
   clear hK
   simp only [layS, Act.put, zzC, zzD, zzE, Nat.zero_add, Nat.reduceAdd]
   have c00 := hJ.c0.1
   have c01 := hJ.c0.2.1
   have c02 := hJ.c0.2.2.1
   have c03 := hJ.c0.2.2.2.1
   have c04 := hJ.c0.2.2.2.2.1
   have c05 := hJ.c0.2.2.2.2.2
   have c10 := hJ.c1.1
   have c11 := hJ.c1.2.1
   have c12 := hJ.c1.2.2.1
   have c13 := hJ.c1.2.2.2.1
   have c14 := hJ.c1.2.2.2.2.1
   have c15 := hJ.c1.2.2.2.2.2
   go_simp
   exact HK.out _ _ (by simp [layS, updV, lstV, Act.put]) hJ
  ·
   have e2 : u 2 = .agg #[.int .i64 y.lo, .int .i64 y.hi, .bool y.all] := hd 2 (by kernel_rfl)
   clear hd
   simp only [zzA, zzB]
   clear hl
   refine .inr ⟨rfl, fun K' hK => ?_⟩
   have HK := Lib.hid hK
   clear hK
   simp only [layS, Act.put, zzC, zzD, zzE, Nat.zero_add, Nat.reduceAdd, e2]
   have E2 := Lib.hid e2
   clear e2
   have c00 := hJ.c0.1
   have c01 := hJ.c0.2.1
   have c02 := hJ.c0.2.2.1
   have c03 := hJ.c0.2.2.2.1
   have c04 := hJ.c0.2.2.2.2.1
   have c05 := hJ.c0.2.2.2.2.2
   have c10 := hJ.c1.1
   have c11 := hJ.c1.2.1
   have c12 := hJ.c1.2.2.1
   have c13 := hJ.c1.2.2.2.1
   have c14 := hJ.c1.2.2.2.2.1
   have c15 := hJ.c1.2.2.2.2.2
   go_simp
   refine (HCY.out W).mono ?_
   rintro e W' ⟨rfl, hB⟩
   exact HK.out _ _ (by simp [layS, updV, lstV, Act.put, E2.out]) (hJ.later hB)
 intro W hJ
 simp only [layS, lstV, Act.put, zzC, zzD, zzE, Nat.zero_add, Nat.reduceAdd, List.getD_cons_zero, List.getD_cons_succ, List.drop_succ_cons, List.drop_zero, List.drop_nil]
 have c00 := hJ.c0.1
 have c01 := hJ.c0.2.1
 have c02 := hJ.c0.2.2.1
 have c03 := hJ.c0.2.2.2.1
 have c04 := hJ.c0.2.2.2.2.1
 have c05 := hJ.c0.2.2.2.2.2
 have c10 := hJ.c1.1
 have c11 := hJ.c1.2.1
 have c12 := hJ.c1.2.2.1
 have c13 := hJ.c1.2.2.2.1
 have c14 := hJ.c1.2.2.2.2.1
 have c15 := hJ.c1.2.2.2.2.2
 go_wp2
 have hJ1 : Bs w _ [x1, y1, ⟨0, 0, false⟩] := (hJ.put 0 (by simp) x1).put 1 (by simp) y1
 simp only [Nat.add_zero] at hJ1
 clear c00 c01 c02 c03 c04 c05 c10 c11 c12 c13 c14 c15 hJ hX
 refine wp_region_vals 8 [some 15, some 16, some 17, some 18, some 19, some 20, some 21, some 22] (lstV [.agg #[.int .i64 x1.lo, .int .i64 x1.hi, .bool x1.all], .agg #[.int .i64 lineS.lo, .int .i64 lineS.hi, .bool lineS.all], .bool false, .bool false, .agg #[.int .i64 y1.lo, .int .i64 y1.hi, .bool y1.all], .agg #[.int .i64 lineS.lo, .int .i64 lineS.hi, .bool lineS.all], .bool true, .bool true]) (fun W => Bs w W [x1, y1, ⟨0, 0, false⟩]) (by kernel_rfl) (by kernel_rfl) (by decide) (hJ1.drew) ?_ ?_
 ·
  intro i hl hi u W hJ hd
  obtain rfl | rfl | rfl | rfl | rfl | rfl | rfl | rfl : i = 0 ∨ i = 1 ∨ i = 2 ∨ i = 3 ∨ i = 4 ∨ i = 5 ∨ i = 6 ∨ i = 7 := by omega
  ·
   clear hd
   simp only [zzA, zzB]
   clear hl
   refine .inr ⟨rfl, fun K' hK => ?_⟩
   have HK := Lib.hid hK
   clear hK
   simp only [layS, Act.put, zzC, zzD, zzE, Nat.zero_add, Nat.reduceAdd]
   have c00 := hJ.c0.1
   have c01 := hJ.c0.2.1
   have c02 := hJ.c0.2.2.1
   have c03 := hJ.c0.2.2.2.1
   have c04 := hJ.c0.2.2.2.2.1
   have c05 := hJ.c0.2.2.2.2.2
   have c10 := hJ.c1.1
   have c11 := hJ.c1.2.1
   have c12 := hJ.c1.2.2.1
   have c13 := hJ.c1.2.2.2.1
   have c14 := hJ.c1.2.2.2.2.1
   have c15 := hJ.c1.2.2.2.2.2
   go_simp
   exact HK.out _ _ (by simp [layS, updV, lstV, Act.put]) hJ
  ·
   clear hd
   simp only [zzA, zzB]
   clear hl
   refine .inr ⟨rfl, fun K' hK => ?_⟩
   have HK := Lib.hid hK
   clear hK
   simp only [layS, Act.put, zzC, zzD, zzE, Nat.zero_add, Nat.reduceAdd]
   have c00 := hJ.c0.1
   have c01 := hJ.c0.2.1
   have c02 := hJ.c0.2.2.1
   have c03 := hJ.c0.2.2.2.1
   have c04 := hJ.c0.2.2.2.2.1
   have c05 := hJ.c0.2.2.2.2.2
   have c10 := hJ.c1.1
   have c11 := hJ.c1.2.1
   have c12 := hJ.c1.2.2.1
   have c13 := hJ.c1.2.2.2.1
   have c14 := hJ.c1.2.2.2.2.1
   have c15 := hJ.c1.2.2.2.2.2
   go_simp
   refine (whole_any W).mono ?_
   rintro e W' ⟨rfl, hB⟩
   exact HK.out _ _ (by simp [layS, updV, lstV, Act.put]) (hJ.later hB)
  ·
   have e0 : u 0 = .agg #[.int .i64 x1.lo, .int .i64 x1.hi, .bool x1.all] := hd 0 (by kernel_rfl)
   have e1 : u 1 = .agg #[.int .i64 lineS.lo, .int .i64 lineS.hi, .bool lineS.all] := hd 1 (by kernel_rfl)
   clear hd
   simp only [zzA, zzB]
   clear hl
   refine .inr ⟨rfl, fun K' hK => ?_⟩
   have HK := Lib.hid hK
   clear hK
   simp only [layS, Act.put, zzC, zzD, zzE, Nat.zero_add, Nat.reduceAdd, e0, e1]
   have E0 := Lib.hid e0
   have E1 := Lib.hid e1
   clear e0 e1
   have c00 := hJ.c0.1
   have c01 := hJ.c0.2.1
   have c02 := hJ.c0.2.2.1
   have c03 := hJ.c0.2.2.2.1
   have c04 := hJ.c0.2.2.2.2.1
   have c05 := hJ.c0.2.2.2.2.2
   have c10 := hJ.c1.1
   have c11 := hJ.c1.2.1
   have c12 := hJ.c1.2.2.1
   have c13 := hJ.c1.2.2.2.1
   have c14 := hJ.c1.2.2.2.2.1
   have c15 := hJ.c1.2.2.2.2.2
   go_simp
   exact HK.out _ _ (by simp [layS, updV, lstV, Act.put, E0.out, E1.out]) hJ
  ·
   have e2 : u 2 = .bool false := hd 2 (by kernel_rfl)
   clear hd
   simp only [zzA, zzB]
   clear hl
   refine .inr ⟨rfl, fun K' hK => ?_⟩
   have HK := Lib.hid hK
   clear hK
   simp only [layS, Act.put, zzC, zzD, zzE, Nat.zero_add, Nat.reduceAdd, e2]
   have E2 := Lib.hid e2
   clear e2
   have c00 := hJ.c0.1
   have c01 := hJ.c0.2.1
   have c02 := hJ.c0.2.2.1
   have c03 := hJ.c0.2.2.2.1
   have c04 := hJ.c0.2.2.2.2.1
   have c05 := hJ.c0.2.2.2.2.2
   have c10 := hJ.c1.1
   have c11 := hJ.c1.2.1
   have c12 := hJ.c1.2.2.1
   have c13 := hJ.c1.2.2.2.1
   have c14 := hJ.c1.2.2.2.2.1
   have c15 := hJ.c1.2.2.2.2.2
   go_simp
   exact HK.out _ _ (by simp [layS, updV, lstV, Act.put, E2.out]) hJ
  ·
   have e3 : u 3 = .bool false := hd 3 (by kernel_rfl)
   clear hd
   simp only [zzA, zzB]
   clear hl
   refine .inr ⟨?_, fun K' hK => ?_⟩
   ·
    simp [Region.wanted, yielded, layS, Act.put, e3]
   have HK := Lib.hid hK
   clear hK
   simp only [layS, Act.put, zzC, zzD, zzE, Nat.zero_add, Nat.reduceAdd, e3]
   have E3 := Lib.hid e3
   clear e3
   have c00 := hJ.c0.1
   have c01 := hJ.c0.2.1
   have c02 := hJ.c0.2.2.1
   have c03 := hJ.c0.2.2.2.1
   have c04 := hJ.c0.2.2.2.2.1
   have c05 := hJ.c0.2.2.2.2.2
   have c10 := hJ.c1.1
   have c11 := hJ.c1.2.1
   have c12 := hJ.c1.2.2.1
   have c13 := hJ.c1.2.2.2.1
   have c14 := hJ.c1.2.2.2.2.1
   have c15 := hJ.c1.2.2.2.2.2
   go_simp
   exact HK.out _ _ (by simp [layS, updV, lstV, Act.put, E3.out]) hJ
  ·
   have e3 : u 3 = .bool false := hd 3 (by kernel_rfl)
   clear hd
   simp only [zzA, zzB]
   clear hl
   refine .inr ⟨?_, fun K' hK => ?_⟩
   ·
    simp [Region.wanted, yielded, layS, Act.put, e3]
   have HK := Lib.hid hK
   clear hK
   simp only [layS, Act.put, zzC, zzD, zzE, Nat.zero_add, Nat.reduceAdd, e3]
   have E3 := Lib.hid e3
   clear e3
   have c00 := hJ.c0.1
   have c01 := hJ.c0.2.1
   have c02 := hJ.c0.2.2.1
   have c03 := hJ.c0.2.2.2.1
   have c04 := hJ.c0.2.2.2.2.1
   have c05 := hJ.c0.2.2.2.2.2
   have c10 := hJ.c1.1
   have c11 := hJ.c1.2.1
   have c12 := hJ.c1.2.2.1
   have c13 := hJ.c1.2.2.2.1
   have c14 := hJ.c1.2.2.2.2.1
   have c15 := hJ.c1.2.2.2.2.2
   go_simp
   refine (whole_any W).mono ?_
   rintro e W' ⟨rfl, hB⟩
   exact HK.out _ _ (by simp [layS, updV, lstV, Act.put, E3.out]) (hJ.later hB)
  ·
   have e3 : u 3 = .bool false := hd 3 (by kernel_rfl)
   have e4 : u 4 = .agg #[.int .i64 y1.lo, .int .i64 y1.hi, .bool y1.all] := hd 4 (by kernel_rfl)
   have e5 : u 5 = .agg #[.int .i64 lineS.lo, .int .i64 lineS.hi, .bool lineS.all] := hd 5 (by kernel_rfl)
   clear hd
   simp only [zzA, zzB]
   clear hl
   refine .inr ⟨?_, fun K' hK => ?_⟩
   ·
    simp [Region.wanted, yielded, layS, Act.put, e3, e4, e5]
   have HK := Lib.hid hK
   clear hK
   simp only [layS, Act.put, zzC, zzD, zzE, Nat.zero_add, Nat.reduceAdd, e3, e4, e5]
   have E3 := Lib.hid e3
   have E4 := Lib.hid e4
   have E5 := Lib.hid e5
   clear e3 e4 e5
   have c00 := hJ.c0.1
   have c01 := hJ.c0.2.1
   have c02 := hJ.c0.2.2.1
   have c03 := hJ.c0.2.2.2.1
   have c04 := hJ.c0.2.2.2.2.1
   have c05 := hJ.c0.2.2.2.2.2
   have c10 := hJ.c1.1
   have c11 := hJ.c1.2.1
   have c12 := hJ.c1.2.2.1
   have c13 := hJ.c1.2.2.2.1
   have c14 := hJ.c1.2.2.2.2.1
   have c15 := hJ.c1.2.2.2.2.2
   go_simp
   exact HK.out _ _ (by simp [layS, updV, lstV, Act.put, E3.out, E4.out, E5.out]) hJ
  ·
   have e3 : u 3 = .bool false := hd 3 (by kernel_rfl)
   have e6 : u 6 = .bool true := hd 6 (by kernel_rfl)
   clear hd
   simp only [zzA, zzB]
   clear hl
   refine .inr ⟨rfl, fun K' hK => ?_⟩
   have HK := Lib.hid hK
   clear hK
   simp only [layS, Act.put, zzC, zzD, zzE, Nat.zero_add, Nat.reduceAdd, e3, e6]
   have E3 := Lib.hid e3
   have E6 := Lib.hid e6
   clear e3 e6
   have c00 := hJ.c0.1
   have c01 := hJ.c0.2.1
   have c02 := hJ.c0.2.2.1
   have c03 := hJ.c0.2.2.2.1
   have c04 := hJ.c0.2.2.2.2.1
   have c05 := hJ.c0.2.2.2.2.2
   have c10 := hJ.c1.1
   have c11 := hJ.c1.2.1
   have c12 := hJ.c1.2.2.1
   have c13 := hJ.c1.2.2.2.1
   have c14 := hJ.c1.2.2.2.2.1
   have c15 := hJ.c1.2.2.2.2.2
   go_simp
   exact HK.out _ _ (by simp [layS, updV, lstV, Act.put, E3.out, E6.out]) hJ
 intro W hJ
 simp only [layS, lstV, Act.put, zzC, zzD, zzE, Nat.zero_add, Nat.reduceAdd, List.getD_cons_zero, List.getD_cons_succ, List.drop_succ_cons, List.drop_zero, List.drop_nil]
 go_wp2_with fail
 refine (whole_any _).mono ?_
 rintro e W2 ⟨rfl, hB⟩
 have hJ2 := hJ.later hB
 have c20 := hJ2.c2.1
 have c21 := hJ2.c2.2.1
 have c22 := hJ2.c2.2.2.1
 have c23 := hJ2.c2.2.2.2.1
 have c24 := hJ2.c2.2.2.2.2.1
 have c25 := hJ2.c2.2.2.2.2.2
 go_wp2
 have hp := hJ2.put 2 (by simp) lineS
 exact bodyPost_ret (v := .agg #[.int .i64 lineS.lo, .int .i64 lineS.hi, .bool lineS.all]) (by simp [results, Tryz.results65, go_sem, c20, c21, c22]) rfl ⟨rfl, hp.below⟩
set_option maxRecDepth 100000 in
set_option maxHeartbeats 3200000 in
theorem fends_ok (k : FuncId) (x y x1 y1 : Sp) (hcx : ∀ W : World, Calls Tryz.prog 72 #[.agg #[.int .i64 x.lo, .int .i64 x.hi, .bool x.all]] W (PSp x1 W)) (hcy : ∀ W : World, Calls Tryz.prog 72 #[.agg #[.int .i64 y.lo, .int .i64 y.hi, .bool y.all]] W (PSp y1 W)) (hqx : eqS x1.lo x1.hi x1.all lineS.lo lineS.hi lineS.all = false) (hqy : eqS y1.lo y1.hi y1.all lineS.lo lineS.hi lineS.all = false) (hk : ∀ (args : Array Value) (W : World), (callFunc k args).run Tryz.prog W = .ok (.enter k args) W) (r0 r1 r2 r3 : Sp) (hr0 : ∀ W : World, Calls Tryz.prog k #[.int .i64 x1.lo, .int .i64 y1.lo] W (PSp r0 W)) (hr1 : ∀ W : World, Calls Tryz.prog k #[.int .i64 x1.lo, .int .i64 y1.hi] W (PSp r1 W)) (hr2 : ∀ W : World, Calls Tryz.prog k #[.int .i64 x1.hi, .int .i64 y1.lo] W (PSp r2 W)) (hr3 : ∀ W : World, Calls Tryz.prog k #[.int .i64 x1.hi, .int .i64 y1.hi] W (PSp r3 W)) (w : World) : Calls Tryz.prog 65 #[.agg #[.int .i64 x.lo, .int .i64 x.hi, .bool x.all], .agg #[.int .i64 y.lo, .int .i64 y.hi, .bool y.all], .func (.func k) #[] #[]] w (PSp (joinS (joinS (joinS (joinS r0 r0) r1) r2) r3) w) := by
 have HCX := Lib.hid hcx
 clear hcx
 have HCY := Lib.hid hcy
 clear hcy
 have HR0 := Lib.hid hr0
 clear hr0
 have HR1 := Lib.hid hr1
 clear hr1
 have HR2 := Lib.hid hr2
 clear hr2
 have HR3 := Lib.hid hr3
 clear hr3
 go_enter Tryz.func65, Tryz.ntmps65
 go_wp2
 have hX := bs3 w x.lo x.hi x.all y.lo y.hi y.all 0 0 false
 generalize ((w.alloc (.cells #[.int .i64 x.lo, .int .i64 x.hi, .bool x.all] 23)).alloc (.cells #[.int .i64 y.lo, .int .i64 y.hi, .bool y.all] 23)).alloc (.cells #[.int .i64 0, .int .i64 0, .bool false] 23) = w1 at *
 refine wp_region_vals 4 [some 11, some 12, some 13, some 14] (lstV [.agg #[.int .i64 x.lo, .int .i64 x.hi, .bool x.all], .agg #[.int .i64 x1.lo, .int .i64 x1.hi, .bool x1.all], .agg #[.int .i64 y.lo, .int .i64 y.hi, .bool y.all], .agg #[.int .i64 y1.lo, .int .i64 y1.hi, .bool y1.all]]) (fun W => Bs w W [x, y, ⟨0, 0, false⟩]) (by kernel_rfl) (by kernel_rfl) (by decide) (hX.drew) ?_ ?_
 ·
  intro i hl hi u W hJ hd
  obtain rfl | rfl | rfl | rfl : i = 0 ∨ i = 1 ∨ i = 2 ∨ i = 3 := by omega
  ·
   clear hd
   simp only [zzA, zzB]
   clear hl
   refine .inr ⟨rfl, fun K' hK => ?_⟩
   have HK := Lib.hid hK
   clear hK
   simp only [layS, Act.put, zzC, zzD, zzE, Nat.zero_add, Nat.reduceAdd]
   have c00 := hJ.c0.1
   have c01 := hJ.c0.2.1
   have c02 := hJ.c0.2.2.1
   have c03 := hJ.c0.2.2.2.1
   have c04 := hJ.c0.2.2.2.2.1
   have c05 := hJ.c0.2.2.2.2.2
   have c10 := hJ.c1.1
   have c11 := hJ.c1.2.1
   have c12 := hJ.c1.2.2.1
   have c13 := hJ.c1.2.2.2.1
   have c14 := hJ.c1.2.2.2.2.1
   have c15 := hJ.c1.2.2.2.2.2
   go_simp
   exact HK.out _ _ (by simp [layS, updV, lstV, Act.put]) hJ
  ·
   have e0 : u 0 = .agg #[.int .i64 x.lo, .int .i64 x.hi, .bool x.all] := hd 0 (by kernel_rfl)
   clear hd
   simp only [zzA, zzB]
   clear hl
   refine .inr ⟨rfl, fun K' hK => ?_⟩
   have HK := Lib.hid hK
   clear hK
   simp only [layS, Act.put, zzC, zzD, zzE, Nat.zero_add, Nat.reduceAdd, e0]
   have E0 := Lib.hid e0
   clear e0
   have c00 := hJ.c0.1
   have c01 := hJ.c0.2.1
   have c02 := hJ.c0.2.2.1
   have c03 := hJ.c0.2.2.2.1
   have c04 := hJ.c0.2.2.2.2.1
   have c05 := hJ.c0.2.2.2.2.2
   have c10 := hJ.c1.1
   have c11 := hJ.c1.2.1
   have c12 := hJ.c1.2.2.1
   have c13 := hJ.c1.2.2.2.1
   have c14 := hJ.c1.2.2.2.2.1
   have c15 := hJ.c1.2.2.2.2.2
   go_simp
   refine (HCX.out W).mono ?_
   rintro e W' ⟨rfl, hB⟩
   exact HK.out _ _ (by simp [layS, updV, lstV, Act.put, E0.out]) (hJ.later hB)
  ·
   clear hd
   simp only [zzA, zzB]
   clear hl
   refine .inr ⟨rfl, fun K' hK => ?_⟩
   have HK := Lib.hid hK
   clear hK
   simp only [layS, Act.put, zzC, zzD, zzE, Nat.zero_add, Nat.reduceAdd]
   have c00 := hJ.c0.1
   have c01 := hJ.c0.2.1
   have c02 := hJ.c0.2.2.1
   have c03 := hJ.c0.2.2.2.1
   have c04 := hJ.c0.2.2.2.2.1
   have c05 := hJ.c0.2.2.2.2.2
   have c10 := hJ.c1.1
   have c11 := hJ.c1.2.1
   have c12 := hJ.c1.2.2.1
   have c13 := hJ.c1.2.2.2.1
   have c14 := hJ.c1.2.2.2.2.1
   have c15 := hJ.c1.2.2.2.2.2
   go_simp
   exact HK.out _ _ (by simp [layS, updV, lstV, Act.put]) hJ
  ·
   have e2 : u 2 = .agg #[.int .i64 y.lo, .int .i64 y.hi, .bool y.all] := hd 2 (by kernel_rfl)
   clear hd
   simp only [zzA, zzB]
   clear hl
   refine .inr ⟨rfl, fun K' hK => ?_⟩
   have HK := Lib.hid hK
   clear hK
   simp only [layS, Act.put, zzC, zzD, zzE, Nat.zero_add, Nat.reduceAdd, e2]
   have E2 := Lib.hid e2
   clear e2
   have c00 := hJ.c0.1
   have c01 := hJ.c0.2.1
   have c02 := hJ.c0.2.2.1
   have c03 := hJ.c0.2.2.2.1
   have c04 := hJ.c0.2.2.2.2.1
   have c05 := hJ.c0.2.2.2.2.2
   have c10 := hJ.c1.1
   have c11 := hJ.c1.2.1
   have c12 := hJ.c1.2.2.1
   have c13 := hJ.c1.2.2.2.1
   have c14 := hJ.c1.2.2.2.2.1
   have c15 := hJ.c1.2.2.2.2.2
   go_simp
   refine (HCY.out W).mono ?_
   rintro e W' ⟨rfl, hB⟩
   exact HK.out _ _ (by simp [layS, updV, lstV, Act.put, E2.out]) (hJ.later hB)
 intro W hJ
 simp only [layS, lstV, Act.put, zzC, zzD, zzE, Nat.zero_add, Nat.reduceAdd, List.getD_cons_zero, List.getD_cons_succ, List.drop_succ_cons, List.drop_zero, List.drop_nil]
 have c00 := hJ.c0.1
 have c01 := hJ.c0.2.1
 have c02 := hJ.c0.2.2.1
 have c03 := hJ.c0.2.2.2.1
 have c04 := hJ.c0.2.2.2.2.1
 have c05 := hJ.c0.2.2.2.2.2
 have c10 := hJ.c1.1
 have c11 := hJ.c1.2.1
 have c12 := hJ.c1.2.2.1
 have c13 := hJ.c1.2.2.2.1
 have c14 := hJ.c1.2.2.2.2.1
 have c15 := hJ.c1.2.2.2.2.2
 go_wp2
 have hJ1 : Bs w _ [x1, y1, ⟨0, 0, false⟩] := (hJ.put 0 (by simp) x1).put 1 (by simp) y1
 simp only [Nat.add_zero] at hJ1
 clear c00 c01 c02 c03 c04 c05 c10 c11 c12 c13 c14 c15 hJ hX
 refine wp_region_vals 8 [some 15, some 16, some 17, some 18, some 19, some 20, some 21, some 22] (lstV [.agg #[.int .i64 x1.lo, .int .i64 x1.hi, .bool x1.all], .agg #[.int .i64 lineS.lo, .int .i64 lineS.hi, .bool lineS.all], .bool false, .bool false, .agg #[.int .i64 y1.lo, .int .i64 y1.hi, .bool y1.all], .agg #[.int .i64 lineS.lo, .int .i64 lineS.hi, .bool lineS.all], .bool false, .bool false]) (fun W => Bs w W [x1, y1, ⟨0, 0, false⟩]) (by kernel_rfl) (by kernel_rfl) (by decide) (hJ1.drew) ?_ ?_
 ·
  intro i hl hi u W hJ hd
  obtain rfl | rfl | rfl | rfl | rfl | rfl | rfl | rfl : i = 0 ∨ i = 1 ∨ i = 2 ∨ i = 3 ∨ i = 4 ∨ i = 5 ∨ i = 6 ∨ i = 7 := by omega
  ·
   clear hd
   simp only [zzA, zzB]
   clear hl
   refine .inr ⟨rfl, fun K' hK => ?_⟩
   have HK := Lib.hid hK
   clear hK
   simp only [layS, Act.put, zzC, zzD, zzE, Nat.zero_add, Nat.reduceAdd]
   have c00 := hJ.c0.1
   have c01 := hJ.c0.2.1
   have c02 := hJ.c0.2.2.1
   have c03 := hJ.c0.2.2.2.1
   have c04 := hJ.c0.2.2.2.2.1
   have c05 := hJ.c0.2.2.2.2.2
   have c10 := hJ.c1.1
   have c11 := hJ.c1.2.1
   have c12 := hJ.c1.2.2.1
   have c13 := hJ.c1.2.2.2.1
   have c14 := hJ.c1.2.2.2.2.1
   have c15 := hJ.c1.2.2.2.2.2
   go_simp
   exact HK.out _ _ (by simp [layS, updV, lstV, Act.put]) hJ
  ·
   clear hd
   simp only [zzA, zzB]
   clear hl
   refine .inr ⟨rfl, fun K' hK => ?_⟩
   have HK := Lib.hid hK
   clear hK
   simp only [layS, Act.put, zzC, zzD, zzE, Nat.zero_add, Nat.reduceAdd]
   have c00 := hJ.c0.1
   have c01 := hJ.c0.2.1
   have c02 := hJ.c0.2.2.1
   have c03 := hJ.c0.2.2.2.1
   have c04 := hJ.c0.2.2.2.2.1
   have c05 := hJ.c0.2.2.2.2.2
   have c10 := hJ.c1.1
   have c11 := hJ.c1.2.1
   have c12 := hJ.c1.2.2.1
   have c13 := hJ.c1.2.2.2.1
   have c14 := hJ.c1.2.2.2.2.1
   have c15 := hJ.c1.2.2.2.2.2
   go_simp
   refine (whole_any W).mono ?_
   rintro e W' ⟨rfl, hB⟩
   exact HK.out _ _ (by simp [layS, updV, lstV, Act.put]) (hJ.later hB)
  ·
   have e0 : u 0 = .agg #[.int .i64 x1.lo, .int .i64 x1.hi, .bool x1.all] := hd 0 (by kernel_rfl)
   have e1 : u 1 = .agg #[.int .i64 lineS.lo, .int .i64 lineS.hi, .bool lineS.all] := hd 1 (by kernel_rfl)
   clear hd
   simp only [zzA, zzB]
   clear hl
   refine .inr ⟨rfl, fun K' hK => ?_⟩
   have HK := Lib.hid hK
   clear hK
   simp only [layS, Act.put, zzC, zzD, zzE, Nat.zero_add, Nat.reduceAdd, e0, e1]
   have E0 := Lib.hid e0
   have E1 := Lib.hid e1
   clear e0 e1
   have c00 := hJ.c0.1
   have c01 := hJ.c0.2.1
   have c02 := hJ.c0.2.2.1
   have c03 := hJ.c0.2.2.2.1
   have c04 := hJ.c0.2.2.2.2.1
   have c05 := hJ.c0.2.2.2.2.2
   have c10 := hJ.c1.1
   have c11 := hJ.c1.2.1
   have c12 := hJ.c1.2.2.1
   have c13 := hJ.c1.2.2.2.1
   have c14 := hJ.c1.2.2.2.2.1
   have c15 := hJ.c1.2.2.2.2.2
   go_simp
   exact HK.out _ _ (by simp [layS, updV, lstV, Act.put, E0.out, E1.out]) hJ
  ·
   have e2 : u 2 = .bool false := hd 2 (by kernel_rfl)
   clear hd
   simp only [zzA, zzB]
   clear hl
   refine .inr ⟨rfl, fun K' hK => ?_⟩
   have HK := Lib.hid hK
   clear hK
   simp only [layS, Act.put, zzC, zzD, zzE, Nat.zero_add, Nat.reduceAdd, e2]
   have E2 := Lib.hid e2
   clear e2
   have c00 := hJ.c0.1
   have c01 := hJ.c0.2.1
   have c02 := hJ.c0.2.2.1
   have c03 := hJ.c0.2.2.2.1
   have c04 := hJ.c0.2.2.2.2.1
   have c05 := hJ.c0.2.2.2.2.2
   have c10 := hJ.c1.1
   have c11 := hJ.c1.2.1
   have c12 := hJ.c1.2.2.1
   have c13 := hJ.c1.2.2.2.1
   have c14 := hJ.c1.2.2.2.2.1
   have c15 := hJ.c1.2.2.2.2.2
   go_simp
   exact HK.out _ _ (by simp [layS, updV, lstV, Act.put, E2.out]) hJ
  ·
   have e3 : u 3 = .bool false := hd 3 (by kernel_rfl)
   clear hd
   simp only [zzA, zzB]
   clear hl
   refine .inr ⟨?_, fun K' hK => ?_⟩
   ·
    simp [Region.wanted, yielded, layS, Act.put, e3]
   have HK := Lib.hid hK
   clear hK
   simp only [layS, Act.put, zzC, zzD, zzE, Nat.zero_add, Nat.reduceAdd, e3]
   have E3 := Lib.hid e3
   clear e3
   have c00 := hJ.c0.1
   have c01 := hJ.c0.2.1
   have c02 := hJ.c0.2.2.1
   have c03 := hJ.c0.2.2.2.1
   have c04 := hJ.c0.2.2.2.2.1
   have c05 := hJ.c0.2.2.2.2.2
   have c10 := hJ.c1.1
   have c11 := hJ.c1.2.1
   have c12 := hJ.c1.2.2.1
   have c13 := hJ.c1.2.2.2.1
   have c14 := hJ.c1.2.2.2.2.1
   have c15 := hJ.c1.2.2.2.2.2
   go_simp
   exact HK.out _ _ (by simp [layS, updV, lstV, Act.put, E3.out]) hJ
  ·
   have e3 : u 3 = .bool false := hd 3 (by kernel_rfl)
   clear hd
   simp only [zzA, zzB]
   clear hl
   refine .inr ⟨?_, fun K' hK => ?_⟩
   ·
    simp [Region.wanted, yielded, layS, Act.put, e3]
   have HK := Lib.hid hK
   clear hK
   simp only [layS, Act.put, zzC, zzD, zzE, Nat.zero_add, Nat.reduceAdd, e3]
   have E3 := Lib.hid e3
   clear e3
   have c00 := hJ.c0.1
   have c01 := hJ.c0.2.1
   have c02 := hJ.c0.2.2.1
   have c03 := hJ.c0.2.2.2.1
   have c04 := hJ.c0.2.2.2.2.1
   have c05 := hJ.c0.2.2.2.2.2
   have c10 := hJ.c1.1
   have c11 := hJ.c1.2.1
   have c12 := hJ.c1.2.2.1
   have c13 := hJ.c1.2.2.2.1
   have c14 := hJ.c1.2.2.2.2.1
   have c15 := hJ.c1.2.2.2.2.2
   go_simp
   refine (whole_any W).mono ?_
   rintro e W' ⟨rfl, hB⟩
   exact HK.out _ _ (by simp [layS, updV, lstV, Act.put, E3.out]) (hJ.later hB)
  ·
   have e3 : u 3 = .bool false := hd 3 (by kernel_rfl)
   have e4 : u 4 = .agg #[.int .i64 y1.lo, .int .i64 y1.hi, .bool y1.all] := hd 4 (by kernel_rfl)
   have e5 : u 5 = .agg #[.int .i64 lineS.lo, .int .i64 lineS.hi, .bool lineS.all] := hd 5 (by kernel_rfl)
   clear hd
   simp only [zzA, zzB]
   clear hl
   refine .inr ⟨?_, fun K' hK => ?_⟩
   ·
    simp [Region.wanted, yielded, layS, Act.put, e3, e4, e5]
   have HK := Lib.hid hK
   clear hK
   simp only [layS, Act.put, zzC, zzD, zzE, Nat.zero_add, Nat.reduceAdd, e3, e4, e5]
   have E3 := Lib.hid e3
   have E4 := Lib.hid e4
   have E5 := Lib.hid e5
   clear e3 e4 e5
   have c00 := hJ.c0.1
   have c01 := hJ.c0.2.1
   have c02 := hJ.c0.2.2.1
   have c03 := hJ.c0.2.2.2.1
   have c04 := hJ.c0.2.2.2.2.1
   have c05 := hJ.c0.2.2.2.2.2
   have c10 := hJ.c1.1
   have c11 := hJ.c1.2.1
   have c12 := hJ.c1.2.2.1
   have c13 := hJ.c1.2.2.2.1
   have c14 := hJ.c1.2.2.2.2.1
   have c15 := hJ.c1.2.2.2.2.2
   go_simp
   exact HK.out _ _ (by simp [layS, updV, lstV, Act.put, E3.out, E4.out, E5.out]) hJ
  ·
   have e3 : u 3 = .bool false := hd 3 (by kernel_rfl)
   have e6 : u 6 = .bool false := hd 6 (by kernel_rfl)
   clear hd
   simp only [zzA, zzB]
   clear hl
   refine .inr ⟨rfl, fun K' hK => ?_⟩
   have HK := Lib.hid hK
   clear hK
   simp only [layS, Act.put, zzC, zzD, zzE, Nat.zero_add, Nat.reduceAdd, e3, e6]
   have E3 := Lib.hid e3
   have E6 := Lib.hid e6
   clear e3 e6
   have c00 := hJ.c0.1
   have c01 := hJ.c0.2.1
   have c02 := hJ.c0.2.2.1
   have c03 := hJ.c0.2.2.2.1
   have c04 := hJ.c0.2.2.2.2.1
   have c05 := hJ.c0.2.2.2.2.2
   have c10 := hJ.c1.1
   have c11 := hJ.c1.2.1
   have c12 := hJ.c1.2.2.1
   have c13 := hJ.c1.2.2.2.1
   have c14 := hJ.c1.2.2.2.2.1
   have c15 := hJ.c1.2.2.2.2.2
   go_simp
   exact HK.out _ _ (by simp [layS, updV, lstV, Act.put, E3.out, E6.out]) hJ
 intro W hJ
 simp only [layS, lstV, Act.put, zzC, zzD, zzE, Nat.zero_add, Nat.reduceAdd, List.getD_cons_zero, List.getD_cons_succ, List.drop_succ_cons, List.drop_zero, List.drop_nil]
 go_wp2
 refine wp_region_valsA 26 25 [some 24, some 25, some 26, some 27, some 28, some 29, some 30, some 31, some 32, some 33, some 34, some 35, some 36, some 37, some 38, some 39, some 40, some 41, some 42, some 43, some 44, some 45, some 46, some 47, some 48, some 7] (lstV [.func (.func k) #[] #[], .pointer (some ⟨w.heap.size, 0, none⟩), .int .i64 x1.lo, .pointer (some ⟨w.heap.size + 1, 0, none⟩), .int .i64 y1.lo, .agg #[.int .i64 r0.lo, .int .i64 r0.hi, .bool r0.all], .func (.func k) #[] #[], .pointer (some ⟨w.heap.size, 0, none⟩), .int .i64 x1.lo, .pointer (some ⟨w.heap.size + 1, 1, none⟩), .int .i64 y1.hi, .agg #[.int .i64 r1.lo, .int .i64 r1.hi, .bool r1.all], .func (.func k) #[] #[], .pointer (some ⟨w.heap.size, 1, none⟩), .int .i64 x1.hi, .pointer (some ⟨w.heap.size + 1, 0, none⟩), .int .i64 y1.lo, .agg #[.int .i64 r2.lo, .int .i64 r2.hi, .bool r2.all], .func (.func k) #[] #[], .pointer (some ⟨w.heap.size, 1, none⟩), .int .i64 x1.hi, .pointer (some ⟨w.heap.size + 1, 1, none⟩), .int .i64 y1.hi, .agg #[.int .i64 r3.lo, .int .i64 r3.hi, .bool r3.all], .agg #[.int .i64 r0.lo, .int .i64 r0.hi, .bool r0.all, .int .i64 r1.lo, .int .i64 r1.hi, .bool r1.all, .int .i64 r2.lo, .int .i64 r2.hi, .bool r2.all, .int .i64 r3.lo, .int .i64 r3.hi, .bool r3.all], undef]) (fun W => Bs w W [x1, y1, ⟨0, 0, false⟩]) (Abox (w.heap.size + 3) #[.int .i64 0, .int .i64 0, .bool false, .int .i64 0, .int .i64 0, .bool false, .int .i64 0, .int .i64 0, .bool false, .int .i64 0, .int .i64 0, .bool false] 94) (by kernel_rfl) (by kernel_rfl) (by decide) (by decide) (hJ.drew) ?_ ?_ ?_
 ·
  intro hl u W hJ
  simp only [zzA, zzB]
  clear hl
  refine ⟨rfl, fun K' hK => ?_⟩
  have HK := Lib.hid hK
  clear hK
  simp only [layS, Act.put, zzC, zzD, zzE, Nat.zero_add, Nat.reduceAdd]
  go_simp
  exact HK.out _ _ (.pointer (some ⟨W.heap.size, 0, none⟩)) (by simp [layS, updV, lstV, Act.put]) (hJ.later ((Below.refl _ _).alloc (Nat.le_refl _) _)) (abox_new hJ.sz)
 ·
  intro i hl hi hne u W hJ hd
  obtain rfl | rfl | rfl | rfl | rfl | rfl | rfl | rfl | rfl | rfl | rfl | rfl | rfl | rfl | rfl | rfl | rfl | rfl | rfl | rfl | rfl | rfl | rfl | rfl | rfl | rfl : i = 0 ∨ i = 1 ∨ i = 2 ∨ i = 3 ∨ i = 4 ∨ i = 5 ∨ i = 6 ∨ i = 7 ∨ i = 8 ∨ i = 9 ∨ i = 10 ∨ i = 11 ∨ i = 12 ∨ i = 13 ∨ i = 14 ∨ i = 15 ∨ i = 16 ∨ i = 17 ∨ i = 18 ∨ i = 19 ∨ i = 20 ∨ i = 21 ∨ i = 22 ∨ i = 23 ∨ i = 24 ∨ i = 25 := by omega
  ·
   clear hd
   simp only [zzA, zzB]
   clear hl hne
   refine .inr ⟨rfl, fun K' hK => ?_⟩
   have HK := Lib.hid hK
   clear hK
   simp only [layS, Act.put, zzC, zzD, zzE, Nat.zero_add, Nat.reduceAdd]
   have c00 := hJ.c0.1
   have c01 := hJ.c0.2.1
   have c02 := hJ.c0.2.2.1
   have c03 := hJ.c0.2.2.2.1
   have c04 := hJ.c0.2.2.2.2.1
   have c05 := hJ.c0.2.2.2.2.2
   have c10 := hJ.c1.1
   have c11 := hJ.c1.2.1
   have c12 := hJ.c1.2.2.1
   have c13 := hJ.c1.2.2.2.1
   have c14 := hJ.c1.2.2.2.2.1
   have c15 := hJ.c1.2.2.2.2.2
   go_simp
   exact HK.out _ _ (by simp [layS, updV, lstV, Act.put]) hJ (fun v hv => hv)
  ·
   clear hd
   simp only [zzA, zzB]
   clear hl hne
   refine .inr ⟨rfl, fun K' hK => ?_⟩
   have HK := Lib.hid hK
   clear hK
   simp only [layS, Act.put, zzC, zzD, zzE, Nat.zero_add, Nat.reduceAdd]
   have c00 := hJ.c0.1
   have c01 := hJ.c0.2.1
   have c02 := hJ.c0.2.2.1
   have c03 := hJ.c0.2.2.2.1
   have c04 := hJ.c0.2.2.2.2.1
   have c05 := hJ.c0.2.2.2.2.2
   have c10 := hJ.c1.1
   have c11 := hJ.c1.2.1
   have c12 := hJ.c1.2.2.1
   have c13 := hJ.c1.2.2.2.1
   have c14 := hJ.c1.2.2.2.2.1
   have c15 := hJ.c1.2.2.2.2.2
   go_simp
   exact HK.out _ _ (by simp [layS, updV, lstV, Act.put]) hJ (fun v hv => hv)
  ·
   have e1 : u 1 = .pointer (some ⟨w.heap.size, 0, none⟩) := hd 1 (by decide) (by kernel_rfl)
   clear hd
   simp only [zzA, zzB]
   clear hl hne
   refine .inr ⟨rfl, fun K' hK => ?_⟩
   have HK := Lib.hid hK
   clear hK
   simp only [layS, Act.put, zzC, zzD, zzE, Nat.zero_add, Nat.reduceAdd, e1]
   have E1 := Lib.hid e1
   clear e1
   have c00 := hJ.c0.1
   have c01 := hJ.c0.2.1
   have c02 := hJ.c0.2.2.1
   have c03 := hJ.c0.2.2.2.1
   have c04 := hJ.c0.2.2.2.2.1
   have c05 := hJ.c0.2.2.2.2.2
   have c10 := hJ.c1.1
   have c11 := hJ.c1.2.1
   have c12 := hJ.c1.2.2.1
   have c13 := hJ.c1.2.2.2.1
   have c14 := hJ.c1.2.2.2.2.1
   have c15 := hJ.c1.2.2.2.2.2
   go_simp
   exact HK.out _ _ (by simp [layS, updV, lstV, Act.put, E1.out]) hJ (fun v hv => hv)
  ·
   clear hd
   simp only [zzA, zzB]
   clear hl hne
   refine .inr ⟨rfl, fun K' hK => ?_⟩
   have HK := Lib.hid hK
   clear hK
   simp only [layS, Act.put, zzC, zzD, zzE, Nat.zero_add, Nat.reduceAdd]
   have c00 := hJ.c0.1
   have c01 := hJ.c0.2.1
   have c02 := hJ.c0.2.2.1
   have c03 := hJ.c0.2.2.2.1
   have c04 := hJ.c0.2.2.2.2.1
   have c05 := hJ.c0.2.2.2.2.2
   have c10 := hJ.c1.1
   have c11 := hJ.c1.2.1
   have c12 := hJ.c1.2.2.1
   have c13 := hJ.c1.2.2.2.1
   have c14 := hJ.c1.2.2.2.2.1
   have c15 := hJ.c1.2.2.2.2.2
   go_simp
   exact HK.out _ _ (by simp [layS, updV, lstV, Act.put]) hJ (fun v hv => hv)
  ·
   have e3 : u 3 = .pointer (some ⟨w.heap.size + 1, 0, none⟩) := hd 3 (by decide) (by kernel_rfl)
   clear hd
   simp only [zzA, zzB]
   clear hl hne
   refine .inr ⟨rfl, fun K' hK => ?_⟩
   have HK := Lib.hid hK
   clear hK
   simp only [layS, Act.put, zzC, zzD, zzE, Nat.zero_add, Nat.reduceAdd, e3]
   have E3 := Lib.hid e3
   clear e3
   have c00 := hJ.c0.1
   have c01 := hJ.c0.2.1
   have c02 := hJ.c0.2.2.1
   have c03 := hJ.c0.2.2.2.1
   have c04 := hJ.c0.2.2.2.2.1
   have c05 := hJ.c0.2.2.2.2.2
   have c10 := hJ.c1.1
   have c11 := hJ.c1.2.1
   have c12 := hJ.c1.2.2.1
   have c13 := hJ.c1.2.2.2.1
   have c14 := hJ.c1.2.2.2.2.1
   have c15 := hJ.c1.2.2.2.2.2
   go_simp
   exact HK.out _ _ (by simp [layS, updV, lstV, Act.put, E3.out]) hJ (fun v hv => hv)
  ·
   have e0 : u 0 = .func (.func k) #[] #[] := hd 0 (by decide) (by kernel_rfl)
   have e2 : u 2 = .int .i64 x1.lo := hd 2 (by decide) (by kernel_rfl)
   have e4 : u 4 = .int .i64 y1.lo := hd 4 (by decide) (by kernel_rfl)
   clear hd
   simp only [zzA, zzB]
   clear hl hne
   refine .inr ⟨rfl, fun K' hK => ?_⟩
   have HK := Lib.hid hK
   clear hK
   simp only [layS, Act.put, zzC, zzD, zzE, Nat.zero_add, Nat.reduceAdd, e0, e2, e4]
   have E0 := Lib.hid e0
   have E2 := Lib.hid e2
   have E4 := Lib.hid e4
   clear e0 e2 e4
   have c00 := hJ.c0.1
   have c01 := hJ.c0.2.1
   have c02 := hJ.c0.2.2.1
   have c03 := hJ.c0.2.2.2.1
   have c04 := hJ.c0.2.2.2.2.1
   have c05 := hJ.c0.2.2.2.2.2
   have c10 := hJ.c1.1
   have c11 := hJ.c1.2.1
   have c12 := hJ.c1.2.2.1
   have c13 := hJ.c1.2.2.2.1
   have c14 := hJ.c1.2.2.2.2.1
   have c15 := hJ.c1.2.2.2.2.2
   go_simp
   refine (HR0.out W).mono ?_
   rintro e W' ⟨rfl, hB⟩
   exact HK.out _ _ (by simp [layS, updV, lstV, Act.put, E0.out, E2.out, E4.out]) (hJ.later hB) (fun v hv => hv.later hB)
  ·
   clear hd
   simp only [zzA, zzB]
   clear hl hne
   refine .inr ⟨rfl, fun K' hK => ?_⟩
   have HK := Lib.hid hK
   clear hK
   simp only [layS, Act.put, zzC, zzD, zzE, Nat.zero_add, Nat.reduceAdd]
   have c00 := hJ.c0.1
   have c01 := hJ.c0.2.1
   have c02 := hJ.c0.2.2.1
   have c03 := hJ.c0.2.2.2.1
   have c04 := hJ.c0.2.2.2.2.1
   have c05 := hJ.c0.2.2.2.2.2
   have c10 := hJ.c1.1
   have c11 := hJ.c1.2.1
   have c12 := hJ.c1.2.2.1
   have c13 := hJ.c1.2.2.2.1
   have c14 := hJ.c1.2.2.2.2.1
   have c15 := hJ.c1.2.2.2.2.2
   go_simp
   exact HK.out _ _ (by simp [layS, updV, lstV, Act.put]) hJ (fun v hv => hv)
  ·
   clear hd
   simp only [zzA, zzB]
   clear hl hne
   refine .inr ⟨rfl, fun K' hK => ?_⟩
   have HK := Lib.hid hK
   clear hK
   simp only [layS, Act.put, zzC, zzD, zzE, Nat.zero_add, Nat.reduceAdd]
   have c00 := hJ.c0.1
   have c01 := hJ.c0.2.1
   have c02 := hJ.c0.2.2.1
   have c03 := hJ.c0.2.2.2.1
   have c04 := hJ.c0.2.2.2.2.1
   have c05 := hJ.c0.2.2.2.2.2
   have c10 := hJ.c1.1
   have c11 := hJ.c1.2.1
   have c12 := hJ.c1.2.2.1
   have c13 := hJ.c1.2.2.2.1
   have c14 := hJ.c1.2.2.2.2.1
   have c15 := hJ.c1.2.2.2.2.2
   go_simp
   exact HK.out _ _ (by simp [layS, updV, lstV, Act.put]) hJ (fun v hv => hv)
  ·
   have e7 : u 7 = .pointer (some ⟨w.heap.size, 0, none⟩) := hd 7 (by decide) (by kernel_rfl)
   clear hd
   simp only [zzA, zzB]
   clear hl hne
   refine .inr ⟨rfl, fun K' hK => ?_⟩
   have HK := Lib.hid hK
   clear hK
   simp only [layS, Act.put, zzC, zzD, zzE, Nat.zero_add, Nat.reduceAdd, e7]
   have E7 := Lib.hid e7
   clear e7
   have c00 := hJ.c0.1
   have c01 := hJ.c0.2.1
   have c02 := hJ.c0.2.2.1
   have c03 := hJ.c0.2.2.2.1
   have c04 := hJ.c0.2.2.2.2.1
   have c05 := hJ.c0.2.2.2.2.2
   have c10 := hJ.c1.1
   have c11 := hJ.c1.2.1
   have c12 := hJ.c1.2.2.1
   have c13 := hJ.c1.2.2.2.1
   have c14 := hJ.c1.2.2.2.2.1
   have c15 := hJ.c1.2.2.2.2.2
   go_simp
   exact HK.out _ _ (by simp [layS, updV, lstV, Act.put, E7.out]) hJ (fun v hv => hv)
  ·
   clear hd
   simp only [zzA, zzB]
   clear hl hne
   refine .inr ⟨rfl, fun K' hK => ?_⟩
   have HK := Lib.hid hK
   clear hK
   simp only [layS, Act.put, zzC, zzD, zzE, Nat.zero_add, Nat.reduceAdd]
   have c00 := hJ.c0.1
   have c01 := hJ.c0.2.1
   have c02 := hJ.c0.2.2.1
   have c03 := hJ.c0.2.2.2.1
   have c04 := hJ.c0.2.2.2.2.1
   have c05 := hJ.c0.2.2.2.2.2
   have c10 := hJ.c1.1
   have c11 := hJ.c1.2.1
   have c12 := hJ.c1.2.2.1
   have c13 := hJ.c1.2.2.2.1
   have c14 := hJ.c1.2.2.2.2.1
   have c15 := hJ.c1.2.2.2.2.2
   go_simp
   exact HK.out _ _ (by simp [layS, updV, lstV, Act.put]) hJ (fun v hv => hv)
  ·
   have e9 : u 9 = .pointer (some ⟨w.heap.size + 1, 1, none⟩) := hd 9 (by decide) (by kernel_rfl)
   clear hd
   simp only [zzA, zzB]
   clear hl hne
   refine .inr ⟨rfl, fun K' hK => ?_⟩
   have HK := Lib.hid hK
   clear hK
   simp only [layS, Act.put, zzC, zzD, zzE, Nat.zero_add, Nat.reduceAdd, e9]
   have E9 := Lib.hid e9
   clear e9
   have c00 := hJ.c0.1
   have c01 := hJ.c0.2.1
   have c02 := hJ.c0.2.2.1
   have c03 := hJ.c0.2.2.2.1
   have c04 := hJ.c0.2.2.2.2.1
   have c05 := hJ.c0.2.2.2.2.2
   have c10 := hJ.c1.1
   have c11 := hJ.c1.2.1
   have c12 := hJ.c1.2.2.1
   have c13 := hJ.c1.2.2.2.1
   have c14 := hJ.c1.2.2.2.2.1
   have c15 := hJ.c1.2.2.2.2.2
   go_simp
   exact HK.out _ _ (by simp [layS, updV, lstV, Act.put, E9.out]) hJ (fun v hv => hv)
  ·
   have e6 : u 6 = .func (.func k) #[] #[] := hd 6 (by decide) (by kernel_rfl)
   have e8 : u 8 = .int .i64 x1.lo := hd 8 (by decide) (by kernel_rfl)
   have e10 : u 10 = .int .i64 y1.hi := hd 10 (by decide) (by kernel_rfl)
   clear hd
   simp only [zzA, zzB]
   clear hl hne
   refine .inr ⟨rfl, fun K' hK => ?_⟩
   have HK := Lib.hid hK
   clear hK
   simp only [layS, Act.put, zzC, zzD, zzE, Nat.zero_add, Nat.reduceAdd, e6, e8, e10]
   have E6 := Lib.hid e6
   have E8 := Lib.hid e8
   have E10 := Lib.hid e10
   clear e6 e8 e10
   have c00 := hJ.c0.1
   have c01 := hJ.c0.2.1
   have c02 := hJ.c0.2.2.1
   have c03 := hJ.c0.2.2.2.1
   have c04 := hJ.c0.2.2.2.2.1
   have c05 := hJ.c0.2.2.2.2.2
   have c10 := hJ.c1.1
   have c11 := hJ.c1.2.1
   have c12 := hJ.c1.2.2.1
   have c13 := hJ.c1.2.2.2.1
   have c14 := hJ.c1.2.2.2.2.1
   have c15 := hJ.c1.2.2.2.2.2
   go_simp
   refine (HR1.out W).mono ?_
   rintro e W' ⟨rfl, hB⟩
   exact HK.out _ _ (by simp [layS, updV, lstV, Act.put, E6.out, E8.out, E10.out]) (hJ.later hB) (fun v hv => hv.later hB)
  ·
   clear hd
   simp only [zzA, zzB]
   clear hl hne
   refine .inr ⟨rfl, fun K' hK => ?_⟩
   have HK := Lib.hid hK
   clear hK
   simp only [layS, Act.put, zzC, zzD, zzE, Nat.zero_add, Nat.reduceAdd]
   have c00 := hJ.c0.1
   have c01 := hJ.c0.2.1
   have c02 := hJ.c0.2.2.1
   have c03 := hJ.c0.2.2.2.1
   have c04 := hJ.c0.2.2.2.2.1
   have c05 := hJ.c0.2.2.2.2.2
   have c10 := hJ.c1.1
   have c11 := hJ.c1.2.1
   have c12 := hJ.c1.2.2.1
   have c13 := hJ.c1.2.2.2.1
   have c14 := hJ.c1.2.2.2.2.1
   have c15 := hJ.c1.2.2.2.2.2
   go_simp
   exact HK.out _ _ (by simp [layS, updV, lstV, Act.put]) hJ (fun v hv => hv)
  ·
   clear hd
   simp only [zzA, zzB]
   clear hl hne
   refine .inr ⟨rfl, fun K' hK => ?_⟩
   have HK := Lib.hid hK
   clear hK
   simp only [layS, Act.put, zzC, zzD, zzE, Nat.zero_add, Nat.reduceAdd]
   have c00 := hJ.c0.1
   have c01 := hJ.c0.2.1
   have c02 := hJ.c0.2.2.1
   have c03 := hJ.c0.2.2.2.1
   have c04 := hJ.c0.2.2.2.2.1
   have c05 := hJ.c0.2.2.2.2.2
   have c10 := hJ.c1.1
   have c11 := hJ.c1.2.1
   have c12 := hJ.c1.2.2.1
   have c13 := hJ.c1.2.2.2.1
   have c14 := hJ.c1.2.2.2.2.1
   have c15 := hJ.c1.2.2.2.2.2
   go_simp
   exact HK.out _ _ (by simp [layS, updV, lstV, Act.put]) hJ (fun v hv => hv)
  ·
   have e13 : u 13 = .pointer (some ⟨w.heap.size, 1, none⟩) := hd 13 (by decide) (by kernel_rfl)
   clear hd
   simp only [zzA, zzB]
   clear hl hne
   refine .inr ⟨rfl, fun K' hK => ?_⟩
   have HK := Lib.hid hK
   clear hK
   simp only [layS, Act.put, zzC, zzD, zzE, Nat.zero_add, Nat.reduceAdd, e13]
   have E13 := Lib.hid e13
   clear e13
   have c00 := hJ.c0.1
   have c01 := hJ.c0.2.1
   have c02 := hJ.c0.2.2.1
   have c03 := hJ.c0.2.2.2.1
   have c04 := hJ.c0.2.2.2.2.1
   have c05 := hJ.c0.2.2.2.2.2
   have c10 := hJ.c1.1
   have c11 := hJ.c1.2.1
   have c12 := hJ.c1.2.2.1
   have c13 := hJ.c1.2.2.2.1
   have c14 := hJ.c1.2.2.2.2.1
   have c15 := hJ.c1.2.2.2.2.2
   go_simp
   exact HK.out _ _ (by simp [layS, updV, lstV, Act.put, E13.out]) hJ (fun v hv => hv)
  ·
   clear hd
   simp only [zzA, zzB]
   clear hl hne
   refine .inr ⟨rfl, fun K' hK => ?_⟩
   have HK := Lib.hid hK
   clear hK
   simp only [layS, Act.put, zzC, zzD, zzE, Nat.zero_add, Nat.reduceAdd]
   have c00 := hJ.c0.1
   have c01 := hJ.c0.2.1
   have c02 := hJ.c0.2.2.1
   have c03 := hJ.c0.2.2.2.1
   have c04 := hJ.c0.2.2.2.2.1
   have c05 := hJ.c0.2.2.2.2.2
   have c10 := hJ.c1.1
   have c11 := hJ.c1.2.1
   have c12 := hJ.c1.2.2.1
   have c13 := hJ.c1.2.2.2.1
   have c14 := hJ.c1.2.2.2.2.1
   have c15 := hJ.c1.2.2.2.2.2
   go_simp
   exact HK.out _ _ (by simp [layS, updV, lstV, Act.put]) hJ (fun v hv => hv)
  ·
   have e15 : u 15 = .pointer (some ⟨w.heap.size + 1, 0, none⟩) := hd 15 (by decide) (by kernel_rfl)
   clear hd
   simp only [zzA, zzB]
   clear hl hne
   refine .inr ⟨rfl, fun K' hK => ?_⟩
   have HK := Lib.hid hK
   clear hK
   simp only [layS, Act.put, zzC, zzD, zzE, Nat.zero_add, Nat.reduceAdd, e15]
   have E15 := Lib.hid e15
   clear e15
   have c00 := hJ.c0.1
   have c01 := hJ.c0.2.1
   have c02 := hJ.c0.2.2.1
   have c03 := hJ.c0.2.2.2.1
   have c04 := hJ.c0.2.2.2.2.1
   have c05 := hJ.c0.2.2.2.2.2
   have c10 := hJ.c1.1
   have c11 := hJ.c1.2.1
   have c12 := hJ.c1.2.2.1
   have c13 := hJ.c1.2.2.2.1
   have c14 := hJ.c1.2.2.2.2.1
   have c15 := hJ.c1.2.2.2.2.2
   go_simp
   exact HK.out _ _ (by simp [layS, updV, lstV, Act.put, E15.out]) hJ (fun v hv => hv)
  ·
   have e12 : u 12 = .func (.func k) #[] #[] := hd 12 (by decide) (by kernel_rfl)
   have e14 : u 14 = .int .i64 x1.hi := hd 14 (by decide) (by kernel_rfl)
   have e16 : u 16 = .int .i64 y1.lo := hd 16 (by decide) (by kernel_rfl)
   clear hd
   simp only [zzA, zzB]
   clear hl hne
   refine .inr ⟨rfl, fun K' hK => ?_⟩
   have HK := Lib.hid hK
   clear hK
   simp only [layS, Act.put, zzC, zzD, zzE, Nat.zero_add, Nat.reduceAdd, e12, e14, e16]
   have E12 := Lib.hid e12
   have E14 := Lib.hid e14
   have E16 := Lib.hid e16
   clear e12 e14 e16
   have c00 := hJ.c0.1
   have c01 := hJ.c0.2.1
   have c02 := hJ.c0.2.2.1
   have c03 := hJ.c0.2.2.2.1
   have c04 := hJ.c0.2.2.2.2.1
   have c05 := hJ.c0.2.2.2.2.2
   have c10 := hJ.c1.1
   have c11 := hJ.c1.2.1
   have c12 := hJ.c1.2.2.1
   have c13 := hJ.c1.2.2.2.1
   have c14 := hJ.c1.2.2.2.2.1
   have c15 := hJ.c1.2.2.2.2.2
   go_simp
   refine (HR2.out W).mono ?_
   rintro e W' ⟨rfl, hB⟩
   exact HK.out _ _ (by simp [layS, updV, lstV, Act.put, E12.out, E14.out, E16.out]) (hJ.later hB) (fun v hv => hv.later hB)
  ·
   clear hd
   simp only [zzA, zzB]
   clear hl hne
   refine .inr ⟨rfl, fun K' hK => ?_⟩
   have HK := Lib.hid hK
   clear hK
   simp only [layS, Act.put, zzC, zzD, zzE, Nat.zero_add, Nat.reduceAdd]
   have c00 := hJ.c0.1
   have c01 := hJ.c0.2.1
   have c02 := hJ.c0.2.2.1
   have c03 := hJ.c0.2.2.2.1
   have c04 := hJ.c0.2.2.2.2.1
   have c05 := hJ.c0.2.2.2.2.2
   have c10 := hJ.c1.1
   have c11 := hJ.c1.2.1
   have c12 := hJ.c1.2.2.1
   have c13 := hJ.c1.2.2.2.1
   have c14 := hJ.c1.2.2.2.2.1
   have c15 := hJ.c1.2.2.2.2.2
   go_simp
   exact HK.out _ _ (by simp [layS, updV, lstV, Act.put]) hJ (fun v hv => hv)
  ·
   clear hd
   simp only [zzA, zzB]
   clear hl hne
   refine .inr ⟨rfl, fun K' hK => ?_⟩
   have HK := Lib.hid hK
   clear hK
   simp only [layS, Act.put, zzC, zzD, zzE, Nat.zero_add, Nat.reduceAdd]
   have c00 := hJ.c0.1
   have c01 := hJ.c0.2.1
   have c02 := hJ.c0.2.2.1
   have c03 := hJ.c0.2.2.2.1
   have c04 := hJ.c0.2.2.2.2.1
   have c05 := hJ.c0.2.2.2.2.2
   have c10 := hJ.c1.1
   have c11 := hJ.c1.2.1
   have c12 := hJ.c1.2.2.1
   have c13 := hJ.c1.2.2.2.1
   have c14 := hJ.c1.2.2.2.2.1
   have c15 := hJ.c1.2.2.2.2.2
   go_simp
   exact HK.out _ _ (by simp [layS, updV, lstV, Act.put]) hJ (fun v hv => hv)
  ·
   have e19 : u 19 = .pointer (some ⟨w.heap.size, 1, none⟩) := hd 19 (by decide) (by kernel_rfl)
   clear hd
   simp only [zzA, zzB]
   clear hl hne
   refine .inr ⟨rfl, fun K' hK => ?_⟩
   have HK := Lib.hid hK
   clear hK
   simp only [layS, Act.put, zzC, zzD, zzE, Nat.zero_add, Nat.reduceAdd, e19]
   have E19 := Lib.hid e19
   clear e19
   have c00 := hJ.c0.1
   have c01 := hJ.c0.2.1
   have c02 := hJ.c0.2.2.1
   have c03 := hJ.c0.2.2.2.1
   have c04 := hJ.c0.2.2.2.2.1
   have c05 := hJ.c0.2.2.2.2.2
   have c10 := hJ.c1.1
   have c11 := hJ.c1.2.1
   have c12 := hJ.c1.2.2.1
   have c13 := hJ.c1.2.2.2.1
   have c14 := hJ.c1.2.2.2.2.1
   have c15 := hJ.c1.2.2.2.2.2
   go_simp
   exact HK.out _ _ (by simp [layS, updV, lstV, Act.put, E19.out]) hJ (fun v hv => hv)
  ·
   clear hd
   simp only [zzA, zzB]
   clear hl hne
   refine .inr ⟨rfl, fun K' hK => ?_⟩
   have HK := Lib.hid hK
   clear hK
   simp only [layS, Act.put, zzC, zzD, zzE, Nat.zero_add, Nat.reduceAdd]
   have c00 := hJ.c0.1
   have c01 := hJ.c0.2.1
   have c02 := hJ.c0.2.2.1
   have c03 := hJ.c0.2.2.2.1
   have c04 := hJ.c0.2.2.2.2.1
   have c05 := hJ.c0.2.2.2.2.2
   have c10 := hJ.c1.1
   have c11 := hJ.c1.2.1
   have c12 := hJ.c1.2.2.1
   have c13 := hJ.c1.2.2.2.1
   have c14 := hJ.c1.2.2.2.2.1
   have c15 := hJ.c1.2.2.2.2.2
   go_simp
   exact HK.out _ _ (by simp [layS, updV, lstV, Act.put]) hJ (fun v hv => hv)
  ·
   have e21 : u 21 = .pointer (some ⟨w.heap.size + 1, 1, none⟩) := hd 21 (by decide) (by kernel_rfl)
   clear hd
   simp only [zzA, zzB]
   clear hl hne
   refine .inr ⟨rfl, fun K' hK => ?_⟩
   have HK := Lib.hid hK
   clear hK
   simp only [layS, Act.put, zzC, zzD, zzE, Nat.zero_add, Nat.reduceAdd, e21]
   have E21 := Lib.hid e21
   clear e21
   have c00 := hJ.c0.1
   have c01 := hJ.c0.2.1
   have c02 := hJ.c0.2.2.1
   have c03 := hJ.c0.2.2.2.1
   have c04 := hJ.c0.2.2.2.2.1
   have c05 := hJ.c0.2.2.2.2.2
   have c10 := hJ.c1.1
   have c11 := hJ.c1.2.1
   have c12 := hJ.c1.2.2.1
   have c13 := hJ.c1.2.2.2.1
   have c14 := hJ.c1.2.2.2.2.1
   have c15 := hJ.c1.2.2.2.2.2
   go_simp
   exact HK.out _ _ (by simp [layS, updV, lstV, Act.put, E21.out]) hJ (fun v hv => hv)
  ·
   have e18 : u 18 = .func (.func k) #[] #[] := hd 18 (by decide) (by kernel_rfl)
   have e20 : u 20 = .int .i64 x1.hi := hd 20 (by decide) (by kernel_rfl)
   have e22 : u 22 = .int .i64 y1.hi := hd 22 (by decide) (by kernel_rfl)
   clear hd
   simp only [zzA, zzB]
   clear hl hne
   refine .inr ⟨rfl, fun K' hK => ?_⟩
   have HK := Lib.hid hK
   clear hK
   simp only [layS, Act.put, zzC, zzD, zzE, Nat.zero_add, Nat.reduceAdd, e18, e20, e22]
   have E18 := Lib.hid e18
   have E20 := Lib.hid e20
   have E22 := Lib.hid e22
   clear e18 e20 e22
   have c00 := hJ.c0.1
   have c01 := hJ.c0.2.1
   have c02 := hJ.c0.2.2.1
   have c03 := hJ.c0.2.2.2.1
   have c04 := hJ.c0.2.2.2.2.1
   have c05 := hJ.c0.2.2.2.2.2
   have c10 := hJ.c1.1
   have c11 := hJ.c1.2.1
   have c12 := hJ.c1.2.2.1
   have c13 := hJ.c1.2.2.2.1
   have c14 := hJ.c1.2.2.2.2.1
   have c15 := hJ.c1.2.2.2.2.2
   go_simp
   refine (HR3.out W).mono ?_
   rintro e W' ⟨rfl, hB⟩
   exact HK.out _ _ (by simp [layS, updV, lstV, Act.put, E18.out, E20.out, E22.out]) (hJ.later hB) (fun v hv => hv.later hB)
  ·
   have e5 : u 5 = .agg #[.int .i64 r0.lo, .int .i64 r0.hi, .bool r0.all] := hd 5 (by decide) (by kernel_rfl)
   have e11 : u 11 = .agg #[.int .i64 r1.lo, .int .i64 r1.hi, .bool r1.all] := hd 11 (by decide) (by kernel_rfl)
   have e17 : u 17 = .agg #[.int .i64 r2.lo, .int .i64 r2.hi, .bool r2.all] := hd 17 (by decide) (by kernel_rfl)
   have e23 : u 23 = .agg #[.int .i64 r3.lo, .int .i64 r3.hi, .bool r3.all] := hd 23 (by decide) (by kernel_rfl)
   clear hd
   simp only [zzA, zzB]
   clear hl hne
   refine .inr ⟨rfl, fun K' hK => ?_⟩
   have HK := Lib.hid hK
   clear hK
   simp only [layS, Act.put, zzC, zzD, zzE, Nat.zero_add, Nat.reduceAdd, e5, e11, e17, e23]
   have E5 := Lib.hid e5
   have E11 := Lib.hid e11
   have E17 := Lib.hid e17
   have E23 := Lib.hid e23
   clear e5 e11 e17 e23
   have c00 := hJ.c0.1
   have c01 := hJ.c0.2.1
   have c02 := hJ.c0.2.2.1
   have c03 := hJ.c0.2.2.2.1
   have c04 := hJ.c0.2.2.2.2.1
   have c05 := hJ.c0.2.2.2.2.2
   have c10 := hJ.c1.1
   have c11 := hJ.c1.2.1
   have c12 := hJ.c1.2.2.1
   have c13 := hJ.c1.2.2.2.1
   have c14 := hJ.c1.2.2.2.2.1
   have c15 := hJ.c1.2.2.2.2.2
   go_simp
   exact HK.out _ _ (by simp [layS, updV, lstV, Act.put, E5.out, E11.out, E17.out, E23.out]) hJ (fun v hv => hv)
  ·
   exact absurd rfl hne
 intro W va hJ hA
 obtain ⟨bq, rfl, hbq, hbk⟩ := hA
 simp only [layS, updV, lstV, if_true, if_false, reduceIte, Nat.reduceEqDiff, Act.put, zzC, zzD, zzE, Nat.zero_add, Nat.reduceAdd, List.getD_cons_zero, List.getD_cons_succ, List.drop_succ_cons, List.drop_zero, List.drop_nil]
 refine wpList_store_row rfl 94 (.tmp 7) (.tmp 48) rfl bq #[.int .i64 r0.lo, .int .i64 r0.hi, .bool r0.all, .int .i64 r1.lo, .int .i64 r1.hi, .bool r1.all, .int .i64 r2.lo, .int .i64 r2.hi, .bool r2.all, .int .i64 r3.lo, .int .i64 r3.hi, .bool r3.all] rfl rfl _ _ hbk (by kernel_rfl) rfl (by kernel_rfl) ?_
 have hJ2 := hJ.row hbq #[.int .i64 r0.lo, .int .i64 r0.hi, .bool r0.all, .int .i64 r1.lo, .int .i64 r1.hi, .bool r1.all, .int .i64 r2.lo, .int .i64 r2.hi, .bool r2.all, .int .i64 r3.lo, .int .i64 r3.hi, .bool r3.all]
 have hE := setRow_heap W bq _ #[.int .i64 r0.lo, .int .i64 r0.hi, .bool r0.all, .int .i64 r1.lo, .int .i64 r1.hi, .bool r1.all, .int .i64 r2.lo, .int .i64 r2.hi, .bool r2.all, .int .i64 r3.lo, .int .i64 r3.hi, .bool r3.all] _ _ hbk
 generalize W.setRow bq #[.int .i64 r0.lo, .int .i64 r0.hi, .bool r0.all, .int .i64 r1.lo, .int .i64 r1.hi, .bool r1.all, .int .i64 r2.lo, .int .i64 r2.hi, .bool r2.all, .int .i64 r3.lo, .int .i64 r3.hi, .bool r3.all] = W2 at *
 have hlt : bq < W2.heap.size := (Array.getElem?_eq_some_iff.1 hE).1
 have q0 : W2.cell? ⟨bq, 0, none⟩ = some (.int .i64 r0.lo) := Go.Joins.cell_of_block hE 0
 have q1 : W2.cell? ⟨bq, 1, none⟩ = some (.int .i64 r0.hi) := Go.Joins.cell_of_block hE 1
 have q2 : W2.cell? ⟨bq, 2, none⟩ = some (.bool r0.all) := Go.Joins.cell_of_block hE 2
 have hE2 : (W2.alloc (.cells #[.int .i64 r0.lo, .int .i64 r0.hi, .bool r0.all] 23)).heap[bq]? = _ := (heap_alloc_old W2 _ hlt).trans hE
 have HE2 := Lib.hid hE2
 clear hbk hE hE2 hJ
 go_wp2_with (refine wpList_load_row rfl 94 (.tmp 7) rfl bq rfl 94 #[.int .i64 r0.lo, .int .i64 r0.hi, .bool r0.all, .int .i64 r1.lo, .int .i64 r1.hi, .bool r1.all, .int .i64 r2.lo, .int .i64 r2.hi, .bool r2.all, .int .i64 r3.lo, .int .i64 r3.hi, .bool r3.all] (0, 0) _ HE2.out Tryz.underlying94 rfl (by kernel_rfl) ?_)
 have hJ3 := hJ2.later ((Below.refl _ _).alloc (Nat.le_refl _) (.cells #[.int .i64 r0.lo, .int .i64 r0.hi, .bool r0.all] 23))
 have hO := b3_new W2 r0
 have hbo : w.heap.size + 3 ≤ W2.heap.size := hJ2.sz
 clear q0 q1 q2 HE2 hJ2 hlt hbq
 generalize W2.alloc (.cells #[.int .i64 r0.lo, .int .i64 r0.hi, .bool r0.all] 23) = W3 at *
 generalize W2.heap.size = bo at *
 have hbl : bo < W3.heap.size := (Array.getElem?_eq_some_iff.1 hO).1
 obtain ⟨z0, hz0⟩ : ∃ z, z = r0 := ⟨_, rfl⟩
 rw [← hz0] at hO
 have HZ0 := Lib.hid hz0
 clear hz0
 refine wp_loop_rounds 5 ?_
 rw [rounds_succ]
 have o0 := hO.cells.1
 have o1 := hO.cells.2.1
 have o2 := hO.cells.2.2.1
 go_wp2_with fail
 refine (Join_any z0 r0 _).mono ?_
 rintro e W4 ⟨rfl, hB⟩
 have hb4 : Below W3.heap.size W3 W4 := ((Below.refl W3.heap.size W3).alloc (Nat.le_refl _) _).trans (hB.mono (by simp))
 have hJ4 := hJ3.later hb4
 have hO4 := hO.below hb4
 clear o0 o1 o2 hB hJ3 hO hbl
 have o0 := hO4.cells.1
 have o1 := hO4.cells.2.1
 have o2 := hO4.cells.2.2.1
 have o3 := hO4.cells.2.2.2.1
 have o4 := hO4.cells.2.2.2.2.1
 have o5 := hO4.cells.2.2.2.2.2
 obtain ⟨z1, hz1⟩ : ∃ z, z = joinS z0 r0 := ⟨_, rfl⟩
 rw [← hz1]
 have HZ1 := Lib.hid hz1
 clear hz1
 go_wp2
 have hJ5 := hJ4.far hbo z1
 have hO5 := hO4.self z1
 clear o0 o1 o2 o3 o4 o5 hb4 hJ4 hO4
 generalize ((W4.setCell ⟨bo, 0, none⟩ (.int .i64 z1.lo)).setCell ⟨bo, 1, none⟩ (.int .i64 z1.hi)).setCell ⟨bo, 2, none⟩ (.bool z1.all) = W5 at *
 obtain ⟨W3, rfl⟩ : ∃ W3, W3 = W5 := ⟨_, rfl⟩
 have hJ3 := hJ5
 have hO := hO5
 clear hJ5 hO5
 have hbl : bo < W3.heap.size := (Array.getElem?_eq_some_iff.1 hO).1
 rw [rounds_succ]
 have o0 := hO.cells.1
 have o1 := hO.cells.2.1
 have o2 := hO.cells.2.2.1
 go_wp2_with fail
 refine (Join_any z1 r1 _).mono ?_
 rintro e W4 ⟨rfl, hB⟩
 have hb4 : Below W3.heap.size W3 W4 := ((Below.refl W3.heap.size W3).alloc (Nat.le_refl _) _).trans (hB.mono (by simp))
 have hJ4 := hJ3.later hb4
 have hO4 := hO.below hb4
 clear o0 o1 o2 hB hJ3 hO hbl
 have o0 := hO4.cells.1
 have o1 := hO4.cells.2.1
 have o2 := hO4.cells.2.2.1
 have o3 := hO4.cells.2.2.2.1
 have o4 := hO4.cells.2.2.2.2.1
 have o5 := hO4.cells.2.2.2.2.2
 obtain ⟨z2, hz2⟩ : ∃ z, z = joinS z1 r1 := ⟨_, rfl⟩
 rw [← hz2]
 have HZ2 := Lib.hid hz2
 clear hz2
 go_wp2
 have hJ5 := hJ4.far hbo z2
 have hO5 := hO4.self z2
 clear o0 o1 o2 o3 o4 o5 hb4 hJ4 hO4
 generalize ((W4.setCell ⟨bo, 0, none⟩ (.int .i64 z2.lo)).setCell ⟨bo, 1, none⟩ (.int .i64 z2.hi)).setCell ⟨bo, 2, none⟩ (.bool z2.all) = W5 at *
 obtain ⟨W3, rfl⟩ : ∃ W3, W3 = W5 := ⟨_, rfl⟩
 have hJ3 := hJ5
 have hO := hO5
 clear hJ5 hO5
 have hbl : bo < W3.heap.size := (Array.getElem?_eq_some_iff.1 hO).1
 rw [rounds_succ]
 have o0 := hO.cells.1
 have o1 := hO.cells.2.1
 have o2 := hO.cells.2.2.1
 go_wp2_with fail
 refine (Join_any z2 r2 _).mono ?_
 rintro e W4 ⟨rfl, hB⟩
 have hb4 : Below W3.heap.size W3 W4 := ((Below.refl W3.heap.size W3).alloc (Nat.le_refl _) _).trans (hB.mono (by simp))
 have hJ4 := hJ3.later hb4
 have hO4 := hO.below hb4
 clear o0 o1 o2 hB hJ3 hO hbl
 have o0 := hO4.cells.1
 have o1 := hO4.cells.2.1
 have o2 := hO4.cells.2.2.1
 have o3 := hO4.cells.2.2.2.1
 have o4 := hO4.cells.2.2.2.2.1
 have o5 := hO4.cells.2.2.2.2.2
 obtain ⟨z3, hz3⟩ : ∃ z, z = joinS z2 r2 := ⟨_, rfl⟩
 rw [← hz3]
 have HZ3 := Lib.hid hz3
 clear hz3
 go_wp2
 have hJ5 := hJ4.far hbo z3
 have hO5 := hO4.self z3
 clear o0 o1 o2 o3 o4 o5 hb4 hJ4 hO4
 generalize ((W4.setCell ⟨bo, 0, none⟩ (.int .i64 z3.lo)).setCell ⟨bo, 1, none⟩ (.int .i64 z3.hi)).setCell ⟨bo, 2, none⟩ (.bool z3.all) = W5 at *
 obtain ⟨W3, rfl⟩ : ∃ W3, W3 = W5 := ⟨_, rfl⟩
 have hJ3 := hJ5
 have hO := hO5
 clear hJ5 hO5
 have hbl : bo < W3.heap.size := (Array.getElem?_eq_some_iff.1 hO).1
 rw [rounds_succ]
 have o0 := hO.cells.1
 have o1 := hO.cells.2.1
 have o2 := hO.cells.2.2.1
 go_wp2_with fail
 refine (Join_any z3 r3 _).mono ?_
 rintro e W4 ⟨rfl, hB⟩
 have hb4 : Below W3.heap.size W3 W4 := ((Below.refl W3.heap.size W3).alloc (Nat.le_refl _) _).trans (hB.mono (by simp))
 have hJ4 := hJ3.later hb4
 have hO4 := hO.below hb4
 clear o0 o1 o2 hB hJ3 hO hbl
 have o0 := hO4.cells.1
 have o1 := hO4.cells.2.1
 have o2 := hO4.cells.2.2.1
 have o3 := hO4.cells.2.2.2.1
 have o4 := hO4.cells.2.2.2.2.1
 have o5 := hO4.cells.2.2.2.2.2
 obtain ⟨z4, hz4⟩ : ∃ z, z = joinS z3 r3 := ⟨_, rfl⟩
 rw [← hz4]
 have HZ4 := Lib.hid hz4
 clear hz4
 go_wp2
 have hJ5 := hJ4.far hbo z4
 have hO5 := hO4.self z4
 clear o0 o1 o2 o3 o4 o5 hb4 hJ4 hO4
 generalize ((W4.setCell ⟨bo, 0, none⟩ (.int .i64 z4.lo)).setCell ⟨bo, 1, none⟩ (.int .i64 z4.hi)).setCell ⟨bo, 2, none⟩ (.bool z4.all) = W5 at *
 obtain ⟨W3, rfl⟩ : ∃ W3, W3 = W5 := ⟨_, rfl⟩
 have hJ3 := hJ5
 have hO := hO5
 clear hJ5 hO5
 have hbl : bo < W3.heap.size := (Array.getElem?_eq_some_iff.1 hO).1
 rw [rounds_succ]
 have o0 := hO.cells.1
 have o1 := hO.cells.2.1
 have o2 := hO.cells.2.2.1
 have hJ := hJ3
 have c20 := hJ.c2.1
 have c21 := hJ.c2.2.1
 have c22 := hJ.c2.2.2.1
 have c23 := hJ.c2.2.2.2.1
 have c24 := hJ.c2.2.2.2.2.1
 have c25 := hJ.c2.2.2.2.2.2
 go_wp2
 have hp := hJ3.put 2 (by simp) z4
 have e1 : joinS (joinS (joinS (joinS r0 r0) r1) r2) r3 = z4 := by rw [HZ4.out, HZ3.out, HZ2.out, HZ1.out, HZ0.out]
 exact bodyPost_ret (v := .agg #[.int .i64 z4.lo, .int .i64 z4.hi, .bool z4.all]) (by simp [results, Tryz.results65, go_sem, c20, c21, c22]) rfl ⟨by rw [e1], hp.below⟩
end Go.Proofs.YtolpfibihialkaaGreat
