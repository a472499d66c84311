/- Parts of the proof. -/
import Derived.Test.YtolpfibihialkaaGreatGr0
import Derived.Test.YtolpfibihialkaaGreatGr26
import Derived.Test.YtolpfibihialkaaGreatGr21
/- Spans: the walks of Add, Sub, Mul, Div, Sqr, Sqrt. -/
namespace Go.Proofs.YtolpfibihialkaaGreat
open Go.RowKit
attribute [local go_sem ↓] run_eqlS run_neqS
theorem fromEnds_any (k : FuncId) (hk : ∀ (args : Array Value) (W : World), (callFunc k args).run Tryz.prog W = .ok (.enter k args) W) (R : Int → Int → Sp) (x y : Sp)
  (hR : okB x = true → okB y = true → ∀ a b, (a = x.lo ∨ a = x.hi) → (b = y.lo ∨ b = y.hi) → ∀ W : World, Calls Tryz.prog k #[.int .i64 a, .int .i64 b] W (PSp (R a b) W)) (w : World) :
  Calls Tryz.prog 65 #[.agg #[.int .i64 x.lo, .int .i64 x.hi, .bool x.all], .agg #[.int .i64 y.lo, .int .i64 y.hi, .bool y.all], .func (.func k) #[] #[]] w (PSp (endsS R x y) w) := by
 have lx := line_eq x
 have ly := line_eq y
 unfold endsS
 cases hx : okB x
 ·
  rw [hx] at lx
  exact fends_no1 k x y _ _ (counted_any x) (counted_any y) lx w
 ·
  rw [hx] at lx
  cases hy : okB y
  ·
   rw [hy] at ly
   exact fends_no2 k x y _ _ (counted_any x) (counted_any y) lx ly w
  ·
   rw [hy] at ly
   have h := fends_ok k x y _ _ (counted_any x) (counted_any y) lx ly hk (R x.lo y.lo) (R x.lo y.hi) (R x.hi y.lo) (R x.hi y.hi)
   rw [mkS_ok hx, mkS_ok hy] at h
   have hR := hR hx hy
   exact h (hR _ _ (.inl rfl) (.inl rfl)) (hR _ _ (.inl rfl) (.inr rfl)) (hR _ _ (.inr rfl) (.inl rfl)) (hR _ _ (.inr rfl) (.inr rfl)) w
set_option maxHeartbeats 800000 in
theorem sAdd_any (x y : Sp) (w : World) : Calls Tryz.prog 41 #[.agg #[.int .i64 x.lo, .int .i64 x.hi, .bool x.all], .agg #[.int .i64 y.lo, .int .i64 y.hi, .bool y.all]] w (PSp (addS x y) w) := by
 have hc : ∀ W : World, Calls Tryz.prog 65 #[.agg #[.int .i64 x.lo, .int .i64 x.hi, .bool x.all], .agg #[.int .i64 y.lo, .int .i64 y.hi, .bool y.all], .func (.func 66) #[] #[]] W (PSp (addS x y) W) := fromEnds_any 66 (enters_of Tryz.func66 (by kernel_rfl) rfl) addR x y (fun hx hy a b ha hb W => by
  have kx := ok_of hx
  have ky := ok_of hy
  exact sAdd1_any _ _ W (by omega) (by omega) (by omega) (by omega))
 generalize addS x y = z at *
 have HC := Lib.hid hc
 clear hc
 go_enter Tryz.func41, Tryz.ntmps41
 go_wp2_with fail
 have hX := bs3 w x.lo x.hi x.all y.lo y.hi y.all 0 0 false
 generalize ((w.alloc (.cells #[.int .i64 x.lo, .int .i64 x.hi, .bool x.all] 23)).alloc (.cells #[.int .i64 y.lo, .int .i64 y.hi, .bool y.all] 23)).alloc (.cells #[.int .i64 0, .int .i64 0, .bool false] 23) = w1 at *
 refine (HC.out _).mono ?_
 rintro e W2 ⟨rfl, hB⟩
 have hJ2 := hX.later hB
 clear hB hX
 have c20 := hJ2.c2.1
 have c21 := hJ2.c2.2.1
 have c22 := hJ2.c2.2.2.1
 have c23 := hJ2.c2.2.2.2.1
 have c24 := hJ2.c2.2.2.2.2.1
 have c25 := hJ2.c2.2.2.2.2.2
 go_wp2
 have hp := hJ2.put 2 (by simp) z
 exact bodyPost_ret (v := .agg #[.int .i64 z.lo, .int .i64 z.hi, .bool z.all]) (by simp [results, Tryz.results41, go_sem, c20, c21, c22]) rfl ⟨rfl, hp.below⟩
set_option maxHeartbeats 800000 in
theorem sMul_any (x y : Sp) (w : World) : Calls Tryz.prog 42 #[.agg #[.int .i64 x.lo, .int .i64 x.hi, .bool x.all], .agg #[.int .i64 y.lo, .int .i64 y.hi, .bool y.all]] w (PSp (mulS x y) w) := by
 have hc : ∀ W : World, Calls Tryz.prog 65 #[.agg #[.int .i64 x.lo, .int .i64 x.hi, .bool x.all], .agg #[.int .i64 y.lo, .int .i64 y.hi, .bool y.all], .func (.func 69) #[] #[]] W (PSp (mulS x y) W) := fromEnds_any 69 (enters_of Tryz.func69 (by kernel_rfl) rfl) mulR x y (fun hx hy a b ha hb W => by
  have kx := ok_of hx
  have ky := ok_of hy
  exact sproduct_any _ _ W (by omega) (by omega) (by omega) (by omega))
 generalize mulS x y = z at *
 have HC := Lib.hid hc
 clear hc
 go_enter Tryz.func42, Tryz.ntmps42
 go_wp2_with fail
 have hX := bs3 w x.lo x.hi x.all y.lo y.hi y.all 0 0 false
 generalize ((w.alloc (.cells #[.int .i64 x.lo, .int .i64 x.hi, .bool x.all] 23)).alloc (.cells #[.int .i64 y.lo, .int .i64 y.hi, .bool y.all] 23)).alloc (.cells #[.int .i64 0, .int .i64 0, .bool false] 23) = w1 at *
 refine (HC.out _).mono ?_
 rintro e W2 ⟨rfl, hB⟩
 have hJ2 := hX.later hB
 clear hB hX
 have c20 := hJ2.c2.1
 have c21 := hJ2.c2.2.1
 have c22 := hJ2.c2.2.2.1
 have c23 := hJ2.c2.2.2.2.1
 have c24 := hJ2.c2.2.2.2.2.1
 have c25 := hJ2.c2.2.2.2.2.2
 go_wp2
 have hp := hJ2.put 2 (by simp) z
 exact bodyPost_ret (v := .agg #[.int .i64 z.lo, .int .i64 z.hi, .bool z.all]) (by simp [results, Tryz.results42, go_sem, c20, c21, c22]) rfl ⟨rfl, hp.below⟩
set_option maxHeartbeats 800000 in
theorem sSub_any (x y : Sp) (w : World) : Calls Tryz.prog 49 #[.agg #[.int .i64 x.lo, .int .i64 x.hi, .bool x.all], .agg #[.int .i64 y.lo, .int .i64 y.hi, .bool y.all]] w (PSp (subS x y) w) := by
 have hn : ∀ W : World, Calls Tryz.prog 63 #[.agg #[.int .i64 y.lo, .int .i64 y.hi, .bool y.all]] W (PSp (negS y) W) := sNeg_any y
 have ha : ∀ W : World, Calls Tryz.prog 41 #[.agg #[.int .i64 x.lo, .int .i64 x.hi, .bool x.all], .agg #[.int .i64 (negS y).lo, .int .i64 (negS y).hi, .bool (negS y).all]] W (PSp (subS x y) W) := sAdd_any x (negS y)
 generalize subS x y = z at *
 generalize negS y = n at *
 have HN := Lib.hid hn
 have HA := Lib.hid ha
 clear hn ha
 go_enter Tryz.func49, Tryz.ntmps49
 go_wp2
 have hX := bs3 w x.lo x.hi x.all y.lo y.hi y.all 0 0 false
 generalize ((w.alloc (.cells #[.int .i64 x.lo, .int .i64 x.hi, .bool x.all] 23)).alloc (.cells #[.int .i64 y.lo, .int .i64 y.hi, .bool y.all] 23)).alloc (.cells #[.int .i64 0, .int .i64 0, .bool false] 23) = w1 at *
 refine wp_region_vals 4 [some 5, some 6, some 7, some 8] (lstV [.agg #[.int .i64 x.lo, .int .i64 x.hi, .bool x.all], .agg #[.int .i64 y.lo, .int .i64 y.hi, .bool y.all], .agg #[.int .i64 n.lo, .int .i64 n.hi, .bool n.all], .agg #[.int .i64 z.lo, .int .i64 z.hi, .bool z.all]]) (fun W => Bs w W [x, y, ⟨0, 0, false⟩]) (by kernel_rfl) (by kernel_rfl) (by decide) (hX.drew) ?_ ?_
 ·
  intro i hl hi u W hJ hd
  obtain rfl | rfl | rfl | rfl : i = 0 ∨ i = 1 ∨ i = 2 ∨ i = 3 := by omega
  ·
   clear hd
   simp only [zzA, zzB]
   clear hl
   refine .inr ⟨rfl, fun K' hK => ?_⟩
   have HK := Lib.hid hK
   clear hK
   simp only [layS, Act.put, zzC, zzD, zzE, Nat.zero_add, Nat.reduceAdd]
   have c00 := hJ.c0.1
   have c01 := hJ.c0.2.1
   have c02 := hJ.c0.2.2.1
   have c03 := hJ.c0.2.2.2.1
   have c04 := hJ.c0.2.2.2.2.1
   have c05 := hJ.c0.2.2.2.2.2
   have c10 := hJ.c1.1
   have c11 := hJ.c1.2.1
   have c12 := hJ.c1.2.2.1
   have c13 := hJ.c1.2.2.2.1
   have c14 := hJ.c1.2.2.2.2.1
   have c15 := hJ.c1.2.2.2.2.2
   go_simp
   exact HK.out _ _ (by simp [layS, updV, lstV, Act.put]) hJ
  ·
   clear hd
   simp only [zzA, zzB]
   clear hl
   refine .inr ⟨rfl, fun K' hK => ?_⟩
   have HK := Lib.hid hK
   clear hK
   simp only [layS, Act.put, zzC, zzD, zzE, Nat.zero_add, Nat.reduceAdd]
   have c00 := hJ.c0.1
   have c01 := hJ.c0.2.1
   have c02 := hJ.c0.2.2.1
   have c03 := hJ.c0.2.2.2.1
   have c04 := hJ.c0.2.2.2.2.1
   have c05 := hJ.c0.2.2.2.2.2
   have c10 := hJ.c1.1
   have c11 := hJ.c1.2.1
   have c12 := hJ.c1.2.2.1
   have c13 := hJ.c1.2.2.2.1
   have c14 := hJ.c1.2.2.2.2.1
   have c15 := hJ.c1.2.2.2.2.2
   go_simp
   exact HK.out _ _ (by simp [layS, updV, lstV, Act.put]) hJ
  ·
   have e1 : u 1 = .agg #[.int .i64 y.lo, .int .i64 y.hi, .bool y.all] := hd 1 (by kernel_rfl)
   clear hd
   simp only [zzA, zzB]
   clear hl
   refine .inr ⟨rfl, fun K' hK => ?_⟩
   have HK := Lib.hid hK
   clear hK
   simp only [layS, Act.put, zzC, zzD, zzE, Nat.zero_add, Nat.reduceAdd, e1]
   have E1 := Lib.hid e1
   clear e1
   have c00 := hJ.c0.1
   have c01 := hJ.c0.2.1
   have c02 := hJ.c0.2.2.1
   have c03 := hJ.c0.2.2.2.1
   have c04 := hJ.c0.2.2.2.2.1
   have c05 := hJ.c0.2.2.2.2.2
   have c10 := hJ.c1.1
   have c11 := hJ.c1.2.1
   have c12 := hJ.c1.2.2.1
   have c13 := hJ.c1.2.2.2.1
   have c14 := hJ.c1.2.2.2.2.1
   have c15 := hJ.c1.2.2.2.2.2
   go_simp
   refine (HN.out W).mono ?_
   rintro e W' ⟨rfl, hB⟩
   exact HK.out _ _ (by simp [layS, updV, lstV, Act.put, E1.out]) (hJ.later hB)
  ·
   have e0 : u 0 = .agg #[.int .i64 x.lo, .int .i64 x.hi, .bool x.all] := hd 0 (by kernel_rfl)
   have e2 : u 2 = .agg #[.int .i64 n.lo, .int .i64 n.hi, .bool n.all] := hd 2 (by kernel_rfl)
   clear hd
   simp only [zzA, zzB]
   clear hl
   refine .inr ⟨rfl, fun K' hK => ?_⟩
   have HK := Lib.hid hK
   clear hK
   simp only [layS, Act.put, zzC, zzD, zzE, Nat.zero_add, Nat.reduceAdd, e0, e2]
   have E0 := Lib.hid e0
   have E2 := Lib.hid e2
   clear e0 e2
   have c00 := hJ.c0.1
   have c01 := hJ.c0.2.1
   have c02 := hJ.c0.2.2.1
   have c03 := hJ.c0.2.2.2.1
   have c04 := hJ.c0.2.2.2.2.1
   have c05 := hJ.c0.2.2.2.2.2
   have c10 := hJ.c1.1
   have c11 := hJ.c1.2.1
   have c12 := hJ.c1.2.2.1
   have c13 := hJ.c1.2.2.2.1
   have c14 := hJ.c1.2.2.2.2.1
   have c15 := hJ.c1.2.2.2.2.2
   go_simp
   refine (HA.out W).mono ?_
   rintro e W' ⟨rfl, hB⟩
   exact HK.out _ _ (by simp [layS, updV, lstV, Act.put, E0.out, E2.out]) (hJ.later hB)
 intro W hJ
 simp only [layS, lstV, Act.put, zzC, zzD, zzE, Nat.zero_add, Nat.reduceAdd, List.getD_cons_zero, List.getD_cons_succ, List.drop_succ_cons, List.drop_zero, List.drop_nil]
 have c20 := hJ.c2.1
 have c21 := hJ.c2.2.1
 have c22 := hJ.c2.2.2.1
 have c23 := hJ.c2.2.2.2.1
 have c24 := hJ.c2.2.2.2.2.1
 have c25 := hJ.c2.2.2.2.2.2
 go_wp2
 have hp := hJ.put 2 (by simp) z
 exact bodyPost_ret (v := .agg #[.int .i64 z.lo, .int .i64 z.hi, .bool z.all]) (by simp [results, Tryz.results49, go_sem, c20, c21, c22]) rfl ⟨rfl, hp.below⟩
set_option maxHeartbeats 1600000 in
theorem Sqr_no (x x1 : Sp) (hcx : ∀ W : World, Calls Tryz.prog 72 #[.agg #[.int .i64 x.lo, .int .i64 x.hi, .bool x.all]] W (PSp x1 W)) (hqx : eqS x1.lo x1.hi x1.all lineS.lo lineS.hi lineS.all = true) (w : World) : Calls Tryz.prog 60 #[.agg #[.int .i64 x.lo, .int .i64 x.hi, .bool x.all]] w (PSp lineS w) := by
 have HCX := Lib.hid hcx
 clear hcx
 go_enter Tryz.func60, Tryz.ntmps60
 go_wp2_with fail
 have hX := bs2 w x.lo x.hi x.all 0 0 false
 generalize (w.alloc (.cells #[.int .i64 x.lo, .int .i64 x.hi, .bool x.all] 23)).alloc (.cells #[.int .i64 0, .int .i64 0, .bool false] 23) = w1 at *
 refine (HCX.out _).mono ?_
 rintro e w2 ⟨rfl, hB⟩
 have hX2 := hX.later hB
 have c00 := hX2.c0.1
 have c01 := hX2.c0.2.1
 have c02 := hX2.c0.2.2.1
 have c03 := hX2.c0.2.2.2.1
 have c04 := hX2.c0.2.2.2.2.1
 have c05 := hX2.c0.2.2.2.2.2
 go_wp2
 have hJ1 : Bs w _ [x1, ⟨0, 0, false⟩] := hX2.put 0 (by simp) x1
 simp only [Nat.add_zero] at hJ1
 clear c00 c01 c02 c03 c04 c05 hX hX2 hB
 refine wp_region_vals 3 [some 6, some 7, some 8] (lstV [.agg #[.int .i64 x1.lo, .int .i64 x1.hi, .bool x1.all], .agg #[.int .i64 lineS.lo, .int .i64 lineS.hi, .bool lineS.all], .bool true]) (fun W => Bs w W [x1, ⟨0, 0, false⟩]) (by kernel_rfl) (by kernel_rfl) (by decide) (hJ1.drew) ?_ ?_
 ·
  intro i hl hi u W hJ hd
  obtain rfl | rfl | rfl : i = 0 ∨ i = 1 ∨ i = 2 := by omega
  ·
   clear hd
   simp only [zzA, zzB]
   clear hl
   refine .inr ⟨rfl, fun K' hK => ?_⟩
   have HK := Lib.hid hK
   clear hK
   simp only [layS, Act.put, zzC, zzD, zzE, Nat.zero_add, Nat.reduceAdd]
   have c00 := hJ.c0.1
   have c01 := hJ.c0.2.1
   have c02 := hJ.c0.2.2.1
   have c03 := hJ.c0.2.2.2.1
   have c04 := hJ.c0.2.2.2.2.1
   have c05 := hJ.c0.2.2.2.2.2
   go_simp
   exact HK.out _ _ (by simp [layS, updV, lstV, Act.put]) hJ
  ·
   clear hd
   simp only [zzA, zzB]
   clear hl
   refine .inr ⟨rfl, fun K' hK => ?_⟩
   have HK := Lib.hid hK
   clear hK
   simp only [layS, Act.put, zzC, zzD, zzE, Nat.zero_add, Nat.reduceAdd]
   have c00 := hJ.c0.1
   have c01 := hJ.c0.2.1
   have c02 := hJ.c0.2.2.1
   have c03 := hJ.c0.2.2.2.1
   have c04 := hJ.c0.2.2.2.2.1
   have c05 := hJ.c0.2.2.2.2.2
   go_simp
   refine (whole_any W).mono ?_
   rintro e W' ⟨rfl, hB⟩
   exact HK.out _ _ (by simp [layS, updV, lstV, Act.put]) (hJ.later hB)
  ·
   have e0 : u 0 = .agg #[.int .i64 x1.lo, .int .i64 x1.hi, .bool x1.all] := hd 0 (by kernel_rfl)
   have e1 : u 1 = .agg #[.int .i64 lineS.lo, .int .i64 lineS.hi, .bool lineS.all] := hd 1 (by kernel_rfl)
   clear hd
   simp only [zzA, zzB]
   clear hl
   refine .inr ⟨rfl, fun K' hK => ?_⟩
   have HK := Lib.hid hK
   clear hK
   simp only [layS, Act.put, zzC, zzD, zzE, Nat.zero_add, Nat.reduceAdd, e0, e1]
   have E0 := Lib.hid e0
   have E1 := Lib.hid e1
   clear e0 e1
   have c00 := hJ.c0.1
   have c01 := hJ.c0.2.1
   have c02 := hJ.c0.2.2.1
   have c03 := hJ.c0.2.2.2.1
   have c04 := hJ.c0.2.2.2.2.1
   have c05 := hJ.c0.2.2.2.2.2
   go_simp
   exact HK.out _ _ (by simp [layS, updV, lstV, Act.put, E0.out, E1.out]) hJ
 intro W hJ
 simp only [layS, lstV, Act.put, zzC, zzD, zzE, Nat.zero_add, Nat.reduceAdd, List.getD_cons_zero, List.getD_cons_succ, List.drop_succ_cons, List.drop_zero, List.drop_nil]
 go_wp2_with fail
 refine (whole_any _).mono ?_
 rintro e W2 ⟨rfl, hB⟩
 have hJ2 := hJ.later hB
 have c10 := hJ2.c1.1
 have c11 := hJ2.c1.2.1
 have c12 := hJ2.c1.2.2.1
 have c13 := hJ2.c1.2.2.2.1
 have c14 := hJ2.c1.2.2.2.2.1
 have c15 := hJ2.c1.2.2.2.2.2
 go_wp2
 have hp := hJ2.put 1 (by simp) lineS
 exact bodyPost_ret (v := .agg #[.int .i64 lineS.lo, .int .i64 lineS.hi, .bool lineS.all]) (by simp [results, Tryz.results60, go_sem, c10, c11, c12]) rfl ⟨rfl, hp.below⟩
set_option maxRecDepth 100000 in
set_option maxHeartbeats 1600000 in
theorem Sqr_in (x x1 p q j z : Sp) (hcx : ∀ W : World, Calls Tryz.prog 72 #[.agg #[.int .i64 x.lo, .int .i64 x.hi, .bool x.all]] W (PSp x1 W)) (hqx : eqS x1.lo x1.hi x1.all lineS.lo lineS.hi lineS.all = false) (hp : ∀ W : World, Calls Tryz.prog 69 #[.int .i64 x1.lo, .int .i64 x1.lo] W (PSp p W)) (hq : ∀ W : World, Calls Tryz.prog 69 #[.int .i64 x1.hi, .int .i64 x1.hi] W (PSp q W))
  (hj : ∀ W : World, Calls Tryz.prog 71 #[.agg #[.int .i64 p.lo, .int .i64 p.hi, .bool p.all], .agg #[.int .i64 q.lo, .int .i64 q.hi, .bool q.all]] W (PSp j W)) (hh : ∀ W : World, Calls Tryz.prog 80 #[.agg #[.int .i64 x1.lo, .int .i64 x1.hi, .bool x1.all], .int .i64 0] W (PVal (.bool true) W))
  (hz : ∀ W : World, Calls Tryz.prog 71 #[.agg #[.int .i64 j.lo, .int .i64 j.hi, .bool j.all], .agg #[.int .i64 (ofS 0 0).lo, .int .i64 (ofS 0 0).hi, .bool (ofS 0 0).all]] W (PSp z W)) (w : World) : Calls Tryz.prog 60 #[.agg #[.int .i64 x.lo, .int .i64 x.hi, .bool x.all]] w (PSp z w) := by
 have HP := Lib.hid hp
 have HQ := Lib.hid hq
 have HJ := Lib.hid hj
 have HH := Lib.hid hh
 have hof : ∀ W : World, Calls Tryz.prog 23 #[.int .i64 0, .int .i64 0] W (PSp (ofS 0 0) W) := sOf_any 0 0
 generalize ofS 0 0 = nul at *
 have HO := Lib.hid hof
 have HZ := Lib.hid hz
 clear hp hq hj hh hz hof
 have HCX := Lib.hid hcx
 clear hcx
 go_enter Tryz.func60, Tryz.ntmps60
 go_wp2_with fail
 have hX := bs2 w x.lo x.hi x.all 0 0 false
 generalize (w.alloc (.cells #[.int .i64 x.lo, .int .i64 x.hi, .bool x.all] 23)).alloc (.cells #[.int .i64 0, .int .i64 0, .bool false] 23) = w1 at *
 refine (HCX.out _).mono ?_
 rintro e w2 ⟨rfl, hB⟩
 have hX2 := hX.later hB
 have c00 := hX2.c0.1
 have c01 := hX2.c0.2.1
 have c02 := hX2.c0.2.2.1
 have c03 := hX2.c0.2.2.2.1
 have c04 := hX2.c0.2.2.2.2.1
 have c05 := hX2.c0.2.2.2.2.2
 go_wp2
 have hJ1 : Bs w _ [x1, ⟨0, 0, false⟩] := hX2.put 0 (by simp) x1
 simp only [Nat.add_zero] at hJ1
 clear c00 c01 c02 c03 c04 c05 hX hX2 hB
 refine wp_region_vals 3 [some 6, some 7, some 8] (lstV [.agg #[.int .i64 x1.lo, .int .i64 x1.hi, .bool x1.all], .agg #[.int .i64 lineS.lo, .int .i64 lineS.hi, .bool lineS.all], .bool false]) (fun W => Bs w W [x1, ⟨0, 0, false⟩]) (by kernel_rfl) (by kernel_rfl) (by decide) (hJ1.drew) ?_ ?_
 ·
  intro i hl hi u W hJ hd
  obtain rfl | rfl | rfl : i = 0 ∨ i = 1 ∨ i = 2 := by omega
  ·
   clear hd
   simp only [zzA, zzB]
   clear hl
   refine .inr ⟨rfl, fun K' hK => ?_⟩
   have HK := Lib.hid hK
   clear hK
   simp only [layS, Act.put, zzC, zzD, zzE, Nat.zero_add, Nat.reduceAdd]
   have c00 := hJ.c0.1
   have c01 := hJ.c0.2.1
   have c02 := hJ.c0.2.2.1
   have c03 := hJ.c0.2.2.2.1
   have c04 := hJ.c0.2.2.2.2.1
   have c05 := hJ.c0.2.2.2.2.2
   go_simp
   exact HK.out _ _ (by simp [layS, updV, lstV, Act.put]) hJ
  ·
   clear hd
   simp only [zzA, zzB]
   clear hl
   refine .inr ⟨rfl, fun K' hK => ?_⟩
   have HK := Lib.hid hK
   clear hK
   simp only [layS, Act.put, zzC, zzD, zzE, Nat.zero_add, Nat.reduceAdd]
   have c00 := hJ.c0.1
   have c01 := hJ.c0.2.1
   have c02 := hJ.c0.2.2.1
   have c03 := hJ.c0.2.2.2.1
   have c04 := hJ.c0.2.2.2.2.1
   have c05 := hJ.c0.2.2.2.2.2
   go_simp
   refine (whole_any W).mono ?_
   rintro e W' ⟨rfl, hB⟩
   exact HK.out _ _ (by simp [layS, updV, lstV, Act.put]) (hJ.later hB)
  ·
   have e0 : u 0 = .agg #[.int .i64 x1.lo, .int .i64 x1.hi, .bool x1.all] := hd 0 (by kernel_rfl)
   have e1 : u 1 = .agg #[.int .i64 lineS.lo, .int .i64 lineS.hi, .bool lineS.all] := hd 1 (by kernel_rfl)
   clear hd
   simp only [zzA, zzB]
   clear hl
   refine .inr ⟨rfl, fun K' hK => ?_⟩
   have HK := Lib.hid hK
   clear hK
   simp only [layS, Act.put, zzC, zzD, zzE, Nat.zero_add, Nat.reduceAdd, e0, e1]
   have E0 := Lib.hid e0
   have E1 := Lib.hid e1
   clear e0 e1
   have c00 := hJ.c0.1
   have c01 := hJ.c0.2.1
   have c02 := hJ.c0.2.2.1
   have c03 := hJ.c0.2.2.2.1
   have c04 := hJ.c0.2.2.2.2.1
   have c05 := hJ.c0.2.2.2.2.2
   go_simp
   exact HK.out _ _ (by simp [layS, updV, lstV, Act.put, E0.out, E1.out]) hJ
 intro W hJ
 simp only [layS, lstV, Act.put, zzC, zzD, zzE, Nat.zero_add, Nat.reduceAdd, List.getD_cons_zero, List.getD_cons_succ, List.drop_succ_cons, List.drop_zero, List.drop_nil]
 go_wp2
 refine wp_region_valsA 12 11 [some 10, some 11, some 12, some 13, some 14, some 15, some 16, some 17, some 18, some 19, some 20, some 3] (lstV [.pointer (some ⟨w.heap.size, 0, none⟩), .int .i64 x1.lo, .pointer (some ⟨w.heap.size, 0, none⟩), .int .i64 x1.lo, .agg #[.int .i64 p.lo, .int .i64 p.hi, .bool p.all], .pointer (some ⟨w.heap.size, 1, none⟩), .int .i64 x1.hi, .pointer (some ⟨w.heap.size, 1, none⟩), .int .i64 x1.hi, .agg #[.int .i64 q.lo, .int .i64 q.hi, .bool q.all], .agg #[.int .i64 j.lo, .int .i64 j.hi, .bool j.all], undef]) (fun W => Bs w W [x1, ⟨0, 0, false⟩]) (Abox (w.heap.size + 2) #[.int .i64 0, .int .i64 0, .bool false] 23) (by kernel_rfl) (by kernel_rfl) (by decide) (by decide) (hJ.drew) ?_ ?_ ?_
 ·
  intro hl u W hJ
  simp only [zzA, zzB]
  clear hl
  refine ⟨rfl, fun K' hK => ?_⟩
  have HK := Lib.hid hK
  clear hK
  simp only [layS, Act.put, zzC, zzD, zzE, Nat.zero_add, Nat.reduceAdd]
  go_simp
  exact HK.out _ _ (.pointer (some ⟨W.heap.size, 0, none⟩)) (by simp [layS, updV, lstV, Act.put]) (hJ.later ((Below.refl _ _).alloc (Nat.le_refl _) _)) (abox_new hJ.sz)
 ·
  intro i hl hi hne u W hJ hd
  obtain rfl | rfl | rfl | rfl | rfl | rfl | rfl | rfl | rfl | rfl | rfl | rfl : i = 0 ∨ i = 1 ∨ i = 2 ∨ i = 3 ∨ i = 4 ∨ i = 5 ∨ i = 6 ∨ i = 7 ∨ i = 8 ∨ i = 9 ∨ i = 10 ∨ i = 11 := by omega
  ·
   clear hd
   simp only [zzA, zzB]
   clear hl hne
   refine .inr ⟨rfl, fun K' hK => ?_⟩
   have HK := Lib.hid hK
   clear hK
   simp only [layS, Act.put, zzC, zzD, zzE, Nat.zero_add, Nat.reduceAdd]
   have c00 := hJ.c0.1
   have c01 := hJ.c0.2.1
   have c02 := hJ.c0.2.2.1
   have c03 := hJ.c0.2.2.2.1
   have c04 := hJ.c0.2.2.2.2.1
   have c05 := hJ.c0.2.2.2.2.2
   go_simp
   exact HK.out _ _ (by simp [layS, updV, lstV, Act.put]) hJ (fun v hv => hv)
  ·
   have e0 : u 0 = .pointer (some ⟨w.heap.size, 0, none⟩) := hd 0 (by decide) (by kernel_rfl)
   clear hd
   simp only [zzA, zzB]
   clear hl hne
   refine .inr ⟨rfl, fun K' hK => ?_⟩
   have HK := Lib.hid hK
   clear hK
   simp only [layS, Act.put, zzC, zzD, zzE, Nat.zero_add, Nat.reduceAdd, e0]
   have E0 := Lib.hid e0
   clear e0
   have c00 := hJ.c0.1
   have c01 := hJ.c0.2.1
   have c02 := hJ.c0.2.2.1
   have c03 := hJ.c0.2.2.2.1
   have c04 := hJ.c0.2.2.2.2.1
   have c05 := hJ.c0.2.2.2.2.2
   go_simp
   exact HK.out _ _ (by simp [layS, updV, lstV, Act.put, E0.out]) hJ (fun v hv => hv)
  ·
   clear hd
   simp only [zzA, zzB]
   clear hl hne
   refine .inr ⟨rfl, fun K' hK => ?_⟩
   have HK := Lib.hid hK
   clear hK
   simp only [layS, Act.put, zzC, zzD, zzE, Nat.zero_add, Nat.reduceAdd]
   have c00 := hJ.c0.1
   have c01 := hJ.c0.2.1
   have c02 := hJ.c0.2.2.1
   have c03 := hJ.c0.2.2.2.1
   have c04 := hJ.c0.2.2.2.2.1
   have c05 := hJ.c0.2.2.2.2.2
   go_simp
   exact HK.out _ _ (by simp [layS, updV, lstV, Act.put]) hJ (fun v hv => hv)
  ·
   have e2 : u 2 = .pointer (some ⟨w.heap.size, 0, none⟩) := hd 2 (by decide) (by kernel_rfl)
   clear hd
   simp only [zzA, zzB]
   clear hl hne
   refine .inr ⟨rfl, fun K' hK => ?_⟩
   have HK := Lib.hid hK
   clear hK
   simp only [layS, Act.put, zzC, zzD, zzE, Nat.zero_add, Nat.reduceAdd, e2]
   have E2 := Lib.hid e2
   clear e2
   have c00 := hJ.c0.1
   have c01 := hJ.c0.2.1
   have c02 := hJ.c0.2.2.1
   have c03 := hJ.c0.2.2.2.1
   have c04 := hJ.c0.2.2.2.2.1
   have c05 := hJ.c0.2.2.2.2.2
   go_simp
   exact HK.out _ _ (by simp [layS, updV, lstV, Act.put, E2.out]) hJ (fun v hv => hv)
  ·
   have e1 : u 1 = .int .i64 x1.lo := hd 1 (by decide) (by kernel_rfl)
   have e3 : u 3 = .int .i64 x1.lo := hd 3 (by decide) (by kernel_rfl)
   clear hd
   simp only [zzA, zzB]
   clear hl hne
   refine .inr ⟨rfl, fun K' hK => ?_⟩
   have HK := Lib.hid hK
   clear hK
   simp only [layS, Act.put, zzC, zzD, zzE, Nat.zero_add, Nat.reduceAdd, e1, e3]
   have E1 := Lib.hid e1
   have E3 := Lib.hid e3
   clear e1 e3
   have c00 := hJ.c0.1
   have c01 := hJ.c0.2.1
   have c02 := hJ.c0.2.2.1
   have c03 := hJ.c0.2.2.2.1
   have c04 := hJ.c0.2.2.2.2.1
   have c05 := hJ.c0.2.2.2.2.2
   go_simp
   refine (HP.out W).mono ?_
   rintro e W' ⟨rfl, hB⟩
   exact HK.out _ _ (by simp [layS, updV, lstV, Act.put, E1.out, E3.out]) (hJ.later hB) (fun v hv => hv.later hB)
  ·
   clear hd
   simp only [zzA, zzB]
   clear hl hne
   refine .inr ⟨rfl, fun K' hK => ?_⟩
   have HK := Lib.hid hK
   clear hK
   simp only [layS, Act.put, zzC, zzD, zzE, Nat.zero_add, Nat.reduceAdd]
   have c00 := hJ.c0.1
   have c01 := hJ.c0.2.1
   have c02 := hJ.c0.2.2.1
   have c03 := hJ.c0.2.2.2.1
   have c04 := hJ.c0.2.2.2.2.1
   have c05 := hJ.c0.2.2.2.2.2
   go_simp
   exact HK.out _ _ (by simp [layS, updV, lstV, Act.put]) hJ (fun v hv => hv)
  ·
   have e5 : u 5 = .pointer (some ⟨w.heap.size, 1, none⟩) := hd 5 (by decide) (by kernel_rfl)
   clear hd
   simp only [zzA, zzB]
   clear hl hne
   refine .inr ⟨rfl, fun K' hK => ?_⟩
   have HK := Lib.hid hK
   clear hK
   simp only [layS, Act.put, zzC, zzD, zzE, Nat.zero_add, Nat.reduceAdd, e5]
   have E5 := Lib.hid e5
   clear e5
   have c00 := hJ.c0.1
   have c01 := hJ.c0.2.1
   have c02 := hJ.c0.2.2.1
   have c03 := hJ.c0.2.2.2.1
   have c04 := hJ.c0.2.2.2.2.1
   have c05 := hJ.c0.2.2.2.2.2
   go_simp
   exact HK.out _ _ (by simp [layS, updV, lstV, Act.put, E5.out]) hJ (fun v hv => hv)
  ·
   clear hd
   simp only [zzA, zzB]
   clear hl hne
   refine .inr ⟨rfl, fun K' hK => ?_⟩
   have HK := Lib.hid hK
   clear hK
   simp only [layS, Act.put, zzC, zzD, zzE, Nat.zero_add, Nat.reduceAdd]
   have c00 := hJ.c0.1
   have c01 := hJ.c0.2.1
   have c02 := hJ.c0.2.2.1
   have c03 := hJ.c0.2.2.2.1
   have c04 := hJ.c0.2.2.2.2.1
   have c05 := hJ.c0.2.2.2.2.2
   go_simp
   exact HK.out _ _ (by simp [layS, updV, lstV, Act.put]) hJ (fun v hv => hv)
  ·
   have e7 : u 7 = .pointer (some ⟨w.heap.size, 1, none⟩) := hd 7 (by decide) (by kernel_rfl)
   clear hd
   simp only [zzA, zzB]
   clear hl hne
   refine .inr ⟨rfl, fun K' hK => ?_⟩
   have HK := Lib.hid hK
   clear hK
   simp only [layS, Act.put, zzC, zzD, zzE, Nat.zero_add, Nat.reduceAdd, e7]
   have E7 := Lib.hid e7
   clear e7
   have c00 := hJ.c0.1
   have c01 := hJ.c0.2.1
   have c02 := hJ.c0.2.2.1
   have c03 := hJ.c0.2.2.2.1
   have c04 := hJ.c0.2.2.2.2.1
   have c05 := hJ.c0.2.2.2.2.2
   go_simp
   exact HK.out _ _ (by simp [layS, updV, lstV, Act.put, E7.out]) hJ (fun v hv => hv)
  ·
   have e6 : u 6 = .int .i64 x1.hi := hd 6 (by decide) (by kernel_rfl)
   have e8 : u 8 = .int .i64 x1.hi := hd 8 (by decide) (by kernel_rfl)
   clear hd
   simp only [zzA, zzB]
   clear hl hne
   refine .inr ⟨rfl, fun K' hK => ?_⟩
   have HK := Lib.hid hK
   clear hK
   simp only [layS, Act.put, zzC, zzD, zzE, Nat.zero_add, Nat.reduceAdd, e6, e8]
   have E6 := Lib.hid e6
   have E8 := Lib.hid e8
   clear e6 e8
   have c00 := hJ.c0.1
   have c01 := hJ.c0.2.1
   have c02 := hJ.c0.2.2.1
   have c03 := hJ.c0.2.2.2.1
   have c04 := hJ.c0.2.2.2.2.1
   have c05 := hJ.c0.2.2.2.2.2
   go_simp
   refine (HQ.out W).mono ?_
   rintro e W' ⟨rfl, hB⟩
   exact HK.out _ _ (by simp [layS, updV, lstV, Act.put, E6.out, E8.out]) (hJ.later hB) (fun v hv => hv.later hB)
  ·
   have e4 : u 4 = .agg #[.int .i64 p.lo, .int .i64 p.hi, .bool p.all] := hd 4 (by decide) (by kernel_rfl)
   have e9 : u 9 = .agg #[.int .i64 q.lo, .int .i64 q.hi, .bool q.all] := hd 9 (by decide) (by kernel_rfl)
   clear hd
   simp only [zzA, zzB]
   clear hl hne
   refine .inr ⟨rfl, fun K' hK => ?_⟩
   have HK := Lib.hid hK
   clear hK
   simp only [layS, Act.put, zzC, zzD, zzE, Nat.zero_add, Nat.reduceAdd, e4, e9]
   have E4 := Lib.hid e4
   have E9 := Lib.hid e9
   clear e4 e9
   have c00 := hJ.c0.1
   have c01 := hJ.c0.2.1
   have c02 := hJ.c0.2.2.1
   have c03 := hJ.c0.2.2.2.1
   have c04 := hJ.c0.2.2.2.2.1
   have c05 := hJ.c0.2.2.2.2.2
   go_simp
   refine (HJ.out W).mono ?_
   rintro e W' ⟨rfl, hB⟩
   exact HK.out _ _ (by simp [layS, updV, lstV, Act.put, E4.out, E9.out]) (hJ.later hB) (fun v hv => hv.later hB)
  ·
   exact absurd rfl hne
 intro W va hJ hA
 obtain ⟨bq, rfl, hbq, hbk⟩ := hA
 simp only [layS, updV, lstV, if_true, if_false, reduceIte, Nat.reduceEqDiff, Act.put, zzC, zzD, zzE, Nat.zero_add, Nat.reduceAdd, List.getD_cons_zero, List.getD_cons_succ, List.drop_succ_cons, List.drop_zero, List.drop_nil]
 have hO : B3 W bq ⟨0, 0, false⟩ := hbk
 have o0 := hO.cells.1
 have o1 := hO.cells.2.1
 have o2 := hO.cells.2.2.1
 have o3 := hO.cells.2.2.2.1
 have o4 := hO.cells.2.2.2.2.1
 have o5 := hO.cells.2.2.2.2.2
 have hJf := hJ.far hbq j
 have hOf := hO.self j
 have cf0 := hJf.c0.1
 have cf1 := hJf.c0.2.1
 have cf2 := hJf.c0.2.2.1
 go_wp2_with fail
 clear cf0 cf1 cf2 o0 o1 o2 o3 o4 o5 hbk hO hJ
 generalize ((W.setCell ⟨bq, 0, none⟩ (.int .i64 j.lo)).setCell ⟨bq, 1, none⟩ (.int .i64 j.hi)).setCell ⟨bq, 2, none⟩ (.bool j.all) = W3 at *
 refine (HH.out _).mono ?_
 rintro e W4 ⟨rfl, hB⟩
 have hJ4 := hJf.later hB
 have hO4 := hOf.below hB
 clear hJf hOf hB
 go_wp2
 refine wp_region_vals 3 [some 23, some 24, some 25] (lstV [.agg #[.int .i64 j.lo, .int .i64 j.hi, .bool j.all], .agg #[.int .i64 nul.lo, .int .i64 nul.hi, .bool nul.all], .agg #[.int .i64 z.lo, .int .i64 z.hi, .bool z.all]]) (fun W => Bs w W [x1, ⟨0, 0, false⟩] ∧ B3 W bq j) (by kernel_rfl) (by kernel_rfl) (by decide) (⟨hJ4.drew, hO4⟩) ?_ ?_
 ·
  intro i hl hi u W hJ hd
  obtain rfl | rfl | rfl : i = 0 ∨ i = 1 ∨ i = 2 := by omega
  ·
   clear hd
   simp only [zzA, zzB]
   clear hl
   refine .inr ⟨rfl, fun K' hK => ?_⟩
   have HK := Lib.hid hK
   clear hK
   simp only [layS, Act.put, zzC, zzD, zzE, Nat.zero_add, Nat.reduceAdd]
   have o0 := hJ.2.cells.1
   have o1 := hJ.2.cells.2.1
   have o2 := hJ.2.cells.2.2.1
   go_simp
   exact HK.out _ _ (by simp [layS, updV, lstV, Act.put]) hJ
  ·
   clear hd
   simp only [zzA, zzB]
   clear hl
   refine .inr ⟨rfl, fun K' hK => ?_⟩
   have HK := Lib.hid hK
   clear hK
   simp only [layS, Act.put, zzC, zzD, zzE, Nat.zero_add, Nat.reduceAdd]
   have o0 := hJ.2.cells.1
   have o1 := hJ.2.cells.2.1
   have o2 := hJ.2.cells.2.2.1
   go_simp
   refine (HO.out W).mono ?_
   rintro e W' ⟨rfl, hB⟩
   exact HK.out _ _ (by simp [layS, updV, lstV, Act.put]) (⟨hJ.1.later hB, hJ.2.below hB⟩)
  ·
   have e0 : u 0 = .agg #[.int .i64 j.lo, .int .i64 j.hi, .bool j.all] := hd 0 (by kernel_rfl)
   have e1 : u 1 = .agg #[.int .i64 nul.lo, .int .i64 nul.hi, .bool nul.all] := hd 1 (by kernel_rfl)
   clear hd
   simp only [zzA, zzB]
   clear hl
   refine .inr ⟨rfl, fun K' hK => ?_⟩
   have HK := Lib.hid hK
   clear hK
   simp only [layS, Act.put, zzC, zzD, zzE, Nat.zero_add, Nat.reduceAdd, e0, e1]
   have E0 := Lib.hid e0
   have E1 := Lib.hid e1
   clear e0 e1
   have o0 := hJ.2.cells.1
   have o1 := hJ.2.cells.2.1
   have o2 := hJ.2.cells.2.2.1
   go_simp
   refine (HZ.out W).mono ?_
   rintro e W' ⟨rfl, hB⟩
   exact HK.out _ _ (by simp [layS, updV, lstV, Act.put, E0.out, E1.out]) (⟨hJ.1.later hB, hJ.2.below hB⟩)
 intro W hJ
 simp only [layS, lstV, Act.put, zzC, zzD, zzE, Nat.zero_add, Nat.reduceAdd, List.getD_cons_zero, List.getD_cons_succ, List.drop_succ_cons, List.drop_zero, List.drop_nil]
 have hJ5 := hJ.1
 have c10 := hJ5.c1.1
 have c11 := hJ5.c1.2.1
 have c12 := hJ5.c1.2.2.1
 have c13 := hJ5.c1.2.2.2.1
 have c14 := hJ5.c1.2.2.2.2.1
 have c15 := hJ5.c1.2.2.2.2.2
 go_wp2
 have hp := hJ5.put 1 (by simp) z
 exact bodyPost_ret (v := .agg #[.int .i64 z.lo, .int .i64 z.hi, .bool z.all]) (by simp [results, Tryz.results60, go_sem, c10, c11, c12]) rfl ⟨rfl, hp.below⟩
set_option maxRecDepth 100000 in
set_option maxHeartbeats 1600000 in
theorem Sqr_out (x x1 p q j z : Sp) (hcx : ∀ W : World, Calls Tryz.prog 72 #[.agg #[.int .i64 x.lo, .int .i64 x.hi, .bool x.all]] W (PSp x1 W)) (hqx : eqS x1.lo x1.hi x1.all lineS.lo lineS.hi lineS.all = false) (hp : ∀ W : World, Calls Tryz.prog 69 #[.int .i64 x1.lo, .int .i64 x1.lo] W (PSp p W)) (hq : ∀ W : World, Calls Tryz.prog 69 #[.int .i64 x1.hi, .int .i64 x1.hi] W (PSp q W))
  (hj : ∀ W : World, Calls Tryz.prog 71 #[.agg #[.int .i64 p.lo, .int .i64 p.hi, .bool p.all], .agg #[.int .i64 q.lo, .int .i64 q.hi, .bool q.all]] W (PSp j W)) (hh : ∀ W : World, Calls Tryz.prog 80 #[.agg #[.int .i64 x1.lo, .int .i64 x1.hi, .bool x1.all], .int .i64 0] W (PVal (.bool false) W))
  (hz : ∀ W : World, Calls Tryz.prog 71 #[.agg #[.int .i64 j.lo, .int .i64 j.hi, .bool j.all], .agg #[.int .i64 (ofS 0 0).lo, .int .i64 (ofS 0 0).hi, .bool (ofS 0 0).all]] W (PSp z W)) (w : World) : Calls Tryz.prog 60 #[.agg #[.int .i64 x.lo, .int .i64 x.hi, .bool x.all]] w (PSp j w) := by
 have HP := Lib.hid hp
 have HQ := Lib.hid hq
 have HJ := Lib.hid hj
 have HH := Lib.hid hh
 have hof : ∀ W : World, Calls Tryz.prog 23 #[.int .i64 0, .int .i64 0] W (PSp (ofS 0 0) W) := sOf_any 0 0
 generalize ofS 0 0 = nul at *
 have HO := Lib.hid hof
 have HZ := Lib.hid hz
 clear hp hq hj hh hz hof
 have HCX := Lib.hid hcx
 clear hcx
 go_enter Tryz.func60, Tryz.ntmps60
 go_wp2_with fail
 have hX := bs2 w x.lo x.hi x.all 0 0 false
 generalize (w.alloc (.cells #[.int .i64 x.lo, .int .i64 x.hi, .bool x.all] 23)).alloc (.cells #[.int .i64 0, .int .i64 0, .bool false] 23) = w1 at *
 refine (HCX.out _).mono ?_
 rintro e w2 ⟨rfl, hB⟩
 have hX2 := hX.later hB
 have c00 := hX2.c0.1
 have c01 := hX2.c0.2.1
 have c02 := hX2.c0.2.2.1
 have c03 := hX2.c0.2.2.2.1
 have c04 := hX2.c0.2.2.2.2.1
 have c05 := hX2.c0.2.2.2.2.2
 go_wp2
 have hJ1 : Bs w _ [x1, ⟨0, 0, false⟩] := hX2.put 0 (by simp) x1
 simp only [Nat.add_zero] at hJ1
 clear c00 c01 c02 c03 c04 c05 hX hX2 hB
 refine wp_region_vals 3 [some 6, some 7, some 8] (lstV [.agg #[.int .i64 x1.lo, .int .i64 x1.hi, .bool x1.all], .agg #[.int .i64 lineS.lo, .int .i64 lineS.hi, .bool lineS.all], .bool false]) (fun W => Bs w W [x1, ⟨0, 0, false⟩]) (by kernel_rfl) (by kernel_rfl) (by decide) (hJ1.drew) ?_ ?_
 ·
  intro i hl hi u W hJ hd
  obtain rfl | rfl | rfl : i = 0 ∨ i = 1 ∨ i = 2 := by omega
  ·
   clear hd
   simp only [zzA, zzB]
   clear hl
   refine .inr ⟨rfl, fun K' hK => ?_⟩
   have HK := Lib.hid hK
   clear hK
   simp only [layS, Act.put, zzC, zzD, zzE, Nat.zero_add, Nat.reduceAdd]
   have c00 := hJ.c0.1
   have c01 := hJ.c0.2.1
   have c02 := hJ.c0.2.2.1
   have c03 := hJ.c0.2.2.2.1
   have c04 := hJ.c0.2.2.2.2.1
   have c05 := hJ.c0.2.2.2.2.2
   go_simp
   exact HK.out _ _ (by simp [layS, updV, lstV, Act.put]) hJ
  ·
   clear hd
   simp only [zzA, zzB]
   clear hl
   refine .inr ⟨rfl, fun K' hK => ?_⟩
   have HK := Lib.hid hK
   clear hK
   simp only [layS, Act.put, zzC, zzD, zzE, Nat.zero_add, Nat.reduceAdd]
   have c00 := hJ.c0.1
   have c01 := hJ.c0.2.1
   have c02 := hJ.c0.2.2.1
   have c03 := hJ.c0.2.2.2.1
   have c04 := hJ.c0.2.2.2.2.1
   have c05 := hJ.c0.2.2.2.2.2
   go_simp
   refine (whole_any W).mono ?_
   rintro e W' ⟨rfl, hB⟩
   exact HK.out _ _ (by simp [layS, updV, lstV, Act.put]) (hJ.later hB)
  ·
   have e0 : u 0 = .agg #[.int .i64 x1.lo, .int .i64 x1.hi, .bool x1.all] := hd 0 (by kernel_rfl)
   have e1 : u 1 = .agg #[.int .i64 lineS.lo, .int .i64 lineS.hi, .bool lineS.all] := hd 1 (by kernel_rfl)
   clear hd
   simp only [zzA, zzB]
   clear hl
   refine .inr ⟨rfl, fun K' hK => ?_⟩
   have HK := Lib.hid hK
   clear hK
   simp only [layS, Act.put, zzC, zzD, zzE, Nat.zero_add, Nat.reduceAdd, e0, e1]
   have E0 := Lib.hid e0
   have E1 := Lib.hid e1
   clear e0 e1
   have c00 := hJ.c0.1
   have c01 := hJ.c0.2.1
   have c02 := hJ.c0.2.2.1
   have c03 := hJ.c0.2.2.2.1
   have c04 := hJ.c0.2.2.2.2.1
   have c05 := hJ.c0.2.2.2.2.2
   go_simp
   exact HK.out _ _ (by simp [layS, updV, lstV, Act.put, E0.out, E1.out]) hJ
 intro W hJ
 simp only [layS, lstV, Act.put, zzC, zzD, zzE, Nat.zero_add, Nat.reduceAdd, List.getD_cons_zero, List.getD_cons_succ, List.drop_succ_cons, List.drop_zero, List.drop_nil]
 go_wp2
 refine wp_region_valsA 12 11 [some 10, some 11, some 12, some 13, some 14, some 15, some 16, some 17, some 18, some 19, some 20, some 3] (lstV [.pointer (some ⟨w.heap.size, 0, none⟩), .int .i64 x1.lo, .pointer (some ⟨w.heap.size, 0, none⟩), .int .i64 x1.lo, .agg #[.int .i64 p.lo, .int .i64 p.hi, .bool p.all], .pointer (some ⟨w.heap.size, 1, none⟩), .int .i64 x1.hi, .pointer (some ⟨w.heap.size, 1, none⟩), .int .i64 x1.hi, .agg #[.int .i64 q.lo, .int .i64 q.hi, .bool q.all], .agg #[.int .i64 j.lo, .int .i64 j.hi, .bool j.all], undef]) (fun W => Bs w W [x1, ⟨0, 0, false⟩]) (Abox (w.heap.size + 2) #[.int .i64 0, .int .i64 0, .bool false] 23) (by kernel_rfl) (by kernel_rfl) (by decide) (by decide) (hJ.drew) ?_ ?_ ?_
 ·
  intro hl u W hJ
  simp only [zzA, zzB]
  clear hl
  refine ⟨rfl, fun K' hK => ?_⟩
  have HK := Lib.hid hK
  clear hK
  simp only [layS, Act.put, zzC, zzD, zzE, Nat.zero_add, Nat.reduceAdd]
  go_simp
  exact HK.out _ _ (.pointer (some ⟨W.heap.size, 0, none⟩)) (by simp [layS, updV, lstV, Act.put]) (hJ.later ((Below.refl _ _).alloc (Nat.le_refl _) _)) (abox_new hJ.sz)
 ·
  intro i hl hi hne u W hJ hd
  obtain rfl | rfl | rfl | rfl | rfl | rfl | rfl | rfl | rfl | rfl | rfl | rfl : i = 0 ∨ i = 1 ∨ i = 2 ∨ i = 3 ∨ i = 4 ∨ i = 5 ∨ i = 6 ∨ i = 7 ∨ i = 8 ∨ i = 9 ∨ i = 10 ∨ i = 11 := by omega
  ·
   clear hd
   simp only [zzA, zzB]
   clear hl hne
   refine .inr ⟨rfl, fun K' hK => ?_⟩
   have HK := Lib.hid hK
   clear hK
   simp only [layS, Act.put, zzC, zzD, zzE, Nat.zero_add, Nat.reduceAdd]
   have c00 := hJ.c0.1
   have c01 := hJ.c0.2.1
   have c02 := hJ.c0.2.2.1
   have c03 := hJ.c0.2.2.2.1
   have c04 := hJ.c0.2.2.2.2.1
   have c05 := hJ.c0.2.2.2.2.2
   go_simp
   exact HK.out _ _ (by simp [layS, updV, lstV, Act.put]) hJ (fun v hv => hv)
  ·
   have e0 : u 0 = .pointer (some ⟨w.heap.size, 0, none⟩) := hd 0 (by decide) (by kernel_rfl)
   clear hd
   simp only [zzA, zzB]
   clear hl hne
   refine .inr ⟨rfl, fun K' hK => ?_⟩
   have HK := Lib.hid hK
   clear hK
   simp only [layS, Act.put, zzC, zzD, zzE, Nat.zero_add, Nat.reduceAdd, e0]
   have E0 := Lib.hid e0
   clear e0
   have c00 := hJ.c0.1
   have c01 := hJ.c0.2.1
   have c02 := hJ.c0.2.2.1
   have c03 := hJ.c0.2.2.2.1
   have c04 := hJ.c0.2.2.2.2.1
   have c05 := hJ.c0.2.2.2.2.2
   go_simp
   exact HK.out _ _ (by simp [layS, updV, lstV, Act.put, E0.out]) hJ (fun v hv => hv)
  ·
   clear hd
   simp only [zzA, zzB]
   clear hl hne
   refine .inr ⟨rfl, fun K' hK => ?_⟩
   have HK := Lib.hid hK
   clear hK
   simp only [layS, Act.put, zzC, zzD, zzE, Nat.zero_add, Nat.reduceAdd]
   have c00 := hJ.c0.1
   have c01 := hJ.c0.2.1
   have c02 := hJ.c0.2.2.1
   have c03 := hJ.c0.2.2.2.1
   have c04 := hJ.c0.2.2.2.2.1
   have c05 := hJ.c0.2.2.2.2.2
   go_simp
   exact HK.out _ _ (by simp [layS, updV, lstV, Act.put]) hJ (fun v hv => hv)
  ·
   have e2 : u 2 = .pointer (some ⟨w.heap.size, 0, none⟩) := hd 2 (by decide) (by kernel_rfl)
   clear hd
   simp only [zzA, zzB]
   clear hl hne
   refine .inr ⟨rfl, fun K' hK => ?_⟩
   have HK := Lib.hid hK
   clear hK
   simp only [layS, Act.put, zzC, zzD, zzE, Nat.zero_add, Nat.reduceAdd, e2]
   have E2 := Lib.hid e2
   clear e2
   have c00 := hJ.c0.1
   have c01 := hJ.c0.2.1
   have c02 := hJ.c0.2.2.1
   have c03 := hJ.c0.2.2.2.1
   have c04 := hJ.c0.2.2.2.2.1
   have c05 := hJ.c0.2.2.2.2.2
   go_simp
   exact HK.out _ _ (by simp [layS, updV, lstV, Act.put, E2.out]) hJ (fun v hv => hv)
  ·
   have e1 : u 1 = .int .i64 x1.lo := hd 1 (by decide) (by kernel_rfl)
   have e3 : u 3 = .int .i64 x1.lo := hd 3 (by decide) (by kernel_rfl)
   clear hd
   simp only [zzA, zzB]
   clear hl hne
   refine .inr ⟨rfl, fun K' hK => ?_⟩
   have HK := Lib.hid hK
   clear hK
   simp only [layS, Act.put, zzC, zzD, zzE, Nat.zero_add, Nat.reduceAdd, e1, e3]
   have E1 := Lib.hid e1
   have E3 := Lib.hid e3
   clear e1 e3
   have c00 := hJ.c0.1
   have c01 := hJ.c0.2.1
   have c02 := hJ.c0.2.2.1
   have c03 := hJ.c0.2.2.2.1
   have c04 := hJ.c0.2.2.2.2.1
   have c05 := hJ.c0.2.2.2.2.2
   go_simp
   refine (HP.out W).mono ?_
   rintro e W' ⟨rfl, hB⟩
   exact HK.out _ _ (by simp [layS, updV, lstV, Act.put, E1.out, E3.out]) (hJ.later hB) (fun v hv => hv.later hB)
  ·
   clear hd
   simp only [zzA, zzB]
   clear hl hne
   refine .inr ⟨rfl, fun K' hK => ?_⟩
   have HK := Lib.hid hK
   clear hK
   simp only [layS, Act.put, zzC, zzD, zzE, Nat.zero_add, Nat.reduceAdd]
   have c00 := hJ.c0.1
   have c01 := hJ.c0.2.1
   have c02 := hJ.c0.2.2.1
   have c03 := hJ.c0.2.2.2.1
   have c04 := hJ.c0.2.2.2.2.1
   have c05 := hJ.c0.2.2.2.2.2
   go_simp
   exact HK.out _ _ (by simp [layS, updV, lstV, Act.put]) hJ (fun v hv => hv)
  ·
   have e5 : u 5 = .pointer (some ⟨w.heap.size, 1, none⟩) := hd 5 (by decide) (by kernel_rfl)
   clear hd
   simp only [zzA, zzB]
   clear hl hne
   refine .inr ⟨rfl, fun K' hK => ?_⟩
   have HK := Lib.hid hK
   clear hK
   simp only [layS, Act.put, zzC, zzD, zzE, Nat.zero_add, Nat.reduceAdd, e5]
   have E5 := Lib.hid e5
   clear e5
   have c00 := hJ.c0.1
   have c01 := hJ.c0.2.1
   have c02 := hJ.c0.2.2.1
   have c03 := hJ.c0.2.2.2.1
   have c04 := hJ.c0.2.2.2.2.1
   have c05 := hJ.c0.2.2.2.2.2
   go_simp
   exact HK.out _ _ (by simp [layS, updV, lstV, Act.put, E5.out]) hJ (fun v hv => hv)
  ·
   clear hd
   simp only [zzA, zzB]
   clear hl hne
   refine .inr ⟨rfl, fun K' hK => ?_⟩
   have HK := Lib.hid hK
   clear hK
   simp only [layS, Act.put, zzC, zzD, zzE, Nat.zero_add, Nat.reduceAdd]
   have c00 := hJ.c0.1
   have c01 := hJ.c0.2.1
   have c02 := hJ.c0.2.2.1
   have c03 := hJ.c0.2.2.2.1
   have c04 := hJ.c0.2.2.2.2.1
   have c05 := hJ.c0.2.2.2.2.2
   go_simp
   exact HK.out _ _ (by simp [layS, updV, lstV, Act.put]) hJ (fun v hv => hv)
  ·
   have e7 : u 7 = .pointer (some ⟨w.heap.size, 1, none⟩) := hd 7 (by decide) (by kernel_rfl)
   clear hd
   simp only [zzA, zzB]
   clear hl hne
   refine .inr ⟨rfl, fun K' hK => ?_⟩
   have HK := Lib.hid hK
   clear hK
   simp only [layS, Act.put, zzC, zzD, zzE, Nat.zero_add, Nat.reduceAdd, e7]
   have E7 := Lib.hid e7
   clear e7
   have c00 := hJ.c0.1
   have c01 := hJ.c0.2.1
   have c02 := hJ.c0.2.2.1
   have c03 := hJ.c0.2.2.2.1
   have c04 := hJ.c0.2.2.2.2.1
   have c05 := hJ.c0.2.2.2.2.2
   go_simp
   exact HK.out _ _ (by simp [layS, updV, lstV, Act.put, E7.out]) hJ (fun v hv => hv)
  ·
   have e6 : u 6 = .int .i64 x1.hi := hd 6 (by decide) (by kernel_rfl)
   have e8 : u 8 = .int .i64 x1.hi := hd 8 (by decide) (by kernel_rfl)
   clear hd
   simp only [zzA, zzB]
   clear hl hne
   refine .inr ⟨rfl, fun K' hK => ?_⟩
   have HK := Lib.hid hK
   clear hK
   simp only [layS, Act.put, zzC, zzD, zzE, Nat.zero_add, Nat.reduceAdd, e6, e8]
   have E6 := Lib.hid e6
   have E8 := Lib.hid e8
   clear e6 e8
   have c00 := hJ.c0.1
   have c01 := hJ.c0.2.1
   have c02 := hJ.c0.2.2.1
   have c03 := hJ.c0.2.2.2.1
   have c04 := hJ.c0.2.2.2.2.1
   have c05 := hJ.c0.2.2.2.2.2
   go_simp
   refine (HQ.out W).mono ?_
   rintro e W' ⟨rfl, hB⟩
   exact HK.out _ _ (by simp [layS, updV, lstV, Act.put, E6.out, E8.out]) (hJ.later hB) (fun v hv => hv.later hB)
  ·
   have e4 : u 4 = .agg #[.int .i64 p.lo, .int .i64 p.hi, .bool p.all] := hd 4 (by decide) (by kernel_rfl)
   have e9 : u 9 = .agg #[.int .i64 q.lo, .int .i64 q.hi, .bool q.all] := hd 9 (by decide) (by kernel_rfl)
   clear hd
   simp only [zzA, zzB]
   clear hl hne
   refine .inr ⟨rfl, fun K' hK => ?_⟩
   have HK := Lib.hid hK
   clear hK
   simp only [layS, Act.put, zzC, zzD, zzE, Nat.zero_add, Nat.reduceAdd, e4, e9]
   have E4 := Lib.hid e4
   have E9 := Lib.hid e9
   clear e4 e9
   have c00 := hJ.c0.1
   have c01 := hJ.c0.2.1
   have c02 := hJ.c0.2.2.1
   have c03 := hJ.c0.2.2.2.1
   have c04 := hJ.c0.2.2.2.2.1
   have c05 := hJ.c0.2.2.2.2.2
   go_simp
   refine (HJ.out W).mono ?_
   rintro e W' ⟨rfl, hB⟩
   exact HK.out _ _ (by simp [layS, updV, lstV, Act.put, E4.out, E9.out]) (hJ.later hB) (fun v hv => hv.later hB)
  ·
   exact absurd rfl hne
 intro W va hJ hA
 obtain ⟨bq, rfl, hbq, hbk⟩ := hA
 simp only [layS, updV, lstV, if_true, if_false, reduceIte, Nat.reduceEqDiff, Act.put, zzC, zzD, zzE, Nat.zero_add, Nat.reduceAdd, List.getD_cons_zero, List.getD_cons_succ, List.drop_succ_cons, List.drop_zero, List.drop_nil]
 have hO : B3 W bq ⟨0, 0, false⟩ := hbk
 have o0 := hO.cells.1
 have o1 := hO.cells.2.1
 have o2 := hO.cells.2.2.1
 have o3 := hO.cells.2.2.2.1
 have o4 := hO.cells.2.2.2.2.1
 have o5 := hO.cells.2.2.2.2.2
 have hJf := hJ.far hbq j
 have hOf := hO.self j
 have cf0 := hJf.c0.1
 have cf1 := hJf.c0.2.1
 have cf2 := hJf.c0.2.2.1
 go_wp2_with fail
 clear cf0 cf1 cf2 o0 o1 o2 o3 o4 o5 hbk hO hJ
 generalize ((W.setCell ⟨bq, 0, none⟩ (.int .i64 j.lo)).setCell ⟨bq, 1, none⟩ (.int .i64 j.hi)).setCell ⟨bq, 2, none⟩ (.bool j.all) = W3 at *
 refine (HH.out _).mono ?_
 rintro e W4 ⟨rfl, hB⟩
 have hJ4 := hJf.later hB
 have hO4 := hOf.below hB
 clear hJf hOf hB
 have c10 := hJ4.c1.1
 have c11 := hJ4.c1.2.1
 have c12 := hJ4.c1.2.2.1
 have c13 := hJ4.c1.2.2.2.1
 have c14 := hJ4.c1.2.2.2.2.1
 have c15 := hJ4.c1.2.2.2.2.2
 have o0 := hO4.cells.1
 have o1 := hO4.cells.2.1
 have o2 := hO4.cells.2.2.1
 go_wp2
 have hp := hJ4.put 1 (by simp) j
 exact bodyPost_ret (v := .agg #[.int .i64 j.lo, .int .i64 j.hi, .bool j.all]) (by simp [results, Tryz.results60, go_sem, c10, c11, c12]) rfl ⟨rfl, hp.below⟩
theorem sSqr_any (x : Sp) (w : World) : Calls Tryz.prog 60 #[.agg #[.int .i64 x.lo, .int .i64 x.hi, .bool x.all]] w (PSp (sqrS x) w) := by
 have lx := line_eq x
 unfold sqrS
 cases hx : okB x
 ·
  rw [hx] at lx
  exact Sqr_no x _ (counted_any x) lx w
 ·
  rw [hx] at lx
  obtain ⟨k1, k2, k3, k4⟩ := ok_of hx
  have hm := counted_any x
  rw [mkS_ok hx] at hm lx
  have hh := Has_any x 0
  have e0 : ofS 0 0 = ⟨0, 0, false⟩ := rfl
  by_cases hz : x.lo ≤ 0 ∧ 0 ≤ x.hi
  ·
   have h1 : hasB x 0 = true := by unfold hasB; rw [hx]; simp [hz]
   rw [h1] at hh
   have := Sqr_in x x _ _ _ _ hm lx (fun W => sproduct_any x.lo x.lo W (by omega) (by omega) (by omega) (by omega)) (fun W => sproduct_any x.hi x.hi W (by omega) (by omega) (by omega) (by omega)) (Join_any _ _) hh (Join_any _ _) w
   rw [e0] at this
   simpa [hz] using this
  ·
   have h1 : hasB x 0 = false := by unfold hasB; rw [hx]; simp only [Bool.not_true, Bool.false_or, Bool.and_eq_false_iff, decide_eq_false_iff_not]; omega
   rw [h1] at hh
   have := Sqr_out x x _ _ _ _ hm lx (fun W => sproduct_any x.lo x.lo W (by omega) (by omega) (by omega) (by omega)) (fun W => sproduct_any x.hi x.hi W (by omega) (by omega) (by omega) (by omega)) (Join_any _ _) hh (Join_any _ _) w
   simpa [hz] using this
end Go.Proofs.YtolpfibihialkaaGreat
