/- The walk of the law SpanNarrow. -/
import Derived.Test.YtpacbipencmjnaaSh
namespace Go.Proofs.Ytpacbipencmjnaa
open Go.RowKit
attribute [local go_sem ↓] run_eqlS run_neqS

theorem bs4 (w : World) (x y u v : Sp) : Bs w ((((w.alloc (.cells #[.int .i64 x.lo, .int .i64 x.hi, .bool x.all] 23)).alloc (.cells #[.int .i64 y.lo, .int .i64 y.hi, .bool y.all] 23)).alloc (.cells #[.int .i64 u.lo, .int .i64 u.hi, .bool u.all] 23)).alloc (.cells #[.int .i64 v.lo, .int .i64 v.hi, .bool v.all] 23)) [x, y, u, v] :=
  (bs3 w x.lo x.hi x.all y.lo y.hi y.all u.lo u.hi u.all).more (by simp) v
theorem Bs.c3 {w W : World} {y z u x : Sp} {xs : List Sp} (h : Bs w W (y :: z :: u :: x :: xs)) : W.cell? ⟨w.heap.size + 3, 0, none⟩ = some (.int .i64 x.lo) ∧ W.cell? ⟨w.heap.size + 3, 1, none⟩ = some (.int .i64 x.hi) ∧ W.cell? ⟨w.heap.size + 3, 2, none⟩ = some (.bool x.all) ∧ W.frozen? ⟨w.heap.size + 3, 0, none⟩ = false ∧ W.frozen? ⟨w.heap.size + 3, 1, none⟩ = false ∧ W.frozen? ⟨w.heap.size + 3, 2, none⟩ = false := (h.at' 3 x rfl).cells
set_option maxRecDepth 100000 in
set_option maxHeartbeats 6400000 in
theorem SpanNarrow_any (x y p q : Sp) (w : World) : Calls Try.prog 8 #[.agg #[.int .i64 x.lo, .int .i64 x.hi, .bool x.all], .agg #[.int .i64 y.lo, .int .i64 y.hi, .bool y.all], .agg #[.int .i64 p.lo, .int .i64 p.hi, .bool p.all], .agg #[.int .i64 q.lo, .int .i64 q.hi, .bool q.all]] w (PVal (.bool true) w) := by
  cases h1 : inB x p
  case false =>
    have HI := Lib.hid (In_at h1)
    have HK := Lib.hid (In_any y q)
    generalize inB y q = b at *
    clear h1
    go_enter Try.func8, Try.ntmps8
    go_wp2_with fail
    have hX := bs4 w x y p q
    generalize (((w.alloc (.cells #[.int .i64 x.lo, .int .i64 x.hi, .bool x.all] 23)).alloc (.cells #[.int .i64 y.lo, .int .i64 y.hi, .bool y.all] 23)).alloc (.cells #[.int .i64 p.lo, .int .i64 p.hi, .bool p.all] 23)).alloc (.cells #[.int .i64 q.lo, .int .i64 q.hi, .bool q.all] 23) = w1 at *
    refine (sawake_any _).mono ?_
    rintro e w2 ⟨rfl, hB⟩
    have hJ := hX.later hB
    clear hX hB
    have c00 := hJ.c0.1
    have c01 := hJ.c0.2.1
    have c02 := hJ.c0.2.2.1
    have c03 := hJ.c0.2.2.2.1
    have c04 := hJ.c0.2.2.2.2.1
    have c05 := hJ.c0.2.2.2.2.2
    have c10 := hJ.c1.1
    have c11 := hJ.c1.2.1
    have c12 := hJ.c1.2.2.1
    have c13 := hJ.c1.2.2.2.1
    have c14 := hJ.c1.2.2.2.2.1
    have c15 := hJ.c1.2.2.2.2.2
    have c20 := hJ.c2.1
    have c21 := hJ.c2.2.1
    have c22 := hJ.c2.2.2.1
    have c23 := hJ.c2.2.2.2.1
    have c24 := hJ.c2.2.2.2.2.1
    have c25 := hJ.c2.2.2.2.2.2
    have c30 := hJ.c3.1
    have c31 := hJ.c3.2.1
    have c32 := hJ.c3.2.2.1
    have c33 := hJ.c3.2.2.2.1
    have c34 := hJ.c3.2.2.2.2.1
    have c35 := hJ.c3.2.2.2.2.2
    go_wp2_with fail
    refine (HI.out _).mono ?_
    rintro e w3 ⟨rfl, hB⟩
    have hJ2 := hJ.later hB
    clear c00 c01 c02 c03 c04 c05 c10 c11 c12 c13 c14 c15 c20 c21 c22 c23 c24 c25 c30 c31 c32 c33 c34 c35 hJ hB
    have c00 := hJ2.c0.1
    have c01 := hJ2.c0.2.1
    have c02 := hJ2.c0.2.2.1
    have c03 := hJ2.c0.2.2.2.1
    have c04 := hJ2.c0.2.2.2.2.1
    have c05 := hJ2.c0.2.2.2.2.2
    have c10 := hJ2.c1.1
    have c11 := hJ2.c1.2.1
    have c12 := hJ2.c1.2.2.1
    have c13 := hJ2.c1.2.2.2.1
    have c14 := hJ2.c1.2.2.2.2.1
    have c15 := hJ2.c1.2.2.2.2.2
    have c20 := hJ2.c2.1
    have c21 := hJ2.c2.2.1
    have c22 := hJ2.c2.2.2.1
    have c23 := hJ2.c2.2.2.2.1
    have c24 := hJ2.c2.2.2.2.2.1
    have c25 := hJ2.c2.2.2.2.2.2
    have c30 := hJ2.c3.1
    have c31 := hJ2.c3.2.1
    have c32 := hJ2.c3.2.2.1
    have c33 := hJ2.c3.2.2.2.1
    have c34 := hJ2.c3.2.2.2.2.1
    have c35 := hJ2.c3.2.2.2.2.2
    go_wp2_with fail
    refine (HK.out _).mono ?_
    rintro e w4 ⟨rfl, hB⟩
    go_wp2
    go_ret
    exact ⟨rfl, (hJ2.later hB).below⟩
  case true =>
    have HI := Lib.hid (In_at h1)
    cases h2 : inB y q
    case false =>
      have HK := Lib.hid (In_at h2)
      clear h1 h2
      go_enter Try.func8, Try.ntmps8
      go_wp2_with fail
      have hX := bs4 w x y p q
      generalize (((w.alloc (.cells #[.int .i64 x.lo, .int .i64 x.hi, .bool x.all] 23)).alloc (.cells #[.int .i64 y.lo, .int .i64 y.hi, .bool y.all] 23)).alloc (.cells #[.int .i64 p.lo, .int .i64 p.hi, .bool p.all] 23)).alloc (.cells #[.int .i64 q.lo, .int .i64 q.hi, .bool q.all] 23) = w1 at *
      refine (sawake_any _).mono ?_
      rintro e w2 ⟨rfl, hB⟩
      have hJ := hX.later hB
      clear hX hB
      have c00 := hJ.c0.1
      have c01 := hJ.c0.2.1
      have c02 := hJ.c0.2.2.1
      have c03 := hJ.c0.2.2.2.1
      have c04 := hJ.c0.2.2.2.2.1
      have c05 := hJ.c0.2.2.2.2.2
      have c10 := hJ.c1.1
      have c11 := hJ.c1.2.1
      have c12 := hJ.c1.2.2.1
      have c13 := hJ.c1.2.2.2.1
      have c14 := hJ.c1.2.2.2.2.1
      have c15 := hJ.c1.2.2.2.2.2
      have c20 := hJ.c2.1
      have c21 := hJ.c2.2.1
      have c22 := hJ.c2.2.2.1
      have c23 := hJ.c2.2.2.2.1
      have c24 := hJ.c2.2.2.2.2.1
      have c25 := hJ.c2.2.2.2.2.2
      have c30 := hJ.c3.1
      have c31 := hJ.c3.2.1
      have c32 := hJ.c3.2.2.1
      have c33 := hJ.c3.2.2.2.1
      have c34 := hJ.c3.2.2.2.2.1
      have c35 := hJ.c3.2.2.2.2.2
      go_wp2_with fail
      refine (HI.out _).mono ?_
      rintro e w3 ⟨rfl, hB⟩
      have hJ2 := hJ.later hB
      clear c00 c01 c02 c03 c04 c05 c10 c11 c12 c13 c14 c15 c20 c21 c22 c23 c24 c25 c30 c31 c32 c33 c34 c35 hJ hB
      have c00 := hJ2.c0.1
      have c01 := hJ2.c0.2.1
      have c02 := hJ2.c0.2.2.1
      have c03 := hJ2.c0.2.2.2.1
      have c04 := hJ2.c0.2.2.2.2.1
      have c05 := hJ2.c0.2.2.2.2.2
      have c10 := hJ2.c1.1
      have c11 := hJ2.c1.2.1
      have c12 := hJ2.c1.2.2.1
      have c13 := hJ2.c1.2.2.2.1
      have c14 := hJ2.c1.2.2.2.2.1
      have c15 := hJ2.c1.2.2.2.2.2
      have c20 := hJ2.c2.1
      have c21 := hJ2.c2.2.1
      have c22 := hJ2.c2.2.2.1
      have c23 := hJ2.c2.2.2.2.1
      have c24 := hJ2.c2.2.2.2.2.1
      have c25 := hJ2.c2.2.2.2.2.2
      have c30 := hJ2.c3.1
      have c31 := hJ2.c3.2.1
      have c32 := hJ2.c3.2.2.1
      have c33 := hJ2.c3.2.2.2.1
      have c34 := hJ2.c3.2.2.2.2.1
      have c35 := hJ2.c3.2.2.2.2.2
      go_wp2_with fail
      refine (HK.out _).mono ?_
      rintro e w4 ⟨rfl, hB⟩
      go_wp2
      go_ret
      exact ⟨rfl, (hJ2.later hB).below⟩
    case true =>
      have HK := Lib.hid (In_at h2)
      have Hs6 := Lib.hid (sAdd_any x y)
      have Ht6 := Lib.hid (sAdd_any p q)
      have Hi6 := Lib.hid (In_at (add_in h1 h2))
      generalize addS x y = s6 at *
      generalize addS p q = t6 at *
      have Hs7 := Lib.hid (sSub_any x y)
      have Ht7 := Lib.hid (sSub_any p q)
      have Hi7 := Lib.hid (In_at (sub_in h1 h2))
      generalize subS x y = s7 at *
      generalize subS p q = t7 at *
      have Hs8 := Lib.hid (sMul_any x y)
      have Ht8 := Lib.hid (sMul_any p q)
      have Hi8 := Lib.hid (In_at (mul_in h1 h2))
      generalize mulS x y = s8 at *
      generalize mulS p q = t8 at *
      have Hs9 := Lib.hid (sDiv_any x y)
      have Ht9 := Lib.hid (sDiv_any p q)
      have Hi9 := Lib.hid (In_at (div_in h1 h2))
      generalize divS x y = s9 at *
      generalize divS p q = t9 at *
      have Hs10 := Lib.hid (sSqr_any x)
      have Ht10 := Lib.hid (sSqr_any p)
      have Hi10 := Lib.hid (In_at (sqr_in h1))
      generalize sqrS x = s10 at *
      generalize sqrS p = t10 at *
      have Hs11 := Lib.hid (sNeg_any x)
      have Ht11 := Lib.hid (sNeg_any p)
      have Hi11 := Lib.hid (In_at (neg_in h1))
      generalize negS x = s11 at *
      generalize negS p = t11 at *
      have Hs12 := Lib.hid (Join_any x y)
      have Ht12 := Lib.hid (Join_any p q)
      have Hi12 := Lib.hid (In_at (join_in h1 h2))
      generalize joinS x y = s12 at *
      generalize joinS p q = t12 at *
      clear h1 h2
      go_enter Try.func8, Try.ntmps8
      go_wp2_with fail
      have hX := bs4 w x y p q
      generalize (((w.alloc (.cells #[.int .i64 x.lo, .int .i64 x.hi, .bool x.all] 23)).alloc (.cells #[.int .i64 y.lo, .int .i64 y.hi, .bool y.all] 23)).alloc (.cells #[.int .i64 p.lo, .int .i64 p.hi, .bool p.all] 23)).alloc (.cells #[.int .i64 q.lo, .int .i64 q.hi, .bool q.all] 23) = w1 at *
      refine (sawake_any _).mono ?_
      rintro e w2 ⟨rfl, hB⟩
      have hJ := hX.later hB
      clear hX hB
      have c00 := hJ.c0.1
      have c01 := hJ.c0.2.1
      have c02 := hJ.c0.2.2.1
      have c03 := hJ.c0.2.2.2.1
      have c04 := hJ.c0.2.2.2.2.1
      have c05 := hJ.c0.2.2.2.2.2
      have c10 := hJ.c1.1
      have c11 := hJ.c1.2.1
      have c12 := hJ.c1.2.2.1
      have c13 := hJ.c1.2.2.2.1
      have c14 := hJ.c1.2.2.2.2.1
      have c15 := hJ.c1.2.2.2.2.2
      have c20 := hJ.c2.1
      have c21 := hJ.c2.2.1
      have c22 := hJ.c2.2.2.1
      have c23 := hJ.c2.2.2.2.1
      have c24 := hJ.c2.2.2.2.2.1
      have c25 := hJ.c2.2.2.2.2.2
      have c30 := hJ.c3.1
      have c31 := hJ.c3.2.1
      have c32 := hJ.c3.2.2.1
      have c33 := hJ.c3.2.2.2.1
      have c34 := hJ.c3.2.2.2.2.1
      have c35 := hJ.c3.2.2.2.2.2
      go_wp2_with fail
      refine (HI.out _).mono ?_
      rintro e w3 ⟨rfl, hB⟩
      have hJ2 := hJ.later hB
      clear c00 c01 c02 c03 c04 c05 c10 c11 c12 c13 c14 c15 c20 c21 c22 c23 c24 c25 c30 c31 c32 c33 c34 c35 hJ hB
      have c00 := hJ2.c0.1
      have c01 := hJ2.c0.2.1
      have c02 := hJ2.c0.2.2.1
      have c03 := hJ2.c0.2.2.2.1
      have c04 := hJ2.c0.2.2.2.2.1
      have c05 := hJ2.c0.2.2.2.2.2
      have c10 := hJ2.c1.1
      have c11 := hJ2.c1.2.1
      have c12 := hJ2.c1.2.2.1
      have c13 := hJ2.c1.2.2.2.1
      have c14 := hJ2.c1.2.2.2.2.1
      have c15 := hJ2.c1.2.2.2.2.2
      have c20 := hJ2.c2.1
      have c21 := hJ2.c2.2.1
      have c22 := hJ2.c2.2.2.1
      have c23 := hJ2.c2.2.2.2.1
      have c24 := hJ2.c2.2.2.2.2.1
      have c25 := hJ2.c2.2.2.2.2.2
      have c30 := hJ2.c3.1
      have c31 := hJ2.c3.2.1
      have c32 := hJ2.c3.2.2.1
      have c33 := hJ2.c3.2.2.2.1
      have c34 := hJ2.c3.2.2.2.2.1
      have c35 := hJ2.c3.2.2.2.2.2
      go_wp2_with fail
      refine (HK.out _).mono ?_
      rintro e w4 ⟨rfl, hB⟩
      have hJ := hJ2.later hB
      clear c00 c01 c02 c03 c04 c05 c10 c11 c12 c13 c14 c15 c20 c21 c22 c23 c24 c25 c30 c31 c32 c33 c34 c35 hJ2 hB
      go_wp2
      refine wp_region_vals 8 [some 33, some 34, some 35, some 36, some 37, some 38, some 39, some 12] (lstV [.agg #[.int .i64 x.lo, .int .i64 x.hi, .bool x.all], .agg #[.int .i64 y.lo, .int .i64 y.hi, .bool y.all], .agg #[.int .i64 s6.lo, .int .i64 s6.hi, .bool s6.all], .agg #[.int .i64 p.lo, .int .i64 p.hi, .bool p.all], .agg #[.int .i64 q.lo, .int .i64 q.hi, .bool q.all], .agg #[.int .i64 t6.lo, .int .i64 t6.hi, .bool t6.all], .bool true, .bool true]) (fun W => Bs w W [x, y, p, q]) (by kernel_rfl) (by kernel_rfl) (by decide) (hJ.drew) ?_ ?_
      · intro i hl hi u W hJ hd
        obtain rfl | rfl | rfl | rfl | rfl | rfl | rfl | rfl : i = 0 ∨ i = 1 ∨ i = 2 ∨ i = 3 ∨ i = 4 ∨ i = 5 ∨ i = 6 ∨ i = 7 := by omega
        · skip
          clear hd
          simp only [List.getElem_cons_succ, List.getElem_cons_zero]
          clear hl
          refine .inr ⟨rfl, fun K' hK => ?_⟩
          have HK := Lib.hid hK
          clear hK
          simp only [layS, Act.put, List.setIfInBounds_toArray, List.set_cons_succ, List.set_cons_zero, Nat.zero_add, Nat.reduceAdd]
          have c00 := hJ.c0.1
          have c01 := hJ.c0.2.1
          have c02 := hJ.c0.2.2.1
          go_simp
          exact HK.out _ _ (by simp [layS, updV, lstV, Act.put]) hJ
        · skip
          clear hd
          simp only [List.getElem_cons_succ, List.getElem_cons_zero]
          clear hl
          refine .inr ⟨rfl, fun K' hK => ?_⟩
          have HK := Lib.hid hK
          clear hK
          simp only [layS, Act.put, List.setIfInBounds_toArray, List.set_cons_succ, List.set_cons_zero, Nat.zero_add, Nat.reduceAdd]
          have c10 := hJ.c1.1
          have c11 := hJ.c1.2.1
          have c12 := hJ.c1.2.2.1
          go_simp
          exact HK.out _ _ (by simp [layS, updV, lstV, Act.put]) hJ
        · have e0 : u 0 = .agg #[.int .i64 x.lo, .int .i64 x.hi, .bool x.all] := hd 0 (by kernel_rfl)
          have e1 : u 1 = .agg #[.int .i64 y.lo, .int .i64 y.hi, .bool y.all] := hd 1 (by kernel_rfl)
          clear hd
          simp only [List.getElem_cons_succ, List.getElem_cons_zero]
          clear hl
          refine .inr ⟨rfl, fun K' hK => ?_⟩
          have HK := Lib.hid hK
          clear hK
          simp only [layS, Act.put, List.setIfInBounds_toArray, List.set_cons_succ, List.set_cons_zero, Nat.zero_add, Nat.reduceAdd, e0, e1]
          have E0 := Lib.hid e0
          have E1 := Lib.hid e1
          clear e0 e1
          go_simp
          refine (Hs6.out W).mono ?_
          rintro e W' ⟨rfl, hB⟩
          exact HK.out _ _ (by simp [layS, updV, lstV, Act.put, E0.out, E1.out]) (hJ.later hB)
        · skip
          clear hd
          simp only [List.getElem_cons_succ, List.getElem_cons_zero]
          clear hl
          refine .inr ⟨rfl, fun K' hK => ?_⟩
          have HK := Lib.hid hK
          clear hK
          simp only [layS, Act.put, List.setIfInBounds_toArray, List.set_cons_succ, List.set_cons_zero, Nat.zero_add, Nat.reduceAdd]
          have c20 := hJ.c2.1
          have c21 := hJ.c2.2.1
          have c22 := hJ.c2.2.2.1
          go_simp
          exact HK.out _ _ (by simp [layS, updV, lstV, Act.put]) hJ
        · skip
          clear hd
          simp only [List.getElem_cons_succ, List.getElem_cons_zero]
          clear hl
          refine .inr ⟨rfl, fun K' hK => ?_⟩
          have HK := Lib.hid hK
          clear hK
          simp only [layS, Act.put, List.setIfInBounds_toArray, List.set_cons_succ, List.set_cons_zero, Nat.zero_add, Nat.reduceAdd]
          have c30 := hJ.c3.1
          have c31 := hJ.c3.2.1
          have c32 := hJ.c3.2.2.1
          go_simp
          exact HK.out _ _ (by simp [layS, updV, lstV, Act.put]) hJ
        · have e3 : u 3 = .agg #[.int .i64 p.lo, .int .i64 p.hi, .bool p.all] := hd 3 (by kernel_rfl)
          have e4 : u 4 = .agg #[.int .i64 q.lo, .int .i64 q.hi, .bool q.all] := hd 4 (by kernel_rfl)
          clear hd
          simp only [List.getElem_cons_succ, List.getElem_cons_zero]
          clear hl
          refine .inr ⟨rfl, fun K' hK => ?_⟩
          have HK := Lib.hid hK
          clear hK
          simp only [layS, Act.put, List.setIfInBounds_toArray, List.set_cons_succ, List.set_cons_zero, Nat.zero_add, Nat.reduceAdd, e3, e4]
          have E3 := Lib.hid e3
          have E4 := Lib.hid e4
          clear e3 e4
          go_simp
          refine (Ht6.out W).mono ?_
          rintro e W' ⟨rfl, hB⟩
          exact HK.out _ _ (by simp [layS, updV, lstV, Act.put, E3.out, E4.out]) (hJ.later hB)
        · have e2 : u 2 = .agg #[.int .i64 s6.lo, .int .i64 s6.hi, .bool s6.all] := hd 2 (by kernel_rfl)
          have e5 : u 5 = .agg #[.int .i64 t6.lo, .int .i64 t6.hi, .bool t6.all] := hd 5 (by kernel_rfl)
          clear hd
          simp only [List.getElem_cons_succ, List.getElem_cons_zero]
          clear hl
          refine .inr ⟨rfl, fun K' hK => ?_⟩
          have HK := Lib.hid hK
          clear hK
          simp only [layS, Act.put, List.setIfInBounds_toArray, List.set_cons_succ, List.set_cons_zero, Nat.zero_add, Nat.reduceAdd, e2, e5]
          have E2 := Lib.hid e2
          have E5 := Lib.hid e5
          clear e2 e5
          go_simp
          refine (Hi6.out W).mono ?_
          rintro e W' ⟨rfl, hB⟩
          exact HK.out _ _ (by simp [layS, updV, lstV, Act.put, E2.out, E5.out]) (hJ.later hB)
        · have e6 : u 6 = .bool true := hd 6 (by kernel_rfl)
          clear hd
          simp only [List.getElem_cons_succ, List.getElem_cons_zero]
          clear hl
          refine .inr ⟨rfl, fun K' hK => ?_⟩
          have HK := Lib.hid hK
          clear hK
          simp only [layS, Act.put, List.setIfInBounds_toArray, List.set_cons_succ, List.set_cons_zero, Nat.zero_add, Nat.reduceAdd, e6]
          have E6 := Lib.hid e6
          clear e6
          go_simp
          exact HK.out _ _ (by simp [layS, updV, lstV, Act.put, E6.out]) hJ
      intro W hJ
      simp only [layS, lstV, Act.put, List.setIfInBounds_toArray, List.set_cons_succ, List.set_cons_zero, Nat.zero_add, Nat.reduceAdd, List.getD_cons_zero, List.getD_cons_succ, List.drop_succ_cons, List.drop_zero, List.drop_nil]
      go_wp2
      refine wp_region_vals 8 [some 40, some 41, some 42, some 43, some 44, some 45, some 46, some 13] (lstV [.agg #[.int .i64 x.lo, .int .i64 x.hi, .bool x.all], .agg #[.int .i64 y.lo, .int .i64 y.hi, .bool y.all], .agg #[.int .i64 s7.lo, .int .i64 s7.hi, .bool s7.all], .agg #[.int .i64 p.lo, .int .i64 p.hi, .bool p.all], .agg #[.int .i64 q.lo, .int .i64 q.hi, .bool q.all], .agg #[.int .i64 t7.lo, .int .i64 t7.hi, .bool t7.all], .bool true, .bool true]) (fun W => Bs w W [x, y, p, q]) (by kernel_rfl) (by kernel_rfl) (by decide) (hJ.drew) ?_ ?_
      · intro i hl hi u W hJ hd
        obtain rfl | rfl | rfl | rfl | rfl | rfl | rfl | rfl : i = 0 ∨ i = 1 ∨ i = 2 ∨ i = 3 ∨ i = 4 ∨ i = 5 ∨ i = 6 ∨ i = 7 := by omega
        · skip
          clear hd
          simp only [List.getElem_cons_succ, List.getElem_cons_zero]
          clear hl
          refine .inr ⟨rfl, fun K' hK => ?_⟩
          have HK := Lib.hid hK
          clear hK
          simp only [layS, Act.put, List.setIfInBounds_toArray, List.set_cons_succ, List.set_cons_zero, Nat.zero_add, Nat.reduceAdd]
          have c00 := hJ.c0.1
          have c01 := hJ.c0.2.1
          have c02 := hJ.c0.2.2.1
          go_simp
          exact HK.out _ _ (by simp [layS, updV, lstV, Act.put]) hJ
        · skip
          clear hd
          simp only [List.getElem_cons_succ, List.getElem_cons_zero]
          clear hl
          refine .inr ⟨rfl, fun K' hK => ?_⟩
          have HK := Lib.hid hK
          clear hK
          simp only [layS, Act.put, List.setIfInBounds_toArray, List.set_cons_succ, List.set_cons_zero, Nat.zero_add, Nat.reduceAdd]
          have c10 := hJ.c1.1
          have c11 := hJ.c1.2.1
          have c12 := hJ.c1.2.2.1
          go_simp
          exact HK.out _ _ (by simp [layS, updV, lstV, Act.put]) hJ
        · have e0 : u 0 = .agg #[.int .i64 x.lo, .int .i64 x.hi, .bool x.all] := hd 0 (by kernel_rfl)
          have e1 : u 1 = .agg #[.int .i64 y.lo, .int .i64 y.hi, .bool y.all] := hd 1 (by kernel_rfl)
          clear hd
          simp only [List.getElem_cons_succ, List.getElem_cons_zero]
          clear hl
          refine .inr ⟨rfl, fun K' hK => ?_⟩
          have HK := Lib.hid hK
          clear hK
          simp only [layS, Act.put, List.setIfInBounds_toArray, List.set_cons_succ, List.set_cons_zero, Nat.zero_add, Nat.reduceAdd, e0, e1]
          have E0 := Lib.hid e0
          have E1 := Lib.hid e1
          clear e0 e1
          go_simp
          refine (Hs7.out W).mono ?_
          rintro e W' ⟨rfl, hB⟩
          exact HK.out _ _ (by simp [layS, updV, lstV, Act.put, E0.out, E1.out]) (hJ.later hB)
        · skip
          clear hd
          simp only [List.getElem_cons_succ, List.getElem_cons_zero]
          clear hl
          refine .inr ⟨rfl, fun K' hK => ?_⟩
          have HK := Lib.hid hK
          clear hK
          simp only [layS, Act.put, List.setIfInBounds_toArray, List.set_cons_succ, List.set_cons_zero, Nat.zero_add, Nat.reduceAdd]
          have c20 := hJ.c2.1
          have c21 := hJ.c2.2.1
          have c22 := hJ.c2.2.2.1
          go_simp
          exact HK.out _ _ (by simp [layS, updV, lstV, Act.put]) hJ
        · skip
          clear hd
          simp only [List.getElem_cons_succ, List.getElem_cons_zero]
          clear hl
          refine .inr ⟨rfl, fun K' hK => ?_⟩
          have HK := Lib.hid hK
          clear hK
          simp only [layS, Act.put, List.setIfInBounds_toArray, List.set_cons_succ, List.set_cons_zero, Nat.zero_add, Nat.reduceAdd]
          have c30 := hJ.c3.1
          have c31 := hJ.c3.2.1
          have c32 := hJ.c3.2.2.1
          go_simp
          exact HK.out _ _ (by simp [layS, updV, lstV, Act.put]) hJ
        · have e3 : u 3 = .agg #[.int .i64 p.lo, .int .i64 p.hi, .bool p.all] := hd 3 (by kernel_rfl)
          have e4 : u 4 = .agg #[.int .i64 q.lo, .int .i64 q.hi, .bool q.all] := hd 4 (by kernel_rfl)
          clear hd
          simp only [List.getElem_cons_succ, List.getElem_cons_zero]
          clear hl
          refine .inr ⟨rfl, fun K' hK => ?_⟩
          have HK := Lib.hid hK
          clear hK
          simp only [layS, Act.put, List.setIfInBounds_toArray, List.set_cons_succ, List.set_cons_zero, Nat.zero_add, Nat.reduceAdd, e3, e4]
          have E3 := Lib.hid e3
          have E4 := Lib.hid e4
          clear e3 e4
          go_simp
          refine (Ht7.out W).mono ?_
          rintro e W' ⟨rfl, hB⟩
          exact HK.out _ _ (by simp [layS, updV, lstV, Act.put, E3.out, E4.out]) (hJ.later hB)
        · have e2 : u 2 = .agg #[.int .i64 s7.lo, .int .i64 s7.hi, .bool s7.all] := hd 2 (by kernel_rfl)
          have e5 : u 5 = .agg #[.int .i64 t7.lo, .int .i64 t7.hi, .bool t7.all] := hd 5 (by kernel_rfl)
          clear hd
          simp only [List.getElem_cons_succ, List.getElem_cons_zero]
          clear hl
          refine .inr ⟨rfl, fun K' hK => ?_⟩
          have HK := Lib.hid hK
          clear hK
          simp only [layS, Act.put, List.setIfInBounds_toArray, List.set_cons_succ, List.set_cons_zero, Nat.zero_add, Nat.reduceAdd, e2, e5]
          have E2 := Lib.hid e2
          have E5 := Lib.hid e5
          clear e2 e5
          go_simp
          refine (Hi7.out W).mono ?_
          rintro e W' ⟨rfl, hB⟩
          exact HK.out _ _ (by simp [layS, updV, lstV, Act.put, E2.out, E5.out]) (hJ.later hB)
        · have e6 : u 6 = .bool true := hd 6 (by kernel_rfl)
          clear hd
          simp only [List.getElem_cons_succ, List.getElem_cons_zero]
          clear hl
          refine .inr ⟨rfl, fun K' hK => ?_⟩
          have HK := Lib.hid hK
          clear hK
          simp only [layS, Act.put, List.setIfInBounds_toArray, List.set_cons_succ, List.set_cons_zero, Nat.zero_add, Nat.reduceAdd, e6]
          have E6 := Lib.hid e6
          clear e6
          go_simp
          exact HK.out _ _ (by simp [layS, updV, lstV, Act.put, E6.out]) hJ
      intro W hJ
      simp only [layS, lstV, Act.put, List.setIfInBounds_toArray, List.set_cons_succ, List.set_cons_zero, Nat.zero_add, Nat.reduceAdd, List.getD_cons_zero, List.getD_cons_succ, List.drop_succ_cons, List.drop_zero, List.drop_nil]
      go_wp2
      refine wp_region_vals 8 [some 47, some 48, some 49, some 50, some 51, some 52, some 53, some 14] (lstV [.agg #[.int .i64 x.lo, .int .i64 x.hi, .bool x.all], .agg #[.int .i64 y.lo, .int .i64 y.hi, .bool y.all], .agg #[.int .i64 s8.lo, .int .i64 s8.hi, .bool s8.all], .agg #[.int .i64 p.lo, .int .i64 p.hi, .bool p.all], .agg #[.int .i64 q.lo, .int .i64 q.hi, .bool q.all], .agg #[.int .i64 t8.lo, .int .i64 t8.hi, .bool t8.all], .bool true, .bool true]) (fun W => Bs w W [x, y, p, q]) (by kernel_rfl) (by kernel_rfl) (by decide) (hJ.drew) ?_ ?_
      · intro i hl hi u W hJ hd
        obtain rfl | rfl | rfl | rfl | rfl | rfl | rfl | rfl : i = 0 ∨ i = 1 ∨ i = 2 ∨ i = 3 ∨ i = 4 ∨ i = 5 ∨ i = 6 ∨ i = 7 := by omega
        · skip
          clear hd
          simp only [List.getElem_cons_succ, List.getElem_cons_zero]
          clear hl
          refine .inr ⟨rfl, fun K' hK => ?_⟩
          have HK := Lib.hid hK
          clear hK
          simp only [layS, Act.put, List.setIfInBounds_toArray, List.set_cons_succ, List.set_cons_zero, Nat.zero_add, Nat.reduceAdd]
          have c00 := hJ.c0.1
          have c01 := hJ.c0.2.1
          have c02 := hJ.c0.2.2.1
          go_simp
          exact HK.out _ _ (by simp [layS, updV, lstV, Act.put]) hJ
        · skip
          clear hd
          simp only [List.getElem_cons_succ, List.getElem_cons_zero]
          clear hl
          refine .inr ⟨rfl, fun K' hK => ?_⟩
          have HK := Lib.hid hK
          clear hK
          simp only [layS, Act.put, List.setIfInBounds_toArray, List.set_cons_succ, List.set_cons_zero, Nat.zero_add, Nat.reduceAdd]
          have c10 := hJ.c1.1
          have c11 := hJ.c1.2.1
          have c12 := hJ.c1.2.2.1
          go_simp
          exact HK.out _ _ (by simp [layS, updV, lstV, Act.put]) hJ
        · have e0 : u 0 = .agg #[.int .i64 x.lo, .int .i64 x.hi, .bool x.all] := hd 0 (by kernel_rfl)
          have e1 : u 1 = .agg #[.int .i64 y.lo, .int .i64 y.hi, .bool y.all] := hd 1 (by kernel_rfl)
          clear hd
          simp only [List.getElem_cons_succ, List.getElem_cons_zero]
          clear hl
          refine .inr ⟨rfl, fun K' hK => ?_⟩
          have HK := Lib.hid hK
          clear hK
          simp only [layS, Act.put, List.setIfInBounds_toArray, List.set_cons_succ, List.set_cons_zero, Nat.zero_add, Nat.reduceAdd, e0, e1]
          have E0 := Lib.hid e0
          have E1 := Lib.hid e1
          clear e0 e1
          go_simp
          refine (Hs8.out W).mono ?_
          rintro e W' ⟨rfl, hB⟩
          exact HK.out _ _ (by simp [layS, updV, lstV, Act.put, E0.out, E1.out]) (hJ.later hB)
        · skip
          clear hd
          simp only [List.getElem_cons_succ, List.getElem_cons_zero]
          clear hl
          refine .inr ⟨rfl, fun K' hK => ?_⟩
          have HK := Lib.hid hK
          clear hK
          simp only [layS, Act.put, List.setIfInBounds_toArray, List.set_cons_succ, List.set_cons_zero, Nat.zero_add, Nat.reduceAdd]
          have c20 := hJ.c2.1
          have c21 := hJ.c2.2.1
          have c22 := hJ.c2.2.2.1
          go_simp
          exact HK.out _ _ (by simp [layS, updV, lstV, Act.put]) hJ
        · skip
          clear hd
          simp only [List.getElem_cons_succ, List.getElem_cons_zero]
          clear hl
          refine .inr ⟨rfl, fun K' hK => ?_⟩
          have HK := Lib.hid hK
          clear hK
          simp only [layS, Act.put, List.setIfInBounds_toArray, List.set_cons_succ, List.set_cons_zero, Nat.zero_add, Nat.reduceAdd]
          have c30 := hJ.c3.1
          have c31 := hJ.c3.2.1
          have c32 := hJ.c3.2.2.1
          go_simp
          exact HK.out _ _ (by simp [layS, updV, lstV, Act.put]) hJ
        · have e3 : u 3 = .agg #[.int .i64 p.lo, .int .i64 p.hi, .bool p.all] := hd 3 (by kernel_rfl)
          have e4 : u 4 = .agg #[.int .i64 q.lo, .int .i64 q.hi, .bool q.all] := hd 4 (by kernel_rfl)
          clear hd
          simp only [List.getElem_cons_succ, List.getElem_cons_zero]
          clear hl
          refine .inr ⟨rfl, fun K' hK => ?_⟩
          have HK := Lib.hid hK
          clear hK
          simp only [layS, Act.put, List.setIfInBounds_toArray, List.set_cons_succ, List.set_cons_zero, Nat.zero_add, Nat.reduceAdd, e3, e4]
          have E3 := Lib.hid e3
          have E4 := Lib.hid e4
          clear e3 e4
          go_simp
          refine (Ht8.out W).mono ?_
          rintro e W' ⟨rfl, hB⟩
          exact HK.out _ _ (by simp [layS, updV, lstV, Act.put, E3.out, E4.out]) (hJ.later hB)
        · have e2 : u 2 = .agg #[.int .i64 s8.lo, .int .i64 s8.hi, .bool s8.all] := hd 2 (by kernel_rfl)
          have e5 : u 5 = .agg #[.int .i64 t8.lo, .int .i64 t8.hi, .bool t8.all] := hd 5 (by kernel_rfl)
          clear hd
          simp only [List.getElem_cons_succ, List.getElem_cons_zero]
          clear hl
          refine .inr ⟨rfl, fun K' hK => ?_⟩
          have HK := Lib.hid hK
          clear hK
          simp only [layS, Act.put, List.setIfInBounds_toArray, List.set_cons_succ, List.set_cons_zero, Nat.zero_add, Nat.reduceAdd, e2, e5]
          have E2 := Lib.hid e2
          have E5 := Lib.hid e5
          clear e2 e5
          go_simp
          refine (Hi8.out W).mono ?_
          rintro e W' ⟨rfl, hB⟩
          exact HK.out _ _ (by simp [layS, updV, lstV, Act.put, E2.out, E5.out]) (hJ.later hB)
        · have e6 : u 6 = .bool true := hd 6 (by kernel_rfl)
          clear hd
          simp only [List.getElem_cons_succ, List.getElem_cons_zero]
          clear hl
          refine .inr ⟨rfl, fun K' hK => ?_⟩
          have HK := Lib.hid hK
          clear hK
          simp only [layS, Act.put, List.setIfInBounds_toArray, List.set_cons_succ, List.set_cons_zero, Nat.zero_add, Nat.reduceAdd, e6]
          have E6 := Lib.hid e6
          clear e6
          go_simp
          exact HK.out _ _ (by simp [layS, updV, lstV, Act.put, E6.out]) hJ
      intro W hJ
      simp only [layS, lstV, Act.put, List.setIfInBounds_toArray, List.set_cons_succ, List.set_cons_zero, Nat.zero_add, Nat.reduceAdd, List.getD_cons_zero, List.getD_cons_succ, List.drop_succ_cons, List.drop_zero, List.drop_nil]
      go_wp2
      refine wp_region_vals 8 [some 54, some 55, some 56, some 57, some 58, some 59, some 60, some 15] (lstV [.agg #[.int .i64 x.lo, .int .i64 x.hi, .bool x.all], .agg #[.int .i64 y.lo, .int .i64 y.hi, .bool y.all], .agg #[.int .i64 s9.lo, .int .i64 s9.hi, .bool s9.all], .agg #[.int .i64 p.lo, .int .i64 p.hi, .bool p.all], .agg #[.int .i64 q.lo, .int .i64 q.hi, .bool q.all], .agg #[.int .i64 t9.lo, .int .i64 t9.hi, .bool t9.all], .bool true, .bool true]) (fun W => Bs w W [x, y, p, q]) (by kernel_rfl) (by kernel_rfl) (by decide) (hJ.drew) ?_ ?_
      · intro i hl hi u W hJ hd
        obtain rfl | rfl | rfl | rfl | rfl | rfl | rfl | rfl : i = 0 ∨ i = 1 ∨ i = 2 ∨ i = 3 ∨ i = 4 ∨ i = 5 ∨ i = 6 ∨ i = 7 := by omega
        · skip
          clear hd
          simp only [List.getElem_cons_succ, List.getElem_cons_zero]
          clear hl
          refine .inr ⟨rfl, fun K' hK => ?_⟩
          have HK := Lib.hid hK
          clear hK
          simp only [layS, Act.put, List.setIfInBounds_toArray, List.set_cons_succ, List.set_cons_zero, Nat.zero_add, Nat.reduceAdd]
          have c00 := hJ.c0.1
          have c01 := hJ.c0.2.1
          have c02 := hJ.c0.2.2.1
          go_simp
          exact HK.out _ _ (by simp [layS, updV, lstV, Act.put]) hJ
        · skip
          clear hd
          simp only [List.getElem_cons_succ, List.getElem_cons_zero]
          clear hl
          refine .inr ⟨rfl, fun K' hK => ?_⟩
          have HK := Lib.hid hK
          clear hK
          simp only [layS, Act.put, List.setIfInBounds_toArray, List.set_cons_succ, List.set_cons_zero, Nat.zero_add, Nat.reduceAdd]
          have c10 := hJ.c1.1
          have c11 := hJ.c1.2.1
          have c12 := hJ.c1.2.2.1
          go_simp
          exact HK.out _ _ (by simp [layS, updV, lstV, Act.put]) hJ
        · have e0 : u 0 = .agg #[.int .i64 x.lo, .int .i64 x.hi, .bool x.all] := hd 0 (by kernel_rfl)
          have e1 : u 1 = .agg #[.int .i64 y.lo, .int .i64 y.hi, .bool y.all] := hd 1 (by kernel_rfl)
          clear hd
          simp only [List.getElem_cons_succ, List.getElem_cons_zero]
          clear hl
          refine .inr ⟨rfl, fun K' hK => ?_⟩
          have HK := Lib.hid hK
          clear hK
          simp only [layS, Act.put, List.setIfInBounds_toArray, List.set_cons_succ, List.set_cons_zero, Nat.zero_add, Nat.reduceAdd, e0, e1]
          have E0 := Lib.hid e0
          have E1 := Lib.hid e1
          clear e0 e1
          go_simp
          refine (Hs9.out W).mono ?_
          rintro e W' ⟨rfl, hB⟩
          exact HK.out _ _ (by simp [layS, updV, lstV, Act.put, E0.out, E1.out]) (hJ.later hB)
        · skip
          clear hd
          simp only [List.getElem_cons_succ, List.getElem_cons_zero]
          clear hl
          refine .inr ⟨rfl, fun K' hK => ?_⟩
          have HK := Lib.hid hK
          clear hK
          simp only [layS, Act.put, List.setIfInBounds_toArray, List.set_cons_succ, List.set_cons_zero, Nat.zero_add, Nat.reduceAdd]
          have c20 := hJ.c2.1
          have c21 := hJ.c2.2.1
          have c22 := hJ.c2.2.2.1
          go_simp
          exact HK.out _ _ (by simp [layS, updV, lstV, Act.put]) hJ
        · skip
          clear hd
          simp only [List.getElem_cons_succ, List.getElem_cons_zero]
          clear hl
          refine .inr ⟨rfl, fun K' hK => ?_⟩
          have HK := Lib.hid hK
          clear hK
          simp only [layS, Act.put, List.setIfInBounds_toArray, List.set_cons_succ, List.set_cons_zero, Nat.zero_add, Nat.reduceAdd]
          have c30 := hJ.c3.1
          have c31 := hJ.c3.2.1
          have c32 := hJ.c3.2.2.1
          go_simp
          exact HK.out _ _ (by simp [layS, updV, lstV, Act.put]) hJ
        · have e3 : u 3 = .agg #[.int .i64 p.lo, .int .i64 p.hi, .bool p.all] := hd 3 (by kernel_rfl)
          have e4 : u 4 = .agg #[.int .i64 q.lo, .int .i64 q.hi, .bool q.all] := hd 4 (by kernel_rfl)
          clear hd
          simp only [List.getElem_cons_succ, List.getElem_cons_zero]
          clear hl
          refine .inr ⟨rfl, fun K' hK => ?_⟩
          have HK := Lib.hid hK
          clear hK
          simp only [layS, Act.put, List.setIfInBounds_toArray, List.set_cons_succ, List.set_cons_zero, Nat.zero_add, Nat.reduceAdd, e3, e4]
          have E3 := Lib.hid e3
          have E4 := Lib.hid e4
          clear e3 e4
          go_simp
          refine (Ht9.out W).mono ?_
          rintro e W' ⟨rfl, hB⟩
          exact HK.out _ _ (by simp [layS, updV, lstV, Act.put, E3.out, E4.out]) (hJ.later hB)
        · have e2 : u 2 = .agg #[.int .i64 s9.lo, .int .i64 s9.hi, .bool s9.all] := hd 2 (by kernel_rfl)
          have e5 : u 5 = .agg #[.int .i64 t9.lo, .int .i64 t9.hi, .bool t9.all] := hd 5 (by kernel_rfl)
          clear hd
          simp only [List.getElem_cons_succ, List.getElem_cons_zero]
          clear hl
          refine .inr ⟨rfl, fun K' hK => ?_⟩
          have HK := Lib.hid hK
          clear hK
          simp only [layS, Act.put, List.setIfInBounds_toArray, List.set_cons_succ, List.set_cons_zero, Nat.zero_add, Nat.reduceAdd, e2, e5]
          have E2 := Lib.hid e2
          have E5 := Lib.hid e5
          clear e2 e5
          go_simp
          refine (Hi9.out W).mono ?_
          rintro e W' ⟨rfl, hB⟩
          exact HK.out _ _ (by simp [layS, updV, lstV, Act.put, E2.out, E5.out]) (hJ.later hB)
        · have e6 : u 6 = .bool true := hd 6 (by kernel_rfl)
          clear hd
          simp only [List.getElem_cons_succ, List.getElem_cons_zero]
          clear hl
          refine .inr ⟨rfl, fun K' hK => ?_⟩
          have HK := Lib.hid hK
          clear hK
          simp only [layS, Act.put, List.setIfInBounds_toArray, List.set_cons_succ, List.set_cons_zero, Nat.zero_add, Nat.reduceAdd, e6]
          have E6 := Lib.hid e6
          clear e6
          go_simp
          exact HK.out _ _ (by simp [layS, updV, lstV, Act.put, E6.out]) hJ
      intro W hJ
      simp only [layS, lstV, Act.put, List.setIfInBounds_toArray, List.set_cons_succ, List.set_cons_zero, Nat.zero_add, Nat.reduceAdd, List.getD_cons_zero, List.getD_cons_succ, List.drop_succ_cons, List.drop_zero, List.drop_nil]
      go_wp2
      refine wp_region_vals 6 [some 61, some 62, some 63, some 64, some 65, some 16] (lstV [.agg #[.int .i64 x.lo, .int .i64 x.hi, .bool x.all], .agg #[.int .i64 s10.lo, .int .i64 s10.hi, .bool s10.all], .agg #[.int .i64 p.lo, .int .i64 p.hi, .bool p.all], .agg #[.int .i64 t10.lo, .int .i64 t10.hi, .bool t10.all], .bool true, .bool true]) (fun W => Bs w W [x, y, p, q]) (by kernel_rfl) (by kernel_rfl) (by decide) (hJ.drew) ?_ ?_
      · intro i hl hi u W hJ hd
        obtain rfl | rfl | rfl | rfl | rfl | rfl : i = 0 ∨ i = 1 ∨ i = 2 ∨ i = 3 ∨ i = 4 ∨ i = 5 := by omega
        · skip
          clear hd
          simp only [List.getElem_cons_succ, List.getElem_cons_zero]
          clear hl
          refine .inr ⟨rfl, fun K' hK => ?_⟩
          have HK := Lib.hid hK
          clear hK
          simp only [layS, Act.put, List.setIfInBounds_toArray, List.set_cons_succ, List.set_cons_zero, Nat.zero_add, Nat.reduceAdd]
          have c00 := hJ.c0.1
          have c01 := hJ.c0.2.1
          have c02 := hJ.c0.2.2.1
          go_simp
          exact HK.out _ _ (by simp [layS, updV, lstV, Act.put]) hJ
        · have e0 : u 0 = .agg #[.int .i64 x.lo, .int .i64 x.hi, .bool x.all] := hd 0 (by kernel_rfl)
          clear hd
          simp only [List.getElem_cons_succ, List.getElem_cons_zero]
          clear hl
          refine .inr ⟨rfl, fun K' hK => ?_⟩
          have HK := Lib.hid hK
          clear hK
          simp only [layS, Act.put, List.setIfInBounds_toArray, List.set_cons_succ, List.set_cons_zero, Nat.zero_add, Nat.reduceAdd, e0]
          have E0 := Lib.hid e0
          clear e0
          go_simp
          refine (Hs10.out W).mono ?_
          rintro e W' ⟨rfl, hB⟩
          exact HK.out _ _ (by simp [layS, updV, lstV, Act.put, E0.out]) (hJ.later hB)
        · skip
          clear hd
          simp only [List.getElem_cons_succ, List.getElem_cons_zero]
          clear hl
          refine .inr ⟨rfl, fun K' hK => ?_⟩
          have HK := Lib.hid hK
          clear hK
          simp only [layS, Act.put, List.setIfInBounds_toArray, List.set_cons_succ, List.set_cons_zero, Nat.zero_add, Nat.reduceAdd]
          have c20 := hJ.c2.1
          have c21 := hJ.c2.2.1
          have c22 := hJ.c2.2.2.1
          go_simp
          exact HK.out _ _ (by simp [layS, updV, lstV, Act.put]) hJ
        · have e2 : u 2 = .agg #[.int .i64 p.lo, .int .i64 p.hi, .bool p.all] := hd 2 (by kernel_rfl)
          clear hd
          simp only [List.getElem_cons_succ, List.getElem_cons_zero]
          clear hl
          refine .inr ⟨rfl, fun K' hK => ?_⟩
          have HK := Lib.hid hK
          clear hK
          simp only [layS, Act.put, List.setIfInBounds_toArray, List.set_cons_succ, List.set_cons_zero, Nat.zero_add, Nat.reduceAdd, e2]
          have E2 := Lib.hid e2
          clear e2
          go_simp
          refine (Ht10.out W).mono ?_
          rintro e W' ⟨rfl, hB⟩
          exact HK.out _ _ (by simp [layS, updV, lstV, Act.put, E2.out]) (hJ.later hB)
        · have e1 : u 1 = .agg #[.int .i64 s10.lo, .int .i64 s10.hi, .bool s10.all] := hd 1 (by kernel_rfl)
          have e3 : u 3 = .agg #[.int .i64 t10.lo, .int .i64 t10.hi, .bool t10.all] := hd 3 (by kernel_rfl)
          clear hd
          simp only [List.getElem_cons_succ, List.getElem_cons_zero]
          clear hl
          refine .inr ⟨rfl, fun K' hK => ?_⟩
          have HK := Lib.hid hK
          clear hK
          simp only [layS, Act.put, List.setIfInBounds_toArray, List.set_cons_succ, List.set_cons_zero, Nat.zero_add, Nat.reduceAdd, e1, e3]
          have E1 := Lib.hid e1
          have E3 := Lib.hid e3
          clear e1 e3
          go_simp
          refine (Hi10.out W).mono ?_
          rintro e W' ⟨rfl, hB⟩
          exact HK.out _ _ (by simp [layS, updV, lstV, Act.put, E1.out, E3.out]) (hJ.later hB)
        · have e4 : u 4 = .bool true := hd 4 (by kernel_rfl)
          clear hd
          simp only [List.getElem_cons_succ, List.getElem_cons_zero]
          clear hl
          refine .inr ⟨rfl, fun K' hK => ?_⟩
          have HK := Lib.hid hK
          clear hK
          simp only [layS, Act.put, List.setIfInBounds_toArray, List.set_cons_succ, List.set_cons_zero, Nat.zero_add, Nat.reduceAdd, e4]
          have E4 := Lib.hid e4
          clear e4
          go_simp
          exact HK.out _ _ (by simp [layS, updV, lstV, Act.put, E4.out]) hJ
      intro W hJ
      simp only [layS, lstV, Act.put, List.setIfInBounds_toArray, List.set_cons_succ, List.set_cons_zero, Nat.zero_add, Nat.reduceAdd, List.getD_cons_zero, List.getD_cons_succ, List.drop_succ_cons, List.drop_zero, List.drop_nil]
      go_wp2
      refine wp_region_vals 6 [some 66, some 67, some 68, some 69, some 70, some 17] (lstV [.agg #[.int .i64 x.lo, .int .i64 x.hi, .bool x.all], .agg #[.int .i64 s11.lo, .int .i64 s11.hi, .bool s11.all], .agg #[.int .i64 p.lo, .int .i64 p.hi, .bool p.all], .agg #[.int .i64 t11.lo, .int .i64 t11.hi, .bool t11.all], .bool true, .bool true]) (fun W => Bs w W [x, y, p, q]) (by kernel_rfl) (by kernel_rfl) (by decide) (hJ.drew) ?_ ?_
      · intro i hl hi u W hJ hd
        obtain rfl | rfl | rfl | rfl | rfl | rfl : i = 0 ∨ i = 1 ∨ i = 2 ∨ i = 3 ∨ i = 4 ∨ i = 5 := by omega
        · skip
          clear hd
          simp only [List.getElem_cons_succ, List.getElem_cons_zero]
          clear hl
          refine .inr ⟨rfl, fun K' hK => ?_⟩
          have HK := Lib.hid hK
          clear hK
          simp only [layS, Act.put, List.setIfInBounds_toArray, List.set_cons_succ, List.set_cons_zero, Nat.zero_add, Nat.reduceAdd]
          have c00 := hJ.c0.1
          have c01 := hJ.c0.2.1
          have c02 := hJ.c0.2.2.1
          go_simp
          exact HK.out _ _ (by simp [layS, updV, lstV, Act.put]) hJ
        · have e0 : u 0 = .agg #[.int .i64 x.lo, .int .i64 x.hi, .bool x.all] := hd 0 (by kernel_rfl)
          clear hd
          simp only [List.getElem_cons_succ, List.getElem_cons_zero]
          clear hl
          refine .inr ⟨rfl, fun K' hK => ?_⟩
          have HK := Lib.hid hK
          clear hK
          simp only [layS, Act.put, List.setIfInBounds_toArray, List.set_cons_succ, List.set_cons_zero, Nat.zero_add, Nat.reduceAdd, e0]
          have E0 := Lib.hid e0
          clear e0
          go_simp
          refine (Hs11.out W).mono ?_
          rintro e W' ⟨rfl, hB⟩
          exact HK.out _ _ (by simp [layS, updV, lstV, Act.put, E0.out]) (hJ.later hB)
        · skip
          clear hd
          simp only [List.getElem_cons_succ, List.getElem_cons_zero]
          clear hl
          refine .inr ⟨rfl, fun K' hK => ?_⟩
          have HK := Lib.hid hK
          clear hK
          simp only [layS, Act.put, List.setIfInBounds_toArray, List.set_cons_succ, List.set_cons_zero, Nat.zero_add, Nat.reduceAdd]
          have c20 := hJ.c2.1
          have c21 := hJ.c2.2.1
          have c22 := hJ.c2.2.2.1
          go_simp
          exact HK.out _ _ (by simp [layS, updV, lstV, Act.put]) hJ
        · have e2 : u 2 = .agg #[.int .i64 p.lo, .int .i64 p.hi, .bool p.all] := hd 2 (by kernel_rfl)
          clear hd
          simp only [List.getElem_cons_succ, List.getElem_cons_zero]
          clear hl
          refine .inr ⟨rfl, fun K' hK => ?_⟩
          have HK := Lib.hid hK
          clear hK
          simp only [layS, Act.put, List.setIfInBounds_toArray, List.set_cons_succ, List.set_cons_zero, Nat.zero_add, Nat.reduceAdd, e2]
          have E2 := Lib.hid e2
          clear e2
          go_simp
          refine (Ht11.out W).mono ?_
          rintro e W' ⟨rfl, hB⟩
          exact HK.out _ _ (by simp [layS, updV, lstV, Act.put, E2.out]) (hJ.later hB)
        · have e1 : u 1 = .agg #[.int .i64 s11.lo, .int .i64 s11.hi, .bool s11.all] := hd 1 (by kernel_rfl)
          have e3 : u 3 = .agg #[.int .i64 t11.lo, .int .i64 t11.hi, .bool t11.all] := hd 3 (by kernel_rfl)
          clear hd
          simp only [List.getElem_cons_succ, List.getElem_cons_zero]
          clear hl
          refine .inr ⟨rfl, fun K' hK => ?_⟩
          have HK := Lib.hid hK
          clear hK
          simp only [layS, Act.put, List.setIfInBounds_toArray, List.set_cons_succ, List.set_cons_zero, Nat.zero_add, Nat.reduceAdd, e1, e3]
          have E1 := Lib.hid e1
          have E3 := Lib.hid e3
          clear e1 e3
          go_simp
          refine (Hi11.out W).mono ?_
          rintro e W' ⟨rfl, hB⟩
          exact HK.out _ _ (by simp [layS, updV, lstV, Act.put, E1.out, E3.out]) (hJ.later hB)
        · have e4 : u 4 = .bool true := hd 4 (by kernel_rfl)
          clear hd
          simp only [List.getElem_cons_succ, List.getElem_cons_zero]
          clear hl
          refine .inr ⟨rfl, fun K' hK => ?_⟩
          have HK := Lib.hid hK
          clear hK
          simp only [layS, Act.put, List.setIfInBounds_toArray, List.set_cons_succ, List.set_cons_zero, Nat.zero_add, Nat.reduceAdd, e4]
          have E4 := Lib.hid e4
          clear e4
          go_simp
          exact HK.out _ _ (by simp [layS, updV, lstV, Act.put, E4.out]) hJ
      intro W hJ
      simp only [layS, lstV, Act.put, List.setIfInBounds_toArray, List.set_cons_succ, List.set_cons_zero, Nat.zero_add, Nat.reduceAdd, List.getD_cons_zero, List.getD_cons_succ, List.drop_succ_cons, List.drop_zero, List.drop_nil]
      go_wp2
      refine wp_region_vals 8 [some 71, some 72, some 73, some 74, some 75, some 76, some 77, some 18] (lstV [.agg #[.int .i64 x.lo, .int .i64 x.hi, .bool x.all], .agg #[.int .i64 y.lo, .int .i64 y.hi, .bool y.all], .agg #[.int .i64 s12.lo, .int .i64 s12.hi, .bool s12.all], .agg #[.int .i64 p.lo, .int .i64 p.hi, .bool p.all], .agg #[.int .i64 q.lo, .int .i64 q.hi, .bool q.all], .agg #[.int .i64 t12.lo, .int .i64 t12.hi, .bool t12.all], .bool true, .bool true]) (fun W => Bs w W [x, y, p, q]) (by kernel_rfl) (by kernel_rfl) (by decide) (hJ.drew) ?_ ?_
      · intro i hl hi u W hJ hd
        obtain rfl | rfl | rfl | rfl | rfl | rfl | rfl | rfl : i = 0 ∨ i = 1 ∨ i = 2 ∨ i = 3 ∨ i = 4 ∨ i = 5 ∨ i = 6 ∨ i = 7 := by omega
        · skip
          clear hd
          simp only [List.getElem_cons_succ, List.getElem_cons_zero]
          clear hl
          refine .inr ⟨rfl, fun K' hK => ?_⟩
          have HK := Lib.hid hK
          clear hK
          simp only [layS, Act.put, List.setIfInBounds_toArray, List.set_cons_succ, List.set_cons_zero, Nat.zero_add, Nat.reduceAdd]
          have c00 := hJ.c0.1
          have c01 := hJ.c0.2.1
          have c02 := hJ.c0.2.2.1
          go_simp
          exact HK.out _ _ (by simp [layS, updV, lstV, Act.put]) hJ
        · skip
          clear hd
          simp only [List.getElem_cons_succ, List.getElem_cons_zero]
          clear hl
          refine .inr ⟨rfl, fun K' hK => ?_⟩
          have HK := Lib.hid hK
          clear hK
          simp only [layS, Act.put, List.setIfInBounds_toArray, List.set_cons_succ, List.set_cons_zero, Nat.zero_add, Nat.reduceAdd]
          have c10 := hJ.c1.1
          have c11 := hJ.c1.2.1
          have c12 := hJ.c1.2.2.1
          go_simp
          exact HK.out _ _ (by simp [layS, updV, lstV, Act.put]) hJ
        · have e0 : u 0 = .agg #[.int .i64 x.lo, .int .i64 x.hi, .bool x.all] := hd 0 (by kernel_rfl)
          have e1 : u 1 = .agg #[.int .i64 y.lo, .int .i64 y.hi, .bool y.all] := hd 1 (by kernel_rfl)
          clear hd
          simp only [List.getElem_cons_succ, List.getElem_cons_zero]
          clear hl
          refine .inr ⟨rfl, fun K' hK => ?_⟩
          have HK := Lib.hid hK
          clear hK
          simp only [layS, Act.put, List.setIfInBounds_toArray, List.set_cons_succ, List.set_cons_zero, Nat.zero_add, Nat.reduceAdd, e0, e1]
          have E0 := Lib.hid e0
          have E1 := Lib.hid e1
          clear e0 e1
          go_simp
          refine (Hs12.out W).mono ?_
          rintro e W' ⟨rfl, hB⟩
          exact HK.out _ _ (by simp [layS, updV, lstV, Act.put, E0.out, E1.out]) (hJ.later hB)
        · skip
          clear hd
          simp only [List.getElem_cons_succ, List.getElem_cons_zero]
          clear hl
          refine .inr ⟨rfl, fun K' hK => ?_⟩
          have HK := Lib.hid hK
          clear hK
          simp only [layS, Act.put, List.setIfInBounds_toArray, List.set_cons_succ, List.set_cons_zero, Nat.zero_add, Nat.reduceAdd]
          have c20 := hJ.c2.1
          have c21 := hJ.c2.2.1
          have c22 := hJ.c2.2.2.1
          go_simp
          exact HK.out _ _ (by simp [layS, updV, lstV, Act.put]) hJ
        · skip
          clear hd
          simp only [List.getElem_cons_succ, List.getElem_cons_zero]
          clear hl
          refine .inr ⟨rfl, fun K' hK => ?_⟩
          have HK := Lib.hid hK
          clear hK
          simp only [layS, Act.put, List.setIfInBounds_toArray, List.set_cons_succ, List.set_cons_zero, Nat.zero_add, Nat.reduceAdd]
          have c30 := hJ.c3.1
          have c31 := hJ.c3.2.1
          have c32 := hJ.c3.2.2.1
          go_simp
          exact HK.out _ _ (by simp [layS, updV, lstV, Act.put]) hJ
        · have e3 : u 3 = .agg #[.int .i64 p.lo, .int .i64 p.hi, .bool p.all] := hd 3 (by kernel_rfl)
          have e4 : u 4 = .agg #[.int .i64 q.lo, .int .i64 q.hi, .bool q.all] := hd 4 (by kernel_rfl)
          clear hd
          simp only [List.getElem_cons_succ, List.getElem_cons_zero]
          clear hl
          refine .inr ⟨rfl, fun K' hK => ?_⟩
          have HK := Lib.hid hK
          clear hK
          simp only [layS, Act.put, List.setIfInBounds_toArray, List.set_cons_succ, List.set_cons_zero, Nat.zero_add, Nat.reduceAdd, e3, e4]
          have E3 := Lib.hid e3
          have E4 := Lib.hid e4
          clear e3 e4
          go_simp
          refine (Ht12.out W).mono ?_
          rintro e W' ⟨rfl, hB⟩
          exact HK.out _ _ (by simp [layS, updV, lstV, Act.put, E3.out, E4.out]) (hJ.later hB)
        · have e2 : u 2 = .agg #[.int .i64 s12.lo, .int .i64 s12.hi, .bool s12.all] := hd 2 (by kernel_rfl)
          have e5 : u 5 = .agg #[.int .i64 t12.lo, .int .i64 t12.hi, .bool t12.all] := hd 5 (by kernel_rfl)
          clear hd
          simp only [List.getElem_cons_succ, List.getElem_cons_zero]
          clear hl
          refine .inr ⟨rfl, fun K' hK => ?_⟩
          have HK := Lib.hid hK
          clear hK
          simp only [layS, Act.put, List.setIfInBounds_toArray, List.set_cons_succ, List.set_cons_zero, Nat.zero_add, Nat.reduceAdd, e2, e5]
          have E2 := Lib.hid e2
          have E5 := Lib.hid e5
          clear e2 e5
          go_simp
          refine (Hi12.out W).mono ?_
          rintro e W' ⟨rfl, hB⟩
          exact HK.out _ _ (by simp [layS, updV, lstV, Act.put, E2.out, E5.out]) (hJ.later hB)
        · have e6 : u 6 = .bool true := hd 6 (by kernel_rfl)
          clear hd
          simp only [List.getElem_cons_succ, List.getElem_cons_zero]
          clear hl
          refine .inr ⟨rfl, fun K' hK => ?_⟩
          have HK := Lib.hid hK
          clear hK
          simp only [layS, Act.put, List.setIfInBounds_toArray, List.set_cons_succ, List.set_cons_zero, Nat.zero_add, Nat.reduceAdd, e6]
          have E6 := Lib.hid e6
          clear e6
          go_simp
          exact HK.out _ _ (by simp [layS, updV, lstV, Act.put, E6.out]) hJ
      intro W hJ
      simp only [layS, lstV, Act.put, List.setIfInBounds_toArray, List.set_cons_succ, List.set_cons_zero, Nat.zero_add, Nat.reduceAdd, List.getD_cons_zero, List.getD_cons_succ, List.drop_succ_cons, List.drop_zero, List.drop_nil]
      go_wp2
      go_ret
      exact ⟨rfl, hJ.below⟩
end Go.Proofs.Ytpacbipencmjnaa
