/- The document's spans: the walks of Sub, quotient. No statement of the seat is proved here. -/
import Derived.Test.YtpahkpcoinbgcaaKad
namespace Go.Proofs.Ytpahkpcoinbgcaa
open Go Go.RowKit

set_option maxHeartbeats 1600000 in
theorem rdSub_any (x y : Sp) (w : World) : Calls Try.prog 19 #[.agg #[.int .i64 x.lo, .int .i64 x.hi, .bool x.all], .agg #[.int .i64 y.lo, .int .i64 y.hi, .bool y.all]] w (PDp (subS x y) w) := by
  have H1 := Lib.hid (rdNeg_any y)
  have H2 : Hid (∀ W : World, Calls Try.prog 18 #[.agg #[.int .i64 x.lo, .int .i64 x.hi, .bool x.all], .agg #[.int .i64 (negS y).lo, .int .i64 (negS y).hi, .bool (negS y).all]] W (PDp (subS x y) W)) := show ∀ W : World, _ from rdAdd_any x (negS y)
  generalize subS x y = z at *
  generalize negS y = v at *
  go_enter Try.func19, Try.ntmps19
  go_wp2
  have hC := (((cs_nil w).new #[.int .i64 x.lo, .int .i64 x.hi, .bool x.all] 25).new #[.int .i64 y.lo, .int .i64 y.hi, .bool y.all] 25).new #[.int .i64 0, .int .i64 0, .bool false] 25
  rw [show ((w.alloc (.cells #[.int .i64 x.lo, .int .i64 x.hi, .bool x.all] 25)).alloc (.cells #[.int .i64 y.lo, .int .i64 y.hi, .bool y.all] 25)).heap.size = w.heap.size + 2 by simp, show (w.alloc (.cells #[.int .i64 x.lo, .int .i64 x.hi, .bool x.all] 25)).heap.size = w.heap.size + 1 by simp] at hC
  generalize ((w.alloc (.cells #[.int .i64 x.lo, .int .i64 x.hi, .bool x.all] 25)).alloc (.cells #[.int .i64 y.lo, .int .i64 y.hi, .bool y.all] 25)).alloc (.cells #[.int .i64 0, .int .i64 0, .bool false] 25) = w1 at *
  obtain ⟨m1, hm1⟩ : ∃ m, m = w1.heap.size := ⟨_, rfl⟩
  have hJ0 : ∀ u, Jy w m1 [(w.heap.size + 2, #[.int .i64 0, .int .i64 0, .bool false], 25), (w.heap.size + 1, #[.int .i64 y.lo, .int .i64 y.hi, .bool y.all], 25), (w.heap.size, #[.int .i64 x.lo, .int .i64 x.hi, .bool x.all], 25)] [] 71 [] [] (fun _ => false) u w1.drew := fun u => by rw [hm1]; exact Jy.start (hC) u
  refine wp_region_y 4 [some 5, some 6, some 7, some 8] (vyL [.eq (.agg #[.int .i64 x.lo, .int .i64 x.hi, .bool x.all]), .eq (.agg #[.int .i64 y.lo, .int .i64 y.hi, .bool y.all]), .eq (.agg #[.int .i64 v.lo, .int .i64 v.hi, .bool v.all]), .eq (.agg #[.int .i64 z.lo, .int .i64 z.hi, .bool z.all])]) (Jy w m1 [(w.heap.size + 2, #[.int .i64 0, .int .i64 0, .bool false], 25), (w.heap.size + 1, #[.int .i64 y.lo, .int .i64 y.hi, .bool y.all], 25), (w.heap.size, #[.int .i64 x.lo, .int .i64 x.hi, .bool x.all], 25)] [] 71 [] []) (by kernel_rfl) (by kernel_rfl) (by rfl) (by decide) (by rfl) hJ0 ?_ ?_
  · intro i hl hi L u W A hLi hJ hd hev hin
    obtain rfl | rfl | rfl | rfl : i = 0 ∨ i = 1 ∨ i = 2 ∨ i = 3 := by omega
    · skip
      have x2 : A.tmps[2]? = some (.pointer (some ⟨w.heap.size, 0, none⟩)) := (hev 2 (by decide)).trans rfl
      clear hd hev hin
      simp only [List.getElem_cons_succ, List.getElem_cons_zero]
      clear hl
      refine .inr ⟨rfl, fun K' hK => ?_⟩
      have HK := Lib.hid hK
      clear hK
      have f0 := cl3 (hJ.cm.cs.at' (w.heap.size, #[.int .i64 x.lo, .int .i64 x.hi, .bool x.all], 25) (.tail _ (.tail _ (.head _))))
      have f5 := f0.1
      have f6 := f0.2.1
      have f7 := f0.2.2.1
      clear f0
      go_simp
      exact HK.out (.agg #[.int .i64 x.lo, .int .i64 x.hi, .bool x.all]) _ (hJ.grow hLi (by decide) (by decide) (Below.refl _ _)) (rfl) vyL_same
    · skip
      have x3 : A.tmps[3]? = some (.pointer (some ⟨w.heap.size + 1, 0, none⟩)) := (hev 3 (by decide)).trans rfl
      clear hd hev hin
      simp only [List.getElem_cons_succ, List.getElem_cons_zero]
      clear hl
      refine .inr ⟨rfl, fun K' hK => ?_⟩
      have HK := Lib.hid hK
      clear hK
      have f0 := cl3 (hJ.cm.cs.at' (w.heap.size + 1, #[.int .i64 y.lo, .int .i64 y.hi, .bool y.all], 25) (.tail _ (.head _)))
      have f5 := f0.1
      have f6 := f0.2.1
      have f7 := f0.2.2.1
      clear f0
      go_simp
      exact HK.out (.agg #[.int .i64 y.lo, .int .i64 y.hi, .bool y.all]) _ (hJ.grow hLi (by decide) (by decide) (Below.refl _ _)) (rfl) vyL_same
    · skip
      have e1 : u 1 = .agg #[.int .i64 y.lo, .int .i64 y.hi, .bool y.all] := (hd 1 (by decide) (by kernel_rfl)).2
      have x6 : A.tmps[6]? = some (.agg #[.int .i64 y.lo, .int .i64 y.hi, .bool y.all]) := (hin 1 6 rfl).trans (congrArg some e1)
      clear hd hev hin
      simp only [List.getElem_cons_succ, List.getElem_cons_zero]
      clear hl
      refine .inr ⟨rfl, fun K' hK => ?_⟩
      have HK := Lib.hid hK
      clear hK
      go_simp
      refine (H1.out W).mono ?_
      rintro e W' ⟨rfl, hB⟩
      exact HK.out (.agg #[.int .i64 v.lo, .int .i64 v.hi, .bool v.all]) _ (hJ.grow hLi (by decide) (by decide) hB) (rfl) (vyL_later hB)
    · skip
      have e0 : u 0 = .agg #[.int .i64 x.lo, .int .i64 x.hi, .bool x.all] := (hd 0 (by decide) (by kernel_rfl)).2
      have x5 : A.tmps[5]? = some (.agg #[.int .i64 x.lo, .int .i64 x.hi, .bool x.all]) := (hin 0 5 rfl).trans (congrArg some e0)
      have e2 : u 2 = .agg #[.int .i64 v.lo, .int .i64 v.hi, .bool v.all] := (hd 2 (by decide) (by kernel_rfl)).2
      have x7 : A.tmps[7]? = some (.agg #[.int .i64 v.lo, .int .i64 v.hi, .bool v.all]) := (hin 2 7 rfl).trans (congrArg some e2)
      clear hd hev hin
      simp only [List.getElem_cons_succ, List.getElem_cons_zero]
      clear hl
      refine .inr ⟨rfl, fun K' hK => ?_⟩
      have HK := Lib.hid hK
      clear hK
      go_simp
      refine (H2.out W).mono ?_
      rintro e W' ⟨rfl, hB⟩
      exact HK.out (.agg #[.int .i64 z.lo, .int .i64 z.hi, .bool z.all]) _ (hJ.grow hLi (by decide) (by decide) hB) (rfl) (vyL_later hB)
  intro L u W hL hJ hd
  have e0 : u 0 = .agg #[.int .i64 x.lo, .int .i64 x.hi, .bool x.all] := hd 0 (by decide)
  have e1 : u 1 = .agg #[.int .i64 y.lo, .int .i64 y.hi, .bool y.all] := hd 1 (by decide)
  have e2 : u 2 = .agg #[.int .i64 v.lo, .int .i64 v.hi, .bool v.all] := hd 2 (by decide)
  have e3 : u 3 = .agg #[.int .i64 z.lo, .int .i64 z.hi, .bool z.all] := hd 3 (by decide)
  simp only [layS, Act.put, List.setIfInBounds_toArray, List.set_cons_succ, List.set_cons_zero, Nat.zero_add, Nat.reduceAdd, List.drop_succ_cons, List.drop_zero, List.drop_nil, e0, e1, e2, e3]
  have hC2 := hJ.cm.cs
  have k := cl3 (hC2.at' (w.heap.size + 2, #[.int .i64 0, .int .i64 0, .bool false], 25) (.head _))
  have c1 := k.1
  have c2 := k.2.1
  have c3 := k.2.2.1
  have c4 := k.2.2.2.1
  have c5 := k.2.2.2.2.1
  have c6 := k.2.2.2.2.2
  have hf := fin3 hC2.below 2 z
  clear k hC2 hJ hL hJ0 hd e0 e1 e2 e3 hC
  go_wp2
  exact bodyPost_ret (v := .agg #[.int .i64 z.lo, .int .i64 z.hi, .bool z.all]) (by simp [results, Try.results19, go_sem, c1, c2, c3]) rfl ⟨rfl, hf⟩
theorem flo_bd {a b : Int} (h1 : -2251799812636672 ≤ a) (h2 : a ≤ 2251799812636672) (hb : b ≠ 0) : -2251799812636673 ≤ flo a b ∧ flo a b ≤ 2251799812636673 := by
  rcases Int.lt_or_gt_of_ne hb with h | h
  · rw [flo_neg h]
    have := div_bd (x := -a) (u := -b) (b := 2251799812636673) (by omega) (by have := Int.mul_le_mul_of_nonneg_left (show (1 : Int) ≤ -b by omega) (show (0 : Int) ≤ 2251799812636673 by decide); omega) (by have := Int.mul_le_mul_of_nonneg_left (show (1 : Int) ≤ -b by omega) (show (0 : Int) ≤ 2251799812636673 by decide); omega)
    exact this
  · rw [flo_pos h]
    exact div_bd (x := a) (u := b) (b := 2251799812636673) h (by have := Int.mul_le_mul_of_nonneg_left (show (1 : Int) ≤ b by omega) (show (0 : Int) ≤ 2251799812636673 by decide); omega) (by have := Int.mul_le_mul_of_nonneg_left (show (1 : Int) ≤ b by omega) (show (0 : Int) ≤ 2251799812636673 by decide); omega)
set_option maxRecDepth 100000 in
set_option maxHeartbeats 3200000 in
theorem quo_up (a b : Int) (w : World) (a1 : -2147483647 ≤ a) (a2 : a ≤ 2147483647) (b1 : -2147483647 ≤ b) (b2 : b ≤ 2147483647) (hb : b ≠ 0) : Calls Try.prog 82 #[.int .i64 a, .int .i64 b, .bool true] w (PVal (.int .i64 (-flo (-(a * 1048576)) b)) w) := by
  have f1 := flo_bd (a := -(a * 1048576)) (b := b) (by omega) (by omega) hb
  have HO : Hid (∀ W : World, Calls Try.prog 80 #[.int .i64 a] W (PN a W)) := show ∀ W : World, _ from fun W => nOf a (by omega) (by omega) W
  have HOb : Hid (∀ W : World, Calls Try.prog 80 #[.int .i64 b] W (PN b W)) := show ∀ W : World, _ from fun W => nOf b (by omega) (by omega) W
  have Ba := Lib.hid (z20 (z := a) (by omega) (by omega))
  have Bb := Lib.hid (z20 (z := b) (by omega) (by omega))
  have Bn := Lib.hid (z20 (z := a * 1048576) (by omega) (by omega))
  have HBz := Lib.hid hb
  generalize hq : flo (-(a * 1048576)) b = q at *
  have HQ := Lib.hid hq
  have Bq := Lib.hid (z20 (z := q) (by omega) (by omega))
  have HS : Hid (smallV q = q) := show smallV q = q from if_pos (by omega)
  have hwq : IntKind.i64.wrap (-q) = -q := IntWalk.i64_in _ (by omega)
  clear a1 a2 b1 b2 hb f1 hq
  have hC := cs_nil w
  go_enter Try.func82, Try.ntmps82
  go_wp2_with fail
  refine (HO.out _).mono ?_
  rintro e w1 ⟨pa, za, rfl, ha, hB⟩
  replace hC := (hC.later hB).more ha
  clear hB ha
  go_wp2_with fail
  refine (nOf 1048576 (by decide) (by decide) _).mono ?_
  rintro e w2 ⟨pk, zk, rfl, hk, hB⟩
  replace hC := (hC.later hB).more hk
  clear hB hk
  go_wp2_with fail
  have ga := hC.num pa (.tail _ (.head _))
  have gk := hC.num pk (.head _)
  refine (show Calls Try.prog 86 _ w2 (PN (a * 1048576) w2) by have := nMul pa pk w2 ga gk (Nat.le_trans (NR.len ga (by rw [za]; exact Ba.out)) (by decide)) (Nat.le_trans (NR.len gk (k := 10) (by rw [zk]; decide)) (by decide)); rwa [za, zk] at this).mono ?_
  rintro e w3 ⟨pn, zn, rfl, hn, hB⟩
  replace hC := ((hC.later hB).more hn).new #[.bool pn.b, .slice pn.a pn.n pn.c] 71
  clear hB hn ga gk
  go_wp2_with fail
  generalize w3.alloc (.cells #[.bool pn.b, .slice pn.a pn.n pn.c] 71) = w4 at *
  generalize w3.heap.size = kn at *
  have gn := hC.num pn (.head _)
  refine (nMinus pn _ gn).mono ?_
  rintro e w5 ⟨pm, zm, rfl, hm, hB⟩
  replace hC := (hC.later hB).more hm
  clear hB hm gn
  go_wp2_with fail
  refine (HOb.out _).mono ?_
  rintro e w6 ⟨pb, zb, rfl, hb, hB⟩
  replace hC := (hC.later hB).more hb
  clear hB hb
  go_wp2_with fail
  have gm := hC.num pm (.tail _ (.head _))
  have gb := hC.num pb (.head _)
  refine (show Calls Try.prog 107 _ w6 (PNQ q 0 w6) by have := nQuo pm pb w6 gm gb (Nat.le_trans (NR.len gm (k := 20) (by rw [zm, zn, Int.natAbs_neg]; exact Bn.out)) (by decide)) (Nat.le_trans (NR.len gb (by rw [zb]; exact Bb.out)) (by decide)) (by rw [zb]; exact HBz.out); rwa [zm, zn, zb, HQ.out] at this).mono ?_
  rintro e w7 ⟨pq, pr, zq, rfl, hq, hr, hB⟩
  replace hC := (((hC.later hB).more hq).new #[.bool pq.b, .slice pq.a pq.n pq.c] 71).new #[.bool pr.b, .slice pr.a pr.n pr.c] 71
  rw [show (w7.alloc (.cells #[.bool pq.b, .slice pq.a pq.n pq.c] 71)).heap.size = w7.heap.size + 1 by simp] at hC
  clear hB hq hr gm gb
  go_wp2_with fail
  generalize (w7.alloc (.cells #[.bool pq.b, .slice pq.a pq.n pq.c] 71)).alloc (.cells #[.bool pr.b, .slice pr.a pr.n pr.c] 71) = w8 at *
  generalize w7.heap.size = kq at *
  have gq := hC.num pq (.head _)
  refine (show Calls Try.prog 109 _ w8 (PVal2 (.int .i64 q) (.bool (smallB q)) w8) by have := nSmall pq w8 gq (Nat.le_trans (NR.len gq (by rw [zq]; exact Bq.out)) (by decide)); rwa [zq, HS.out] at this).mono ?_
  rintro e w9 ⟨rfl, hB⟩
  replace hC := hC.later hB
  have hf := hC.below
  clear hB gq hC
  go_wp2
  go_ret
  exact ⟨rfl, hf⟩
set_option maxRecDepth 100000 in
set_option maxHeartbeats 3200000 in
theorem quo_dn (a b : Int) (w : World) (a1 : -2147483647 ≤ a) (a2 : a ≤ 2147483647) (b1 : -2147483647 ≤ b) (b2 : b ≤ 2147483647) (hb : b ≠ 0) : Calls Try.prog 82 #[.int .i64 a, .int .i64 b, .bool false] w (PVal (.int .i64 (flo (a * 1048576) b)) w) := by
  have f1 := flo_bd (a := a * 1048576) (b := b) (by omega) (by omega) hb
  have HO : Hid (∀ W : World, Calls Try.prog 80 #[.int .i64 a] W (PN a W)) := show ∀ W : World, _ from fun W => nOf a (by omega) (by omega) W
  have HOb : Hid (∀ W : World, Calls Try.prog 80 #[.int .i64 b] W (PN b W)) := show ∀ W : World, _ from fun W => nOf b (by omega) (by omega) W
  have Ba := Lib.hid (z20 (z := a) (by omega) (by omega))
  have Bb := Lib.hid (z20 (z := b) (by omega) (by omega))
  have Bn := Lib.hid (z20 (z := a * 1048576) (by omega) (by omega))
  have HBz := Lib.hid hb
  generalize hq : flo (a * 1048576) b = q at *
  have HQ := Lib.hid hq
  have Bq := Lib.hid (z20 (z := q) (by omega) (by omega))
  have HS : Hid (smallV q = q) := show smallV q = q from if_pos (by omega)
  have hwq : IntKind.i64.wrap (-q) = -q := IntWalk.i64_in _ (by omega)
  clear a1 a2 b1 b2 hb f1 hq
  have hC := cs_nil w
  go_enter Try.func82, Try.ntmps82
  go_wp2_with fail
  refine (HO.out _).mono ?_
  rintro e w1 ⟨pa, za, rfl, ha, hB⟩
  replace hC := (hC.later hB).more ha
  clear hB ha
  go_wp2_with fail
  refine (nOf 1048576 (by decide) (by decide) _).mono ?_
  rintro e w2 ⟨pk, zk, rfl, hk, hB⟩
  replace hC := (hC.later hB).more hk
  clear hB hk
  go_wp2_with fail
  have ga := hC.num pa (.tail _ (.head _))
  have gk := hC.num pk (.head _)
  refine (show Calls Try.prog 86 _ w2 (PN (a * 1048576) w2) by have := nMul pa pk w2 ga gk (Nat.le_trans (NR.len ga (by rw [za]; exact Ba.out)) (by decide)) (Nat.le_trans (NR.len gk (k := 10) (by rw [zk]; decide)) (by decide)); rwa [za, zk] at this).mono ?_
  rintro e w3 ⟨pn, zn, rfl, hn, hB⟩
  replace hC := ((hC.later hB).more hn).new #[.bool pn.b, .slice pn.a pn.n pn.c] 71
  clear hB hn ga gk
  go_wp2
  generalize w3.alloc (.cells #[.bool pn.b, .slice pn.a pn.n pn.c] 71) = w4 at *
  generalize w3.heap.size = kn at *
  obtain ⟨m6, hm6⟩ : ∃ m, m = w4.heap.size := ⟨_, rfl⟩
  have hJ0 : ∀ u, Jy w m6 [(kn, #[.bool pn.b, .slice pn.a pn.n pn.c], 71)] [pn, pk, pa] 71 [8, 9] [(10, 8, 5), (11, 9, 6)] (fun _ => false) u w4.drew := fun u => by rw [hm6]; exact Jy.start (hC) u
  refine wp_region_y 13 [some 40, some 41, some 42, some 43, some 39, some 44, some 45, some 46, some 13, some 14, none, none, some 15] (vyL [.eq (.agg #[.bool pn.b, .slice pn.a pn.n pn.c]), .eq (.int .i64 b), .num (b), .quo (q) (0), .quo (q) (0), .num (q), .some_, .eq (.int .i64 0), .any, .any, .any, .any, .eq (.int .i64 0)]) (Jy w m6 [(kn, #[.bool pn.b, .slice pn.a pn.n pn.c], 71)] [pn, pk, pa] 71 [8, 9] [(10, 8, 5), (11, 9, 6)]) (by kernel_rfl) (by kernel_rfl) (by rfl) (by decide) (by rfl) hJ0 ?_ ?_
  · intro i hl hi L u W A hLi hJ hd hev hin
    obtain rfl | rfl | rfl | rfl | rfl | rfl | rfl | rfl | rfl | rfl | rfl | rfl | rfl : i = 0 ∨ i = 1 ∨ i = 2 ∨ i = 3 ∨ i = 4 ∨ i = 5 ∨ i = 6 ∨ i = 7 ∨ i = 8 ∨ i = 9 ∨ i = 10 ∨ i = 11 ∨ i = 12 := by omega
    · skip
      have x7 : A.tmps[7]? = some (.pointer (some ⟨kn, 0, none⟩)) := (hev 7 (by decide)).trans rfl
      clear hd hev hin
      simp only [List.getElem_cons_succ, List.getElem_cons_zero]
      clear hl
      refine .inr ⟨rfl, fun K' hK => ?_⟩
      have HK := Lib.hid hK
      clear hK
      have f0 := cl2 (hJ.cm.cs.at' (kn, #[.bool pn.b, .slice pn.a pn.n pn.c], 71) (.head _))
      have f5 := f0.1
      have f6 := f0.2.1
      clear f0
      go_simp
      exact HK.out (.agg #[.bool pn.b, .slice pn.a pn.n pn.c]) _ (hJ.grow hLi (by decide) (by decide) (Below.refl _ _)) (rfl) vyL_same
    · skip
      have x1 : A.tmps[1]? = some (.int .i64 b) := (hev 1 (by decide)).trans rfl
      clear hd hev hin
      simp only [List.getElem_cons_succ, List.getElem_cons_zero]
      clear hl
      refine .inr ⟨rfl, fun K' hK => ?_⟩
      have HK := Lib.hid hK
      clear hK
      go_simp
      exact HK.out (.int .i64 b) _ (hJ.grow hLi (by decide) (by decide) (Below.refl _ _)) (rfl) vyL_same
    · skip
      have e1 : u 1 = .int .i64 b := (hd 1 (by decide) (by kernel_rfl)).2
      have x41 : A.tmps[41]? = some (.int .i64 b) := (hin 1 41 rfl).trans (congrArg some e1)
      clear hd hev hin
      simp only [List.getElem_cons_succ, List.getElem_cons_zero]
      clear hl
      refine .inr ⟨rfl, fun K' hK => ?_⟩
      have HK := Lib.hid hK
      clear hK
      go_simp
      refine (HOb.out W).mono ?_
      rintro e W' ⟨y, hyz, rfl, hy, hB⟩
      exact HK.out (.agg #[.bool y.b, .slice y.a y.n y.c]) _ (hJ.grow hLi (by decide) (by decide) hB) (⟨y.b, y.a, y.n, y.c, rfl, by rw [← hyz]; exact hy⟩) (vyL_later hB)
    · skip
      have e0 : u 0 = .agg #[.bool pn.b, .slice pn.a pn.n pn.c] := (hd 0 (by decide) (by kernel_rfl)).2
      have x40 : A.tmps[40]? = some (.agg #[.bool pn.b, .slice pn.a pn.n pn.c]) := (hin 0 40 rfl).trans (congrArg some e0)
      obtain ⟨b2, a2, n2, c2, e2, g2⟩ := (show VR (b) (u 2) W from (hd 2 (by decide) (by kernel_rfl)).2)
      have x42 : A.tmps[42]? = some (.agg #[.bool b2, .slice a2 n2 c2]) := (hin 2 42 rfl).trans (congrArg some e2)
      clear hd hev hin
      simp only [List.getElem_cons_succ, List.getElem_cons_zero]
      clear hl
      refine .inr ⟨rfl, fun K' hK => ?_⟩
      have HK := Lib.hid hK
      clear hK
      go_simp
      refine (show Calls Try.prog 107 _ W (PNQ q 0 W) by have := nQuo pn ⟨b2, a2, n2, c2, b⟩ W (hJ.cm.cs.num pn (.head _)) g2 (Nat.le_trans (NR.len (hJ.cm.cs.num pn (.head _)) (by rw [zn]; exact Bn.out)) (by decide)) (Nat.le_trans (NR.len (p := ⟨b2, a2, n2, c2, b⟩) g2 Bb.out) (by decide)) HBz.out; rwa [zn, show flo (a * 1048576) (⟨b2, a2, n2, c2, b⟩ : NR).z = q from HQ.out] at this).mono ?_
      rintro e W' ⟨y, r, hyz, rfl, hy, hr, hB⟩
      exact HK.out (.tuple #[.agg #[.bool y.b, .slice y.a y.n y.c], .agg #[.bool r.b, .slice r.a r.n r.c], .int .i64 0]) _ (hJ.grow hLi (by decide) (by decide) hB) (⟨y.b, y.a, y.n, y.c, r.z, r.b, r.a, r.n, r.c, rfl, by rw [← hyz]; exact hy, hr⟩) (vyL_later hB)
    · skip
      obtain ⟨b3, a3, n3, c3, r3, b3', a3', n3', c3', e3, g3, g3'⟩ := (show VQ (q) (0) (u 3) W from (hd 3 (by decide) (by kernel_rfl)).2)
      have x43 : A.tmps[43]? = some (.tuple #[.agg #[.bool b3, .slice a3 n3 c3], .agg #[.bool b3', .slice a3' n3' c3'], .int .i64 0]) := (hin 3 43 rfl).trans (congrArg some e3)
      clear hd hev hin
      simp only [List.getElem_cons_succ, List.getElem_cons_zero]
      clear hl
      refine .inr ⟨rfl, fun K' hK => ?_⟩
      have HK := Lib.hid hK
      clear hK
      go_simp
      exact HK.out (.tuple #[.agg #[.bool b3, .slice a3 n3 c3], .agg #[.bool b3', .slice a3' n3' c3'], .int .i64 0]) _ (hJ.grow hLi (by decide) (by decide) (Below.refl _ _)) (⟨b3, a3, n3, c3, r3, b3', a3', n3', c3', rfl, g3, g3'⟩) vyL_same
    · skip
      obtain ⟨b4, a4, n4, c4, r4, b4', a4', n4', c4', e4, g4, g4'⟩ := (show VQ (q) (0) (u 4) W from (hd 4 (by decide) (by kernel_rfl)).2)
      have x39 : A.tmps[39]? = some (.tuple #[.agg #[.bool b4, .slice a4 n4 c4], .agg #[.bool b4', .slice a4' n4' c4'], .int .i64 0]) := (hin 4 39 rfl).trans (congrArg some e4)
      clear hd hev hin
      simp only [List.getElem_cons_succ, List.getElem_cons_zero]
      clear hl
      refine .inr ⟨rfl, fun K' hK => ?_⟩
      have HK := Lib.hid hK
      clear hK
      go_simp
      exact HK.out (.agg #[.bool b4, .slice a4 n4 c4]) _ (hJ.grow hLi (by decide) (by decide) (Below.refl _ _)) (⟨b4, a4, n4, c4, rfl, g4⟩) vyL_same
    · skip
      obtain ⟨b4, a4, n4, c4, r4, b4', a4', n4', c4', e4, g4, g4'⟩ := (show VQ (q) (0) (u 4) W from (hd 4 (by decide) (by kernel_rfl)).2)
      have x39 : A.tmps[39]? = some (.tuple #[.agg #[.bool b4, .slice a4 n4 c4], .agg #[.bool b4', .slice a4' n4' c4'], .int .i64 0]) := (hin 4 39 rfl).trans (congrArg some e4)
      clear hd hev hin
      simp only [List.getElem_cons_succ, List.getElem_cons_zero]
      clear hl
      refine .inr ⟨rfl, fun K' hK => ?_⟩
      have HK := Lib.hid hK
      clear hK
      go_simp
      exact HK.out (.agg #[.bool b4', .slice a4' n4' c4']) _ (hJ.grow hLi (by decide) (by decide) (Below.refl _ _)) (⟨r4, b4', a4', n4', c4', rfl, g4'⟩) vyL_same
    · skip
      obtain ⟨b4, a4, n4, c4, r4, b4', a4', n4', c4', e4, g4, g4'⟩ := (show VQ (q) (0) (u 4) W from (hd 4 (by decide) (by kernel_rfl)).2)
      have x39 : A.tmps[39]? = some (.tuple #[.agg #[.bool b4, .slice a4 n4 c4], .agg #[.bool b4', .slice a4' n4' c4'], .int .i64 0]) := (hin 4 39 rfl).trans (congrArg some e4)
      clear hd hev hin
      simp only [List.getElem_cons_succ, List.getElem_cons_zero]
      clear hl
      refine .inr ⟨rfl, fun K' hK => ?_⟩
      have HK := Lib.hid hK
      clear hK
      go_simp
      exact HK.out (.int .i64 0) _ (hJ.grow hLi (by decide) (by decide) (Below.refl _ _)) (rfl) vyL_same
    · skip
      clear hd hev hin
      simp only [List.getElem_cons_succ, List.getElem_cons_zero]
      clear hl
      refine .inr ⟨rfl, fun K' hK => ?_⟩
      have HK := Lib.hid hK
      clear hK
      go_simp
      exact HK.out (.pointer (some ⟨W.heap.size, 0, none⟩)) _ (hJ.alloc hLi (by decide)) trivial (vyL_later ((Below.refl _ _).alloc (Nat.le_refl _) _))
    · skip
      clear hd hev hin
      simp only [List.getElem_cons_succ, List.getElem_cons_zero]
      clear hl
      refine .inr ⟨rfl, fun K' hK => ?_⟩
      have HK := Lib.hid hK
      clear hK
      go_simp
      exact HK.out (.pointer (some ⟨W.heap.size, 0, none⟩)) _ (hJ.alloc hLi (by decide)) trivial (vyL_later ((Below.refl _ _).alloc (Nat.le_refl _) _))
    · skip
      obtain ⟨k8, bk8, ak8, nk8, ck8, e8, ge8, hk8⟩ := hJ.bx 8 (by decide) ((hd 8 (by decide) (by kernel_rfl)).1)
      have x13 : A.tmps[13]? = some (.pointer (some ⟨k8, 0, none⟩)) := (hin 8 13 rfl).trans (congrArg some e8)
      obtain ⟨b5, a5, n5, c5, e5, g5⟩ := (show VR (q) (u 5) W from (hd 5 (by decide) (by kernel_rfl)).2)
      have x44 : A.tmps[44]? = some (.agg #[.bool b5, .slice a5 n5 c5]) := (hin 5 44 rfl).trans (congrArg some e5)
      have hLa := (hd 8 (by decide) (by kernel_rfl)).1
      have hLx := (hd 5 (by decide) (by kernel_rfl)).1
      clear hd hev hin
      simp only [List.getElem_cons_succ, List.getElem_cons_zero]
      clear hl
      refine .inr ⟨rfl, fun K' hK => ?_⟩
      have HK := Lib.hid hK
      clear hK
      have nc0 := hk8.cells.1
      have nc1 := hk8.cells.2.1
      have nc2 := hk8.cells.2.2.1
      have nc3 := hk8.cells.2.2.2
      have HE1 := Lib.hid e8
      have HE2 := Lib.hid e5
      clear e8 e5
      go_simp
      exact HK.out undef _ (hJ.store hLi (by decide) (by decide) (by decide) (by decide) (by decide) hLa hLx HE1.out ge8 hk8 HE2.out) trivial (vyL_store hk8 _ _)
    · skip
      obtain ⟨k9, bk9, ak9, nk9, ck9, e9, ge9, hk9⟩ := hJ.bx 9 (by decide) ((hd 9 (by decide) (by kernel_rfl)).1)
      have x14 : A.tmps[14]? = some (.pointer (some ⟨k9, 0, none⟩)) := (hin 9 14 rfl).trans (congrArg some e9)
      obtain ⟨y6, b6, a6, n6, c6, e6, g6⟩ := (show VA (u 6) W from (hd 6 (by decide) (by kernel_rfl)).2)
      have x45 : A.tmps[45]? = some (.agg #[.bool b6, .slice a6 n6 c6]) := (hin 6 45 rfl).trans (congrArg some e6)
      have hLa := (hd 9 (by decide) (by kernel_rfl)).1
      have hLx := (hd 6 (by decide) (by kernel_rfl)).1
      clear hd hev hin
      simp only [List.getElem_cons_succ, List.getElem_cons_zero]
      clear hl
      refine .inr ⟨rfl, fun K' hK => ?_⟩
      have HK := Lib.hid hK
      clear hK
      have nc0 := hk9.cells.1
      have nc1 := hk9.cells.2.1
      have nc2 := hk9.cells.2.2.1
      have nc3 := hk9.cells.2.2.2
      have HE1 := Lib.hid e9
      have HE2 := Lib.hid e6
      clear e9 e6
      go_simp
      exact HK.out undef _ (hJ.store hLi (by decide) (by decide) (by decide) (by decide) (by decide) hLa hLx HE1.out ge9 hk9 HE2.out) trivial (vyL_store hk9 _ _)
    · skip
      have e7 : u 7 = .int .i64 0 := (hd 7 (by decide) (by kernel_rfl)).2
      have x46 : A.tmps[46]? = some (.int .i64 0) := (hin 7 46 rfl).trans (congrArg some e7)
      clear hd hev hin
      simp only [List.getElem_cons_succ, List.getElem_cons_zero]
      clear hl
      refine .inr ⟨rfl, fun K' hK => ?_⟩
      have HK := Lib.hid hK
      clear hK
      go_simp
      exact HK.out (.int .i64 0) _ (hJ.grow hLi (by decide) (by decide) (Below.refl _ _)) (rfl) vyL_same
  intro L u W hL hJ hd
  have e0 : u 0 = .agg #[.bool pn.b, .slice pn.a pn.n pn.c] := hd 0 (by decide)
  have e1 : u 1 = .int .i64 b := hd 1 (by decide)
  obtain ⟨b2, a2, n2, c2, e2, g2⟩ := (show VR (b) (u 2) W from hd 2 (by decide))
  obtain ⟨b3, a3, n3, c3, r3, b3', a3', n3', c3', e3, g3, g3'⟩ := (show VQ (q) (0) (u 3) W from hd 3 (by decide))
  obtain ⟨b4, a4, n4, c4, r4, b4', a4', n4', c4', e4, g4, g4'⟩ := (show VQ (q) (0) (u 4) W from hd 4 (by decide))
  obtain ⟨b5, a5, n5, c5, e5, g5⟩ := (show VR (q) (u 5) W from hd 5 (by decide))
  obtain ⟨y6, b6, a6, n6, c6, e6, g6⟩ := (show VA (u 6) W from hd 6 (by decide))
  have e7 : u 7 = .int .i64 0 := hd 7 (by decide)
  obtain ⟨k8, bk8, ak8, nk8, ck8, e8, ge8, hk8⟩ := hJ.bx 8 (by decide) (hL 8 (by decide))
  obtain ⟨k9, bk9, ak9, nk9, ck9, e9, ge9, hk9⟩ := hJ.bx 9 (by decide) (hL 9 (by decide))
  have e12 : u 12 = .int .i64 0 := hd 12 (by decide)
  obtain ⟨_, _, kq10, pq10, qq10, eq1, eq2, hq10⟩ := hJ.st (10, 8, 5) (by decide) (hL 10 (by decide))
  rw [show u (10, 8, 5).2.1 = _ from e8] at eq1
  rw [show u (10, 8, 5).2.2 = _ from e5] at eq2
  injection eq1 with eq1
  injection eq1 with eq1
  injection eq1 with eq1 _ _
  simp only [Value.agg.injEq, Array.mk.injEq, List.cons.injEq, and_true] at eq2
  obtain ⟨rfl, rfl⟩ := eq2
  subst eq1
  obtain ⟨_, _, kq11, pq11, qq11, eq1, eq2, hq11⟩ := hJ.st (11, 9, 6) (by decide) (hL 11 (by decide))
  rw [show u (11, 9, 6).2.1 = _ from e9] at eq1
  rw [show u (11, 9, 6).2.2 = _ from e6] at eq2
  injection eq1 with eq1
  injection eq1 with eq1
  injection eq1 with eq1 _ _
  simp only [Value.agg.injEq, Array.mk.injEq, List.cons.injEq, and_true] at eq2
  obtain ⟨rfl, rfl⟩ := eq2
  subst eq1
  simp only [layS, Act.put, List.setIfInBounds_toArray, List.set_cons_succ, List.set_cons_zero, Nat.zero_add, Nat.reduceAdd, List.drop_succ_cons, List.drop_zero, List.drop_nil, e0, e1, e2, e3, e4, e5, e6, e7, e8, e9, e12]
  have hb := hJ.cm.cs.below
  have c5' := hq10.cells.1
  have c6' := hq10.cells.2.1
  have lq := NR.len (p := ⟨b5, a5, n5, c5, q⟩) g5 Bq.out
  have HG := Lib.hid g5
  clear hJ hL hJ0 hd g2 g3 g4 g5 g6 g3' g4' hq11 hk8 hk9 e0 e1 e2 e3 e4 e5 e6 e7 e8 e9 e12 hC
  go_wp2_with fail
  refine (show Calls Try.prog 109 _ W (PVal2 (.int .i64 q) (.bool (smallB q)) W) by have := nSmall ⟨b5, a5, n5, c5, q⟩ W HG.out (by show n5 ≤ _; omega); rwa [show smallV (⟨b5, a5, n5, c5, q⟩ : NR).z = q from HS.out] at this).mono ?_
  rintro e w9 ⟨rfl, hB⟩
  have hf := hb.trans (hB.mono hb.size)
  clear hB
  go_wp2
  go_ret
  exact ⟨rfl, hf⟩
end Go.Proofs.Ytpahkpcoinbgcaa
