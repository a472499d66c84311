/- Parts of the proof. -/
import Derived.Test.YtdochhhepmlapaaGreatGx23
/- The document's spans: the walk of Sqr. No statement of the seat is proved here. -/
namespace Go.Proofs.YtdochhhepmlapaaGreat
open Go Go.RowKit
theorem cmp_gt0 {x y : Int} (h : y < x) : decide (0 < cmpI x y) = true := by
 unfold cmpI
 rw [if_neg (by omega), if_pos (by omega)]
 rfl
theorem cmp_ngt0 {x y : Int} (h : x ≤ y) : decide (0 < cmpI x y) = false := by
 unfold cmpI
 split
 ·
  rfl
 ·
  rw [if_neg (by omega)]; rfl
theorem sqr_tight {l u2 : Int} (h1 : -2147483647 ≤ l) (h2 : l ≤ u2) (h3 : u2 ≤ 2147483647) : sqrS ⟨l, u2, false⟩ = tightS (if l ≤ 0 ∧ 0 ≤ u2 then 0 else min (l * l) (u2 * u2)) (max (l * l) (u2 * u2)) 1048576 := by
 have hk : okB ⟨l, u2, false⟩ = true := ok_mk h1 h2 h3 rfl
 have p1 := sq_pos l
 have p2 := sq_pos u2
 have m1 := mul_bd (x := l) (y := l) (by omega) (by omega) (by omega) (by omega)
 have m2 := mul_bd (x := u2) (y := u2) (by omega) (by omega) (by omega) (by omega)
 have e0 : ∀ a b : Int, joinS (mulR a a) (mulR b b) = if 2147483647 < -(-(a * a) / 1048576) ∨ 2147483647 < -(-(b * b) / 1048576) then lineS else ⟨min (a * a / 1048576) (b * b / 1048576), max (-(-(a * a) / 1048576)) (-(-(b * b) / 1048576)), false⟩ := by
  intro a b
  have q1 := sq_pos a
  have q2 := sq_pos b
  by_cases g1 : 2147483647 < -(-(a * a) / 1048576)
  ·
   rw [if_pos (.inl g1)]
   refine join_no ?_
   have : okB (mulR a a) = false := by
    cases hh : okB (mulR a a)
    ·
     rfl
    ·
     have := mulR_of hh; rw [this] at hh; have := (ok_of hh).2.2.1; replace this : -(-(a * a) / 1048576) ≤ 2147483647 := this; omega
   rw [this]; rfl
  ·
   by_cases g2 : 2147483647 < -(-(b * b) / 1048576)
   ·
    rw [if_pos (.inr g2)]
    refine join_no ?_
    have : okB (mulR b b) = false := by
     cases hh : okB (mulR b b)
     ·
      rfl
     ·
      have := mulR_of hh; rw [this] at hh; have := (ok_of hh).2.2.1; replace this : -(-(b * b) / 1048576) ≤ 2147483647 := this; omega
    rw [this, Bool.and_false]
   ·
    rw [if_neg (by omega)]
    have o1 : okB ⟨a * a / 1048576, -(-(a * a) / 1048576), false⟩ = true := ok_mk (by show _ ≤ a * a / 1048576; omega) (by show a * a / 1048576 ≤ -(-(a * a) / 1048576); omega) (by show -(-(a * a) / 1048576) ≤ _; omega) rfl
    have o2 : okB ⟨b * b / 1048576, -(-(b * b) / 1048576), false⟩ = true := ok_mk (by show _ ≤ b * b / 1048576; omega) (by show b * b / 1048576 ≤ -(-(b * b) / 1048576); omega) (by show -(-(b * b) / 1048576) ≤ _; omega) rfl
    unfold mulR
    rw [mkS_ok o1, mkS_ok o2, join_ok o1 o2]
 have e1 : sqrS ⟨l, u2, false⟩ = if l ≤ 0 ∧ 0 ≤ u2 then joinS (joinS (mulR l l) (mulR u2 u2)) ⟨0, 0, false⟩ else joinS (mulR l l) (mulR u2 u2) := by
  unfold sqrS
  rw [hk]
  rfl
 rw [e1, e0]
 unfold tightS
 generalize l * l = L at *
 generalize u2 * u2 = U at *
 by_cases hz : l ≤ 0 ∧ 0 ≤ u2
 ·
  rw [if_pos hz, if_pos hz]
  by_cases g : 2147483647 < -(-L / 1048576) ∨ 2147483647 < -(-U / 1048576)
  ·
   rw [if_pos g, if_pos (by omega)]
   rfl
  ·
   rw [if_neg g, if_neg (by omega)]
   have o1 : okB ⟨min (L / 1048576) (U / 1048576), max (-(-L / 1048576)) (-(-U / 1048576)), false⟩ = true := ok_mk (by show _ ≤ min (L / 1048576) (U / 1048576); omega) (by show min (L / 1048576) (U / 1048576) ≤ max (-(-L / 1048576)) (-(-U / 1048576)); omega) (by show max (-(-L / 1048576)) (-(-U / 1048576)) ≤ _; omega) rfl
   rw [join_ok o1 (by rfl)]
   show (⟨min (min (L / 1048576) (U / 1048576)) 0, max (max (-(-L / 1048576)) (-(-U / 1048576))) 0, false⟩ : Sp) = ⟨0 / 1048576, -(-max L U / 1048576), false⟩
   rw [show min (min (L / 1048576) (U / 1048576)) 0 = 0 / 1048576 by omega, show max (max (-(-L / 1048576)) (-(-U / 1048576))) 0 = -(-max L U / 1048576) by omega]
 ·
  rw [if_neg hz, if_neg hz]
  by_cases g : 2147483647 < -(-L / 1048576) ∨ 2147483647 < -(-U / 1048576)
  ·
   rw [if_pos g, if_pos (by omega)]
  ·
   rw [if_neg g, if_neg (by omega), show min (L / 1048576) (U / 1048576) = min L U / 1048576 by omega, show max (-(-L / 1048576)) (-(-U / 1048576)) = -(-max L U / 1048576) by omega]
set_option maxRecDepth 100000 in
set_option maxHeartbeats 6400000 in
theorem rdSqr_ok (l u2 : Int) (w : World) (h1 : -2147483647 ≤ l) (h2 : l ≤ u2) (h3 : u2 ≤ 2147483647) : Calls Tryz.prog 40 #[.agg #[.int .i64 l, .int .i64 u2, .bool false]] w (PDp (sqrS ⟨l, u2, false⟩) w) := by
 have HR : Hid (∀ W : World, Calls Tryz.prog 44 #[.agg #[.int .i64 l, .int .i64 u2, .bool false]] W (PDp ⟨l, u2, false⟩ W)) := show ∀ W : World, _ from fun W => by
  have hk : okB ⟨l, u2, false⟩ = true := ok_mk h1 h2 h3 rfl
  have := rRight_any ⟨l, u2, false⟩ W
  rwa [mkS_ok hk] at this
 have HOl : Hid (∀ W : World, Calls Tryz.prog 73 #[.int .i64 l] W (PN l W)) := show ∀ W : World, _ from fun W => nOf l (by omega) (by omega) W
 have HOu2 : Hid (∀ W : World, Calls Tryz.prog 73 #[.int .i64 u2] W (PN u2 W)) := show ∀ W : World, _ from fun W => nOf u2 (by omega) (by omega) W
 have HBl := Lib.hid (z20 (z := l) (by omega) (by omega))
 have HBu2 := Lib.hid (z20 (z := u2) (by omega) (by omega))
 have m1 := mul_bd (x := l) (y := l) (by omega) (by omega) (by omega) (by omega)
 have m2 := mul_bd (x := u2) (y := u2) (by omega) (by omega) (by omega) (by omega)
 have HZ := Lib.hid (sqr_tight h1 h2 h3)
 generalize sqrS ⟨l, u2, false⟩ = zz at *
 have p1 := sq_pos l
 have p2 := sq_pos u2
 clear h1 h2 h3
 go_enter Tryz.func40, Tryz.ntmps40
 go_wp2_with fail
 have hC := ((cs_nil w).new #[.int .i64 l, .int .i64 u2, .bool false] 27).new #[.int .i64 0, .int .i64 0, .bool false] 27
 rw [show (w.alloc (.cells #[.int .i64 l, .int .i64 u2, .bool false] 27)).heap.size = w.heap.size + 1 by simp] at hC
 generalize (w.alloc (.cells #[.int .i64 l, .int .i64 u2, .bool false] 27)).alloc (.cells #[.int .i64 0, .int .i64 0, .bool false] 27) = w1 at *
 refine (HR.out _).mono ?_
 rintro e w2 ⟨rfl, hB⟩
 replace hC := (hC.later hB).new #[.int .i64 l, .int .i64 u2, .bool false] 27
 clear hB HR
 go_wp2
 generalize w2.alloc (.cells #[.int .i64 l, .int .i64 u2, .bool false] 27) = w3 at *
 generalize w2.heap.size = kx at *
 obtain ⟨m4, hm4⟩ : ∃ m, m = w3.heap.size := ⟨_, rfl⟩
 have hJ0 : ∀ u, Jy w m4 [(kx, #[.int .i64 l, .int .i64 u2, .bool false], 27), (w.heap.size + 1, #[.int .i64 0, .int .i64 0, .bool false], 27), (w.heap.size, #[.int .i64 l, .int .i64 u2, .bool false], 27)] [] 74 [7] [(8, 7, 6)] (fun _ => false) u w3.drew := fun u => by rw [hm4]; exact Jy.start (hC) u
 refine wp_region_y 9 [some 12, some 13, some 14, some 15, some 16, some 17, some 18, some 4, none] (vyL [.eq (.pointer (some ⟨kx, 0, none⟩)), .eq (.int .i64 l), .num (l), .eq (.pointer (some ⟨kx, 0, none⟩)), .eq (.int .i64 l), .num (l), .num (l * l), .any, .any]) (Jy w m4 [(kx, #[.int .i64 l, .int .i64 u2, .bool false], 27), (w.heap.size + 1, #[.int .i64 0, .int .i64 0, .bool false], 27), (w.heap.size, #[.int .i64 l, .int .i64 u2, .bool false], 27)] [] 74 [7] [(8, 7, 6)]) (by kernel_rfl) (by kernel_rfl) (by rfl) (by decide) (by rfl) hJ0 ?_ ?_
 ·
  intro i hl hi L u W A hLi hJ hd hev hin
  obtain rfl | rfl | rfl | rfl | rfl | rfl | rfl | rfl | rfl : i = 0 ∨ i = 1 ∨ i = 2 ∨ i = 3 ∨ i = 4 ∨ i = 5 ∨ i = 6 ∨ i = 7 ∨ i = 8 := by omega
  ·
   have x3 : A.tmps[3]? = some (.pointer (some ⟨kx, 0, none⟩)) := (hev 3 (by decide)).trans rfl
   clear hd hev hin
   simp only [List.getElem_cons_succ, List.getElem_cons_zero]
   clear hl
   refine .inr ⟨rfl, fun K' hK => ?_⟩
   have HK := Lib.hid hK
   clear hK
   go_simp
   exact HK.out (.pointer (some ⟨kx, 0, none⟩)) _ (hJ.grow hLi (by decide) (by decide) (Below.refl _ _)) (rfl) vyL_same
  ·
   have e0 : u 0 = .pointer (some ⟨kx, 0, none⟩) := (hd 0 (by decide) (by kernel_rfl)).2
   have x12 : A.tmps[12]? = some (.pointer (some ⟨kx, 0, none⟩)) := (hin 0 12 rfl).trans (congrArg some e0)
   clear hd hev hin
   simp only [List.getElem_cons_succ, List.getElem_cons_zero]
   clear hl
   refine .inr ⟨rfl, fun K' hK => ?_⟩
   have HK := Lib.hid hK
   clear hK
   have f0 := cl3 (hJ.cm.cs.at' (kx, #[.int .i64 l, .int .i64 u2, .bool false], 27) (.head _))
   have f5 := f0.1
   clear f0
   go_simp
   exact HK.out (.int .i64 l) _ (hJ.grow hLi (by decide) (by decide) (Below.refl _ _)) (rfl) vyL_same
  ·
   have e1 : u 1 = .int .i64 l := (hd 1 (by decide) (by kernel_rfl)).2
   have x13 : A.tmps[13]? = some (.int .i64 l) := (hin 1 13 rfl).trans (congrArg some e1)
   clear hd hev hin
   simp only [List.getElem_cons_succ, List.getElem_cons_zero]
   clear hl
   refine .inr ⟨rfl, fun K' hK => ?_⟩
   have HK := Lib.hid hK
   clear hK
   go_simp
   refine (HOl.out W).mono ?_
   rintro e W' ⟨y, hyz, rfl, hy, hB⟩
   exact HK.out (.agg #[.bool y.b, .slice y.a y.n y.c]) _ (hJ.grow hLi (by decide) (by decide) hB) (⟨y.b, y.a, y.n, y.c, rfl, by rw [← hyz]; exact hy⟩) (vyL_later hB)
  ·
   have x3 : A.tmps[3]? = some (.pointer (some ⟨kx, 0, none⟩)) := (hev 3 (by decide)).trans rfl
   clear hd hev hin
   simp only [List.getElem_cons_succ, List.getElem_cons_zero]
   clear hl
   refine .inr ⟨rfl, fun K' hK => ?_⟩
   have HK := Lib.hid hK
   clear hK
   go_simp
   exact HK.out (.pointer (some ⟨kx, 0, none⟩)) _ (hJ.grow hLi (by decide) (by decide) (Below.refl _ _)) (rfl) vyL_same
  ·
   have e3 : u 3 = .pointer (some ⟨kx, 0, none⟩) := (hd 3 (by decide) (by kernel_rfl)).2
   have x15 : A.tmps[15]? = some (.pointer (some ⟨kx, 0, none⟩)) := (hin 3 15 rfl).trans (congrArg some e3)
   clear hd hev hin
   simp only [List.getElem_cons_succ, List.getElem_cons_zero]
   clear hl
   refine .inr ⟨rfl, fun K' hK => ?_⟩
   have HK := Lib.hid hK
   clear hK
   have f0 := cl3 (hJ.cm.cs.at' (kx, #[.int .i64 l, .int .i64 u2, .bool false], 27) (.head _))
   have f5 := f0.1
   clear f0
   go_simp
   exact HK.out (.int .i64 l) _ (hJ.grow hLi (by decide) (by decide) (Below.refl _ _)) (rfl) vyL_same
  ·
   have e4 : u 4 = .int .i64 l := (hd 4 (by decide) (by kernel_rfl)).2
   have x16 : A.tmps[16]? = some (.int .i64 l) := (hin 4 16 rfl).trans (congrArg some e4)
   clear hd hev hin
   simp only [List.getElem_cons_succ, List.getElem_cons_zero]
   clear hl
   refine .inr ⟨rfl, fun K' hK => ?_⟩
   have HK := Lib.hid hK
   clear hK
   go_simp
   refine (HOl.out W).mono ?_
   rintro e W' ⟨y, hyz, rfl, hy, hB⟩
   exact HK.out (.agg #[.bool y.b, .slice y.a y.n y.c]) _ (hJ.grow hLi (by decide) (by decide) hB) (⟨y.b, y.a, y.n, y.c, rfl, by rw [← hyz]; exact hy⟩) (vyL_later hB)
  ·
   obtain ⟨b2, a2, n2, c2, e2, g2⟩ := (show VR (l) (u 2) W from (hd 2 (by decide) (by kernel_rfl)).2)
   have x14 : A.tmps[14]? = some (.agg #[.bool b2, .slice a2 n2 c2]) := (hin 2 14 rfl).trans (congrArg some e2)
   obtain ⟨b5, a5, n5, c5, e5, g5⟩ := (show VR (l) (u 5) W from (hd 5 (by decide) (by kernel_rfl)).2)
   have x17 : A.tmps[17]? = some (.agg #[.bool b5, .slice a5 n5 c5]) := (hin 5 17 rfl).trans (congrArg some e5)
   clear hd hev hin
   simp only [List.getElem_cons_succ, List.getElem_cons_zero]
   clear hl
   refine .inr ⟨rfl, fun K' hK => ?_⟩
   have HK := Lib.hid hK
   clear hK
   go_simp
   refine (show Calls Tryz.prog 74 _ W (PN (l * l) W) from nMul ⟨b2, a2, n2, c2, l⟩ ⟨b5, a5, n5, c5, l⟩ W g2 g5 (Nat.le_trans (NR.len (p := ⟨b2, a2, n2, c2, l⟩) g2 HBl.out) (by decide)) (Nat.le_trans (NR.len (p := ⟨b5, a5, n5, c5, l⟩) g5 HBl.out) (by decide))).mono ?_
   rintro e W' ⟨y, hyz, rfl, hy, hB⟩
   exact HK.out (.agg #[.bool y.b, .slice y.a y.n y.c]) _ (hJ.grow hLi (by decide) (by decide) hB) (⟨y.b, y.a, y.n, y.c, rfl, by rw [← hyz]; exact hy⟩) (vyL_later hB)
  ·
   clear hd hev hin
   simp only [List.getElem_cons_succ, List.getElem_cons_zero]
   clear hl
   refine .inr ⟨rfl, fun K' hK => ?_⟩
   have HK := Lib.hid hK
   clear hK
   go_simp
   exact HK.out (.pointer (some ⟨W.heap.size, 0, none⟩)) _ (hJ.alloc hLi (by decide)) trivial (vyL_later ((Below.refl _ _).alloc (Nat.le_refl _) _))
  ·
   obtain ⟨k7, bk7, ak7, nk7, ck7, e7, ge7, hk7⟩ := hJ.bx 7 (by decide) ((hd 7 (by decide) (by kernel_rfl)).1)
   have x4 : A.tmps[4]? = some (.pointer (some ⟨k7, 0, none⟩)) := (hin 7 4 rfl).trans (congrArg some e7)
   obtain ⟨b6, a6, n6, c6, e6, g6⟩ := (show VR (l * l) (u 6) W from (hd 6 (by decide) (by kernel_rfl)).2)
   have x18 : A.tmps[18]? = some (.agg #[.bool b6, .slice a6 n6 c6]) := (hin 6 18 rfl).trans (congrArg some e6)
   have hLa := (hd 7 (by decide) (by kernel_rfl)).1
   have hLx := (hd 6 (by decide) (by kernel_rfl)).1
   clear hd hev hin
   simp only [List.getElem_cons_succ, List.getElem_cons_zero]
   clear hl
   refine .inr ⟨rfl, fun K' hK => ?_⟩
   have HK := Lib.hid hK
   clear hK
   have nc0 := hk7.cells.1
   have nc1 := hk7.cells.2.1
   have nc2 := hk7.cells.2.2.1
   have nc3 := hk7.cells.2.2.2
   have HE1 := Lib.hid e7
   have HE2 := Lib.hid e6
   clear e7 e6
   go_simp
   exact HK.out undef _ (hJ.store hLi (by decide) (by decide) (by decide) (by decide) (by decide) hLa hLx HE1.out ge7 hk7 HE2.out) trivial (vyL_store hk7 _ _)
 intro L u W hL hJ hd
 have e0 : u 0 = .pointer (some ⟨kx, 0, none⟩) := hd 0 (by decide)
 have e1 : u 1 = .int .i64 l := hd 1 (by decide)
 obtain ⟨b2, a2, n2, c2, e2, g2⟩ := (show VR (l) (u 2) W from hd 2 (by decide))
 have e3 : u 3 = .pointer (some ⟨kx, 0, none⟩) := hd 3 (by decide)
 have e4 : u 4 = .int .i64 l := hd 4 (by decide)
 obtain ⟨b5, a5, n5, c5, e5, g5⟩ := (show VR (l) (u 5) W from hd 5 (by decide))
 obtain ⟨b6, a6, n6, c6, e6, g6⟩ := (show VR (l * l) (u 6) W from hd 6 (by decide))
 obtain ⟨k7, bk7, ak7, nk7, ck7, e7, ge7, hk7⟩ := hJ.bx 7 (by decide) (hL 7 (by decide))
 obtain ⟨_, _, kq8, pq8, qq8, eq1, eq2, hq8⟩ := hJ.st (8, 7, 6) (by decide) (hL 8 (by decide))
 rw [show u (8, 7, 6).2.1 = _ from e7] at eq1
 rw [show u (8, 7, 6).2.2 = _ from e6] at eq2
 injection eq1 with eq1
 injection eq1 with eq1
 injection eq1 with eq1 _ _
 simp only [Value.agg.injEq, Array.mk.injEq, List.cons.injEq, and_true] at eq2
 obtain ⟨rfl, rfl⟩ := eq2
 subst eq1
 simp only [layS, Act.put, List.setIfInBounds_toArray, List.set_cons_succ, List.set_cons_zero, Nat.zero_add, Nat.reduceAdd, List.drop_succ_cons, List.drop_zero, List.drop_nil, e0, e1, e2, e3, e4, e5, e6, e7]
 obtain ⟨pl, hpl⟩ : ∃ p : NR, p = ⟨b6, a6, n6, c6, l * l⟩ := ⟨_, rfl⟩
 have gl : pl.is W := by rw [hpl]; exact g6
 have zl : pl.z = l * l := by rw [hpl]
 have hC2 := (hJ.cm.cs.box hq8).more gl
 have hkx1 : kx < k7 := by have := hJ.cm.lt _ (.head _); replace this : kx < m4 := this; omega
 have hkl1 : w.heap.size + 1 < k7 := by have := hJ.cm.lt _ (.tail _ (.head _)); replace this : w.heap.size + 1 < m4 := this; omega
 rw [show (.bool b6 : Value) = .bool pl.b by rw [hpl], show (.slice a6 n6 c6 : Value) = .slice pl.a pl.n pl.c by rw [hpl]] at hC2
 rw [show b6 = pl.b by rw [hpl], show a6 = pl.a by rw [hpl], show n6 = pl.n by rw [hpl], show c6 = pl.c by rw [hpl]]
 clear hJ hL hJ0 g2 g5 g6 hq8 hk7 gl hpl hC e0 e1 e2 e3 e4 e5 e6 e7 hd
 generalize hkl : k7 = kl at *
 clear hkl
 go_wp2
 generalize hw4 : W = w4 at *
 clear hw4
 obtain ⟨m5, hm5⟩ : ∃ m, m = w4.heap.size := ⟨_, rfl⟩
 have hJ0 : ∀ u, Jy w m5 [(kl, #[.bool pl.b, .slice pl.a pl.n pl.c], 74), (kx, #[.int .i64 l, .int .i64 u2, .bool false], 27), (w.heap.size + 1, #[.int .i64 0, .int .i64 0, .bool false], 27), (w.heap.size, #[.int .i64 l, .int .i64 u2, .bool false], 27)] [pl] 74 [7] [(8, 7, 6)] (fun _ => false) u w4.drew := fun u => by rw [hm5]; exact Jy.start (hC2) u
 refine wp_region_y 9 [some 19, some 20, some 21, some 22, some 23, some 24, some 25, some 5, none] (vyL [.eq (.pointer (some ⟨kx, 1, none⟩)), .eq (.int .i64 u2), .num (u2), .eq (.pointer (some ⟨kx, 1, none⟩)), .eq (.int .i64 u2), .num (u2), .num (u2 * u2), .any, .any]) (Jy w m5 [(kl, #[.bool pl.b, .slice pl.a pl.n pl.c], 74), (kx, #[.int .i64 l, .int .i64 u2, .bool false], 27), (w.heap.size + 1, #[.int .i64 0, .int .i64 0, .bool false], 27), (w.heap.size, #[.int .i64 l, .int .i64 u2, .bool false], 27)] [pl] 74 [7] [(8, 7, 6)]) (by kernel_rfl) (by kernel_rfl) (by rfl) (by decide) (by rfl) hJ0 ?_ ?_
 ·
  intro i hl hi L u W A hLi hJ hd hev hin
  obtain rfl | rfl | rfl | rfl | rfl | rfl | rfl | rfl | rfl : i = 0 ∨ i = 1 ∨ i = 2 ∨ i = 3 ∨ i = 4 ∨ i = 5 ∨ i = 6 ∨ i = 7 ∨ i = 8 := by omega
  ·
   have x3 : A.tmps[3]? = some (.pointer (some ⟨kx, 0, none⟩)) := (hev 3 (by decide)).trans rfl
   clear hd hev hin
   simp only [List.getElem_cons_succ, List.getElem_cons_zero]
   clear hl
   refine .inr ⟨rfl, fun K' hK => ?_⟩
   have HK := Lib.hid hK
   clear hK
   go_simp
   exact HK.out (.pointer (some ⟨kx, 1, none⟩)) _ (hJ.grow hLi (by decide) (by decide) (Below.refl _ _)) (rfl) vyL_same
  ·
   have e0 : u 0 = .pointer (some ⟨kx, 1, none⟩) := (hd 0 (by decide) (by kernel_rfl)).2
   have x19 : A.tmps[19]? = some (.pointer (some ⟨kx, 1, none⟩)) := (hin 0 19 rfl).trans (congrArg some e0)
   clear hd hev hin
   simp only [List.getElem_cons_succ, List.getElem_cons_zero]
   clear hl
   refine .inr ⟨rfl, fun K' hK => ?_⟩
   have HK := Lib.hid hK
   clear hK
   have f0 := cl3 (hJ.cm.cs.at' (kx, #[.int .i64 l, .int .i64 u2, .bool false], 27) (.tail _ (.head _)))
   have f5 := f0.2.1
   clear f0
   go_simp
   exact HK.out (.int .i64 u2) _ (hJ.grow hLi (by decide) (by decide) (Below.refl _ _)) (rfl) vyL_same
  ·
   have e1 : u 1 = .int .i64 u2 := (hd 1 (by decide) (by kernel_rfl)).2
   have x20 : A.tmps[20]? = some (.int .i64 u2) := (hin 1 20 rfl).trans (congrArg some e1)
   clear hd hev hin
   simp only [List.getElem_cons_succ, List.getElem_cons_zero]
   clear hl
   refine .inr ⟨rfl, fun K' hK => ?_⟩
   have HK := Lib.hid hK
   clear hK
   go_simp
   refine (HOu2.out W).mono ?_
   rintro e W' ⟨y, hyz, rfl, hy, hB⟩
   exact HK.out (.agg #[.bool y.b, .slice y.a y.n y.c]) _ (hJ.grow hLi (by decide) (by decide) hB) (⟨y.b, y.a, y.n, y.c, rfl, by rw [← hyz]; exact hy⟩) (vyL_later hB)
  ·
   have x3 : A.tmps[3]? = some (.pointer (some ⟨kx, 0, none⟩)) := (hev 3 (by decide)).trans rfl
   clear hd hev hin
   simp only [List.getElem_cons_succ, List.getElem_cons_zero]
   clear hl
   refine .inr ⟨rfl, fun K' hK => ?_⟩
   have HK := Lib.hid hK
   clear hK
   go_simp
   exact HK.out (.pointer (some ⟨kx, 1, none⟩)) _ (hJ.grow hLi (by decide) (by decide) (Below.refl _ _)) (rfl) vyL_same
  ·
   have e3 : u 3 = .pointer (some ⟨kx, 1, none⟩) := (hd 3 (by decide) (by kernel_rfl)).2
   have x22 : A.tmps[22]? = some (.pointer (some ⟨kx, 1, none⟩)) := (hin 3 22 rfl).trans (congrArg some e3)
   clear hd hev hin
   simp only [List.getElem_cons_succ, List.getElem_cons_zero]
   clear hl
   refine .inr ⟨rfl, fun K' hK => ?_⟩
   have HK := Lib.hid hK
   clear hK
   have f0 := cl3 (hJ.cm.cs.at' (kx, #[.int .i64 l, .int .i64 u2, .bool false], 27) (.tail _ (.head _)))
   have f5 := f0.2.1
   clear f0
   go_simp
   exact HK.out (.int .i64 u2) _ (hJ.grow hLi (by decide) (by decide) (Below.refl _ _)) (rfl) vyL_same
  ·
   have e4 : u 4 = .int .i64 u2 := (hd 4 (by decide) (by kernel_rfl)).2
   have x23 : A.tmps[23]? = some (.int .i64 u2) := (hin 4 23 rfl).trans (congrArg some e4)
   clear hd hev hin
   simp only [List.getElem_cons_succ, List.getElem_cons_zero]
   clear hl
   refine .inr ⟨rfl, fun K' hK => ?_⟩
   have HK := Lib.hid hK
   clear hK
   go_simp
   refine (HOu2.out W).mono ?_
   rintro e W' ⟨y, hyz, rfl, hy, hB⟩
   exact HK.out (.agg #[.bool y.b, .slice y.a y.n y.c]) _ (hJ.grow hLi (by decide) (by decide) hB) (⟨y.b, y.a, y.n, y.c, rfl, by rw [← hyz]; exact hy⟩) (vyL_later hB)
  ·
   obtain ⟨b2, a2, n2, c2, e2, g2⟩ := (show VR (u2) (u 2) W from (hd 2 (by decide) (by kernel_rfl)).2)
   have x21 : A.tmps[21]? = some (.agg #[.bool b2, .slice a2 n2 c2]) := (hin 2 21 rfl).trans (congrArg some e2)
   obtain ⟨b5, a5, n5, c5, e5, g5⟩ := (show VR (u2) (u 5) W from (hd 5 (by decide) (by kernel_rfl)).2)
   have x24 : A.tmps[24]? = some (.agg #[.bool b5, .slice a5 n5 c5]) := (hin 5 24 rfl).trans (congrArg some e5)
   clear hd hev hin
   simp only [List.getElem_cons_succ, List.getElem_cons_zero]
   clear hl
   refine .inr ⟨rfl, fun K' hK => ?_⟩
   have HK := Lib.hid hK
   clear hK
   go_simp
   refine (show Calls Tryz.prog 74 _ W (PN (u2 * u2) W) from nMul ⟨b2, a2, n2, c2, u2⟩ ⟨b5, a5, n5, c5, u2⟩ W g2 g5 (Nat.le_trans (NR.len (p := ⟨b2, a2, n2, c2, u2⟩) g2 HBu2.out) (by decide)) (Nat.le_trans (NR.len (p := ⟨b5, a5, n5, c5, u2⟩) g5 HBu2.out) (by decide))).mono ?_
   rintro e W' ⟨y, hyz, rfl, hy, hB⟩
   exact HK.out (.agg #[.bool y.b, .slice y.a y.n y.c]) _ (hJ.grow hLi (by decide) (by decide) hB) (⟨y.b, y.a, y.n, y.c, rfl, by rw [← hyz]; exact hy⟩) (vyL_later hB)
  ·
   clear hd hev hin
   simp only [List.getElem_cons_succ, List.getElem_cons_zero]
   clear hl
   refine .inr ⟨rfl, fun K' hK => ?_⟩
   have HK := Lib.hid hK
   clear hK
   go_simp
   exact HK.out (.pointer (some ⟨W.heap.size, 0, none⟩)) _ (hJ.alloc hLi (by decide)) trivial (vyL_later ((Below.refl _ _).alloc (Nat.le_refl _) _))
  ·
   obtain ⟨k7, bk7, ak7, nk7, ck7, e7, ge7, hk7⟩ := hJ.bx 7 (by decide) ((hd 7 (by decide) (by kernel_rfl)).1)
   have x5 : A.tmps[5]? = some (.pointer (some ⟨k7, 0, none⟩)) := (hin 7 5 rfl).trans (congrArg some e7)
   obtain ⟨b6, a6, n6, c6, e6, g6⟩ := (show VR (u2 * u2) (u 6) W from (hd 6 (by decide) (by kernel_rfl)).2)
   have x25 : A.tmps[25]? = some (.agg #[.bool b6, .slice a6 n6 c6]) := (hin 6 25 rfl).trans (congrArg some e6)
   have hLa := (hd 7 (by decide) (by kernel_rfl)).1
   have hLx := (hd 6 (by decide) (by kernel_rfl)).1
   clear hd hev hin
   simp only [List.getElem_cons_succ, List.getElem_cons_zero]
   clear hl
   refine .inr ⟨rfl, fun K' hK => ?_⟩
   have HK := Lib.hid hK
   clear hK
   have nc0 := hk7.cells.1
   have nc1 := hk7.cells.2.1
   have nc2 := hk7.cells.2.2.1
   have nc3 := hk7.cells.2.2.2
   have HE1 := Lib.hid e7
   have HE2 := Lib.hid e6
   clear e7 e6
   go_simp
   exact HK.out undef _ (hJ.store hLi (by decide) (by decide) (by decide) (by decide) (by decide) hLa hLx HE1.out ge7 hk7 HE2.out) trivial (vyL_store hk7 _ _)
 intro L u W hL hJ hd
 have e0 : u 0 = .pointer (some ⟨kx, 1, none⟩) := hd 0 (by decide)
 have e1 : u 1 = .int .i64 u2 := hd 1 (by decide)
 obtain ⟨b2, a2, n2, c2, e2, g2⟩ := (show VR (u2) (u 2) W from hd 2 (by decide))
 have e3 : u 3 = .pointer (some ⟨kx, 1, none⟩) := hd 3 (by decide)
 have e4 : u 4 = .int .i64 u2 := hd 4 (by decide)
 obtain ⟨b5, a5, n5, c5, e5, g5⟩ := (show VR (u2) (u 5) W from hd 5 (by decide))
 obtain ⟨b6, a6, n6, c6, e6, g6⟩ := (show VR (u2 * u2) (u 6) W from hd 6 (by decide))
 obtain ⟨k7, bk7, ak7, nk7, ck7, e7, ge7, hk7⟩ := hJ.bx 7 (by decide) (hL 7 (by decide))
 obtain ⟨_, _, kq8, pq8, qq8, eq1, eq2, hq8⟩ := hJ.st (8, 7, 6) (by decide) (hL 8 (by decide))
 rw [show u (8, 7, 6).2.1 = _ from e7] at eq1
 rw [show u (8, 7, 6).2.2 = _ from e6] at eq2
 injection eq1 with eq1
 injection eq1 with eq1
 injection eq1 with eq1 _ _
 simp only [Value.agg.injEq, Array.mk.injEq, List.cons.injEq, and_true] at eq2
 obtain ⟨rfl, rfl⟩ := eq2
 subst eq1
 simp only [layS, Act.put, List.setIfInBounds_toArray, List.set_cons_succ, List.set_cons_zero, Nat.zero_add, Nat.reduceAdd, List.drop_succ_cons, List.drop_zero, List.drop_nil, e0, e1, e2, e3, e4, e5, e6, e7]
 obtain ⟨pu, hpu⟩ : ∃ p : NR, p = ⟨b6, a6, n6, c6, u2 * u2⟩ := ⟨_, rfl⟩
 have gu : pu.is W := by rw [hpu]; exact g6
 have zu : pu.z = u2 * u2 := by rw [hpu]
 have hC3 := (hJ.cm.cs.box hq8).more gu
 rw [show (.bool b6 : Value) = .bool pu.b by rw [hpu], show (.slice a6 n6 c6 : Value) = .slice pu.a pu.n pu.c by rw [hpu]] at hC3
 rw [show b6 = pu.b by rw [hpu], show a6 = pu.a by rw [hpu], show n6 = pu.n by rw [hpu], show c6 = pu.c by rw [hpu]]
 have hkx2 : kx < k7 := by have := hJ.cm.lt _ (.tail _ (.head _)); replace this : kx < m5 := this; omega
 have hne : k7 ≠ kl := by have := hJ.cm.lt _ (.head _); replace this : kl < m5 := this; omega
 have hne2 : w.heap.size + 1 < kl ∧ w.heap.size + 1 < k7 := by
  have := hJ.cm.lt _ (.tail _ (.tail _ (.head _)))
  replace this : w.heap.size + 1 < m5 := this
  exact ⟨hkl1, by omega⟩
 clear hJ hL hJ0 g2 g5 g6 hq8 hk7 gu hpu hC2 e0 e1 e2 e3 e4 e5 e6 e7 hd
 generalize hku : k7 = ku at *
 clear hku
 have fl := cl2 (hC3.at' (kl, #[.bool pl.b, .slice pl.a pl.n pl.c], 74) (.tail _ (.head _)))
 have fl1 := fl.1
 have fl2 := fl.2.1
 have fu := cl2 (hC3.at' (ku, #[.bool pu.b, .slice pu.a pu.n pu.c], 74) (.head _))
 have fu1 := fu.1
 have fu2 := fu.2.1
 clear fl fu
 go_wp2_with fail
 clear fl1 fl2 fu1 fu2
 have gL := hC3.num pl (.tail _ (.head _))
 have gU := hC3.num pu (.head _)
 refine (show Calls Tryz.prog 75 _ W (PVal (.int .i64 (cmpI (l * l) (u2 * u2))) W) by have := nCmp pl pu W gL gU; rwa [zl, zu] at this).mono ?_
 rintro e w5 ⟨rfl, hB⟩
 replace hC3 := hC3.later hB
 clear hB gL gU
 have hX := cl3 (hC3.at' (kx, #[.int .i64 l, .int .i64 u2, .bool false], 27) (.tail _ (.tail _ (.head _))))
 have x1 := hX.1
 have x2 := hX.2.1
 clear hX
 have bl : Bx w5 74 kl (.bool pl.b) (.slice pl.a pl.n pl.c) := hC3.at' (kl, #[.bool pl.b, .slice pl.a pl.n pl.c], 74) (.tail _ (.head _))
 have bu : Bx w5 74 ku (.bool pu.b) (.slice pu.a pu.n pu.c) := hC3.at' (ku, #[.bool pu.b, .slice pu.a pu.n pu.c], 74) (.head _)
 have gL := hC3.num pl (.tail _ (.head _))
 have gU := hC3.num pu (.head _)
 have hR : Cl w5 (w.heap.size + 1, #[.int .i64 0, .int .i64 0, .bool false], 27) := hC3.at' (w.heap.size + 1, #[.int .i64 0, .int .i64 0, .bool false], 27) (.tail _ (.tail _ (.tail _ (.head _))))
 have hE := hC3.below
 have y1 : kx ≠ kl := by omega
 have y2 : kx ≠ ku := by omega
 have y3 : kl ≠ ku := fun h => hne h.symm
 have sl := bl.cells
 have sl1 := sl.1
 have sl2 := sl.2.1
 have sl3 := sl.2.2.1
 have sl4 := sl.2.2.2
 have su := bu.cells
 have su1 := su.1
 have su2 := su.2.1
 have su3 := su.2.2.1
 have su4 := su.2.2.2
 have HBs : Hid ((-9223372036854775807 ≤ l * l ∧ l * l ≤ 9223372036854775807) ∧ -9223372036854775807 ≤ u2 * u2 ∧ u2 * u2 ≤ 9223372036854775807) := show (_ ∧ _) ∧ _ ∧ _ by omega
 clear sl su hC3 m1 m2 p1 p2 hne
 by_cases hsw : u2 * u2 < l * l
 ·
  by_cases hze : l ≤ 0 ∧ 0 ≤ u2
  ·
   have ds := cmp_gt0 hsw
   have d1 : decide (l ≤ 0) = true := decide_eq_true hze.1
   have d2 : decide (0 ≤ u2) = true := decide_eq_true hze.2
   have b1 := bu.other (Ne.symm y3) (.bool pu.b) (.slice pu.a pu.n pu.c)
   have bl6 : Bx ((((w5.setCell ⟨kl, 0, none⟩ (.bool pu.b)).setCell ⟨kl, 1, none⟩ (.slice pu.a pu.n pu.c)).setCell ⟨ku, 0, none⟩ (.bool pl.b)).setCell ⟨ku, 1, none⟩ (.slice pl.a pl.n pl.c)) 74 kl (.bool pu.b) (.slice pu.a pu.n pu.c) := (bl.self _ _).other y3 _ _
   have bu6 : Bx ((((w5.setCell ⟨kl, 0, none⟩ (.bool pu.b)).setCell ⟨kl, 1, none⟩ (.slice pu.a pu.n pu.c)).setCell ⟨ku, 0, none⟩ (.bool pl.b)).setCell ⟨ku, 1, none⟩ (.slice pl.a pl.n pl.c)) 74 ku (.bool pl.b) (.slice pl.a pl.n pl.c) := b1.self _ _
   have gA : pu.is ((((w5.setCell ⟨kl, 0, none⟩ (.bool pu.b)).setCell ⟨kl, 1, none⟩ (.slice pu.a pu.n pu.c)).setCell ⟨ku, 0, none⟩ (.bool pl.b)).setCell ⟨ku, 1, none⟩ (.slice pl.a pl.n pl.c)) := NR.store2 (r := pu) (NR.store2 (r := pu) gU bl _ _) b1 _ _
   have gB : pl.is ((((w5.setCell ⟨kl, 0, none⟩ (.bool pu.b)).setCell ⟨kl, 1, none⟩ (.slice pu.a pu.n pu.c)).setCell ⟨ku, 0, none⟩ (.bool pl.b)).setCell ⟨ku, 1, none⟩ (.slice pl.a pl.n pl.c)) := NR.store2 (r := pl) (NR.store2 (r := pl) gL bl _ _) b1 _ _
   have hR6 : Cl ((((w5.setCell ⟨kl, 0, none⟩ (.bool pu.b)).setCell ⟨kl, 1, none⟩ (.slice pu.a pu.n pu.c)).setCell ⟨ku, 0, none⟩ (.bool pl.b)).setCell ⟨ku, 1, none⟩ (.slice pl.a pl.n pl.c)) (w.heap.size + 1, #[.int .i64 0, .int .i64 0, .bool false], 27) := (hR.far (show w.heap.size + 1 ≠ kl by omega) _ _).far (show w.heap.size + 1 ≠ ku by omega) _ _
   have hE6 : Below w.heap.size w ((((w5.setCell ⟨kl, 0, none⟩ (.bool pu.b)).setCell ⟨kl, 1, none⟩ (.slice pu.a pu.n pu.c)).setCell ⟨ku, 0, none⟩ (.bool pl.b)).setCell ⟨ku, 1, none⟩ (.slice pl.a pl.n pl.c)) := below_o (below_o hE (by omega) _ _ _ _) (by omega) _ _ _ _
   have HM : Hid (max (l * l) (u2 * u2) = l * l) := show max (l * l) (u2 * u2) = l * l by omega
   have HZZ : Hid (tightS 0 (l * l) 1048576 = zz) := show _ = zz by rw [HZ.out, if_pos hze, HM.out]
   clear hze hsw
   go_wp2_with fail
   generalize (((w5.setCell ⟨kl, 0, none⟩ (.bool pu.b)).setCell ⟨kl, 1, none⟩ (.slice pu.a pu.n pu.c)).setCell ⟨ku, 0, none⟩ (.bool pl.b)).setCell ⟨ku, 1, none⟩ (.slice pl.a pl.n pl.c) = w6 at *
   refine (nOf 0 (by decide) (by decide) _).mono ?_
   rintro e w7 ⟨p0, z0, rfl, h0, hB⟩
   replace bl6 := bl6.below hB
   replace bu6 := bu6.below hB
   replace gB := RNum.below gB hB
   replace hR6 := hR6.below hB
   replace hE6 := hE6.trans (hB.mono hE6.size)
   clear hB gA
   have gA := NR.store2 (r := p0) h0 bl6 (.bool p0.b) (.slice p0.a p0.n p0.c)
   replace gB := NR.store2 (r := pl) gB bl6 (.bool p0.b) (.slice p0.a p0.n p0.c)
   have t3 := bu6.cells.1
   have t4 := bu6.cells.2.1
   replace bu6 := bu6.other (Ne.symm y3) (.bool p0.b) (.slice p0.a p0.n p0.c)
   replace hR6 := hR6.far (show w.heap.size + 1 ≠ kl by omega) (.bool p0.b) (.slice p0.a p0.n p0.c)
   replace hE6 := below_o hE6 (k := kl) (by omega) 0 1 (.bool p0.b) (.slice p0.a p0.n p0.c)
   have t1 := bl6.cells.2.2.1
   have t2 := bl6.cells.2.2.2
   have t5 := bl6.cells.1
   have t6 := bl6.cells.2.1
   replace bl6 := bl6.self (.bool p0.b) (.slice p0.a p0.n p0.c)
   go_wp2_with fail
   clear t1 t2 t3 t4 t5 t6
   refine (show Calls Tryz.prog 72 _ _ (PDp zz _) by have := tight_any p0 pl 1048576 _ gA gB (.inr rfl) (by rw [z0]; decide) (by rw [z0]; decide) (by rw [zl]; exact HBs.out.1.1) (by rw [zl]; exact HBs.out.1.2); rwa [z0, zl, HZZ.out] at this).mono ?_
   rintro e w9 ⟨rfl, hB⟩
   have hR9 := cl3 (hR6.below hB)
   replace hE6 := hE6.trans (hB.mono hE6.size)
   have c1 := hR9.1
   have c2 := hR9.2.1
   have c3 := hR9.2.2.1
   have c4 := hR9.2.2.2.1
   have c5 := hR9.2.2.2.2.1
   have c6 := hR9.2.2.2.2.2
   have hf := fin3 hE6 1 zz
   clear hR9 hB hE6 hR6 bl6 bu6 gA gB
   go_wp2
   exact bodyPost_ret (v := .agg #[.int .i64 zz.lo, .int .i64 zz.hi, .bool zz.all]) (by simp [results, Tryz.results40, go_sem, c1, c2, c3]) rfl ⟨rfl, hf⟩
  ·
   have ds := cmp_gt0 hsw
   skip
   have b1 := bu.other (Ne.symm y3) (.bool pu.b) (.slice pu.a pu.n pu.c)
   have bl6 : Bx ((((w5.setCell ⟨kl, 0, none⟩ (.bool pu.b)).setCell ⟨kl, 1, none⟩ (.slice pu.a pu.n pu.c)).setCell ⟨ku, 0, none⟩ (.bool pl.b)).setCell ⟨ku, 1, none⟩ (.slice pl.a pl.n pl.c)) 74 kl (.bool pu.b) (.slice pu.a pu.n pu.c) := (bl.self _ _).other y3 _ _
   have bu6 : Bx ((((w5.setCell ⟨kl, 0, none⟩ (.bool pu.b)).setCell ⟨kl, 1, none⟩ (.slice pu.a pu.n pu.c)).setCell ⟨ku, 0, none⟩ (.bool pl.b)).setCell ⟨ku, 1, none⟩ (.slice pl.a pl.n pl.c)) 74 ku (.bool pl.b) (.slice pl.a pl.n pl.c) := b1.self _ _
   have gA : pu.is ((((w5.setCell ⟨kl, 0, none⟩ (.bool pu.b)).setCell ⟨kl, 1, none⟩ (.slice pu.a pu.n pu.c)).setCell ⟨ku, 0, none⟩ (.bool pl.b)).setCell ⟨ku, 1, none⟩ (.slice pl.a pl.n pl.c)) := NR.store2 (r := pu) (NR.store2 (r := pu) gU bl _ _) b1 _ _
   have gB : pl.is ((((w5.setCell ⟨kl, 0, none⟩ (.bool pu.b)).setCell ⟨kl, 1, none⟩ (.slice pu.a pu.n pu.c)).setCell ⟨ku, 0, none⟩ (.bool pl.b)).setCell ⟨ku, 1, none⟩ (.slice pl.a pl.n pl.c)) := NR.store2 (r := pl) (NR.store2 (r := pl) gL bl _ _) b1 _ _
   have hR6 : Cl ((((w5.setCell ⟨kl, 0, none⟩ (.bool pu.b)).setCell ⟨kl, 1, none⟩ (.slice pu.a pu.n pu.c)).setCell ⟨ku, 0, none⟩ (.bool pl.b)).setCell ⟨ku, 1, none⟩ (.slice pl.a pl.n pl.c)) (w.heap.size + 1, #[.int .i64 0, .int .i64 0, .bool false], 27) := (hR.far (show w.heap.size + 1 ≠ kl by omega) _ _).far (show w.heap.size + 1 ≠ ku by omega) _ _
   have hE6 : Below w.heap.size w ((((w5.setCell ⟨kl, 0, none⟩ (.bool pu.b)).setCell ⟨kl, 1, none⟩ (.slice pu.a pu.n pu.c)).setCell ⟨ku, 0, none⟩ (.bool pl.b)).setCell ⟨ku, 1, none⟩ (.slice pl.a pl.n pl.c)) := below_o (below_o hE (by omega) _ _ _ _) (by omega) _ _ _ _
   have HM : Hid (max (l * l) (u2 * u2) = l * l) := show max (l * l) (u2 * u2) = l * l by omega
   have HN : Hid (min (l * l) (u2 * u2) = u2 * u2) := show min (l * l) (u2 * u2) = u2 * u2 by omega
   have HZZ : Hid (tightS (u2 * u2) (l * l) 1048576 = zz) := show _ = zz by rw [HZ.out, if_neg hze, HM.out, HN.out]
   clear hsw
   by_cases q1 : l ≤ 0
   ·
    have d1 : decide (l ≤ 0) = true := decide_eq_true q1
    have d2 : decide (0 ≤ u2) = false := decide_eq_false (by omega)
    clear hze
    go_wp2_with fail
    generalize (((w5.setCell ⟨kl, 0, none⟩ (.bool pu.b)).setCell ⟨kl, 1, none⟩ (.slice pu.a pu.n pu.c)).setCell ⟨ku, 0, none⟩ (.bool pl.b)).setCell ⟨ku, 1, none⟩ (.slice pl.a pl.n pl.c) = w6 at *
    refine (show Calls Tryz.prog 72 _ _ (PDp zz _) by have := tight_any pu pl 1048576 _ gA gB (.inr rfl) (by rw [zu]; exact HBs.out.2.1) (by rw [zu]; exact HBs.out.2.2) (by rw [zl]; exact HBs.out.1.1) (by rw [zl]; exact HBs.out.1.2); rwa [zu, zl, HZZ.out] at this).mono ?_
    rintro e w9 ⟨rfl, hB⟩
    have hR9 := cl3 (hR6.below hB)
    replace hE6 := hE6.trans (hB.mono hE6.size)
    have c1 := hR9.1
    have c2 := hR9.2.1
    have c3 := hR9.2.2.1
    have c4 := hR9.2.2.2.1
    have c5 := hR9.2.2.2.2.1
    have c6 := hR9.2.2.2.2.2
    have hf := fin3 hE6 1 zz
    clear hR9 hB hE6 hR6 bl6 bu6 gA gB
    go_wp2
    exact bodyPost_ret (v := .agg #[.int .i64 zz.lo, .int .i64 zz.hi, .bool zz.all]) (by simp [results, Tryz.results40, go_sem, c1, c2, c3]) rfl ⟨rfl, hf⟩
   ·
    have d1 : decide (l ≤ 0) = false := decide_eq_false q1
    clear hze
    go_wp2_with fail
    generalize (((w5.setCell ⟨kl, 0, none⟩ (.bool pu.b)).setCell ⟨kl, 1, none⟩ (.slice pu.a pu.n pu.c)).setCell ⟨ku, 0, none⟩ (.bool pl.b)).setCell ⟨ku, 1, none⟩ (.slice pl.a pl.n pl.c) = w6 at *
    refine (show Calls Tryz.prog 72 _ _ (PDp zz _) by have := tight_any pu pl 1048576 _ gA gB (.inr rfl) (by rw [zu]; exact HBs.out.2.1) (by rw [zu]; exact HBs.out.2.2) (by rw [zl]; exact HBs.out.1.1) (by rw [zl]; exact HBs.out.1.2); rwa [zu, zl, HZZ.out] at this).mono ?_
    rintro e w9 ⟨rfl, hB⟩
    have hR9 := cl3 (hR6.below hB)
    replace hE6 := hE6.trans (hB.mono hE6.size)
    have c1 := hR9.1
    have c2 := hR9.2.1
    have c3 := hR9.2.2.1
    have c4 := hR9.2.2.2.1
    have c5 := hR9.2.2.2.2.1
    have c6 := hR9.2.2.2.2.2
    have hf := fin3 hE6 1 zz
    clear hR9 hB hE6 hR6 bl6 bu6 gA gB
    go_wp2
    exact bodyPost_ret (v := .agg #[.int .i64 zz.lo, .int .i64 zz.hi, .bool zz.all]) (by simp [results, Tryz.results40, go_sem, c1, c2, c3]) rfl ⟨rfl, hf⟩
 ·
  replace hsw : l * l ≤ u2 * u2 := by omega
  by_cases hze : l ≤ 0 ∧ 0 ≤ u2
  ·
   have ds := cmp_ngt0 hsw
   have d1 : decide (l ≤ 0) = true := decide_eq_true hze.1
   have d2 : decide (0 ≤ u2) = true := decide_eq_true hze.2
   have bl6 := bl
   have bu6 := bu
   have gA := gL
   have gB := gU
   have hR6 := hR
   have hE6 := hE
   have HM : Hid (max (l * l) (u2 * u2) = u2 * u2) := show max (l * l) (u2 * u2) = u2 * u2 by omega
   have HZZ : Hid (tightS 0 (u2 * u2) 1048576 = zz) := show _ = zz by rw [HZ.out, if_pos hze, HM.out]
   clear hze hsw
   go_wp2_with fail
   refine (nOf 0 (by decide) (by decide) _).mono ?_
   rintro e w7 ⟨p0, z0, rfl, h0, hB⟩
   replace bl6 := bl6.below hB
   replace bu6 := bu6.below hB
   replace gB := RNum.below gB hB
   replace hR6 := hR6.below hB
   replace hE6 := hE6.trans (hB.mono hE6.size)
   clear hB gA
   have gA := NR.store2 (r := p0) h0 bl6 (.bool p0.b) (.slice p0.a p0.n p0.c)
   replace gB := NR.store2 (r := pu) gB bl6 (.bool p0.b) (.slice p0.a p0.n p0.c)
   have t3 := bu6.cells.1
   have t4 := bu6.cells.2.1
   replace bu6 := bu6.other (Ne.symm y3) (.bool p0.b) (.slice p0.a p0.n p0.c)
   replace hR6 := hR6.far (show w.heap.size + 1 ≠ kl by omega) (.bool p0.b) (.slice p0.a p0.n p0.c)
   replace hE6 := below_o hE6 (k := kl) (by omega) 0 1 (.bool p0.b) (.slice p0.a p0.n p0.c)
   have t1 := bl6.cells.2.2.1
   have t2 := bl6.cells.2.2.2
   have t5 := bl6.cells.1
   have t6 := bl6.cells.2.1
   replace bl6 := bl6.self (.bool p0.b) (.slice p0.a p0.n p0.c)
   go_wp2_with fail
   clear t1 t2 t3 t4 t5 t6
   refine (show Calls Tryz.prog 72 _ _ (PDp zz _) by have := tight_any p0 pu 1048576 _ gA gB (.inr rfl) (by rw [z0]; decide) (by rw [z0]; decide) (by rw [zu]; exact HBs.out.2.1) (by rw [zu]; exact HBs.out.2.2); rwa [z0, zu, HZZ.out] at this).mono ?_
   rintro e w9 ⟨rfl, hB⟩
   have hR9 := cl3 (hR6.below hB)
   replace hE6 := hE6.trans (hB.mono hE6.size)
   have c1 := hR9.1
   have c2 := hR9.2.1
   have c3 := hR9.2.2.1
   have c4 := hR9.2.2.2.1
   have c5 := hR9.2.2.2.2.1
   have c6 := hR9.2.2.2.2.2
   have hf := fin3 hE6 1 zz
   clear hR9 hB hE6 hR6 bl6 bu6 gA gB
   go_wp2
   exact bodyPost_ret (v := .agg #[.int .i64 zz.lo, .int .i64 zz.hi, .bool zz.all]) (by simp [results, Tryz.results40, go_sem, c1, c2, c3]) rfl ⟨rfl, hf⟩
  ·
   have ds := cmp_ngt0 hsw
   skip
   have bl6 := bl
   have bu6 := bu
   have gA := gL
   have gB := gU
   have hR6 := hR
   have hE6 := hE
   have HM : Hid (max (l * l) (u2 * u2) = u2 * u2) := show max (l * l) (u2 * u2) = u2 * u2 by omega
   have HN : Hid (min (l * l) (u2 * u2) = l * l) := show min (l * l) (u2 * u2) = l * l by omega
   have HZZ : Hid (tightS (l * l) (u2 * u2) 1048576 = zz) := show _ = zz by rw [HZ.out, if_neg hze, HM.out, HN.out]
   clear hsw
   by_cases q1 : l ≤ 0
   ·
    have d1 : decide (l ≤ 0) = true := decide_eq_true q1
    have d2 : decide (0 ≤ u2) = false := decide_eq_false (by omega)
    clear hze
    go_wp2_with fail
    refine (show Calls Tryz.prog 72 _ _ (PDp zz _) by have := tight_any pl pu 1048576 _ gA gB (.inr rfl) (by rw [zl]; exact HBs.out.1.1) (by rw [zl]; exact HBs.out.1.2) (by rw [zu]; exact HBs.out.2.1) (by rw [zu]; exact HBs.out.2.2); rwa [zl, zu, HZZ.out] at this).mono ?_
    rintro e w9 ⟨rfl, hB⟩
    have hR9 := cl3 (hR6.below hB)
    replace hE6 := hE6.trans (hB.mono hE6.size)
    have c1 := hR9.1
    have c2 := hR9.2.1
    have c3 := hR9.2.2.1
    have c4 := hR9.2.2.2.1
    have c5 := hR9.2.2.2.2.1
    have c6 := hR9.2.2.2.2.2
    have hf := fin3 hE6 1 zz
    clear hR9 hB hE6 hR6 bl6 bu6 gA gB
    go_wp2
    exact bodyPost_ret (v := .agg #[.int .i64 zz.lo, .int .i64 zz.hi, .bool zz.all]) (by simp [results, Tryz.results40, go_sem, c1, c2, c3]) rfl ⟨rfl, hf⟩
   ·
    have d1 : decide (l ≤ 0) = false := decide_eq_false q1
    clear hze
    go_wp2_with fail
    refine (show Calls Tryz.prog 72 _ _ (PDp zz _) by have := tight_any pl pu 1048576 _ gA gB (.inr rfl) (by rw [zl]; exact HBs.out.1.1) (by rw [zl]; exact HBs.out.1.2) (by rw [zu]; exact HBs.out.2.1) (by rw [zu]; exact HBs.out.2.2); rwa [zl, zu, HZZ.out] at this).mono ?_
    rintro e w9 ⟨rfl, hB⟩
    have hR9 := cl3 (hR6.below hB)
    replace hE6 := hE6.trans (hB.mono hE6.size)
    have c1 := hR9.1
    have c2 := hR9.2.1
    have c3 := hR9.2.2.1
    have c4 := hR9.2.2.2.1
    have c5 := hR9.2.2.2.2.1
    have c6 := hR9.2.2.2.2.2
    have hf := fin3 hE6 1 zz
    clear hR9 hB hE6 hR6 bl6 bu6 gA gB
    go_wp2
    exact bodyPost_ret (v := .agg #[.int .i64 zz.lo, .int .i64 zz.hi, .bool zz.all]) (by simp [results, Tryz.results40, go_sem, c1, c2, c3]) rfl ⟨rfl, hf⟩
set_option maxHeartbeats 1600000 in
theorem rdSqr_no (x y : Sp) (hr : ∀ W : World, Calls Tryz.prog 44 #[.agg #[.int .i64 x.lo, .int .i64 x.hi, .bool x.all]] W (PDp ⟨0, 0, true⟩ W)) (w : World) : Calls Tryz.prog 40 #[.agg #[.int .i64 x.lo, .int .i64 x.hi, .bool x.all]] w (PDp lineS w) := by
 have HR := Lib.hid hr
 clear hr
 go_enter Tryz.func40, Tryz.ntmps40
 go_wp2_with fail
 have hC := ((cs_nil w).new #[.int .i64 x.lo, .int .i64 x.hi, .bool x.all] 27).new #[.int .i64 0, .int .i64 0, .bool false] 27
 rw [show (w.alloc (.cells #[.int .i64 x.lo, .int .i64 x.hi, .bool x.all] 27)).heap.size = w.heap.size + 1 by simp] at hC
 generalize (w.alloc (.cells #[.int .i64 x.lo, .int .i64 x.hi, .bool x.all] 27)).alloc (.cells #[.int .i64 0, .int .i64 0, .bool false] 27) = w1 at *
 refine (HR.out _).mono ?_
 rintro e w2 ⟨rfl, hB⟩
 replace hC := hC.later hB
 have hD : D3 w2 (w.heap.size + 1) ⟨0, 0, false⟩ := hC.at' _ (.head _)
 have hlt := hC.lt _ (.head _)
 replace hlt : w.heap.size + 1 < w2.heap.size := hlt
 have hb := hC.below
 have c1 := hD.cells.1
 have c2 := hD.cells.2.1
 have c3 := hD.cells.2.2.1
 have c4 := hD.cells.2.2.2.1
 have c5 := hD.cells.2.2.2.2.1
 have c6 := hD.cells.2.2.2.2.2
 have h1 : Below w.heap.size w (((w2.setCell ⟨w.heap.size + 1, 0, none⟩ (.int .i64 0)).setCell ⟨w.heap.size + 1, 1, none⟩ (.int .i64 0)).setCell ⟨w.heap.size + 1, 2, none⟩ (.bool true)) := fin3 hb 1 ⟨0, 0, true⟩
 have hf : Below w.heap.size w ((((w2.setCell ⟨w.heap.size + 1, 0, none⟩ (.int .i64 0)).setCell ⟨w.heap.size + 1, 1, none⟩ (.int .i64 0)).setCell ⟨w.heap.size + 1, 2, none⟩ (.bool true)).alloc (.cells #[.int .i64 0, .int .i64 0, .bool true] 27)) := h1.alloc h1.size _
 have hd : D3 ((((w2.setCell ⟨w.heap.size + 1, 0, none⟩ (.int .i64 0)).setCell ⟨w.heap.size + 1, 1, none⟩ (.int .i64 0)).setCell ⟨w.heap.size + 1, 2, none⟩ (.bool true)).alloc (.cells #[.int .i64 0, .int .i64 0, .bool true] 27)) (w.heap.size + 1) ⟨0, 0, true⟩ := (hD.self ⟨0, 0, true⟩).below ((Below.refl _ _).alloc (Nat.le_refl _) _)
 have k1 := hd.cells.1
 have k2 := hd.cells.2.1
 have k3 := hd.cells.2.2.1
 clear hC hB hD h1 hd
 go_wp2
 exact bodyPost_ret (v := .agg #[.int .i64 lineS.lo, .int .i64 lineS.hi, .bool lineS.all]) (by simp [results, Tryz.results40, go_sem, k1, k2, k3, lineS]) rfl ⟨rfl, hf⟩
theorem rdSqr_any (x : Sp) (w : World) : Calls Tryz.prog 40 #[.agg #[.int .i64 x.lo, .int .i64 x.hi, .bool x.all]] w (PDp (sqrS x) w) := by
 cases hk : okB x
 ·
  have e : sqrS x = lineS := by unfold sqrS; rw [hk]; rfl
  rw [e]
  exact rdSqr_no x lineS (fun W => by have := rRight_any x W; rwa [mkS_no hk] at this) w
 ·
  obtain ⟨l, u2, a⟩ := x
  have k := ok_of hk
  have h4 : a = false := k.2.2.2
  subst h4
  exact rdSqr_ok l u2 w k.1 k.2.1 k.2.2.1
end Go.Proofs.YtdochhhepmlapaaGreat
