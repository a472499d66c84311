/- Parts of the proof. -/
import Derived.Test.YtolpfibihialkaaGreatGr0
import Derived.Test.YtolpfibihialkaaGreatGr22
import Derived.Test.YtolpfibihialkaaGreatGr21
/- The document's spans: the walk of tight. No statement of the seat is proved here. -/
namespace Go.Proofs.YtolpfibihialkaaGreat
open Go Go.RowKit
/-- The tightest span of all from x / k to y / k. -/
def tightS (x y k : Int) : Sp := if x / k < -2147483647 ∨ -y / k < -2147483647 ∨ 2147483647 < x / k ∨ 2147483647 < -y / k then lineS else ⟨x / k, -(-y / k), false⟩
theorem Cs.box {w W : World} {l : List (Nat × Array Value × TypeId)} {ns : List NR} (h : Cs w W l ns) {k : Nat} {x y : Value} {T : TypeId} (hb : Bx W T k x y) : Cs w W ((k, #[x, y], T) :: l) ns := ⟨h.below, fun p hp => by
 rcases List.mem_cons.1 hp with rfl | hp
 ·
  exact hb
 ·
  exact h.at' p hp, h.num⟩
theorem fin3 {w W : World} (h : Below w.heap.size w W) (k : Nat) (z : Sp) : Below w.heap.size w (((W.setCell ⟨w.heap.size + k, 0, none⟩ (.int .i64 z.lo)).setCell ⟨w.heap.size + k, 1, none⟩ (.int .i64 z.hi)).setCell ⟨w.heap.size + k, 2, none⟩ (.bool z.all)) := ((h.setCell (p := ⟨w.heap.size + k, 0, none⟩) (Nat.le_add_right _ _) _).setCell (p := ⟨w.heap.size + k, 1, none⟩) (Nat.le_add_right _ _) _).setCell (p := ⟨w.heap.size + k, 2, none⟩) (Nat.le_add_right _ _) _
theorem nCmp (p q : NR) (w : World) (hp : p.is w) (hq : q.is w) : Calls Tryz.prog 88 #[.agg #[.bool p.b, .slice p.a p.n p.c], .agg #[.bool q.b, .slice q.a q.n q.c]] w (PVal (.int .i64 (cmpI p.z q.z)) w) := rCmp_any p.b p.a p.n p.c p.z q.b q.a q.n q.c q.z w hp hq
theorem cmp_lt0 {x y : Int} (h : x < y) : decide (cmpI x y < 0) = true := by
 unfold cmpI
 rw [if_pos h]
 rfl
theorem cmp_nlt0 {x y : Int} (h : y ≤ x) : decide (cmpI x y < 0) = false := by
 unfold cmpI
 rw [if_neg (by omega)]
 split <;> rfl
theorem z20 {z : Int} (h1 : -9223372036854775808 ≤ z) (h2 : z ≤ 9223372036854775807) : z.natAbs < 10 ^ 20 := by omega
theorem div_small {x k : Int} (hk : k = 1 ∨ k = 1048576) (h1 : -9223372036854775807 ≤ x) (h2 : x ≤ 9223372036854775807) : -9223372036854775807 ≤ x / k ∧ x / k ≤ 9223372036854775807 := by
 rcases hk with rfl | rfl <;> omega
set_option maxRecDepth 100000 in
set_option maxHeartbeats 6400000 in
theorem tight_any (nl nh : NR) (k : Int) (w : World) (hlo : nl.is w) (hhi : nh.is w) (hk : k = 1 ∨ k = 1048576) (l1 : -9223372036854775807 ≤ nl.z) (l2 : nl.z ≤ 9223372036854775807) (u1 : -9223372036854775807 ≤ nh.z) (u2 : nh.z ≤ 9223372036854775807) :
  Calls Tryz.prog 76 #[.agg #[.bool nl.b, .slice nl.a nl.n nl.c], .agg #[.bool nh.b, .slice nh.a nh.n nh.c], .int .i64 k] w (PDp (tightS nl.z nh.z k) w) := by
 have kp : 0 < k := by omega
 have bA := div_small hk l1 l2
 have bB := div_small (x := -nh.z) hk (by omega) (by omega)
 have H1 := Lib.hid (z20 (z := nl.z) (by omega) (by omega))
 have H2 := Lib.hid (z20 (z := nh.z) (by omega) (by omega))
 have HA := Lib.hid (z20 (z := nl.z / k) (by omega) (by omega))
 have HB := Lib.hid (z20 (z := -nh.z / k) (by omega) (by omega))
 have HKb : Hid (k.natAbs < 10 ^ 10) := show _ < _ by rcases hk with rfl | rfl <;> decide
 have HK0 : Hid (k ≠ 0) := show k ≠ 0 by omega
 have HO : Hid (∀ W : World, Calls Tryz.prog 77 #[.int .i64 k] W (PN k W)) := show ∀ W : World, _ from fun W => nOf k (by omega) (by omega) W
 have HQA := Lib.hid (flo_pos (a := nl.z) kp)
 have HQB := Lib.hid (flo_pos (a := -nh.z) kp)
 have HSA : Hid (smallV (nl.z / k) = nl.z / k ∧ smallB (nl.z / k) = true) := show _ ∧ _ from ⟨if_pos (by omega), decide_eq_true (by omega)⟩
 have HSB : Hid (smallV (-nh.z / k) = -nh.z / k ∧ smallB (-nh.z / k) = true) := show _ ∧ _ from ⟨if_pos (by omega), decide_eq_true (by omega)⟩
 have hT : tightS nl.z nh.z k = if nl.z / k < -2147483647 ∨ -nh.z / k < -2147483647 ∨ 2147483647 < nl.z / k ∨ 2147483647 < -nh.z / k then lineS else ⟨nl.z / k, -(-nh.z / k), false⟩ := rfl
 have HT := Lib.hid hT
 have hC := ((((cs_nil w).more hhi).more hlo).new #[.bool nl.b, .slice nl.a nl.n nl.c] 82).new #[.bool nh.b, .slice nh.a nh.n nh.c] 82
 replace hC := hC.new #[.int .i64 0, .int .i64 0, .bool false] 29
 rw [show ((w.alloc (.cells #[.bool nl.b, .slice nl.a nl.n nl.c] 82)).alloc (.cells #[.bool nh.b, .slice nh.a nh.n nh.c] 82)).heap.size = w.heap.size + 2 by simp, show (w.alloc (.cells #[.bool nl.b, .slice nl.a nl.n nl.c] 82)).heap.size = w.heap.size + 1 by simp] at hC
 clear hT hlo hhi hk l1 l2 u1 u2 kp bA bB
 generalize tightS nl.z nh.z k = z at *
 generalize hA : nl.z / k = qa at *
 generalize hB' : -nh.z / k = qb at *
 go_enter Tryz.func76, Tryz.ntmps76
 go_wp2
 generalize ((w.alloc (.cells #[.bool nl.b, .slice nl.a nl.n nl.c] 82)).alloc (.cells #[.bool nh.b, .slice nh.a nh.n nh.c] 82)).alloc (.cells #[.int .i64 0, .int .i64 0, .bool false] 29) = w1 at *
 obtain ⟨m1, hm1⟩ : ∃ m, m = w1.heap.size := ⟨_, rfl⟩
 have hJ0 : ∀ u, Jy w m1 [(w.heap.size + 2, #[.int .i64 0, .int .i64 0, .bool false], 29), (w.heap.size + 1, #[.bool nh.b, .slice nh.a nh.n nh.c], 82), (w.heap.size, #[.bool nl.b, .slice nl.a nl.n nl.c], 82)] [nl, nh] 82 [8, 9] [(10, 8, 5), (11, 9, 6)] (fun _ => false) u w1.drew := fun u => by rw [hm1]; exact Jy.start (hC) u
 refine wp_region_y 13 [some 19, some 20, some 21, some 22, some 18, some 23, some 24, some 25, some 7, some 8, none, none, some 9] (vyL [.eq (.agg #[.bool nl.b, .slice nl.a nl.n nl.c]), .eq (.int .i64 k), .num (k), .quo (qa) (0), .quo (qa) (0), .num (qa), .some_, .eq (.int .i64 0), .any, .any, .any, .any, .eq (.int .i64 0)]) (Jy w m1 [(w.heap.size + 2, #[.int .i64 0, .int .i64 0, .bool false], 29), (w.heap.size + 1, #[.bool nh.b, .slice nh.a nh.n nh.c], 82), (w.heap.size, #[.bool nl.b, .slice nl.a nl.n nl.c], 82)] [nl, nh] 82 [8, 9] [(10, 8, 5), (11, 9, 6)]) (by kernel_rfl) (by kernel_rfl) (by rfl) (by decide) (by rfl) hJ0 ?_ ?_
 ·
  intro i hl hi L u W A hLi hJ hd hev hin
  obtain rfl | rfl | rfl | rfl | rfl | rfl | rfl | rfl | rfl | rfl | rfl | rfl | rfl : i = 0 ∨ i = 1 ∨ i = 2 ∨ i = 3 ∨ i = 4 ∨ i = 5 ∨ i = 6 ∨ i = 7 ∨ i = 8 ∨ i = 9 ∨ i = 10 ∨ i = 11 ∨ i = 12 := by omega
  ·
   have x3 : A.tmps[3]? = some (.pointer (some ⟨w.heap.size, 0, none⟩)) := (hev 3 (by decide)).trans rfl
   clear hd hev hin
   simp only [zzA, zzB]
   clear hl
   refine .inr ⟨rfl, fun K' hK => ?_⟩
   have HK := Lib.hid hK
   clear hK
   have f0 := cl2 (hJ.cm.cs.at' (w.heap.size, #[.bool nl.b, .slice nl.a nl.n nl.c], 82) (.tail _ (.tail _ (.head _))))
   have f5 := f0.1
   have f6 := f0.2.1
   clear f0
   go_simp
   exact HK.out (.agg #[.bool nl.b, .slice nl.a nl.n nl.c]) _ (hJ.grow hLi (by decide) (by decide) (Below.refl _ _)) (rfl) vyL_same
  ·
   have x2 : A.tmps[2]? = some (.int .i64 k) := (hev 2 (by decide)).trans rfl
   clear hd hev hin
   simp only [zzA, zzB]
   clear hl
   refine .inr ⟨rfl, fun K' hK => ?_⟩
   have HK := Lib.hid hK
   clear hK
   go_simp
   exact HK.out (.int .i64 k) _ (hJ.grow hLi (by decide) (by decide) (Below.refl _ _)) (rfl) vyL_same
  ·
   have e1 : u 1 = .int .i64 k := (hd 1 (by decide) (by kernel_rfl)).2
   have x20 : A.tmps[20]? = some (.int .i64 k) := (hin 1 20 rfl).trans (congrArg some e1)
   clear hd hev hin
   simp only [zzA, zzB]
   clear hl
   refine .inr ⟨rfl, fun K' hK => ?_⟩
   have HK := Lib.hid hK
   clear hK
   go_simp
   refine (HO.out W).mono ?_
   rintro e W' ⟨y, hyz, rfl, hy, hB⟩
   exact HK.out (.agg #[.bool y.b, .slice y.a y.n y.c]) _ (hJ.grow hLi (by decide) (by decide) hB) (⟨y.b, y.a, y.n, y.c, rfl, by rw [← hyz]; exact hy⟩) (vyL_later hB)
  ·
   have e0 : u 0 = .agg #[.bool nl.b, .slice nl.a nl.n nl.c] := (hd 0 (by decide) (by kernel_rfl)).2
   have x19 : A.tmps[19]? = some (.agg #[.bool nl.b, .slice nl.a nl.n nl.c]) := (hin 0 19 rfl).trans (congrArg some e0)
   obtain ⟨b2, a2, n2, c2, e2, g2⟩ := (show VR (k) (u 2) W from (hd 2 (by decide) (by kernel_rfl)).2)
   have x21 : A.tmps[21]? = some (.agg #[.bool b2, .slice a2 n2 c2]) := (hin 2 21 rfl).trans (congrArg some e2)
   clear hd hev hin
   simp only [zzA, zzB]
   clear hl
   refine .inr ⟨rfl, fun K' hK => ?_⟩
   have HK := Lib.hid hK
   clear hK
   go_simp
   refine (show Calls Tryz.prog 89 _ W (PNQ qa 0 W) by have := nQuo nl ⟨b2, a2, n2, c2, k⟩ W (hJ.cm.cs.num nl (.head _)) g2 (Nat.le_trans (NR.len (hJ.cm.cs.num nl (.head _)) H1.out) (by decide)) (Nat.le_trans (NR.len (p := ⟨b2, a2, n2, c2, k⟩) g2 HKb.out) (by decide)) HK0.out; rwa [show flo nl.z (⟨b2, a2, n2, c2, k⟩ : NR).z = qa from HQA.out] at this).mono ?_
   rintro e W' ⟨y, r, hyz, rfl, hy, hr, hB⟩
   exact HK.out (.tuple #[.agg #[.bool y.b, .slice y.a y.n y.c], .agg #[.bool r.b, .slice r.a r.n r.c], .int .i64 0]) _ (hJ.grow hLi (by decide) (by decide) hB) (⟨y.b, y.a, y.n, y.c, r.z, r.b, r.a, r.n, r.c, rfl, by rw [← hyz]; exact hy, hr⟩) (vyL_later hB)
  ·
   obtain ⟨b3, a3, n3, c3, r3, b3', a3', n3', c3', e3, g3, g3'⟩ := (show VQ (qa) (0) (u 3) W from (hd 3 (by decide) (by kernel_rfl)).2)
   have x22 : A.tmps[22]? = some (.tuple #[.agg #[.bool b3, .slice a3 n3 c3], .agg #[.bool b3', .slice a3' n3' c3'], .int .i64 0]) := (hin 3 22 rfl).trans (congrArg some e3)
   clear hd hev hin
   simp only [zzA, zzB]
   clear hl
   refine .inr ⟨rfl, fun K' hK => ?_⟩
   have HK := Lib.hid hK
   clear hK
   go_simp
   exact HK.out (.tuple #[.agg #[.bool b3, .slice a3 n3 c3], .agg #[.bool b3', .slice a3' n3' c3'], .int .i64 0]) _ (hJ.grow hLi (by decide) (by decide) (Below.refl _ _)) (⟨b3, a3, n3, c3, r3, b3', a3', n3', c3', rfl, g3, g3'⟩) vyL_same
  ·
   obtain ⟨b4, a4, n4, c4, r4, b4', a4', n4', c4', e4, g4, g4'⟩ := (show VQ (qa) (0) (u 4) W from (hd 4 (by decide) (by kernel_rfl)).2)
   have x18 : A.tmps[18]? = some (.tuple #[.agg #[.bool b4, .slice a4 n4 c4], .agg #[.bool b4', .slice a4' n4' c4'], .int .i64 0]) := (hin 4 18 rfl).trans (congrArg some e4)
   clear hd hev hin
   simp only [zzA, zzB]
   clear hl
   refine .inr ⟨rfl, fun K' hK => ?_⟩
   have HK := Lib.hid hK
   clear hK
   go_simp
   exact HK.out (.agg #[.bool b4, .slice a4 n4 c4]) _ (hJ.grow hLi (by decide) (by decide) (Below.refl _ _)) (⟨b4, a4, n4, c4, rfl, g4⟩) vyL_same
  ·
   obtain ⟨b4, a4, n4, c4, r4, b4', a4', n4', c4', e4, g4, g4'⟩ := (show VQ (qa) (0) (u 4) W from (hd 4 (by decide) (by kernel_rfl)).2)
   have x18 : A.tmps[18]? = some (.tuple #[.agg #[.bool b4, .slice a4 n4 c4], .agg #[.bool b4', .slice a4' n4' c4'], .int .i64 0]) := (hin 4 18 rfl).trans (congrArg some e4)
   clear hd hev hin
   simp only [zzA, zzB]
   clear hl
   refine .inr ⟨rfl, fun K' hK => ?_⟩
   have HK := Lib.hid hK
   clear hK
   go_simp
   exact HK.out (.agg #[.bool b4', .slice a4' n4' c4']) _ (hJ.grow hLi (by decide) (by decide) (Below.refl _ _)) (⟨r4, b4', a4', n4', c4', rfl, g4'⟩) vyL_same
  ·
   obtain ⟨b4, a4, n4, c4, r4, b4', a4', n4', c4', e4, g4, g4'⟩ := (show VQ (qa) (0) (u 4) W from (hd 4 (by decide) (by kernel_rfl)).2)
   have x18 : A.tmps[18]? = some (.tuple #[.agg #[.bool b4, .slice a4 n4 c4], .agg #[.bool b4', .slice a4' n4' c4'], .int .i64 0]) := (hin 4 18 rfl).trans (congrArg some e4)
   clear hd hev hin
   simp only [zzA, zzB]
   clear hl
   refine .inr ⟨rfl, fun K' hK => ?_⟩
   have HK := Lib.hid hK
   clear hK
   go_simp
   exact HK.out (.int .i64 0) _ (hJ.grow hLi (by decide) (by decide) (Below.refl _ _)) (rfl) vyL_same
  ·
   clear hd hev hin
   simp only [zzA, zzB]
   clear hl
   refine .inr ⟨rfl, fun K' hK => ?_⟩
   have HK := Lib.hid hK
   clear hK
   go_simp
   exact HK.out (.pointer (some ⟨W.heap.size, 0, none⟩)) _ (hJ.alloc hLi (by decide)) trivial (vyL_later ((Below.refl _ _).alloc (Nat.le_refl _) _))
  ·
   clear hd hev hin
   simp only [zzA, zzB]
   clear hl
   refine .inr ⟨rfl, fun K' hK => ?_⟩
   have HK := Lib.hid hK
   clear hK
   go_simp
   exact HK.out (.pointer (some ⟨W.heap.size, 0, none⟩)) _ (hJ.alloc hLi (by decide)) trivial (vyL_later ((Below.refl _ _).alloc (Nat.le_refl _) _))
  ·
   obtain ⟨k8, bk8, ak8, nk8, ck8, e8, ge8, hk8⟩ := hJ.bx 8 (by decide) ((hd 8 (by decide) (by kernel_rfl)).1)
   have x7 : A.tmps[7]? = some (.pointer (some ⟨k8, 0, none⟩)) := (hin 8 7 rfl).trans (congrArg some e8)
   obtain ⟨b5, a5, n5, c5, e5, g5⟩ := (show VR (qa) (u 5) W from (hd 5 (by decide) (by kernel_rfl)).2)
   have x23 : A.tmps[23]? = some (.agg #[.bool b5, .slice a5 n5 c5]) := (hin 5 23 rfl).trans (congrArg some e5)
   have hLa := (hd 8 (by decide) (by kernel_rfl)).1
   have hLx := (hd 5 (by decide) (by kernel_rfl)).1
   clear hd hev hin
   simp only [zzA, zzB]
   clear hl
   refine .inr ⟨rfl, fun K' hK => ?_⟩
   have HK := Lib.hid hK
   clear hK
   have nc0 := hk8.cells.1
   have nc1 := hk8.cells.2.1
   have nc2 := hk8.cells.2.2.1
   have nc3 := hk8.cells.2.2.2
   have HE1 := Lib.hid e8
   have HE2 := Lib.hid e5
   clear e8 e5
   go_simp
   exact HK.out undef _ (hJ.store hLi (by decide) (by decide) (by decide) (by decide) (by decide) hLa hLx HE1.out ge8 hk8 HE2.out) trivial (vyL_store hk8 _ _)
  ·
   obtain ⟨k9, bk9, ak9, nk9, ck9, e9, ge9, hk9⟩ := hJ.bx 9 (by decide) ((hd 9 (by decide) (by kernel_rfl)).1)
   have x8 : A.tmps[8]? = some (.pointer (some ⟨k9, 0, none⟩)) := (hin 9 8 rfl).trans (congrArg some e9)
   obtain ⟨y6, b6, a6, n6, c6, e6, g6⟩ := (show VA (u 6) W from (hd 6 (by decide) (by kernel_rfl)).2)
   have x24 : A.tmps[24]? = some (.agg #[.bool b6, .slice a6 n6 c6]) := (hin 6 24 rfl).trans (congrArg some e6)
   have hLa := (hd 9 (by decide) (by kernel_rfl)).1
   have hLx := (hd 6 (by decide) (by kernel_rfl)).1
   clear hd hev hin
   simp only [zzA, zzB]
   clear hl
   refine .inr ⟨rfl, fun K' hK => ?_⟩
   have HK := Lib.hid hK
   clear hK
   have nc0 := hk9.cells.1
   have nc1 := hk9.cells.2.1
   have nc2 := hk9.cells.2.2.1
   have nc3 := hk9.cells.2.2.2
   have HE1 := Lib.hid e9
   have HE2 := Lib.hid e6
   clear e9 e6
   go_simp
   exact HK.out undef _ (hJ.store hLi (by decide) (by decide) (by decide) (by decide) (by decide) hLa hLx HE1.out ge9 hk9 HE2.out) trivial (vyL_store hk9 _ _)
  ·
   have e7 : u 7 = .int .i64 0 := (hd 7 (by decide) (by kernel_rfl)).2
   have x25 : A.tmps[25]? = some (.int .i64 0) := (hin 7 25 rfl).trans (congrArg some e7)
   clear hd hev hin
   simp only [zzA, zzB]
   clear hl
   refine .inr ⟨rfl, fun K' hK => ?_⟩
   have HK := Lib.hid hK
   clear hK
   go_simp
   exact HK.out (.int .i64 0) _ (hJ.grow hLi (by decide) (by decide) (Below.refl _ _)) (rfl) vyL_same
 intro L u W hL hJ hd
 have e0 : u 0 = .agg #[.bool nl.b, .slice nl.a nl.n nl.c] := hd 0 (by decide)
 have e1 : u 1 = .int .i64 k := hd 1 (by decide)
 obtain ⟨b2, a2, n2, c2, e2, g2⟩ := (show VR (k) (u 2) W from hd 2 (by decide))
 obtain ⟨b3, a3, n3, c3, r3, b3', a3', n3', c3', e3, g3, g3'⟩ := (show VQ (qa) (0) (u 3) W from hd 3 (by decide))
 obtain ⟨b4, a4, n4, c4, r4, b4', a4', n4', c4', e4, g4, g4'⟩ := (show VQ (qa) (0) (u 4) W from hd 4 (by decide))
 obtain ⟨b5, a5, n5, c5, e5, g5⟩ := (show VR (qa) (u 5) W from hd 5 (by decide))
 obtain ⟨y6, b6, a6, n6, c6, e6, g6⟩ := (show VA (u 6) W from hd 6 (by decide))
 have e7 : u 7 = .int .i64 0 := hd 7 (by decide)
 obtain ⟨k8, bk8, ak8, nk8, ck8, e8, ge8, hk8⟩ := hJ.bx 8 (by decide) (hL 8 (by decide))
 obtain ⟨k9, bk9, ak9, nk9, ck9, e9, ge9, hk9⟩ := hJ.bx 9 (by decide) (hL 9 (by decide))
 have e12 : u 12 = .int .i64 0 := hd 12 (by decide)
 obtain ⟨_, _, kq10, pq10, qq10, eq1, eq2, hq10⟩ := hJ.st (10, 8, 5) (by decide) (hL 10 (by decide))
 rw [show u (10, 8, 5).2.1 = _ from e8] at eq1
 rw [show u (10, 8, 5).2.2 = _ from e5] at eq2
 injection eq1 with eq1
 injection eq1 with eq1
 injection eq1 with eq1 _ _
 simp only [Value.agg.injEq, Array.mk.injEq, List.cons.injEq, and_true] at eq2
 obtain ⟨rfl, rfl⟩ := eq2
 subst eq1
 obtain ⟨_, _, kq11, pq11, qq11, eq1, eq2, hq11⟩ := hJ.st (11, 9, 6) (by decide) (hL 11 (by decide))
 rw [show u (11, 9, 6).2.1 = _ from e9] at eq1
 rw [show u (11, 9, 6).2.2 = _ from e6] at eq2
 injection eq1 with eq1
 injection eq1 with eq1
 injection eq1 with eq1 _ _
 simp only [Value.agg.injEq, Array.mk.injEq, List.cons.injEq, and_true] at eq2
 obtain ⟨rfl, rfl⟩ := eq2
 subst eq1
 simp only [layS, Act.put, zzC, zzD, zzE, Nat.zero_add, Nat.reduceAdd, List.drop_succ_cons, List.drop_zero, List.drop_nil, e0, e1, e2, e3, e4, e5, e6, e7, e8, e9, e12]
 obtain ⟨pa, hpa⟩ : ∃ p : NR, p = ⟨b5, a5, n5, c5, qa⟩ := ⟨_, rfl⟩
 have gA : pa.is W := by rw [hpa]; exact g5
 have hCa := (hJ.cm.cs.box hq10).more gA
 have zA : pa.z = qa := by rw [hpa]
 rw [show (.bool b5 : Value) = .bool pa.b by rw [hpa], show (.slice a5 n5 c5 : Value) = .slice pa.a pa.n pa.c by rw [hpa]] at hCa
 rw [show b5 = pa.b by rw [hpa], show a5 = pa.a by rw [hpa], show n5 = pa.n by rw [hpa], show c5 = pa.c by rw [hpa]]
 have hlt2 : w.heap.size + 2 < k8 := by have := hJ.cm.lt _ (.head _); replace this : w.heap.size + 2 < m1 := this; omega
 clear hJ hL hJ0 g2 g3 g4 g5 g6 g3' g4' hq10 hq11 hk8 hk9 ge9 hpa gA hC
 have f0 := cl2 (hCa.at' (w.heap.size + 1, #[.bool nh.b, .slice nh.a nh.n nh.c], 82) (.tail _ (.tail _ (.head _))))
 have f5 := f0.1
 have f6 := f0.2.1
 clear f0
 go_wp2_with fail
 clear f5 f6
 refine (nMinus nh _ (hCa.num nh (.tail _ (.tail _ (.head _))))).mono ?_
 rintro e w2 ⟨nm, znm, rfl, hnm, hB⟩
 replace hCa := (hCa.later hB).more hnm
 clear hB hnm
 go_wp2_with fail
 refine (HO.out _).mono ?_
 rintro e w3 ⟨nk, znk, rfl, hnk, hB⟩
 replace hCa := (hCa.later hB).more hnk
 clear hB hnk
 go_wp2_with fail
 have hgm := hCa.num nm (.tail _ (.head _))
 have hgk := hCa.num nk (.head _)
 refine (show Calls Tryz.prog 89 _ w3 (PNQ qb 0 w3) by have := nQuo nm nk w3 hgm hgk (Nat.le_trans (NR.len hgm (k := 20) (by rw [znm, Int.natAbs_neg]; exact H2.out)) (by decide)) (Nat.le_trans (NR.len hgk (by rw [znk]; exact HKb.out)) (by decide)) (by rw [znk]; exact HK0.out); rwa [znm, znk, HQB.out] at this).mono ?_
 rintro e w4 ⟨pb, pr, zB, rfl, hpb, hpr, hB⟩
 replace hCa := ((hCa.later hB).more hpb).new #[.bool pb.b, .slice pb.a pb.n pb.c] 82
 replace hCa := hCa.new #[.bool pr.b, .slice pr.a pr.n pr.c] 82
 rw [show (w4.alloc (.cells #[.bool pb.b, .slice pb.a pb.n pb.c] 82)).heap.size = w4.heap.size + 1 by simp] at hCa
 clear hB hpb hpr hgm hgk
 go_wp2_with fail
 generalize (w4.alloc (.cells #[.bool pb.b, .slice pb.a pb.n pb.c] 82)).alloc (.cells #[.bool pr.b, .slice pr.a pr.n pr.c] 82) = w5 at *
 generalize w4.heap.size = kb at *
 refine (nOf (-2147483647) (by decide) (by decide) _).mono ?_
 rintro e w6 ⟨ps, zS, rfl, hps, hB⟩
 replace hCa := ((hCa.later hB).more hps).new #[.bool ps.b, .slice ps.a ps.n ps.c] 82
 clear hB hps
 have fa := cl2 (hCa.at' (k8, #[.bool pa.b, .slice pa.a pa.n pa.c], 82) (.tail _ (.tail _ (.tail _ (.head _)))))
 have fa1 := fa.1
 have fa2 := fa.2.1
 clear fa
 go_wp2_with fail
 clear fa1 fa2
 generalize w6.alloc (.cells #[.bool ps.b, .slice ps.a ps.n ps.c] 82) = w7 at *
 generalize w6.heap.size = ks at *
 have gS := hCa.num ps (.head _)
 have gB := hCa.num pb (.tail _ (.head _))
 have gA := hCa.num pa (.tail _ (.tail _ (.tail _ (.tail _ (.head _)))))
 have HCmA : Hid (∀ W : World, pa.is W → ps.is W → Calls Tryz.prog 88 #[.agg #[.bool pa.b, .slice pa.a pa.n pa.c], .agg #[.bool ps.b, .slice ps.a ps.n ps.c]] W (PVal (.int .i64 (cmpI qa (-2147483647))) W)) := show ∀ W : World, _ from fun W h1 h2 => by have := nCmp pa ps W h1 h2; rwa [zA, zS] at this
 have HCmB : Hid (∀ W : World, pb.is W → ps.is W → Calls Tryz.prog 88 #[.agg #[.bool pb.b, .slice pb.a pb.n pb.c], .agg #[.bool ps.b, .slice ps.a ps.n ps.c]] W (PVal (.int .i64 (cmpI qb (-2147483647))) W)) := show ∀ W : World, _ from fun W h1 h2 => by have := nCmp pb ps W h1 h2; rwa [zB, zS] at this
 refine (HCmA.out _ gA gS).mono ?_
 rintro e w8 ⟨rfl, hB⟩
 replace hCa := hCa.later hB
 clear hB gS gA gB HCmA
 by_cases ha1 : qa < -2147483647
 ·
  have dd := cmp_lt0 ha1
  have hz : z = lineS := HT.out.trans (if_pos (.inl ha1))
  subst hz
  have hR := cl3 (hCa.at' (w.heap.size + 2, #[.int .i64 0, .int .i64 0, .bool false], 29) (.tail _ (.tail _ (.tail _ (.tail _ (.head _))))))
  have c1 := hR.1
  have c2 := hR.2.1
  have c3 := hR.2.2.1
  have c4 := hR.2.2.2.1
  have c5 := hR.2.2.2.2.1
  have c6 := hR.2.2.2.2.2
  have hf := fin3 hCa.below 2 lineS
  clear hR hCa
  go_wp2
  exact bodyPost_ret (v := .agg #[.int .i64 lineS.lo, .int .i64 lineS.hi, .bool lineS.all]) (by simp [results, Tryz.results76, go_sem, c1, c2, c3, lineS]) rfl ⟨rfl, hf⟩
 have da := cmp_nlt0 (show -2147483647 ≤ qa by omega)
 have fb := cl2 (hCa.at' (kb, #[.bool pb.b, .slice pb.a pb.n pb.c], 82) (.tail _ (.tail _ (.head _))))
 have fb1 := fb.1
 have fb2 := fb.2.1
 have fs := cl2 (hCa.at' (ks, #[.bool ps.b, .slice ps.a ps.n ps.c], 82) (.head _))
 have fs1 := fs.1
 have fs2 := fs.2.1
 clear fb fs
 go_wp2_with fail
 clear fb1 fb2 fs1 fs2
 have gS := hCa.num ps (.head _)
 have gB := hCa.num pb (.tail _ (.head _))
 refine (HCmB.out _ gB gS).mono ?_
 rintro e w9 ⟨rfl, hB⟩
 replace hCa := hCa.later hB
 clear hB gS gB HCmB
 by_cases hb1 : qb < -2147483647
 ·
  have dd := cmp_lt0 hb1
  have hz : z = lineS := HT.out.trans (if_pos (.inr (.inl hb1)))
  subst hz
  have hR := cl3 (hCa.at' (w.heap.size + 2, #[.int .i64 0, .int .i64 0, .bool false], 29) (.tail _ (.tail _ (.tail _ (.tail _ (.head _))))))
  have c1 := hR.1
  have c2 := hR.2.1
  have c3 := hR.2.2.1
  have c4 := hR.2.2.2.1
  have c5 := hR.2.2.2.2.1
  have c6 := hR.2.2.2.2.2
  have hf := fin3 hCa.below 2 lineS
  clear hR hCa
  go_wp2
  exact bodyPost_ret (v := .agg #[.int .i64 lineS.lo, .int .i64 lineS.hi, .bool lineS.all]) (by simp [results, Tryz.results76, go_sem, c1, c2, c3, lineS]) rfl ⟨rfl, hf⟩
 have db := cmp_nlt0 (show -2147483647 ≤ qb by omega)
 have fa := cl2 (hCa.at' (k8, #[.bool pa.b, .slice pa.a pa.n pa.c], 82) (.tail _ (.tail _ (.tail _ (.head _)))))
 have fa1 := fa.1
 have fa2 := fa.2.1
 clear fa
 go_wp2_with fail
 clear fa1 fa2
 have gA := hCa.num pa (.tail _ (.tail _ (.tail _ (.tail _ (.head _)))))
 refine (show Calls Tryz.prog 91 _ w9 (PVal2 (.int .i64 qa) (.bool true) w9) by have := nSmall pa w9 gA (Nat.le_trans (NR.len gA (by rw [zA]; exact HA.out)) (by decide)); rwa [zA, HSA.out.1, HSA.out.2] at this).mono ?_
 rintro e w10 ⟨rfl, hB⟩
 replace hCa := hCa.later hB
 clear hB gA
 have fb := cl2 (hCa.at' (kb, #[.bool pb.b, .slice pb.a pb.n pb.c], 82) (.tail _ (.tail _ (.head _))))
 have fb1 := fb.1
 have fb2 := fb.2.1
 clear fb
 go_wp2_with fail
 clear fb1 fb2
 have gB := hCa.num pb (.tail _ (.head _))
 refine (show Calls Tryz.prog 91 _ w10 (PVal2 (.int .i64 qb) (.bool true) w10) by have := nSmall pb w10 gB (Nat.le_trans (NR.len gB (by rw [zB]; exact HB.out)) (by decide)); rwa [zB, HSB.out.1, HSB.out.2] at this).mono ?_
 rintro e w11 ⟨rfl, hB⟩
 replace hCa := hCa.later hB
 clear hB gB
 by_cases ha2 : 2147483647 < qa
 ·
  have dd : decide (2147483647 < qa) = true := decide_eq_true ha2
  have hz : z = lineS := HT.out.trans (if_pos (.inr (.inr (.inl ha2))))
  subst hz
  have hR := cl3 (hCa.at' (w.heap.size + 2, #[.int .i64 0, .int .i64 0, .bool false], 29) (.tail _ (.tail _ (.tail _ (.tail _ (.head _))))))
  have c1 := hR.1
  have c2 := hR.2.1
  have c3 := hR.2.2.1
  have c4 := hR.2.2.2.1
  have c5 := hR.2.2.2.2.1
  have c6 := hR.2.2.2.2.2
  have hf := fin3 hCa.below 2 lineS
  clear hR hCa
  go_wp2
  exact bodyPost_ret (v := .agg #[.int .i64 lineS.lo, .int .i64 lineS.hi, .bool lineS.all]) (by simp [results, Tryz.results76, go_sem, c1, c2, c3, lineS]) rfl ⟨rfl, hf⟩
 have dd : decide (2147483647 < qa) = false := decide_eq_false ha2
 by_cases hb2 : 2147483647 < qb
 ·
  have dd2 : decide (2147483647 < qb) = true := decide_eq_true hb2
  have hz : z = lineS := HT.out.trans (if_pos (.inr (.inr (.inr hb2))))
  subst hz
  have hR := cl3 (hCa.at' (w.heap.size + 2, #[.int .i64 0, .int .i64 0, .bool false], 29) (.tail _ (.tail _ (.tail _ (.tail _ (.head _))))))
  have c1 := hR.1
  have c2 := hR.2.1
  have c3 := hR.2.2.1
  have c4 := hR.2.2.2.1
  have c5 := hR.2.2.2.2.1
  have c6 := hR.2.2.2.2.2
  have hf := fin3 hCa.below 2 lineS
  clear hR hCa
  go_wp2
  exact bodyPost_ret (v := .agg #[.int .i64 lineS.lo, .int .i64 lineS.hi, .bool lineS.all]) (by simp [results, Tryz.results76, go_sem, c1, c2, c3, lineS]) rfl ⟨rfl, hf⟩
 have dd2 : decide (2147483647 < qb) = false := decide_eq_false hb2
 have hz : z = ⟨qa, -qb, false⟩ := HT.out.trans (if_neg (by omega))
 subst hz
 have hw : IntKind.i64.wrap (-qb) = -qb := IntWalk.i64_in _ (by omega)
 have hR := cl3 (hCa.at' (w.heap.size + 2, #[.int .i64 0, .int .i64 0, .bool false], 29) (.tail _ (.tail _ (.tail _ (.tail _ (.head _))))))
 have c1 := hR.1
 have c2 := hR.2.1
 have c3 := hR.2.2.1
 have c4 := hR.2.2.2.1
 have c5 := hR.2.2.2.2.1
 have c6 := hR.2.2.2.2.2
 have hf := fin3 hCa.below 2 ⟨qa, -qb, false⟩
 clear hR hCa
 go_wp2
 exact bodyPost_ret (v := .agg #[.int .i64 (⟨qa, -qb, false⟩ : Sp).lo, .int .i64 (⟨qa, -qb, false⟩ : Sp).hi, .bool (⟨qa, -qb, false⟩ : Sp).all]) (by simp [results, Tryz.results76, go_sem, c1, c2, c3, lineS]) rfl ⟨rfl, hf⟩
end Go.Proofs.YtolpfibihialkaaGreat
