/- Parts of the proof. -/
import Derived.Test.YtolpfibihialkaaGreatGr0
import Derived.Test.YtolpfibihialkaaGreatGr23
/- The document's spans: the walk of four. No statement of the seat is proved here. -/
namespace Go.Proofs.YtolpfibihialkaaGreat
open Go Go.RowKit
/-- The variables of four: the row, the least, the greatest, the results'. -/
structure FJ (w W : World) (kr : Nat) (n0 n1 n2 n3 p q : NR) : Prop where
 cs : Cs w W [(kr + 2, #[.bool q.b, .slice q.a q.n q.c], 82), (kr + 1, #[.bool p.b, .slice p.a p.n p.c], 82), (kr, #[.bool n0.b, .slice n0.a n0.n n0.c, .bool n1.b, .slice n1.a n1.n n1.c, .bool n2.b, .slice n2.a n2.n n2.c, .bool n3.b, .slice n3.a n3.n n3.c], 82), (w.heap.size + 3, #[.bool false, .slice none 0 0], 82), (w.heap.size + 2, #[.bool false, .slice none 0 0], 82)] [q, p, n0, n1, n2, n3]
 ge : w.heap.size + 3 < kr
theorem FJ.later {w W W' : World} {kr : Nat} {n0 n1 n2 n3 p q : NR} (h : FJ w W kr n0 n1 n2 n3 p q) (hb : Below W.heap.size W W') : FJ w W' kr n0 n1 n2 n3 p q := ⟨h.cs.later hb, h.ge⟩
theorem FJ.putLo {w W : World} {kr : Nat} {n0 n1 n2 n3 p q : NR} (h : FJ w W kr n0 n1 n2 n3 p q) {x : NR} (hx : x.is W) : FJ w ((W.setCell ⟨kr + 1, 0, none⟩ (.bool x.b)).setCell ⟨kr + 1, 1, none⟩ (.slice x.a x.n x.c)) kr n0 n1 n2 n3 x q := by
 have hg := h.ge
 have hB : Bx W 82 (kr + 1) (.bool p.b) (.slice p.a p.n p.c) := h.cs.at' (kr + 1, #[.bool p.b, .slice p.a p.n p.c], 82) (.tail _ (.head _))
 refine ⟨⟨below_o h.cs.below (by omega) _ _ _ _, fun e he => ?_, fun r hr => ?_⟩, hg⟩
 ·
  simp only [List.mem_cons, List.not_mem_nil, or_false] at he
  rcases he with rfl | rfl | rfl | rfl | rfl
  ·
   exact (h.cs.at' (kr + 2, #[.bool q.b, .slice q.a q.n q.c], 82) (.head _)).far (show kr + 2 ≠ kr + 1 by omega) _ _
  ·
   exact hB.self _ _
  ·
   exact (h.cs.at' (kr, #[.bool n0.b, .slice n0.a n0.n n0.c, .bool n1.b, .slice n1.a n1.n n1.c, .bool n2.b, .slice n2.a n2.n n2.c, .bool n3.b, .slice n3.a n3.n n3.c], 82) (.tail _ (.tail _ (.head _)))).far (show kr ≠ kr + 1 by omega) _ _
  ·
   exact (h.cs.at' (w.heap.size + 3, #[.bool false, .slice none 0 0], 82) (.tail _ (.tail _ (.tail _ (.head _))))).far (show w.heap.size + 3 ≠ kr + 1 by omega) _ _
  ·
   exact (h.cs.at' (w.heap.size + 2, #[.bool false, .slice none 0 0], 82) (.tail _ (.tail _ (.tail _ (.tail _ (.head _)))))).far (show w.heap.size + 2 ≠ kr + 1 by omega) _ _
 ·
  simp only [List.mem_cons, List.not_mem_nil, or_false] at hr
  rcases hr with rfl | rfl | rfl | rfl | rfl | rfl
  ·
   exact NR.store2 (r := r) (h.cs.num r (.head _)) hB _ _
  ·
   exact NR.store2 (r := r) hx hB _ _
  ·
   exact NR.store2 (r := r) (h.cs.num r (.tail _ (.tail _ (.head _)))) hB _ _
  ·
   exact NR.store2 (r := r) (h.cs.num r (.tail _ (.tail _ (.tail _ (.head _))))) hB _ _
  ·
   exact NR.store2 (r := r) (h.cs.num r (.tail _ (.tail _ (.tail _ (.tail _ (.head _)))))) hB _ _
  ·
   exact NR.store2 (r := r) (h.cs.num r (.tail _ (.tail _ (.tail _ (.tail _ (.tail _ (.head _))))))) hB _ _
theorem FJ.putHi {w W : World} {kr : Nat} {n0 n1 n2 n3 p q : NR} (h : FJ w W kr n0 n1 n2 n3 p q) {x : NR} (hx : x.is W) : FJ w ((W.setCell ⟨kr + 2, 0, none⟩ (.bool x.b)).setCell ⟨kr + 2, 1, none⟩ (.slice x.a x.n x.c)) kr n0 n1 n2 n3 p x := by
 have hg := h.ge
 have hB : Bx W 82 (kr + 2) (.bool q.b) (.slice q.a q.n q.c) := h.cs.at' (kr + 2, #[.bool q.b, .slice q.a q.n q.c], 82) (.head _)
 refine ⟨⟨below_o h.cs.below (by omega) _ _ _ _, fun e he => ?_, fun r hr => ?_⟩, hg⟩
 ·
  simp only [List.mem_cons, List.not_mem_nil, or_false] at he
  rcases he with rfl | rfl | rfl | rfl | rfl
  ·
   exact hB.self _ _
  ·
   exact (h.cs.at' (kr + 1, #[.bool p.b, .slice p.a p.n p.c], 82) (.tail _ (.head _))).far (show kr + 1 ≠ kr + 2 by omega) _ _
  ·
   exact (h.cs.at' (kr, #[.bool n0.b, .slice n0.a n0.n n0.c, .bool n1.b, .slice n1.a n1.n n1.c, .bool n2.b, .slice n2.a n2.n n2.c, .bool n3.b, .slice n3.a n3.n n3.c], 82) (.tail _ (.tail _ (.head _)))).far (show kr ≠ kr + 2 by omega) _ _
  ·
   exact (h.cs.at' (w.heap.size + 3, #[.bool false, .slice none 0 0], 82) (.tail _ (.tail _ (.tail _ (.head _))))).far (show w.heap.size + 3 ≠ kr + 2 by omega) _ _
  ·
   exact (h.cs.at' (w.heap.size + 2, #[.bool false, .slice none 0 0], 82) (.tail _ (.tail _ (.tail _ (.tail _ (.head _)))))).far (show w.heap.size + 2 ≠ kr + 2 by omega) _ _
 ·
  simp only [List.mem_cons, List.not_mem_nil, or_false] at hr
  rcases hr with rfl | rfl | rfl | rfl | rfl | rfl
  ·
   exact NR.store2 (r := r) hx hB _ _
  ·
   exact NR.store2 (r := r) (h.cs.num r (.tail _ (.head _))) hB _ _
  ·
   exact NR.store2 (r := r) (h.cs.num r (.tail _ (.tail _ (.head _)))) hB _ _
  ·
   exact NR.store2 (r := r) (h.cs.num r (.tail _ (.tail _ (.tail _ (.head _))))) hB _ _
  ·
   exact NR.store2 (r := r) (h.cs.num r (.tail _ (.tail _ (.tail _ (.tail _ (.head _)))))) hB _ _
  ·
   exact NR.store2 (r := r) (h.cs.num r (.tail _ (.tail _ (.tail _ (.tail _ (.tail _ (.head _))))))) hB _ _
theorem cl8 {W : World} {b : Nat} {v0 v1 v2 v3 v4 v5 v6 v7 : Value} {T : TypeId} (h : Cl W (b, #[v0, v1, v2, v3, v4, v5, v6, v7], T)) : W.cell? ⟨b, 2, none⟩ = some v2 ∧ W.cell? ⟨b, 3, none⟩ = some v3 ∧ W.cell? ⟨b, 4, none⟩ = some v4 ∧ W.cell? ⟨b, 5, none⟩ = some v5 ∧ W.cell? ⟨b, 6, none⟩ = some v6 ∧ W.cell? ⟨b, 7, none⟩ = some v7 := by
 unfold Cl at h
 refine ⟨?_, ?_, ?_, ?_, ?_, ?_⟩ <;> simp [World.cell?, h]
theorem cmp_gt0' {x y : Int} (h : y < x) : decide (0 < cmpI x y) = true := by
 unfold cmpI
 rw [if_neg (by omega), if_pos (by omega)]
 rfl
theorem cmp_ngt0' {x y : Int} (h : x ≤ y) : decide (0 < cmpI x y) = false := by
 unfold cmpI
 split
 ·
  rfl
 ·
  rw [if_neg (by omega)]; rfl
/-- The least and the greatest of the first ones. -/
def lst (a b c d : Int) : Nat → Int
 | 1 => a
 | 2 => min a b
 | 3 => min (min a b) c
 | _ => min (min (min a b) c) d
def grt (a b c d : Int) : Nat → Int
 | 1 => a
 | 2 => max a b
 | 3 => max (max a b) c
 | _ => max (max (max a b) c) d
set_option maxRecDepth 100000 in
set_option maxHeartbeats 12800000 in
theorem four_any (x0 y0 : Sp) (w : World) (x1 : -2147483647 ≤ x0.lo) (x2 : x0.lo ≤ 2147483647) (x3 : -2147483647 ≤ x0.hi) (x4 : x0.hi ≤ 2147483647) (y1 : -2147483647 ≤ y0.lo) (y2 : y0.lo ≤ 2147483647) (y3 : -2147483647 ≤ y0.hi) (y4 : y0.hi ≤ 2147483647) :
  Calls Tryz.prog 75 #[.agg #[.int .i64 x0.lo, .int .i64 x0.hi, .bool x0.all], .agg #[.int .i64 y0.lo, .int .i64 y0.hi, .bool y0.all]] w (fun e w' => ∃ p q : NR, p.z = min4 x0 y0 ∧ q.z = max4 x0 y0 ∧ e = .returned (.tuple #[.agg #[.bool p.b, .slice p.a p.n p.c], .agg #[.bool q.b, .slice q.a q.n q.c]]) ∧ p.is w' ∧ q.is w' ∧ Below w.heap.size w w') := by
 have HOxlo : Hid (∀ W : World, Calls Tryz.prog 77 #[.int .i64 x0.lo] W (PN x0.lo W)) := show ∀ W : World, _ from fun W => nOf x0.lo (by omega) (by omega) W
 have HBxlo := Lib.hid (z20 (z := x0.lo) (by omega) (by omega))
 have HOxhi : Hid (∀ W : World, Calls Tryz.prog 77 #[.int .i64 x0.hi] W (PN x0.hi W)) := show ∀ W : World, _ from fun W => nOf x0.hi (by omega) (by omega) W
 have HBxhi := Lib.hid (z20 (z := x0.hi) (by omega) (by omega))
 have HOylo : Hid (∀ W : World, Calls Tryz.prog 77 #[.int .i64 y0.lo] W (PN y0.lo W)) := show ∀ W : World, _ from fun W => nOf y0.lo (by omega) (by omega) W
 have HBylo := Lib.hid (z20 (z := y0.lo) (by omega) (by omega))
 have HOyhi : Hid (∀ W : World, Calls Tryz.prog 77 #[.int .i64 y0.hi] W (PN y0.hi W)) := show ∀ W : World, _ from fun W => nOf y0.hi (by omega) (by omega) W
 have HByhi := Lib.hid (z20 (z := y0.hi) (by omega) (by omega))
 clear x1 x2 x3 x4 y1 y2 y3 y4
 have hC := (((((cs_nil w).new #[.int .i64 x0.lo, .int .i64 x0.hi, .bool x0.all] 29).new #[.int .i64 y0.lo, .int .i64 y0.hi, .bool y0.all] 29).new #[.bool false, .slice none 0 0] 82).new #[.bool false, .slice none 0 0] 82)
 have s1 : (w.alloc (.cells #[.int .i64 x0.lo, .int .i64 x0.hi, .bool x0.all] 29)).heap.size = w.heap.size + 1 := by simp
 have s2 : ((w.alloc (.cells #[.int .i64 x0.lo, .int .i64 x0.hi, .bool x0.all] 29)).alloc (.cells #[.int .i64 y0.lo, .int .i64 y0.hi, .bool y0.all] 29)).heap.size = w.heap.size + 2 := by simp
 have s3 : (((w.alloc (.cells #[.int .i64 x0.lo, .int .i64 x0.hi, .bool x0.all] 29)).alloc (.cells #[.int .i64 y0.lo, .int .i64 y0.hi, .bool y0.all] 29)).alloc (.cells #[.bool false, .slice none 0 0] 82)).heap.size = w.heap.size + 3 := by simp
 rw [s1, s2, s3] at hC
 clear s1 s2 s3
 go_enter Tryz.func75, Tryz.ntmps75
 go_wp2
 generalize (((w.alloc (.cells #[.int .i64 x0.lo, .int .i64 x0.hi, .bool x0.all] 29)).alloc (.cells #[.int .i64 y0.lo, .int .i64 y0.hi, .bool y0.all] 29)).alloc (.cells #[.bool false, .slice none 0 0] 82)).alloc (.cells #[.bool false, .slice none 0 0] 82) = w1 at *
 obtain ⟨m1, hm1⟩ : ∃ m, m = w1.heap.size := ⟨_, rfl⟩
 have hJ0 : ∀ u, Jy w m1 [(w.heap.size + 3, #[.bool false, .slice none 0 0], 82), (w.heap.size + 2, #[.bool false, .slice none 0 0], 82), (w.heap.size + 1, #[.int .i64 y0.lo, .int .i64 y0.hi, .bool y0.all], 29), (w.heap.size, #[.int .i64 x0.lo, .int .i64 x0.hi, .bool x0.all], 29)] [] 82 [] [] (fun _ => false) u w1.drew := fun u => by rw [hm1]; exact Jy.start (hC) u
 refine wp_region_y 28 [some 12, some 13, some 14, some 15, some 16, some 17, some 18, some 19, some 20, some 21, some 22, some 23, some 24, some 25, some 26, some 27, some 28, some 29, some 30, some 31, some 32, some 33, some 34, some 35, some 36, some 37, some 38, some 39] (vyL [.eq (.pointer (some ⟨w.heap.size, 0, none⟩)), .eq (.int .i64 x0.lo), .num (x0.lo), .eq (.pointer (some ⟨w.heap.size + 1, 0, none⟩)), .eq (.int .i64 y0.lo), .num (y0.lo), .num (x0.lo * y0.lo), .eq (.pointer (some ⟨w.heap.size, 0, none⟩)), .eq (.int .i64 x0.lo), .num (x0.lo), .eq (.pointer (some ⟨w.heap.size + 1, 1, none⟩)), .eq (.int .i64 y0.hi), .num (y0.hi), .num (x0.lo * y0.hi), .eq (.pointer (some ⟨w.heap.size, 1, none⟩)), .eq (.int .i64 x0.hi), .num (x0.hi), .eq (.pointer (some ⟨w.heap.size + 1, 0, none⟩)), .eq (.int .i64 y0.lo), .num (y0.lo), .num (x0.hi * y0.lo), .eq (.pointer (some ⟨w.heap.size, 1, none⟩)), .eq (.int .i64 x0.hi), .num (x0.hi), .eq (.pointer (some ⟨w.heap.size + 1, 1, none⟩)), .eq (.int .i64 y0.hi), .num (y0.hi), .num (x0.hi * y0.hi)]) (Jy w m1 [(w.heap.size + 3, #[.bool false, .slice none 0 0], 82), (w.heap.size + 2, #[.bool false, .slice none 0 0], 82), (w.heap.size + 1, #[.int .i64 y0.lo, .int .i64 y0.hi, .bool y0.all], 29), (w.heap.size, #[.int .i64 x0.lo, .int .i64 x0.hi, .bool x0.all], 29)] [] 82 [] []) (by kernel_rfl) (by kernel_rfl) (by rfl) (by decide) (by rfl) hJ0 ?_ ?_
 ·
  intro i hl hi L u W A hLi hJ hd hev hin
  obtain rfl | rfl | rfl | rfl | rfl | rfl | rfl | rfl | rfl | rfl | rfl | rfl | rfl | rfl | rfl | rfl | rfl | rfl | rfl | rfl | rfl | rfl | rfl | rfl | rfl | rfl | rfl | rfl : i = 0 ∨ i = 1 ∨ i = 2 ∨ i = 3 ∨ i = 4 ∨ i = 5 ∨ i = 6 ∨ i = 7 ∨ i = 8 ∨ i = 9 ∨ i = 10 ∨ i = 11 ∨ i = 12 ∨ i = 13 ∨ i = 14 ∨ i = 15 ∨ i = 16 ∨ i = 17 ∨ i = 18 ∨ i = 19 ∨ i = 20 ∨ i = 21 ∨ i = 22 ∨ i = 23 ∨ i = 24 ∨ i = 25 ∨ i = 26 ∨ i = 27 := by omega
  ·
   have x2 : A.tmps[2]? = some (.pointer (some ⟨w.heap.size, 0, none⟩)) := (hev 2 (by decide)).trans rfl
   clear hd hev hin
   simp only [zzA, zzB]
   clear hl
   refine .inr ⟨rfl, fun K' hK => ?_⟩
   have HK := Lib.hid hK
   clear hK
   go_simp
   exact HK.out (.pointer (some ⟨w.heap.size, 0, none⟩)) _ (hJ.grow hLi (by decide) (by decide) (Below.refl _ _)) (rfl) vyL_same
  ·
   have e0 : u 0 = .pointer (some ⟨w.heap.size, 0, none⟩) := (hd 0 (by decide) (by kernel_rfl)).2
   have x12 : A.tmps[12]? = some (.pointer (some ⟨w.heap.size, 0, none⟩)) := (hin 0 12 rfl).trans (congrArg some e0)
   clear hd hev hin
   simp only [zzA, zzB]
   clear hl
   refine .inr ⟨rfl, fun K' hK => ?_⟩
   have HK := Lib.hid hK
   clear hK
   have f0 := cl3 (hJ.cm.cs.at' (w.heap.size, #[.int .i64 x0.lo, .int .i64 x0.hi, .bool x0.all], 29) (.tail _ (.tail _ (.tail _ (.head _)))))
   have f5 := f0.1
   clear f0
   go_simp
   exact HK.out (.int .i64 x0.lo) _ (hJ.grow hLi (by decide) (by decide) (Below.refl _ _)) (rfl) vyL_same
  ·
   have e1 : u 1 = .int .i64 x0.lo := (hd 1 (by decide) (by kernel_rfl)).2
   have x13 : A.tmps[13]? = some (.int .i64 x0.lo) := (hin 1 13 rfl).trans (congrArg some e1)
   clear hd hev hin
   simp only [zzA, zzB]
   clear hl
   refine .inr ⟨rfl, fun K' hK => ?_⟩
   have HK := Lib.hid hK
   clear hK
   go_simp
   refine (HOxlo.out W).mono ?_
   rintro e W' ⟨y, hyz, rfl, hy, hB⟩
   exact HK.out (.agg #[.bool y.b, .slice y.a y.n y.c]) _ (hJ.grow hLi (by decide) (by decide) hB) (⟨y.b, y.a, y.n, y.c, rfl, by rw [← hyz]; exact hy⟩) (vyL_later hB)
  ·
   have x3 : A.tmps[3]? = some (.pointer (some ⟨w.heap.size + 1, 0, none⟩)) := (hev 3 (by decide)).trans rfl
   clear hd hev hin
   simp only [zzA, zzB]
   clear hl
   refine .inr ⟨rfl, fun K' hK => ?_⟩
   have HK := Lib.hid hK
   clear hK
   go_simp
   exact HK.out (.pointer (some ⟨w.heap.size + 1, 0, none⟩)) _ (hJ.grow hLi (by decide) (by decide) (Below.refl _ _)) (rfl) vyL_same
  ·
   have e3 : u 3 = .pointer (some ⟨w.heap.size + 1, 0, none⟩) := (hd 3 (by decide) (by kernel_rfl)).2
   have x15 : A.tmps[15]? = some (.pointer (some ⟨w.heap.size + 1, 0, none⟩)) := (hin 3 15 rfl).trans (congrArg some e3)
   clear hd hev hin
   simp only [zzA, zzB]
   clear hl
   refine .inr ⟨rfl, fun K' hK => ?_⟩
   have HK := Lib.hid hK
   clear hK
   have f0 := cl3 (hJ.cm.cs.at' (w.heap.size + 1, #[.int .i64 y0.lo, .int .i64 y0.hi, .bool y0.all], 29) (.tail _ (.tail _ (.head _))))
   have f5 := f0.1
   clear f0
   go_simp
   exact HK.out (.int .i64 y0.lo) _ (hJ.grow hLi (by decide) (by decide) (Below.refl _ _)) (rfl) vyL_same
  ·
   have e4 : u 4 = .int .i64 y0.lo := (hd 4 (by decide) (by kernel_rfl)).2
   have x16 : A.tmps[16]? = some (.int .i64 y0.lo) := (hin 4 16 rfl).trans (congrArg some e4)
   clear hd hev hin
   simp only [zzA, zzB]
   clear hl
   refine .inr ⟨rfl, fun K' hK => ?_⟩
   have HK := Lib.hid hK
   clear hK
   go_simp
   refine (HOylo.out W).mono ?_
   rintro e W' ⟨y, hyz, rfl, hy, hB⟩
   exact HK.out (.agg #[.bool y.b, .slice y.a y.n y.c]) _ (hJ.grow hLi (by decide) (by decide) hB) (⟨y.b, y.a, y.n, y.c, rfl, by rw [← hyz]; exact hy⟩) (vyL_later hB)
  ·
   obtain ⟨b2, a2, n2, c2, e2, g2⟩ := (show VR (x0.lo) (u 2) W from (hd 2 (by decide) (by kernel_rfl)).2)
   have x14 : A.tmps[14]? = some (.agg #[.bool b2, .slice a2 n2 c2]) := (hin 2 14 rfl).trans (congrArg some e2)
   obtain ⟨b5, a5, n5, c5, e5, g5⟩ := (show VR (y0.lo) (u 5) W from (hd 5 (by decide) (by kernel_rfl)).2)
   have x17 : A.tmps[17]? = some (.agg #[.bool b5, .slice a5 n5 c5]) := (hin 5 17 rfl).trans (congrArg some e5)
   clear hd hev hin
   simp only [zzA, zzB]
   clear hl
   refine .inr ⟨rfl, fun K' hK => ?_⟩
   have HK := Lib.hid hK
   clear hK
   go_simp
   refine (show Calls Tryz.prog 87 _ W (PN (x0.lo * y0.lo) W) from nMul ⟨b2, a2, n2, c2, x0.lo⟩ ⟨b5, a5, n5, c5, y0.lo⟩ W g2 g5 (Nat.le_trans (NR.len (p := ⟨b2, a2, n2, c2, x0.lo⟩) g2 HBxlo.out) (by decide)) (Nat.le_trans (NR.len (p := ⟨b5, a5, n5, c5, y0.lo⟩) g5 HBylo.out) (by decide))).mono ?_
   rintro e W' ⟨y, hyz, rfl, hy, hB⟩
   exact HK.out (.agg #[.bool y.b, .slice y.a y.n y.c]) _ (hJ.grow hLi (by decide) (by decide) hB) (⟨y.b, y.a, y.n, y.c, rfl, by rw [← hyz]; exact hy⟩) (vyL_later hB)
  ·
   have x2 : A.tmps[2]? = some (.pointer (some ⟨w.heap.size, 0, none⟩)) := (hev 2 (by decide)).trans rfl
   clear hd hev hin
   simp only [zzA, zzB]
   clear hl
   refine .inr ⟨rfl, fun K' hK => ?_⟩
   have HK := Lib.hid hK
   clear hK
   go_simp
   exact HK.out (.pointer (some ⟨w.heap.size, 0, none⟩)) _ (hJ.grow hLi (by decide) (by decide) (Below.refl _ _)) (rfl) vyL_same
  ·
   have e7 : u 7 = .pointer (some ⟨w.heap.size, 0, none⟩) := (hd 7 (by decide) (by kernel_rfl)).2
   have x19 : A.tmps[19]? = some (.pointer (some ⟨w.heap.size, 0, none⟩)) := (hin 7 19 rfl).trans (congrArg some e7)
   clear hd hev hin
   simp only [zzA, zzB]
   clear hl
   refine .inr ⟨rfl, fun K' hK => ?_⟩
   have HK := Lib.hid hK
   clear hK
   have f0 := cl3 (hJ.cm.cs.at' (w.heap.size, #[.int .i64 x0.lo, .int .i64 x0.hi, .bool x0.all], 29) (.tail _ (.tail _ (.tail _ (.head _)))))
   have f5 := f0.1
   clear f0
   go_simp
   exact HK.out (.int .i64 x0.lo) _ (hJ.grow hLi (by decide) (by decide) (Below.refl _ _)) (rfl) vyL_same
  ·
   have e8 : u 8 = .int .i64 x0.lo := (hd 8 (by decide) (by kernel_rfl)).2
   have x20 : A.tmps[20]? = some (.int .i64 x0.lo) := (hin 8 20 rfl).trans (congrArg some e8)
   clear hd hev hin
   simp only [zzA, zzB]
   clear hl
   refine .inr ⟨rfl, fun K' hK => ?_⟩
   have HK := Lib.hid hK
   clear hK
   go_simp
   refine (HOxlo.out W).mono ?_
   rintro e W' ⟨y, hyz, rfl, hy, hB⟩
   exact HK.out (.agg #[.bool y.b, .slice y.a y.n y.c]) _ (hJ.grow hLi (by decide) (by decide) hB) (⟨y.b, y.a, y.n, y.c, rfl, by rw [← hyz]; exact hy⟩) (vyL_later hB)
  ·
   have x3 : A.tmps[3]? = some (.pointer (some ⟨w.heap.size + 1, 0, none⟩)) := (hev 3 (by decide)).trans rfl
   clear hd hev hin
   simp only [zzA, zzB]
   clear hl
   refine .inr ⟨rfl, fun K' hK => ?_⟩
   have HK := Lib.hid hK
   clear hK
   go_simp
   exact HK.out (.pointer (some ⟨w.heap.size + 1, 1, none⟩)) _ (hJ.grow hLi (by decide) (by decide) (Below.refl _ _)) (rfl) vyL_same
  ·
   have e10 : u 10 = .pointer (some ⟨w.heap.size + 1, 1, none⟩) := (hd 10 (by decide) (by kernel_rfl)).2
   have x22 : A.tmps[22]? = some (.pointer (some ⟨w.heap.size + 1, 1, none⟩)) := (hin 10 22 rfl).trans (congrArg some e10)
   clear hd hev hin
   simp only [zzA, zzB]
   clear hl
   refine .inr ⟨rfl, fun K' hK => ?_⟩
   have HK := Lib.hid hK
   clear hK
   have f0 := cl3 (hJ.cm.cs.at' (w.heap.size + 1, #[.int .i64 y0.lo, .int .i64 y0.hi, .bool y0.all], 29) (.tail _ (.tail _ (.head _))))
   have f5 := f0.2.1
   clear f0
   go_simp
   exact HK.out (.int .i64 y0.hi) _ (hJ.grow hLi (by decide) (by decide) (Below.refl _ _)) (rfl) vyL_same
  ·
   have e11 : u 11 = .int .i64 y0.hi := (hd 11 (by decide) (by kernel_rfl)).2
   have x23 : A.tmps[23]? = some (.int .i64 y0.hi) := (hin 11 23 rfl).trans (congrArg some e11)
   clear hd hev hin
   simp only [zzA, zzB]
   clear hl
   refine .inr ⟨rfl, fun K' hK => ?_⟩
   have HK := Lib.hid hK
   clear hK
   go_simp
   refine (HOyhi.out W).mono ?_
   rintro e W' ⟨y, hyz, rfl, hy, hB⟩
   exact HK.out (.agg #[.bool y.b, .slice y.a y.n y.c]) _ (hJ.grow hLi (by decide) (by decide) hB) (⟨y.b, y.a, y.n, y.c, rfl, by rw [← hyz]; exact hy⟩) (vyL_later hB)
  ·
   obtain ⟨b9, a9, n9, c9, e9, g9⟩ := (show VR (x0.lo) (u 9) W from (hd 9 (by decide) (by kernel_rfl)).2)
   have x21 : A.tmps[21]? = some (.agg #[.bool b9, .slice a9 n9 c9]) := (hin 9 21 rfl).trans (congrArg some e9)
   obtain ⟨b12, a12, n12, c12, e12, g12⟩ := (show VR (y0.hi) (u 12) W from (hd 12 (by decide) (by kernel_rfl)).2)
   have x24 : A.tmps[24]? = some (.agg #[.bool b12, .slice a12 n12 c12]) := (hin 12 24 rfl).trans (congrArg some e12)
   clear hd hev hin
   simp only [zzA, zzB]
   clear hl
   refine .inr ⟨rfl, fun K' hK => ?_⟩
   have HK := Lib.hid hK
   clear hK
   go_simp
   refine (show Calls Tryz.prog 87 _ W (PN (x0.lo * y0.hi) W) from nMul ⟨b9, a9, n9, c9, x0.lo⟩ ⟨b12, a12, n12, c12, y0.hi⟩ W g9 g12 (Nat.le_trans (NR.len (p := ⟨b9, a9, n9, c9, x0.lo⟩) g9 HBxlo.out) (by decide)) (Nat.le_trans (NR.len (p := ⟨b12, a12, n12, c12, y0.hi⟩) g12 HByhi.out) (by decide))).mono ?_
   rintro e W' ⟨y, hyz, rfl, hy, hB⟩
   exact HK.out (.agg #[.bool y.b, .slice y.a y.n y.c]) _ (hJ.grow hLi (by decide) (by decide) hB) (⟨y.b, y.a, y.n, y.c, rfl, by rw [← hyz]; exact hy⟩) (vyL_later hB)
  ·
   have x2 : A.tmps[2]? = some (.pointer (some ⟨w.heap.size, 0, none⟩)) := (hev 2 (by decide)).trans rfl
   clear hd hev hin
   simp only [zzA, zzB]
   clear hl
   refine .inr ⟨rfl, fun K' hK => ?_⟩
   have HK := Lib.hid hK
   clear hK
   go_simp
   exact HK.out (.pointer (some ⟨w.heap.size, 1, none⟩)) _ (hJ.grow hLi (by decide) (by decide) (Below.refl _ _)) (rfl) vyL_same
  ·
   have e14 : u 14 = .pointer (some ⟨w.heap.size, 1, none⟩) := (hd 14 (by decide) (by kernel_rfl)).2
   have x26 : A.tmps[26]? = some (.pointer (some ⟨w.heap.size, 1, none⟩)) := (hin 14 26 rfl).trans (congrArg some e14)
   clear hd hev hin
   simp only [zzA, zzB]
   clear hl
   refine .inr ⟨rfl, fun K' hK => ?_⟩
   have HK := Lib.hid hK
   clear hK
   have f0 := cl3 (hJ.cm.cs.at' (w.heap.size, #[.int .i64 x0.lo, .int .i64 x0.hi, .bool x0.all], 29) (.tail _ (.tail _ (.tail _ (.head _)))))
   have f5 := f0.2.1
   clear f0
   go_simp
   exact HK.out (.int .i64 x0.hi) _ (hJ.grow hLi (by decide) (by decide) (Below.refl _ _)) (rfl) vyL_same
  ·
   have e15 : u 15 = .int .i64 x0.hi := (hd 15 (by decide) (by kernel_rfl)).2
   have x27 : A.tmps[27]? = some (.int .i64 x0.hi) := (hin 15 27 rfl).trans (congrArg some e15)
   clear hd hev hin
   simp only [zzA, zzB]
   clear hl
   refine .inr ⟨rfl, fun K' hK => ?_⟩
   have HK := Lib.hid hK
   clear hK
   go_simp
   refine (HOxhi.out W).mono ?_
   rintro e W' ⟨y, hyz, rfl, hy, hB⟩
   exact HK.out (.agg #[.bool y.b, .slice y.a y.n y.c]) _ (hJ.grow hLi (by decide) (by decide) hB) (⟨y.b, y.a, y.n, y.c, rfl, by rw [← hyz]; exact hy⟩) (vyL_later hB)
  ·
   have x3 : A.tmps[3]? = some (.pointer (some ⟨w.heap.size + 1, 0, none⟩)) := (hev 3 (by decide)).trans rfl
   clear hd hev hin
   simp only [zzA, zzB]
   clear hl
   refine .inr ⟨rfl, fun K' hK => ?_⟩
   have HK := Lib.hid hK
   clear hK
   go_simp
   exact HK.out (.pointer (some ⟨w.heap.size + 1, 0, none⟩)) _ (hJ.grow hLi (by decide) (by decide) (Below.refl _ _)) (rfl) vyL_same
  ·
   have e17 : u 17 = .pointer (some ⟨w.heap.size + 1, 0, none⟩) := (hd 17 (by decide) (by kernel_rfl)).2
   have x29 : A.tmps[29]? = some (.pointer (some ⟨w.heap.size + 1, 0, none⟩)) := (hin 17 29 rfl).trans (congrArg some e17)
   clear hd hev hin
   simp only [zzA, zzB]
   clear hl
   refine .inr ⟨rfl, fun K' hK => ?_⟩
   have HK := Lib.hid hK
   clear hK
   have f0 := cl3 (hJ.cm.cs.at' (w.heap.size + 1, #[.int .i64 y0.lo, .int .i64 y0.hi, .bool y0.all], 29) (.tail _ (.tail _ (.head _))))
   have f5 := f0.1
   clear f0
   go_simp
   exact HK.out (.int .i64 y0.lo) _ (hJ.grow hLi (by decide) (by decide) (Below.refl _ _)) (rfl) vyL_same
  ·
   have e18 : u 18 = .int .i64 y0.lo := (hd 18 (by decide) (by kernel_rfl)).2
   have x30 : A.tmps[30]? = some (.int .i64 y0.lo) := (hin 18 30 rfl).trans (congrArg some e18)
   clear hd hev hin
   simp only [zzA, zzB]
   clear hl
   refine .inr ⟨rfl, fun K' hK => ?_⟩
   have HK := Lib.hid hK
   clear hK
   go_simp
   refine (HOylo.out W).mono ?_
   rintro e W' ⟨y, hyz, rfl, hy, hB⟩
   exact HK.out (.agg #[.bool y.b, .slice y.a y.n y.c]) _ (hJ.grow hLi (by decide) (by decide) hB) (⟨y.b, y.a, y.n, y.c, rfl, by rw [← hyz]; exact hy⟩) (vyL_later hB)
  ·
   obtain ⟨b16, a16, n16, c16, e16, g16⟩ := (show VR (x0.hi) (u 16) W from (hd 16 (by decide) (by kernel_rfl)).2)
   have x28 : A.tmps[28]? = some (.agg #[.bool b16, .slice a16 n16 c16]) := (hin 16 28 rfl).trans (congrArg some e16)
   obtain ⟨b19, a19, n19, c19, e19, g19⟩ := (show VR (y0.lo) (u 19) W from (hd 19 (by decide) (by kernel_rfl)).2)
   have x31 : A.tmps[31]? = some (.agg #[.bool b19, .slice a19 n19 c19]) := (hin 19 31 rfl).trans (congrArg some e19)
   clear hd hev hin
   simp only [zzA, zzB]
   clear hl
   refine .inr ⟨rfl, fun K' hK => ?_⟩
   have HK := Lib.hid hK
   clear hK
   go_simp
   refine (show Calls Tryz.prog 87 _ W (PN (x0.hi * y0.lo) W) from nMul ⟨b16, a16, n16, c16, x0.hi⟩ ⟨b19, a19, n19, c19, y0.lo⟩ W g16 g19 (Nat.le_trans (NR.len (p := ⟨b16, a16, n16, c16, x0.hi⟩) g16 HBxhi.out) (by decide)) (Nat.le_trans (NR.len (p := ⟨b19, a19, n19, c19, y0.lo⟩) g19 HBylo.out) (by decide))).mono ?_
   rintro e W' ⟨y, hyz, rfl, hy, hB⟩
   exact HK.out (.agg #[.bool y.b, .slice y.a y.n y.c]) _ (hJ.grow hLi (by decide) (by decide) hB) (⟨y.b, y.a, y.n, y.c, rfl, by rw [← hyz]; exact hy⟩) (vyL_later hB)
  ·
   have x2 : A.tmps[2]? = some (.pointer (some ⟨w.heap.size, 0, none⟩)) := (hev 2 (by decide)).trans rfl
   clear hd hev hin
   simp only [zzA, zzB]
   clear hl
   refine .inr ⟨rfl, fun K' hK => ?_⟩
   have HK := Lib.hid hK
   clear hK
   go_simp
   exact HK.out (.pointer (some ⟨w.heap.size, 1, none⟩)) _ (hJ.grow hLi (by decide) (by decide) (Below.refl _ _)) (rfl) vyL_same
  ·
   have e21 : u 21 = .pointer (some ⟨w.heap.size, 1, none⟩) := (hd 21 (by decide) (by kernel_rfl)).2
   have x33 : A.tmps[33]? = some (.pointer (some ⟨w.heap.size, 1, none⟩)) := (hin 21 33 rfl).trans (congrArg some e21)
   clear hd hev hin
   simp only [zzA, zzB]
   clear hl
   refine .inr ⟨rfl, fun K' hK => ?_⟩
   have HK := Lib.hid hK
   clear hK
   have f0 := cl3 (hJ.cm.cs.at' (w.heap.size, #[.int .i64 x0.lo, .int .i64 x0.hi, .bool x0.all], 29) (.tail _ (.tail _ (.tail _ (.head _)))))
   have f5 := f0.2.1
   clear f0
   go_simp
   exact HK.out (.int .i64 x0.hi) _ (hJ.grow hLi (by decide) (by decide) (Below.refl _ _)) (rfl) vyL_same
  ·
   have e22 : u 22 = .int .i64 x0.hi := (hd 22 (by decide) (by kernel_rfl)).2
   have x34 : A.tmps[34]? = some (.int .i64 x0.hi) := (hin 22 34 rfl).trans (congrArg some e22)
   clear hd hev hin
   simp only [zzA, zzB]
   clear hl
   refine .inr ⟨rfl, fun K' hK => ?_⟩
   have HK := Lib.hid hK
   clear hK
   go_simp
   refine (HOxhi.out W).mono ?_
   rintro e W' ⟨y, hyz, rfl, hy, hB⟩
   exact HK.out (.agg #[.bool y.b, .slice y.a y.n y.c]) _ (hJ.grow hLi (by decide) (by decide) hB) (⟨y.b, y.a, y.n, y.c, rfl, by rw [← hyz]; exact hy⟩) (vyL_later hB)
  ·
   have x3 : A.tmps[3]? = some (.pointer (some ⟨w.heap.size + 1, 0, none⟩)) := (hev 3 (by decide)).trans rfl
   clear hd hev hin
   simp only [zzA, zzB]
   clear hl
   refine .inr ⟨rfl, fun K' hK => ?_⟩
   have HK := Lib.hid hK
   clear hK
   go_simp
   exact HK.out (.pointer (some ⟨w.heap.size + 1, 1, none⟩)) _ (hJ.grow hLi (by decide) (by decide) (Below.refl _ _)) (rfl) vyL_same
  ·
   have e24 : u 24 = .pointer (some ⟨w.heap.size + 1, 1, none⟩) := (hd 24 (by decide) (by kernel_rfl)).2
   have x36 : A.tmps[36]? = some (.pointer (some ⟨w.heap.size + 1, 1, none⟩)) := (hin 24 36 rfl).trans (congrArg some e24)
   clear hd hev hin
   simp only [zzA, zzB]
   clear hl
   refine .inr ⟨rfl, fun K' hK => ?_⟩
   have HK := Lib.hid hK
   clear hK
   have f0 := cl3 (hJ.cm.cs.at' (w.heap.size + 1, #[.int .i64 y0.lo, .int .i64 y0.hi, .bool y0.all], 29) (.tail _ (.tail _ (.head _))))
   have f5 := f0.2.1
   clear f0
   go_simp
   exact HK.out (.int .i64 y0.hi) _ (hJ.grow hLi (by decide) (by decide) (Below.refl _ _)) (rfl) vyL_same
  ·
   have e25 : u 25 = .int .i64 y0.hi := (hd 25 (by decide) (by kernel_rfl)).2
   have x37 : A.tmps[37]? = some (.int .i64 y0.hi) := (hin 25 37 rfl).trans (congrArg some e25)
   clear hd hev hin
   simp only [zzA, zzB]
   clear hl
   refine .inr ⟨rfl, fun K' hK => ?_⟩
   have HK := Lib.hid hK
   clear hK
   go_simp
   refine (HOyhi.out W).mono ?_
   rintro e W' ⟨y, hyz, rfl, hy, hB⟩
   exact HK.out (.agg #[.bool y.b, .slice y.a y.n y.c]) _ (hJ.grow hLi (by decide) (by decide) hB) (⟨y.b, y.a, y.n, y.c, rfl, by rw [← hyz]; exact hy⟩) (vyL_later hB)
  ·
   obtain ⟨b23, a23, n23, c23, e23, g23⟩ := (show VR (x0.hi) (u 23) W from (hd 23 (by decide) (by kernel_rfl)).2)
   have x35 : A.tmps[35]? = some (.agg #[.bool b23, .slice a23 n23 c23]) := (hin 23 35 rfl).trans (congrArg some e23)
   obtain ⟨b26, a26, n26, c26, e26, g26⟩ := (show VR (y0.hi) (u 26) W from (hd 26 (by decide) (by kernel_rfl)).2)
   have x38 : A.tmps[38]? = some (.agg #[.bool b26, .slice a26 n26 c26]) := (hin 26 38 rfl).trans (congrArg some e26)
   clear hd hev hin
   simp only [zzA, zzB]
   clear hl
   refine .inr ⟨rfl, fun K' hK => ?_⟩
   have HK := Lib.hid hK
   clear hK
   go_simp
   refine (show Calls Tryz.prog 87 _ W (PN (x0.hi * y0.hi) W) from nMul ⟨b23, a23, n23, c23, x0.hi⟩ ⟨b26, a26, n26, c26, y0.hi⟩ W g23 g26 (Nat.le_trans (NR.len (p := ⟨b23, a23, n23, c23, x0.hi⟩) g23 HBxhi.out) (by decide)) (Nat.le_trans (NR.len (p := ⟨b26, a26, n26, c26, y0.hi⟩) g26 HByhi.out) (by decide))).mono ?_
   rintro e W' ⟨y, hyz, rfl, hy, hB⟩
   exact HK.out (.agg #[.bool y.b, .slice y.a y.n y.c]) _ (hJ.grow hLi (by decide) (by decide) hB) (⟨y.b, y.a, y.n, y.c, rfl, by rw [← hyz]; exact hy⟩) (vyL_later hB)
 intro L u W hL hJ hd
 have e0 : u 0 = .pointer (some ⟨w.heap.size, 0, none⟩) := hd 0 (by decide)
 have e1 : u 1 = .int .i64 x0.lo := hd 1 (by decide)
 obtain ⟨b2, a2, n2, c2, e2, g2⟩ := (show VR (x0.lo) (u 2) W from hd 2 (by decide))
 have e3 : u 3 = .pointer (some ⟨w.heap.size + 1, 0, none⟩) := hd 3 (by decide)
 have e4 : u 4 = .int .i64 y0.lo := hd 4 (by decide)
 obtain ⟨b5, a5, n5, c5, e5, g5⟩ := (show VR (y0.lo) (u 5) W from hd 5 (by decide))
 obtain ⟨b6, a6, n6, c6, e6, g6⟩ := (show VR (x0.lo * y0.lo) (u 6) W from hd 6 (by decide))
 have e7 : u 7 = .pointer (some ⟨w.heap.size, 0, none⟩) := hd 7 (by decide)
 have e8 : u 8 = .int .i64 x0.lo := hd 8 (by decide)
 obtain ⟨b9, a9, n9, c9, e9, g9⟩ := (show VR (x0.lo) (u 9) W from hd 9 (by decide))
 have e10 : u 10 = .pointer (some ⟨w.heap.size + 1, 1, none⟩) := hd 10 (by decide)
 have e11 : u 11 = .int .i64 y0.hi := hd 11 (by decide)
 obtain ⟨b12, a12, n12, c12, e12, g12⟩ := (show VR (y0.hi) (u 12) W from hd 12 (by decide))
 obtain ⟨b13, a13, n13, c13, e13, g13⟩ := (show VR (x0.lo * y0.hi) (u 13) W from hd 13 (by decide))
 have e14 : u 14 = .pointer (some ⟨w.heap.size, 1, none⟩) := hd 14 (by decide)
 have e15 : u 15 = .int .i64 x0.hi := hd 15 (by decide)
 obtain ⟨b16, a16, n16, c16, e16, g16⟩ := (show VR (x0.hi) (u 16) W from hd 16 (by decide))
 have e17 : u 17 = .pointer (some ⟨w.heap.size + 1, 0, none⟩) := hd 17 (by decide)
 have e18 : u 18 = .int .i64 y0.lo := hd 18 (by decide)
 obtain ⟨b19, a19, n19, c19, e19, g19⟩ := (show VR (y0.lo) (u 19) W from hd 19 (by decide))
 obtain ⟨b20, a20, n20, c20, e20, g20⟩ := (show VR (x0.hi * y0.lo) (u 20) W from hd 20 (by decide))
 have e21 : u 21 = .pointer (some ⟨w.heap.size, 1, none⟩) := hd 21 (by decide)
 have e22 : u 22 = .int .i64 x0.hi := hd 22 (by decide)
 obtain ⟨b23, a23, n23, c23, e23, g23⟩ := (show VR (x0.hi) (u 23) W from hd 23 (by decide))
 have e24 : u 24 = .pointer (some ⟨w.heap.size + 1, 1, none⟩) := hd 24 (by decide)
 have e25 : u 25 = .int .i64 y0.hi := hd 25 (by decide)
 obtain ⟨b26, a26, n26, c26, e26, g26⟩ := (show VR (y0.hi) (u 26) W from hd 26 (by decide))
 obtain ⟨b27, a27, n27, c27, e27, g27⟩ := (show VR (x0.hi * y0.hi) (u 27) W from hd 27 (by decide))
 simp only [layS, Act.put, zzC, zzD, zzE, Nat.zero_add, Nat.reduceAdd, List.drop_succ_cons, List.drop_zero, List.drop_nil, e0, e1, e2, e3, e4, e5, e6, e7, e8, e9, e10, e11, e12, e13, e14, e15, e16, e17, e18, e19, e20, e21, e22, e23, e24, e25, e26, e27]
 clear e0 e1 e2 e3 e4 e5 e6 e7 e8 e9 e10 e11 e12 e13 e14 e15 e16 e17 e18 e19 e20 e21 e22 e23 e24 e25 e26 e27
 have hC2 := hJ.cm.cs
 clear hJ hL hJ0 hd hC g2 g5 g9 g12 g16 g19 g23 g26
 obtain ⟨n0, hn0⟩ : ∃ p : NR, p = ⟨b6, a6, n6, c6, x0.lo * y0.lo⟩ := ⟨_, rfl⟩
 obtain ⟨n1, hn1⟩ : ∃ p : NR, p = ⟨b13, a13, n13, c13, x0.lo * y0.hi⟩ := ⟨_, rfl⟩
 obtain ⟨n2, hn2⟩ : ∃ p : NR, p = ⟨b20, a20, n20, c20, x0.hi * y0.lo⟩ := ⟨_, rfl⟩
 obtain ⟨n3, hn3⟩ : ∃ p : NR, p = ⟨b27, a27, n27, c27, x0.hi * y0.hi⟩ := ⟨_, rfl⟩
 have k0 : n0.is W := by rw [hn0]; exact g6
 have HZ0 : Hid (n0.z = x0.lo * y0.lo) := show n0.z = _ by rw [hn0]
 rw [show b6 = n0.b by rw [hn0], show a6 = n0.a by rw [hn0], show n6 = n0.n by rw [hn0], show c6 = n0.c by rw [hn0]]
 have k1 : n1.is W := by rw [hn1]; exact g13
 have HZ1 : Hid (n1.z = x0.lo * y0.hi) := show n1.z = _ by rw [hn1]
 rw [show b13 = n1.b by rw [hn1], show a13 = n1.a by rw [hn1], show n13 = n1.n by rw [hn1], show c13 = n1.c by rw [hn1]]
 have k2 : n2.is W := by rw [hn2]; exact g20
 have HZ2 : Hid (n2.z = x0.hi * y0.lo) := show n2.z = _ by rw [hn2]
 rw [show b20 = n2.b by rw [hn2], show a20 = n2.a by rw [hn2], show n20 = n2.n by rw [hn2], show c20 = n2.c by rw [hn2]]
 have k3 : n3.is W := by rw [hn3]; exact g27
 have HZ3 : Hid (n3.z = x0.hi * y0.hi) := show n3.z = _ by rw [hn3]
 rw [show b27 = n3.b by rw [hn3], show a27 = n3.a by rw [hn3], show n27 = n3.n by rw [hn3], show c27 = n3.c by rw [hn3]]
 clear g6 g13 g20 g27 hn0 hn1 hn2 hn3
 have hge : w.heap.size + 3 < W.heap.size := hC2.lt _ (.head _)
 have hF : FJ w (((W.alloc (.cells #[.bool n0.b, .slice n0.a n0.n n0.c, .bool n1.b, .slice n1.a n1.n n1.c, .bool n2.b, .slice n2.a n2.n n2.c, .bool n3.b, .slice n3.a n3.n n3.c] 82)).alloc (.cells #[.bool n0.b, .slice n0.a n0.n n0.c] 82)).alloc (.cells #[.bool n0.b, .slice n0.a n0.n n0.c] 82)) W.heap.size n0 n1 n2 n3 n0 n0 := by
  have h := (((((((hC2.more k3).more k2).more k1).more k0).more k0).more k0).new #[.bool n0.b, .slice n0.a n0.n n0.c, .bool n1.b, .slice n1.a n1.n n1.c, .bool n2.b, .slice n2.a n2.n n2.c, .bool n3.b, .slice n3.a n3.n n3.c] 82)
  have h' := (h.new #[.bool n0.b, .slice n0.a n0.n n0.c] 82).new #[.bool n0.b, .slice n0.a n0.n n0.c] 82
  rw [show ((W.alloc (.cells #[.bool n0.b, .slice n0.a n0.n n0.c, .bool n1.b, .slice n1.a n1.n n1.c, .bool n2.b, .slice n2.a n2.n n2.c, .bool n3.b, .slice n3.a n3.n n3.c] 82)).alloc (.cells #[.bool n0.b, .slice n0.a n0.n n0.c] 82)).heap.size = W.heap.size + 2 by simp, show (W.alloc (.cells #[.bool n0.b, .slice n0.a n0.n n0.c, .bool n1.b, .slice n1.a n1.n n1.c, .bool n2.b, .slice n2.a n2.n n2.c, .bool n3.b, .slice n3.a n3.n n3.c] 82)).heap.size = W.heap.size + 1 by simp] at h'
  exact ⟨⟨h'.below, fun e he => h'.at' e (by simp only [List.mem_cons, List.not_mem_nil, or_false] at he ⊢; rcases he with rfl | rfl | rfl | rfl | rfl <;> simp), fun r hr => h'.num r (by simp only [List.mem_cons, List.not_mem_nil, or_false] at hr ⊢; rcases hr with rfl | rfl | rfl | rfl | rfl | rfl <;> simp)⟩, hge⟩
 clear hC2 k0 k1 k2 k3 hge
 go_wp2
 generalize ((W.alloc (.cells #[.bool n0.b, .slice n0.a n0.n n0.c, .bool n1.b, .slice n1.a n1.n n1.c, .bool n2.b, .slice n2.a n2.n n2.c, .bool n3.b, .slice n3.a n3.n n3.c] 82)).alloc (.cells #[.bool n0.b, .slice n0.a n0.n n0.c] 82)).alloc (.cells #[.bool n0.b, .slice n0.a n0.n n0.c] 82) = w5 at *
 generalize W.heap.size = kr at *
 go_loopw [9] (fun iv wr => ∃ i : Nat, 1 ≤ i ∧ i ≤ 4 ∧ iv = .int .i64 i ∧ ∃ p q : NR, FJ w wr kr n0 n1 n2 n3 p q ∧ p.z = lst n0.z n1.z n2.z n3.z i ∧ q.z = grt n0.z n1.z n2.z n3.z i) (fun iv _ => 4 - (intOf iv).toNat)
 case atStart => exact ⟨1, by omega, by omega, rfl, n0, n0, hF, rfl, rfl⟩
 case round =>
  clear hF w5
  obtain ⟨i, hi1, hi2, rfl, p, q, hF, zp, zq⟩ := hrel
  by_cases hlt : i < 4
  ·
   obtain rfl | rfl | rfl : i = 1 ∨ i = 2 ∨ i = 3 := by omega
   ·
    have ZP : Hid (p.z = n0.z) := show p.z = _ from zp
    have ZQ : Hid (q.z = n0.z) := show q.z = _ from zq
    clear zp zq
    go_wp2
    obtain ⟨m7, hm7⟩ : ∃ m, m = wr.heap.size := ⟨_, rfl⟩
    have hJ0 : ∀ u, Jy w m7 [(kr + 2, #[.bool q.b, .slice q.a q.n q.c], 82), (kr + 1, #[.bool p.b, .slice p.a p.n p.c], 82), (kr, #[.bool n0.b, .slice n0.a n0.n n0.c, .bool n1.b, .slice n1.a n1.n n1.c, .bool n2.b, .slice n2.a n2.n n2.c, .bool n3.b, .slice n3.a n3.n n3.c], 82), (w.heap.size + 3, #[.bool false, .slice none 0 0], 82), (w.heap.size + 2, #[.bool false, .slice none 0 0], 82)] [q, p, n0, n1, n2, n3] 82 [] [] (fun _ => false) u wr.drew := fun u => by rw [hm7]; exact Jy.start (hF.cs) u
    refine wp_region_y 7 [some 51, some 52, some 53, some 54, some 55, some 56, some 10] (vyL [.eq (.slice (some ⟨kr, 0, none⟩) 4 4), .eq (.int .i64 1), .eq (.pointer (some ⟨kr, 2, none⟩)), .eq (.agg #[.bool n1.b, .slice n1.a n1.n n1.c]), .eq (.agg #[.bool p.b, .slice p.a p.n p.c]), .eq (.int .i64 (cmpI n1.z p.z)), .eq (.int .i64 (cmpI n1.z p.z))]) (Jy w m7 [(kr + 2, #[.bool q.b, .slice q.a q.n q.c], 82), (kr + 1, #[.bool p.b, .slice p.a p.n p.c], 82), (kr, #[.bool n0.b, .slice n0.a n0.n n0.c, .bool n1.b, .slice n1.a n1.n n1.c, .bool n2.b, .slice n2.a n2.n n2.c, .bool n3.b, .slice n3.a n3.n n3.c], 82), (w.heap.size + 3, #[.bool false, .slice none 0 0], 82), (w.heap.size + 2, #[.bool false, .slice none 0 0], 82)] [q, p, n0, n1, n2, n3] 82 [] []) (by kernel_rfl) (by kernel_rfl) (by rfl) (by decide) (by rfl) hJ0 ?_ ?_
    ·
     intro i hl hi L u W A hLi hJ hd hev hin
     obtain rfl | rfl | rfl | rfl | rfl | rfl | rfl : i = 0 ∨ i = 1 ∨ i = 2 ∨ i = 3 ∨ i = 4 ∨ i = 5 ∨ i = 6 := by omega
     ·
      have x6 : A.tmps[6]? = some (.slice (some ⟨kr, 0, none⟩) 4 4) := (hev 6 (by decide)).trans rfl
      clear hd hev hin
      simp only [zzA, zzB]
      clear hl
      refine .inr ⟨rfl, fun K' hK => ?_⟩
      have HK := Lib.hid hK
      clear hK
      go_simp
      exact HK.out (.slice (some ⟨kr, 0, none⟩) 4 4) _ (hJ.grow hLi (by decide) (by decide) (Below.refl _ _)) (rfl) vyL_same
     ·
      have x9 : A.tmps[9]? = some (.int .i64 1) := (hev 9 (by decide)).trans rfl
      clear hd hev hin
      simp only [zzA, zzB]
      clear hl
      refine .inr ⟨rfl, fun K' hK => ?_⟩
      have HK := Lib.hid hK
      clear hK
      go_simp
      exact HK.out (.int .i64 1) _ (hJ.grow hLi (by decide) (by decide) (Below.refl _ _)) (rfl) vyL_same
     ·
      have e0 : u 0 = .slice (some ⟨kr, 0, none⟩) 4 4 := (hd 0 (by decide) (by kernel_rfl)).2
      have x51 : A.tmps[51]? = some (.slice (some ⟨kr, 0, none⟩) 4 4) := (hin 0 51 rfl).trans (congrArg some e0)
      have e1 : u 1 = .int .i64 1 := (hd 1 (by decide) (by kernel_rfl)).2
      have x52 : A.tmps[52]? = some (.int .i64 1) := (hin 1 52 rfl).trans (congrArg some e1)
      clear hd hev hin
      simp only [zzA, zzB]
      clear hl
      refine .inr ⟨rfl, fun K' hK => ?_⟩
      have HK := Lib.hid hK
      clear hK
      go_simp
      exact HK.out (.pointer (some ⟨kr, 2, none⟩)) _ (hJ.grow hLi (by decide) (by decide) (Below.refl _ _)) (rfl) vyL_same
     ·
      have e2 : u 2 = .pointer (some ⟨kr, 2, none⟩) := (hd 2 (by decide) (by kernel_rfl)).2
      have x53 : A.tmps[53]? = some (.pointer (some ⟨kr, 2, none⟩)) := (hin 2 53 rfl).trans (congrArg some e2)
      clear hd hev hin
      simp only [zzA, zzB]
      clear hl
      refine .inr ⟨rfl, fun K' hK => ?_⟩
      have HK := Lib.hid hK
      clear hK
      have f0 := cl8 (hJ.cm.cs.at' (kr, #[.bool n0.b, .slice n0.a n0.n n0.c, .bool n1.b, .slice n1.a n1.n n1.c, .bool n2.b, .slice n2.a n2.n n2.c, .bool n3.b, .slice n3.a n3.n n3.c], 82) (.tail _ (.tail _ (.head _))))
      have f5 := f0.1
      have f6 := f0.2.1
      clear f0
      go_simp
      exact HK.out (.agg #[.bool n1.b, .slice n1.a n1.n n1.c]) _ (hJ.grow hLi (by decide) (by decide) (Below.refl _ _)) (rfl) vyL_same
     ·
      have x7 : A.tmps[7]? = some (.pointer (some ⟨kr + 1, 0, none⟩)) := (hev 7 (by decide)).trans rfl
      clear hd hev hin
      simp only [zzA, zzB]
      clear hl
      refine .inr ⟨rfl, fun K' hK => ?_⟩
      have HK := Lib.hid hK
      clear hK
      have f0 := cl2 (hJ.cm.cs.at' (kr + 1, #[.bool p.b, .slice p.a p.n p.c], 82) (.tail _ (.head _)))
      have f5 := f0.1
      have f6 := f0.2.1
      clear f0
      go_simp
      exact HK.out (.agg #[.bool p.b, .slice p.a p.n p.c]) _ (hJ.grow hLi (by decide) (by decide) (Below.refl _ _)) (rfl) vyL_same
     ·
      have e3 : u 3 = .agg #[.bool n1.b, .slice n1.a n1.n n1.c] := (hd 3 (by decide) (by kernel_rfl)).2
      have x54 : A.tmps[54]? = some (.agg #[.bool n1.b, .slice n1.a n1.n n1.c]) := (hin 3 54 rfl).trans (congrArg some e3)
      have e4 : u 4 = .agg #[.bool p.b, .slice p.a p.n p.c] := (hd 4 (by decide) (by kernel_rfl)).2
      have x55 : A.tmps[55]? = some (.agg #[.bool p.b, .slice p.a p.n p.c]) := (hin 4 55 rfl).trans (congrArg some e4)
      clear hd hev hin
      simp only [zzA, zzB]
      clear hl
      refine .inr ⟨rfl, fun K' hK => ?_⟩
      have HK := Lib.hid hK
      clear hK
      go_simp
      refine (nCmp n1 p W (hJ.cm.cs.num n1 (.tail _ (.tail _ (.tail _ (.head _))))) (hJ.cm.cs.num p (.tail _ (.head _)))).mono ?_
      rintro e W' ⟨rfl, hB⟩
      exact HK.out (.int .i64 (cmpI n1.z p.z)) _ (hJ.grow hLi (by decide) (by decide) hB) (rfl) (vyL_later hB)
     ·
      have e5 : u 5 = .int .i64 (cmpI n1.z p.z) := (hd 5 (by decide) (by kernel_rfl)).2
      have x56 : A.tmps[56]? = some (.int .i64 (cmpI n1.z p.z)) := (hin 5 56 rfl).trans (congrArg some e5)
      clear hd hev hin
      simp only [zzA, zzB]
      clear hl
      refine .inr ⟨rfl, fun K' hK => ?_⟩
      have HK := Lib.hid hK
      clear hK
      go_simp
      exact HK.out (.int .i64 (cmpI n1.z p.z)) _ (hJ.grow hLi (by decide) (by decide) (Below.refl _ _)) (rfl) vyL_same
    intro L u W hL hJ hd
    have e0 : u 0 = .slice (some ⟨kr, 0, none⟩) 4 4 := hd 0 (by decide)
    have e1 : u 1 = .int .i64 1 := hd 1 (by decide)
    have e2 : u 2 = .pointer (some ⟨kr, 2, none⟩) := hd 2 (by decide)
    have e3 : u 3 = .agg #[.bool n1.b, .slice n1.a n1.n n1.c] := hd 3 (by decide)
    have e4 : u 4 = .agg #[.bool p.b, .slice p.a p.n p.c] := hd 4 (by decide)
    have e5 : u 5 = .int .i64 (cmpI n1.z p.z) := hd 5 (by decide)
    have e6 : u 6 = .int .i64 (cmpI n1.z p.z) := hd 6 (by decide)
    simp only [layS, Act.put, zzC, zzD, zzE, Nat.zero_add, Nat.reduceAdd, List.drop_succ_cons, List.drop_zero, List.drop_nil, e0, e1, e2, e3, e4, e5, e6]
    replace hF : FJ w W kr n0 n1 n2 n3 p q := ⟨hJ.cm.cs, hF.ge⟩
    clear hJ hL hJ0 hd e0 e1 e2 e3 e4 e5 e6
    go_wp2
    generalize hW6 : W = w6 at *
    clear hW6
    obtain ⟨m8, hm8⟩ : ∃ m, m = w6.heap.size := ⟨_, rfl⟩
    have hJ0 : ∀ u, Jy w m8 [(kr + 2, #[.bool q.b, .slice q.a q.n q.c], 82), (kr + 1, #[.bool p.b, .slice p.a p.n p.c], 82), (kr, #[.bool n0.b, .slice n0.a n0.n n0.c, .bool n1.b, .slice n1.a n1.n n1.c, .bool n2.b, .slice n2.a n2.n n2.c, .bool n3.b, .slice n3.a n3.n n3.c], 82), (w.heap.size + 3, #[.bool false, .slice none 0 0], 82), (w.heap.size + 2, #[.bool false, .slice none 0 0], 82)] [q, p, n0, n1, n2, n3] 82 [] [] (fun _ => false) u w6.drew := fun u => by rw [hm8]; exact Jy.start (hF.cs) u
    refine wp_region_y 7 [some 57, some 58, some 59, some 60, some 61, some 62, some 11] (vyL [.eq (.slice (some ⟨kr, 0, none⟩) 4 4), .eq (.int .i64 1), .eq (.pointer (some ⟨kr, 2, none⟩)), .eq (.agg #[.bool n1.b, .slice n1.a n1.n n1.c]), .eq (.agg #[.bool q.b, .slice q.a q.n q.c]), .eq (.int .i64 (cmpI n1.z q.z)), .eq (.int .i64 (cmpI n1.z q.z))]) (Jy w m8 [(kr + 2, #[.bool q.b, .slice q.a q.n q.c], 82), (kr + 1, #[.bool p.b, .slice p.a p.n p.c], 82), (kr, #[.bool n0.b, .slice n0.a n0.n n0.c, .bool n1.b, .slice n1.a n1.n n1.c, .bool n2.b, .slice n2.a n2.n n2.c, .bool n3.b, .slice n3.a n3.n n3.c], 82), (w.heap.size + 3, #[.bool false, .slice none 0 0], 82), (w.heap.size + 2, #[.bool false, .slice none 0 0], 82)] [q, p, n0, n1, n2, n3] 82 [] []) (by kernel_rfl) (by kernel_rfl) (by rfl) (by decide) (by rfl) hJ0 ?_ ?_
    ·
     intro i hl hi L u W A hLi hJ hd hev hin
     obtain rfl | rfl | rfl | rfl | rfl | rfl | rfl : i = 0 ∨ i = 1 ∨ i = 2 ∨ i = 3 ∨ i = 4 ∨ i = 5 ∨ i = 6 := by omega
     ·
      have x6 : A.tmps[6]? = some (.slice (some ⟨kr, 0, none⟩) 4 4) := (hev 6 (by decide)).trans rfl
      clear hd hev hin
      simp only [zzA, zzB]
      clear hl
      refine .inr ⟨rfl, fun K' hK => ?_⟩
      have HK := Lib.hid hK
      clear hK
      go_simp
      exact HK.out (.slice (some ⟨kr, 0, none⟩) 4 4) _ (hJ.grow hLi (by decide) (by decide) (Below.refl _ _)) (rfl) vyL_same
     ·
      have x9 : A.tmps[9]? = some (.int .i64 1) := (hev 9 (by decide)).trans rfl
      clear hd hev hin
      simp only [zzA, zzB]
      clear hl
      refine .inr ⟨rfl, fun K' hK => ?_⟩
      have HK := Lib.hid hK
      clear hK
      go_simp
      exact HK.out (.int .i64 1) _ (hJ.grow hLi (by decide) (by decide) (Below.refl _ _)) (rfl) vyL_same
     ·
      have e0 : u 0 = .slice (some ⟨kr, 0, none⟩) 4 4 := (hd 0 (by decide) (by kernel_rfl)).2
      have x57 : A.tmps[57]? = some (.slice (some ⟨kr, 0, none⟩) 4 4) := (hin 0 57 rfl).trans (congrArg some e0)
      have e1 : u 1 = .int .i64 1 := (hd 1 (by decide) (by kernel_rfl)).2
      have x58 : A.tmps[58]? = some (.int .i64 1) := (hin 1 58 rfl).trans (congrArg some e1)
      clear hd hev hin
      simp only [zzA, zzB]
      clear hl
      refine .inr ⟨rfl, fun K' hK => ?_⟩
      have HK := Lib.hid hK
      clear hK
      go_simp
      exact HK.out (.pointer (some ⟨kr, 2, none⟩)) _ (hJ.grow hLi (by decide) (by decide) (Below.refl _ _)) (rfl) vyL_same
     ·
      have e2 : u 2 = .pointer (some ⟨kr, 2, none⟩) := (hd 2 (by decide) (by kernel_rfl)).2
      have x59 : A.tmps[59]? = some (.pointer (some ⟨kr, 2, none⟩)) := (hin 2 59 rfl).trans (congrArg some e2)
      clear hd hev hin
      simp only [zzA, zzB]
      clear hl
      refine .inr ⟨rfl, fun K' hK => ?_⟩
      have HK := Lib.hid hK
      clear hK
      have f0 := cl8 (hJ.cm.cs.at' (kr, #[.bool n0.b, .slice n0.a n0.n n0.c, .bool n1.b, .slice n1.a n1.n n1.c, .bool n2.b, .slice n2.a n2.n n2.c, .bool n3.b, .slice n3.a n3.n n3.c], 82) (.tail _ (.tail _ (.head _))))
      have f5 := f0.1
      have f6 := f0.2.1
      clear f0
      go_simp
      exact HK.out (.agg #[.bool n1.b, .slice n1.a n1.n n1.c]) _ (hJ.grow hLi (by decide) (by decide) (Below.refl _ _)) (rfl) vyL_same
     ·
      have x8 : A.tmps[8]? = some (.pointer (some ⟨kr + 2, 0, none⟩)) := (hev 8 (by decide)).trans rfl
      clear hd hev hin
      simp only [zzA, zzB]
      clear hl
      refine .inr ⟨rfl, fun K' hK => ?_⟩
      have HK := Lib.hid hK
      clear hK
      have f0 := cl2 (hJ.cm.cs.at' (kr + 2, #[.bool q.b, .slice q.a q.n q.c], 82) (.head _))
      have f5 := f0.1
      have f6 := f0.2.1
      clear f0
      go_simp
      exact HK.out (.agg #[.bool q.b, .slice q.a q.n q.c]) _ (hJ.grow hLi (by decide) (by decide) (Below.refl _ _)) (rfl) vyL_same
     ·
      have e3 : u 3 = .agg #[.bool n1.b, .slice n1.a n1.n n1.c] := (hd 3 (by decide) (by kernel_rfl)).2
      have x60 : A.tmps[60]? = some (.agg #[.bool n1.b, .slice n1.a n1.n n1.c]) := (hin 3 60 rfl).trans (congrArg some e3)
      have e4 : u 4 = .agg #[.bool q.b, .slice q.a q.n q.c] := (hd 4 (by decide) (by kernel_rfl)).2
      have x61 : A.tmps[61]? = some (.agg #[.bool q.b, .slice q.a q.n q.c]) := (hin 4 61 rfl).trans (congrArg some e4)
      clear hd hev hin
      simp only [zzA, zzB]
      clear hl
      refine .inr ⟨rfl, fun K' hK => ?_⟩
      have HK := Lib.hid hK
      clear hK
      go_simp
      refine (nCmp n1 q W (hJ.cm.cs.num n1 (.tail _ (.tail _ (.tail _ (.head _))))) (hJ.cm.cs.num q (.head _))).mono ?_
      rintro e W' ⟨rfl, hB⟩
      exact HK.out (.int .i64 (cmpI n1.z q.z)) _ (hJ.grow hLi (by decide) (by decide) hB) (rfl) (vyL_later hB)
     ·
      have e5 : u 5 = .int .i64 (cmpI n1.z q.z) := (hd 5 (by decide) (by kernel_rfl)).2
      have x62 : A.tmps[62]? = some (.int .i64 (cmpI n1.z q.z)) := (hin 5 62 rfl).trans (congrArg some e5)
      clear hd hev hin
      simp only [zzA, zzB]
      clear hl
      refine .inr ⟨rfl, fun K' hK => ?_⟩
      have HK := Lib.hid hK
      clear hK
      go_simp
      exact HK.out (.int .i64 (cmpI n1.z q.z)) _ (hJ.grow hLi (by decide) (by decide) (Below.refl _ _)) (rfl) vyL_same
    intro L u W hL hJ hd
    have e0 : u 0 = .slice (some ⟨kr, 0, none⟩) 4 4 := hd 0 (by decide)
    have e1 : u 1 = .int .i64 1 := hd 1 (by decide)
    have e2 : u 2 = .pointer (some ⟨kr, 2, none⟩) := hd 2 (by decide)
    have e3 : u 3 = .agg #[.bool n1.b, .slice n1.a n1.n n1.c] := hd 3 (by decide)
    have e4 : u 4 = .agg #[.bool q.b, .slice q.a q.n q.c] := hd 4 (by decide)
    have e5 : u 5 = .int .i64 (cmpI n1.z q.z) := hd 5 (by decide)
    have e6 : u 6 = .int .i64 (cmpI n1.z q.z) := hd 6 (by decide)
    simp only [layS, Act.put, zzC, zzD, zzE, Nat.zero_add, Nat.reduceAdd, List.drop_succ_cons, List.drop_zero, List.drop_nil, e0, e1, e2, e3, e4, e5, e6]
    replace hF : FJ w W kr n0 n1 n2 n3 p q := ⟨hJ.cm.cs, hF.ge⟩
    clear hJ hL hJ0 hd e0 e1 e2 e3 e4 e5 e6
    have r0 := cl8 (hF.cs.at' (kr, #[.bool n0.b, .slice n0.a n0.n n0.c, .bool n1.b, .slice n1.a n1.n n1.c, .bool n2.b, .slice n2.a n2.n n2.c, .bool n3.b, .slice n3.a n3.n n3.c], 82) (.tail _ (.tail _ (.head _))))
    have r5 := r0.1
    have r6 := r0.2.1
    have a0 := cl2 (hF.cs.at' (kr + 1, #[.bool p.b, .slice p.a p.n p.c], 82) (.tail _ (.head _)))
    have a1 := a0.1
    have a2 := a0.2.1
    have a3 := a0.2.2.1
    have a4 := a0.2.2.2
    have c0 := cl2 (hF.cs.at' (kr + 2, #[.bool q.b, .slice q.a q.n q.c], 82) (.head _))
    have c1 := c0.1
    have c2 := c0.2.1
    have c3 := c0.2.2.1
    have c4 := c0.2.2.2
    have gn := hF.cs.num n1 (.tail _ (.tail _ (.tail _ (.head _))))
    clear r0 a0 c0
    by_cases d1 : n1.z < p.z
    ·
     have D1 := cmp_lt0 d1
     by_cases d2 : q.z < n1.z
     ·
      have D2 := cmp_gt0' d2
      have hF1 := hF.putLo gn
      have gn1 := hF1.cs.num n1 (.tail _ (.tail _ (.tail _ (.head _))))
      have hF2 := hF1.putHi gn1
      clear gn
      have Z1 : Hid (n1.z = min n0.z n1.z) := show _ = _ by have := ZP.out; omega
      have Z2 : Hid (n1.z = max n0.z n1.z) := show _ = _ by have := ZQ.out; omega
      clear d1 d2
      go_wp2
      go_roundw
      case rel => exact ⟨2, by omega, by omega, rfl, n1, n1, hF2, Z1.out, Z2.out⟩
      case measure => simp [intOf]
     ·
      have D2 := cmp_ngt0' (show n1.z ≤ q.z by omega)
      have hF1 := hF.putLo gn
      clear gn
      have Z1 : Hid (n1.z = min n0.z n1.z) := show _ = _ by have := ZP.out; omega
      have Z2 : Hid (q.z = max n0.z n1.z) := show _ = _ by have := ZQ.out; omega
      clear d1 d2
      go_wp2
      go_roundw
      case rel => exact ⟨2, by omega, by omega, rfl, n1, q, hF1, Z1.out, Z2.out⟩
      case measure => simp [intOf]
    ·
     have D1 := cmp_nlt0 (show p.z ≤ n1.z by omega)
     by_cases d2 : q.z < n1.z
     ·
      have D2 := cmp_gt0' d2
      have hF2 := hF.putHi gn
      clear gn
      have Z1 : Hid (p.z = min n0.z n1.z) := show _ = _ by have := ZP.out; omega
      have Z2 : Hid (n1.z = max n0.z n1.z) := show _ = _ by have := ZQ.out; omega
      clear d1 d2
      go_wp2
      go_roundw
      case rel => exact ⟨2, by omega, by omega, rfl, p, n1, hF2, Z1.out, Z2.out⟩
      case measure => simp [intOf]
     ·
      have D2 := cmp_ngt0' (show n1.z ≤ q.z by omega)
      clear gn
      have Z1 : Hid (p.z = min n0.z n1.z) := show _ = _ by have := ZP.out; omega
      have Z2 : Hid (q.z = max n0.z n1.z) := show _ = _ by have := ZQ.out; omega
      clear d1 d2
      go_wp2
      go_roundw
      case rel => exact ⟨2, by omega, by omega, rfl, p, q, hF, Z1.out, Z2.out⟩
      case measure => simp [intOf]
   ·
    have ZP : Hid (p.z = min n0.z n1.z) := show p.z = _ from zp
    have ZQ : Hid (q.z = max n0.z n1.z) := show q.z = _ from zq
    clear zp zq
    go_wp2
    obtain ⟨m7, hm7⟩ : ∃ m, m = wr.heap.size := ⟨_, rfl⟩
    have hJ0 : ∀ u, Jy w m7 [(kr + 2, #[.bool q.b, .slice q.a q.n q.c], 82), (kr + 1, #[.bool p.b, .slice p.a p.n p.c], 82), (kr, #[.bool n0.b, .slice n0.a n0.n n0.c, .bool n1.b, .slice n1.a n1.n n1.c, .bool n2.b, .slice n2.a n2.n n2.c, .bool n3.b, .slice n3.a n3.n n3.c], 82), (w.heap.size + 3, #[.bool false, .slice none 0 0], 82), (w.heap.size + 2, #[.bool false, .slice none 0 0], 82)] [q, p, n0, n1, n2, n3] 82 [] [] (fun _ => false) u wr.drew := fun u => by rw [hm7]; exact Jy.start (hF.cs) u
    refine wp_region_y 7 [some 51, some 52, some 53, some 54, some 55, some 56, some 10] (vyL [.eq (.slice (some ⟨kr, 0, none⟩) 4 4), .eq (.int .i64 2), .eq (.pointer (some ⟨kr, 4, none⟩)), .eq (.agg #[.bool n2.b, .slice n2.a n2.n n2.c]), .eq (.agg #[.bool p.b, .slice p.a p.n p.c]), .eq (.int .i64 (cmpI n2.z p.z)), .eq (.int .i64 (cmpI n2.z p.z))]) (Jy w m7 [(kr + 2, #[.bool q.b, .slice q.a q.n q.c], 82), (kr + 1, #[.bool p.b, .slice p.a p.n p.c], 82), (kr, #[.bool n0.b, .slice n0.a n0.n n0.c, .bool n1.b, .slice n1.a n1.n n1.c, .bool n2.b, .slice n2.a n2.n n2.c, .bool n3.b, .slice n3.a n3.n n3.c], 82), (w.heap.size + 3, #[.bool false, .slice none 0 0], 82), (w.heap.size + 2, #[.bool false, .slice none 0 0], 82)] [q, p, n0, n1, n2, n3] 82 [] []) (by kernel_rfl) (by kernel_rfl) (by rfl) (by decide) (by rfl) hJ0 ?_ ?_
    ·
     intro i hl hi L u W A hLi hJ hd hev hin
     obtain rfl | rfl | rfl | rfl | rfl | rfl | rfl : i = 0 ∨ i = 1 ∨ i = 2 ∨ i = 3 ∨ i = 4 ∨ i = 5 ∨ i = 6 := by omega
     ·
      have x6 : A.tmps[6]? = some (.slice (some ⟨kr, 0, none⟩) 4 4) := (hev 6 (by decide)).trans rfl
      clear hd hev hin
      simp only [zzA, zzB]
      clear hl
      refine .inr ⟨rfl, fun K' hK => ?_⟩
      have HK := Lib.hid hK
      clear hK
      go_simp
      exact HK.out (.slice (some ⟨kr, 0, none⟩) 4 4) _ (hJ.grow hLi (by decide) (by decide) (Below.refl _ _)) (rfl) vyL_same
     ·
      have x9 : A.tmps[9]? = some (.int .i64 2) := (hev 9 (by decide)).trans rfl
      clear hd hev hin
      simp only [zzA, zzB]
      clear hl
      refine .inr ⟨rfl, fun K' hK => ?_⟩
      have HK := Lib.hid hK
      clear hK
      go_simp
      exact HK.out (.int .i64 2) _ (hJ.grow hLi (by decide) (by decide) (Below.refl _ _)) (rfl) vyL_same
     ·
      have e0 : u 0 = .slice (some ⟨kr, 0, none⟩) 4 4 := (hd 0 (by decide) (by kernel_rfl)).2
      have x51 : A.tmps[51]? = some (.slice (some ⟨kr, 0, none⟩) 4 4) := (hin 0 51 rfl).trans (congrArg some e0)
      have e1 : u 1 = .int .i64 2 := (hd 1 (by decide) (by kernel_rfl)).2
      have x52 : A.tmps[52]? = some (.int .i64 2) := (hin 1 52 rfl).trans (congrArg some e1)
      clear hd hev hin
      simp only [zzA, zzB]
      clear hl
      refine .inr ⟨rfl, fun K' hK => ?_⟩
      have HK := Lib.hid hK
      clear hK
      go_simp
      exact HK.out (.pointer (some ⟨kr, 4, none⟩)) _ (hJ.grow hLi (by decide) (by decide) (Below.refl _ _)) (rfl) vyL_same
     ·
      have e2 : u 2 = .pointer (some ⟨kr, 4, none⟩) := (hd 2 (by decide) (by kernel_rfl)).2
      have x53 : A.tmps[53]? = some (.pointer (some ⟨kr, 4, none⟩)) := (hin 2 53 rfl).trans (congrArg some e2)
      clear hd hev hin
      simp only [zzA, zzB]
      clear hl
      refine .inr ⟨rfl, fun K' hK => ?_⟩
      have HK := Lib.hid hK
      clear hK
      have f0 := cl8 (hJ.cm.cs.at' (kr, #[.bool n0.b, .slice n0.a n0.n n0.c, .bool n1.b, .slice n1.a n1.n n1.c, .bool n2.b, .slice n2.a n2.n n2.c, .bool n3.b, .slice n3.a n3.n n3.c], 82) (.tail _ (.tail _ (.head _))))
      have f5 := f0.2.2.1
      have f6 := f0.2.2.2.1
      clear f0
      go_simp
      exact HK.out (.agg #[.bool n2.b, .slice n2.a n2.n n2.c]) _ (hJ.grow hLi (by decide) (by decide) (Below.refl _ _)) (rfl) vyL_same
     ·
      have x7 : A.tmps[7]? = some (.pointer (some ⟨kr + 1, 0, none⟩)) := (hev 7 (by decide)).trans rfl
      clear hd hev hin
      simp only [zzA, zzB]
      clear hl
      refine .inr ⟨rfl, fun K' hK => ?_⟩
      have HK := Lib.hid hK
      clear hK
      have f0 := cl2 (hJ.cm.cs.at' (kr + 1, #[.bool p.b, .slice p.a p.n p.c], 82) (.tail _ (.head _)))
      have f5 := f0.1
      have f6 := f0.2.1
      clear f0
      go_simp
      exact HK.out (.agg #[.bool p.b, .slice p.a p.n p.c]) _ (hJ.grow hLi (by decide) (by decide) (Below.refl _ _)) (rfl) vyL_same
     ·
      have e3 : u 3 = .agg #[.bool n2.b, .slice n2.a n2.n n2.c] := (hd 3 (by decide) (by kernel_rfl)).2
      have x54 : A.tmps[54]? = some (.agg #[.bool n2.b, .slice n2.a n2.n n2.c]) := (hin 3 54 rfl).trans (congrArg some e3)
      have e4 : u 4 = .agg #[.bool p.b, .slice p.a p.n p.c] := (hd 4 (by decide) (by kernel_rfl)).2
      have x55 : A.tmps[55]? = some (.agg #[.bool p.b, .slice p.a p.n p.c]) := (hin 4 55 rfl).trans (congrArg some e4)
      clear hd hev hin
      simp only [zzA, zzB]
      clear hl
      refine .inr ⟨rfl, fun K' hK => ?_⟩
      have HK := Lib.hid hK
      clear hK
      go_simp
      refine (nCmp n2 p W (hJ.cm.cs.num n2 (.tail _ (.tail _ (.tail _ (.tail _ (.head _)))))) (hJ.cm.cs.num p (.tail _ (.head _)))).mono ?_
      rintro e W' ⟨rfl, hB⟩
      exact HK.out (.int .i64 (cmpI n2.z p.z)) _ (hJ.grow hLi (by decide) (by decide) hB) (rfl) (vyL_later hB)
     ·
      have e5 : u 5 = .int .i64 (cmpI n2.z p.z) := (hd 5 (by decide) (by kernel_rfl)).2
      have x56 : A.tmps[56]? = some (.int .i64 (cmpI n2.z p.z)) := (hin 5 56 rfl).trans (congrArg some e5)
      clear hd hev hin
      simp only [zzA, zzB]
      clear hl
      refine .inr ⟨rfl, fun K' hK => ?_⟩
      have HK := Lib.hid hK
      clear hK
      go_simp
      exact HK.out (.int .i64 (cmpI n2.z p.z)) _ (hJ.grow hLi (by decide) (by decide) (Below.refl _ _)) (rfl) vyL_same
    intro L u W hL hJ hd
    have e0 : u 0 = .slice (some ⟨kr, 0, none⟩) 4 4 := hd 0 (by decide)
    have e1 : u 1 = .int .i64 2 := hd 1 (by decide)
    have e2 : u 2 = .pointer (some ⟨kr, 4, none⟩) := hd 2 (by decide)
    have e3 : u 3 = .agg #[.bool n2.b, .slice n2.a n2.n n2.c] := hd 3 (by decide)
    have e4 : u 4 = .agg #[.bool p.b, .slice p.a p.n p.c] := hd 4 (by decide)
    have e5 : u 5 = .int .i64 (cmpI n2.z p.z) := hd 5 (by decide)
    have e6 : u 6 = .int .i64 (cmpI n2.z p.z) := hd 6 (by decide)
    simp only [layS, Act.put, zzC, zzD, zzE, Nat.zero_add, Nat.reduceAdd, List.drop_succ_cons, List.drop_zero, List.drop_nil, e0, e1, e2, e3, e4, e5, e6]
    replace hF : FJ w W kr n0 n1 n2 n3 p q := ⟨hJ.cm.cs, hF.ge⟩
    clear hJ hL hJ0 hd e0 e1 e2 e3 e4 e5 e6
    go_wp2
    generalize hW6 : W = w6 at *
    clear hW6
    obtain ⟨m8, hm8⟩ : ∃ m, m = w6.heap.size := ⟨_, rfl⟩
    have hJ0 : ∀ u, Jy w m8 [(kr + 2, #[.bool q.b, .slice q.a q.n q.c], 82), (kr + 1, #[.bool p.b, .slice p.a p.n p.c], 82), (kr, #[.bool n0.b, .slice n0.a n0.n n0.c, .bool n1.b, .slice n1.a n1.n n1.c, .bool n2.b, .slice n2.a n2.n n2.c, .bool n3.b, .slice n3.a n3.n n3.c], 82), (w.heap.size + 3, #[.bool false, .slice none 0 0], 82), (w.heap.size + 2, #[.bool false, .slice none 0 0], 82)] [q, p, n0, n1, n2, n3] 82 [] [] (fun _ => false) u w6.drew := fun u => by rw [hm8]; exact Jy.start (hF.cs) u
    refine wp_region_y 7 [some 57, some 58, some 59, some 60, some 61, some 62, some 11] (vyL [.eq (.slice (some ⟨kr, 0, none⟩) 4 4), .eq (.int .i64 2), .eq (.pointer (some ⟨kr, 4, none⟩)), .eq (.agg #[.bool n2.b, .slice n2.a n2.n n2.c]), .eq (.agg #[.bool q.b, .slice q.a q.n q.c]), .eq (.int .i64 (cmpI n2.z q.z)), .eq (.int .i64 (cmpI n2.z q.z))]) (Jy w m8 [(kr + 2, #[.bool q.b, .slice q.a q.n q.c], 82), (kr + 1, #[.bool p.b, .slice p.a p.n p.c], 82), (kr, #[.bool n0.b, .slice n0.a n0.n n0.c, .bool n1.b, .slice n1.a n1.n n1.c, .bool n2.b, .slice n2.a n2.n n2.c, .bool n3.b, .slice n3.a n3.n n3.c], 82), (w.heap.size + 3, #[.bool false, .slice none 0 0], 82), (w.heap.size + 2, #[.bool false, .slice none 0 0], 82)] [q, p, n0, n1, n2, n3] 82 [] []) (by kernel_rfl) (by kernel_rfl) (by rfl) (by decide) (by rfl) hJ0 ?_ ?_
    ·
     intro i hl hi L u W A hLi hJ hd hev hin
     obtain rfl | rfl | rfl | rfl | rfl | rfl | rfl : i = 0 ∨ i = 1 ∨ i = 2 ∨ i = 3 ∨ i = 4 ∨ i = 5 ∨ i = 6 := by omega
     ·
      have x6 : A.tmps[6]? = some (.slice (some ⟨kr, 0, none⟩) 4 4) := (hev 6 (by decide)).trans rfl
      clear hd hev hin
      simp only [zzA, zzB]
      clear hl
      refine .inr ⟨rfl, fun K' hK => ?_⟩
      have HK := Lib.hid hK
      clear hK
      go_simp
      exact HK.out (.slice (some ⟨kr, 0, none⟩) 4 4) _ (hJ.grow hLi (by decide) (by decide) (Below.refl _ _)) (rfl) vyL_same
     ·
      have x9 : A.tmps[9]? = some (.int .i64 2) := (hev 9 (by decide)).trans rfl
      clear hd hev hin
      simp only [zzA, zzB]
      clear hl
      refine .inr ⟨rfl, fun K' hK => ?_⟩
      have HK := Lib.hid hK
      clear hK
      go_simp
      exact HK.out (.int .i64 2) _ (hJ.grow hLi (by decide) (by decide) (Below.refl _ _)) (rfl) vyL_same
     ·
      have e0 : u 0 = .slice (some ⟨kr, 0, none⟩) 4 4 := (hd 0 (by decide) (by kernel_rfl)).2
      have x57 : A.tmps[57]? = some (.slice (some ⟨kr, 0, none⟩) 4 4) := (hin 0 57 rfl).trans (congrArg some e0)
      have e1 : u 1 = .int .i64 2 := (hd 1 (by decide) (by kernel_rfl)).2
      have x58 : A.tmps[58]? = some (.int .i64 2) := (hin 1 58 rfl).trans (congrArg some e1)
      clear hd hev hin
      simp only [zzA, zzB]
      clear hl
      refine .inr ⟨rfl, fun K' hK => ?_⟩
      have HK := Lib.hid hK
      clear hK
      go_simp
      exact HK.out (.pointer (some ⟨kr, 4, none⟩)) _ (hJ.grow hLi (by decide) (by decide) (Below.refl _ _)) (rfl) vyL_same
     ·
      have e2 : u 2 = .pointer (some ⟨kr, 4, none⟩) := (hd 2 (by decide) (by kernel_rfl)).2
      have x59 : A.tmps[59]? = some (.pointer (some ⟨kr, 4, none⟩)) := (hin 2 59 rfl).trans (congrArg some e2)
      clear hd hev hin
      simp only [zzA, zzB]
      clear hl
      refine .inr ⟨rfl, fun K' hK => ?_⟩
      have HK := Lib.hid hK
      clear hK
      have f0 := cl8 (hJ.cm.cs.at' (kr, #[.bool n0.b, .slice n0.a n0.n n0.c, .bool n1.b, .slice n1.a n1.n n1.c, .bool n2.b, .slice n2.a n2.n n2.c, .bool n3.b, .slice n3.a n3.n n3.c], 82) (.tail _ (.tail _ (.head _))))
      have f5 := f0.2.2.1
      have f6 := f0.2.2.2.1
      clear f0
      go_simp
      exact HK.out (.agg #[.bool n2.b, .slice n2.a n2.n n2.c]) _ (hJ.grow hLi (by decide) (by decide) (Below.refl _ _)) (rfl) vyL_same
     ·
      have x8 : A.tmps[8]? = some (.pointer (some ⟨kr + 2, 0, none⟩)) := (hev 8 (by decide)).trans rfl
      clear hd hev hin
      simp only [zzA, zzB]
      clear hl
      refine .inr ⟨rfl, fun K' hK => ?_⟩
      have HK := Lib.hid hK
      clear hK
      have f0 := cl2 (hJ.cm.cs.at' (kr + 2, #[.bool q.b, .slice q.a q.n q.c], 82) (.head _))
      have f5 := f0.1
      have f6 := f0.2.1
      clear f0
      go_simp
      exact HK.out (.agg #[.bool q.b, .slice q.a q.n q.c]) _ (hJ.grow hLi (by decide) (by decide) (Below.refl _ _)) (rfl) vyL_same
     ·
      have e3 : u 3 = .agg #[.bool n2.b, .slice n2.a n2.n n2.c] := (hd 3 (by decide) (by kernel_rfl)).2
      have x60 : A.tmps[60]? = some (.agg #[.bool n2.b, .slice n2.a n2.n n2.c]) := (hin 3 60 rfl).trans (congrArg some e3)
      have e4 : u 4 = .agg #[.bool q.b, .slice q.a q.n q.c] := (hd 4 (by decide) (by kernel_rfl)).2
      have x61 : A.tmps[61]? = some (.agg #[.bool q.b, .slice q.a q.n q.c]) := (hin 4 61 rfl).trans (congrArg some e4)
      clear hd hev hin
      simp only [zzA, zzB]
      clear hl
      refine .inr ⟨rfl, fun K' hK => ?_⟩
      have HK := Lib.hid hK
      clear hK
      go_simp
      refine (nCmp n2 q W (hJ.cm.cs.num n2 (.tail _ (.tail _ (.tail _ (.tail _ (.head _)))))) (hJ.cm.cs.num q (.head _))).mono ?_
      rintro e W' ⟨rfl, hB⟩
      exact HK.out (.int .i64 (cmpI n2.z q.z)) _ (hJ.grow hLi (by decide) (by decide) hB) (rfl) (vyL_later hB)
     ·
      have e5 : u 5 = .int .i64 (cmpI n2.z q.z) := (hd 5 (by decide) (by kernel_rfl)).2
      have x62 : A.tmps[62]? = some (.int .i64 (cmpI n2.z q.z)) := (hin 5 62 rfl).trans (congrArg some e5)
      clear hd hev hin
      simp only [zzA, zzB]
      clear hl
      refine .inr ⟨rfl, fun K' hK => ?_⟩
      have HK := Lib.hid hK
      clear hK
      go_simp
      exact HK.out (.int .i64 (cmpI n2.z q.z)) _ (hJ.grow hLi (by decide) (by decide) (Below.refl _ _)) (rfl) vyL_same
    intro L u W hL hJ hd
    have e0 : u 0 = .slice (some ⟨kr, 0, none⟩) 4 4 := hd 0 (by decide)
    have e1 : u 1 = .int .i64 2 := hd 1 (by decide)
    have e2 : u 2 = .pointer (some ⟨kr, 4, none⟩) := hd 2 (by decide)
    have e3 : u 3 = .agg #[.bool n2.b, .slice n2.a n2.n n2.c] := hd 3 (by decide)
    have e4 : u 4 = .agg #[.bool q.b, .slice q.a q.n q.c] := hd 4 (by decide)
    have e5 : u 5 = .int .i64 (cmpI n2.z q.z) := hd 5 (by decide)
    have e6 : u 6 = .int .i64 (cmpI n2.z q.z) := hd 6 (by decide)
    simp only [layS, Act.put, zzC, zzD, zzE, Nat.zero_add, Nat.reduceAdd, List.drop_succ_cons, List.drop_zero, List.drop_nil, e0, e1, e2, e3, e4, e5, e6]
    replace hF : FJ w W kr n0 n1 n2 n3 p q := ⟨hJ.cm.cs, hF.ge⟩
    clear hJ hL hJ0 hd e0 e1 e2 e3 e4 e5 e6
    have r0 := cl8 (hF.cs.at' (kr, #[.bool n0.b, .slice n0.a n0.n n0.c, .bool n1.b, .slice n1.a n1.n n1.c, .bool n2.b, .slice n2.a n2.n n2.c, .bool n3.b, .slice n3.a n3.n n3.c], 82) (.tail _ (.tail _ (.head _))))
    have r5 := r0.2.2.1
    have r6 := r0.2.2.2.1
    have a0 := cl2 (hF.cs.at' (kr + 1, #[.bool p.b, .slice p.a p.n p.c], 82) (.tail _ (.head _)))
    have a1 := a0.1
    have a2 := a0.2.1
    have a3 := a0.2.2.1
    have a4 := a0.2.2.2
    have c0 := cl2 (hF.cs.at' (kr + 2, #[.bool q.b, .slice q.a q.n q.c], 82) (.head _))
    have c1 := c0.1
    have c2 := c0.2.1
    have c3 := c0.2.2.1
    have c4 := c0.2.2.2
    have gn := hF.cs.num n2 (.tail _ (.tail _ (.tail _ (.tail _ (.head _)))))
    clear r0 a0 c0
    by_cases d1 : n2.z < p.z
    ·
     have D1 := cmp_lt0 d1
     by_cases d2 : q.z < n2.z
     ·
      have D2 := cmp_gt0' d2
      have hF1 := hF.putLo gn
      have gn1 := hF1.cs.num n2 (.tail _ (.tail _ (.tail _ (.tail _ (.head _)))))
      have hF2 := hF1.putHi gn1
      clear gn
      have Z1 : Hid (n2.z = min (min n0.z n1.z) n2.z) := show _ = _ by have := ZP.out; omega
      have Z2 : Hid (n2.z = max (max n0.z n1.z) n2.z) := show _ = _ by have := ZQ.out; omega
      clear d1 d2
      go_wp2
      go_roundw
      case rel => exact ⟨3, by omega, by omega, rfl, n2, n2, hF2, Z1.out, Z2.out⟩
      case measure => simp [intOf]
     ·
      have D2 := cmp_ngt0' (show n2.z ≤ q.z by omega)
      have hF1 := hF.putLo gn
      clear gn
      have Z1 : Hid (n2.z = min (min n0.z n1.z) n2.z) := show _ = _ by have := ZP.out; omega
      have Z2 : Hid (q.z = max (max n0.z n1.z) n2.z) := show _ = _ by have := ZQ.out; omega
      clear d1 d2
      go_wp2
      go_roundw
      case rel => exact ⟨3, by omega, by omega, rfl, n2, q, hF1, Z1.out, Z2.out⟩
      case measure => simp [intOf]
    ·
     have D1 := cmp_nlt0 (show p.z ≤ n2.z by omega)
     by_cases d2 : q.z < n2.z
     ·
      have D2 := cmp_gt0' d2
      have hF2 := hF.putHi gn
      clear gn
      have Z1 : Hid (p.z = min (min n0.z n1.z) n2.z) := show _ = _ by have := ZP.out; omega
      have Z2 : Hid (n2.z = max (max n0.z n1.z) n2.z) := show _ = _ by have := ZQ.out; omega
      clear d1 d2
      go_wp2
      go_roundw
      case rel => exact ⟨3, by omega, by omega, rfl, p, n2, hF2, Z1.out, Z2.out⟩
      case measure => simp [intOf]
     ·
      have D2 := cmp_ngt0' (show n2.z ≤ q.z by omega)
      clear gn
      have Z1 : Hid (p.z = min (min n0.z n1.z) n2.z) := show _ = _ by have := ZP.out; omega
      have Z2 : Hid (q.z = max (max n0.z n1.z) n2.z) := show _ = _ by have := ZQ.out; omega
      clear d1 d2
      go_wp2
      go_roundw
      case rel => exact ⟨3, by omega, by omega, rfl, p, q, hF, Z1.out, Z2.out⟩
      case measure => simp [intOf]
   ·
    have ZP : Hid (p.z = min (min n0.z n1.z) n2.z) := show p.z = _ from zp
    have ZQ : Hid (q.z = max (max n0.z n1.z) n2.z) := show q.z = _ from zq
    clear zp zq
    go_wp2
    obtain ⟨m7, hm7⟩ : ∃ m, m = wr.heap.size := ⟨_, rfl⟩
    have hJ0 : ∀ u, Jy w m7 [(kr + 2, #[.bool q.b, .slice q.a q.n q.c], 82), (kr + 1, #[.bool p.b, .slice p.a p.n p.c], 82), (kr, #[.bool n0.b, .slice n0.a n0.n n0.c, .bool n1.b, .slice n1.a n1.n n1.c, .bool n2.b, .slice n2.a n2.n n2.c, .bool n3.b, .slice n3.a n3.n n3.c], 82), (w.heap.size + 3, #[.bool false, .slice none 0 0], 82), (w.heap.size + 2, #[.bool false, .slice none 0 0], 82)] [q, p, n0, n1, n2, n3] 82 [] [] (fun _ => false) u wr.drew := fun u => by rw [hm7]; exact Jy.start (hF.cs) u
    refine wp_region_y 7 [some 51, some 52, some 53, some 54, some 55, some 56, some 10] (vyL [.eq (.slice (some ⟨kr, 0, none⟩) 4 4), .eq (.int .i64 3), .eq (.pointer (some ⟨kr, 6, none⟩)), .eq (.agg #[.bool n3.b, .slice n3.a n3.n n3.c]), .eq (.agg #[.bool p.b, .slice p.a p.n p.c]), .eq (.int .i64 (cmpI n3.z p.z)), .eq (.int .i64 (cmpI n3.z p.z))]) (Jy w m7 [(kr + 2, #[.bool q.b, .slice q.a q.n q.c], 82), (kr + 1, #[.bool p.b, .slice p.a p.n p.c], 82), (kr, #[.bool n0.b, .slice n0.a n0.n n0.c, .bool n1.b, .slice n1.a n1.n n1.c, .bool n2.b, .slice n2.a n2.n n2.c, .bool n3.b, .slice n3.a n3.n n3.c], 82), (w.heap.size + 3, #[.bool false, .slice none 0 0], 82), (w.heap.size + 2, #[.bool false, .slice none 0 0], 82)] [q, p, n0, n1, n2, n3] 82 [] []) (by kernel_rfl) (by kernel_rfl) (by rfl) (by decide) (by rfl) hJ0 ?_ ?_
    ·
     intro i hl hi L u W A hLi hJ hd hev hin
     obtain rfl | rfl | rfl | rfl | rfl | rfl | rfl : i = 0 ∨ i = 1 ∨ i = 2 ∨ i = 3 ∨ i = 4 ∨ i = 5 ∨ i = 6 := by omega
     ·
      have x6 : A.tmps[6]? = some (.slice (some ⟨kr, 0, none⟩) 4 4) := (hev 6 (by decide)).trans rfl
      clear hd hev hin
      simp only [zzA, zzB]
      clear hl
      refine .inr ⟨rfl, fun K' hK => ?_⟩
      have HK := Lib.hid hK
      clear hK
      go_simp
      exact HK.out (.slice (some ⟨kr, 0, none⟩) 4 4) _ (hJ.grow hLi (by decide) (by decide) (Below.refl _ _)) (rfl) vyL_same
     ·
      have x9 : A.tmps[9]? = some (.int .i64 3) := (hev 9 (by decide)).trans rfl
      clear hd hev hin
      simp only [zzA, zzB]
      clear hl
      refine .inr ⟨rfl, fun K' hK => ?_⟩
      have HK := Lib.hid hK
      clear hK
      go_simp
      exact HK.out (.int .i64 3) _ (hJ.grow hLi (by decide) (by decide) (Below.refl _ _)) (rfl) vyL_same
     ·
      have e0 : u 0 = .slice (some ⟨kr, 0, none⟩) 4 4 := (hd 0 (by decide) (by kernel_rfl)).2
      have x51 : A.tmps[51]? = some (.slice (some ⟨kr, 0, none⟩) 4 4) := (hin 0 51 rfl).trans (congrArg some e0)
      have e1 : u 1 = .int .i64 3 := (hd 1 (by decide) (by kernel_rfl)).2
      have x52 : A.tmps[52]? = some (.int .i64 3) := (hin 1 52 rfl).trans (congrArg some e1)
      clear hd hev hin
      simp only [zzA, zzB]
      clear hl
      refine .inr ⟨rfl, fun K' hK => ?_⟩
      have HK := Lib.hid hK
      clear hK
      go_simp
      exact HK.out (.pointer (some ⟨kr, 6, none⟩)) _ (hJ.grow hLi (by decide) (by decide) (Below.refl _ _)) (rfl) vyL_same
     ·
      have e2 : u 2 = .pointer (some ⟨kr, 6, none⟩) := (hd 2 (by decide) (by kernel_rfl)).2
      have x53 : A.tmps[53]? = some (.pointer (some ⟨kr, 6, none⟩)) := (hin 2 53 rfl).trans (congrArg some e2)
      clear hd hev hin
      simp only [zzA, zzB]
      clear hl
      refine .inr ⟨rfl, fun K' hK => ?_⟩
      have HK := Lib.hid hK
      clear hK
      have f0 := cl8 (hJ.cm.cs.at' (kr, #[.bool n0.b, .slice n0.a n0.n n0.c, .bool n1.b, .slice n1.a n1.n n1.c, .bool n2.b, .slice n2.a n2.n n2.c, .bool n3.b, .slice n3.a n3.n n3.c], 82) (.tail _ (.tail _ (.head _))))
      have f5 := f0.2.2.2.2.1
      have f6 := f0.2.2.2.2.2
      clear f0
      go_simp
      exact HK.out (.agg #[.bool n3.b, .slice n3.a n3.n n3.c]) _ (hJ.grow hLi (by decide) (by decide) (Below.refl _ _)) (rfl) vyL_same
     ·
      have x7 : A.tmps[7]? = some (.pointer (some ⟨kr + 1, 0, none⟩)) := (hev 7 (by decide)).trans rfl
      clear hd hev hin
      simp only [zzA, zzB]
      clear hl
      refine .inr ⟨rfl, fun K' hK => ?_⟩
      have HK := Lib.hid hK
      clear hK
      have f0 := cl2 (hJ.cm.cs.at' (kr + 1, #[.bool p.b, .slice p.a p.n p.c], 82) (.tail _ (.head _)))
      have f5 := f0.1
      have f6 := f0.2.1
      clear f0
      go_simp
      exact HK.out (.agg #[.bool p.b, .slice p.a p.n p.c]) _ (hJ.grow hLi (by decide) (by decide) (Below.refl _ _)) (rfl) vyL_same
     ·
      have e3 : u 3 = .agg #[.bool n3.b, .slice n3.a n3.n n3.c] := (hd 3 (by decide) (by kernel_rfl)).2
      have x54 : A.tmps[54]? = some (.agg #[.bool n3.b, .slice n3.a n3.n n3.c]) := (hin 3 54 rfl).trans (congrArg some e3)
      have e4 : u 4 = .agg #[.bool p.b, .slice p.a p.n p.c] := (hd 4 (by decide) (by kernel_rfl)).2
      have x55 : A.tmps[55]? = some (.agg #[.bool p.b, .slice p.a p.n p.c]) := (hin 4 55 rfl).trans (congrArg some e4)
      clear hd hev hin
      simp only [zzA, zzB]
      clear hl
      refine .inr ⟨rfl, fun K' hK => ?_⟩
      have HK := Lib.hid hK
      clear hK
      go_simp
      refine (nCmp n3 p W (hJ.cm.cs.num n3 (.tail _ (.tail _ (.tail _ (.tail _ (.tail _ (.head _))))))) (hJ.cm.cs.num p (.tail _ (.head _)))).mono ?_
      rintro e W' ⟨rfl, hB⟩
      exact HK.out (.int .i64 (cmpI n3.z p.z)) _ (hJ.grow hLi (by decide) (by decide) hB) (rfl) (vyL_later hB)
     ·
      have e5 : u 5 = .int .i64 (cmpI n3.z p.z) := (hd 5 (by decide) (by kernel_rfl)).2
      have x56 : A.tmps[56]? = some (.int .i64 (cmpI n3.z p.z)) := (hin 5 56 rfl).trans (congrArg some e5)
      clear hd hev hin
      simp only [zzA, zzB]
      clear hl
      refine .inr ⟨rfl, fun K' hK => ?_⟩
      have HK := Lib.hid hK
      clear hK
      go_simp
      exact HK.out (.int .i64 (cmpI n3.z p.z)) _ (hJ.grow hLi (by decide) (by decide) (Below.refl _ _)) (rfl) vyL_same
    intro L u W hL hJ hd
    have e0 : u 0 = .slice (some ⟨kr, 0, none⟩) 4 4 := hd 0 (by decide)
    have e1 : u 1 = .int .i64 3 := hd 1 (by decide)
    have e2 : u 2 = .pointer (some ⟨kr, 6, none⟩) := hd 2 (by decide)
    have e3 : u 3 = .agg #[.bool n3.b, .slice n3.a n3.n n3.c] := hd 3 (by decide)
    have e4 : u 4 = .agg #[.bool p.b, .slice p.a p.n p.c] := hd 4 (by decide)
    have e5 : u 5 = .int .i64 (cmpI n3.z p.z) := hd 5 (by decide)
    have e6 : u 6 = .int .i64 (cmpI n3.z p.z) := hd 6 (by decide)
    simp only [layS, Act.put, zzC, zzD, zzE, Nat.zero_add, Nat.reduceAdd, List.drop_succ_cons, List.drop_zero, List.drop_nil, e0, e1, e2, e3, e4, e5, e6]
    replace hF : FJ w W kr n0 n1 n2 n3 p q := ⟨hJ.cm.cs, hF.ge⟩
    clear hJ hL hJ0 hd e0 e1 e2 e3 e4 e5 e6
    go_wp2
    generalize hW6 : W = w6 at *
    clear hW6
    obtain ⟨m8, hm8⟩ : ∃ m, m = w6.heap.size := ⟨_, rfl⟩
    have hJ0 : ∀ u, Jy w m8 [(kr + 2, #[.bool q.b, .slice q.a q.n q.c], 82), (kr + 1, #[.bool p.b, .slice p.a p.n p.c], 82), (kr, #[.bool n0.b, .slice n0.a n0.n n0.c, .bool n1.b, .slice n1.a n1.n n1.c, .bool n2.b, .slice n2.a n2.n n2.c, .bool n3.b, .slice n3.a n3.n n3.c], 82), (w.heap.size + 3, #[.bool false, .slice none 0 0], 82), (w.heap.size + 2, #[.bool false, .slice none 0 0], 82)] [q, p, n0, n1, n2, n3] 82 [] [] (fun _ => false) u w6.drew := fun u => by rw [hm8]; exact Jy.start (hF.cs) u
    refine wp_region_y 7 [some 57, some 58, some 59, some 60, some 61, some 62, some 11] (vyL [.eq (.slice (some ⟨kr, 0, none⟩) 4 4), .eq (.int .i64 3), .eq (.pointer (some ⟨kr, 6, none⟩)), .eq (.agg #[.bool n3.b, .slice n3.a n3.n n3.c]), .eq (.agg #[.bool q.b, .slice q.a q.n q.c]), .eq (.int .i64 (cmpI n3.z q.z)), .eq (.int .i64 (cmpI n3.z q.z))]) (Jy w m8 [(kr + 2, #[.bool q.b, .slice q.a q.n q.c], 82), (kr + 1, #[.bool p.b, .slice p.a p.n p.c], 82), (kr, #[.bool n0.b, .slice n0.a n0.n n0.c, .bool n1.b, .slice n1.a n1.n n1.c, .bool n2.b, .slice n2.a n2.n n2.c, .bool n3.b, .slice n3.a n3.n n3.c], 82), (w.heap.size + 3, #[.bool false, .slice none 0 0], 82), (w.heap.size + 2, #[.bool false, .slice none 0 0], 82)] [q, p, n0, n1, n2, n3] 82 [] []) (by kernel_rfl) (by kernel_rfl) (by rfl) (by decide) (by rfl) hJ0 ?_ ?_
    ·
     intro i hl hi L u W A hLi hJ hd hev hin
     obtain rfl | rfl | rfl | rfl | rfl | rfl | rfl : i = 0 ∨ i = 1 ∨ i = 2 ∨ i = 3 ∨ i = 4 ∨ i = 5 ∨ i = 6 := by omega
     ·
      have x6 : A.tmps[6]? = some (.slice (some ⟨kr, 0, none⟩) 4 4) := (hev 6 (by decide)).trans rfl
      clear hd hev hin
      simp only [zzA, zzB]
      clear hl
      refine .inr ⟨rfl, fun K' hK => ?_⟩
      have HK := Lib.hid hK
      clear hK
      go_simp
      exact HK.out (.slice (some ⟨kr, 0, none⟩) 4 4) _ (hJ.grow hLi (by decide) (by decide) (Below.refl _ _)) (rfl) vyL_same
     ·
      have x9 : A.tmps[9]? = some (.int .i64 3) := (hev 9 (by decide)).trans rfl
      clear hd hev hin
      simp only [zzA, zzB]
      clear hl
      refine .inr ⟨rfl, fun K' hK => ?_⟩
      have HK := Lib.hid hK
      clear hK
      go_simp
      exact HK.out (.int .i64 3) _ (hJ.grow hLi (by decide) (by decide) (Below.refl _ _)) (rfl) vyL_same
     ·
      have e0 : u 0 = .slice (some ⟨kr, 0, none⟩) 4 4 := (hd 0 (by decide) (by kernel_rfl)).2
      have x57 : A.tmps[57]? = some (.slice (some ⟨kr, 0, none⟩) 4 4) := (hin 0 57 rfl).trans (congrArg some e0)
      have e1 : u 1 = .int .i64 3 := (hd 1 (by decide) (by kernel_rfl)).2
      have x58 : A.tmps[58]? = some (.int .i64 3) := (hin 1 58 rfl).trans (congrArg some e1)
      clear hd hev hin
      simp only [zzA, zzB]
      clear hl
      refine .inr ⟨rfl, fun K' hK => ?_⟩
      have HK := Lib.hid hK
      clear hK
      go_simp
      exact HK.out (.pointer (some ⟨kr, 6, none⟩)) _ (hJ.grow hLi (by decide) (by decide) (Below.refl _ _)) (rfl) vyL_same
     ·
      have e2 : u 2 = .pointer (some ⟨kr, 6, none⟩) := (hd 2 (by decide) (by kernel_rfl)).2
      have x59 : A.tmps[59]? = some (.pointer (some ⟨kr, 6, none⟩)) := (hin 2 59 rfl).trans (congrArg some e2)
      clear hd hev hin
      simp only [zzA, zzB]
      clear hl
      refine .inr ⟨rfl, fun K' hK => ?_⟩
      have HK := Lib.hid hK
      clear hK
      have f0 := cl8 (hJ.cm.cs.at' (kr, #[.bool n0.b, .slice n0.a n0.n n0.c, .bool n1.b, .slice n1.a n1.n n1.c, .bool n2.b, .slice n2.a n2.n n2.c, .bool n3.b, .slice n3.a n3.n n3.c], 82) (.tail _ (.tail _ (.head _))))
      have f5 := f0.2.2.2.2.1
      have f6 := f0.2.2.2.2.2
      clear f0
      go_simp
      exact HK.out (.agg #[.bool n3.b, .slice n3.a n3.n n3.c]) _ (hJ.grow hLi (by decide) (by decide) (Below.refl _ _)) (rfl) vyL_same
     ·
      have x8 : A.tmps[8]? = some (.pointer (some ⟨kr + 2, 0, none⟩)) := (hev 8 (by decide)).trans rfl
      clear hd hev hin
      simp only [zzA, zzB]
      clear hl
      refine .inr ⟨rfl, fun K' hK => ?_⟩
      have HK := Lib.hid hK
      clear hK
      have f0 := cl2 (hJ.cm.cs.at' (kr + 2, #[.bool q.b, .slice q.a q.n q.c], 82) (.head _))
      have f5 := f0.1
      have f6 := f0.2.1
      clear f0
      go_simp
      exact HK.out (.agg #[.bool q.b, .slice q.a q.n q.c]) _ (hJ.grow hLi (by decide) (by decide) (Below.refl _ _)) (rfl) vyL_same
     ·
      have e3 : u 3 = .agg #[.bool n3.b, .slice n3.a n3.n n3.c] := (hd 3 (by decide) (by kernel_rfl)).2
      have x60 : A.tmps[60]? = some (.agg #[.bool n3.b, .slice n3.a n3.n n3.c]) := (hin 3 60 rfl).trans (congrArg some e3)
      have e4 : u 4 = .agg #[.bool q.b, .slice q.a q.n q.c] := (hd 4 (by decide) (by kernel_rfl)).2
      have x61 : A.tmps[61]? = some (.agg #[.bool q.b, .slice q.a q.n q.c]) := (hin 4 61 rfl).trans (congrArg some e4)
      clear hd hev hin
      simp only [zzA, zzB]
      clear hl
      refine .inr ⟨rfl, fun K' hK => ?_⟩
      have HK := Lib.hid hK
      clear hK
      go_simp
      refine (nCmp n3 q W (hJ.cm.cs.num n3 (.tail _ (.tail _ (.tail _ (.tail _ (.tail _ (.head _))))))) (hJ.cm.cs.num q (.head _))).mono ?_
      rintro e W' ⟨rfl, hB⟩
      exact HK.out (.int .i64 (cmpI n3.z q.z)) _ (hJ.grow hLi (by decide) (by decide) hB) (rfl) (vyL_later hB)
     ·
      have e5 : u 5 = .int .i64 (cmpI n3.z q.z) := (hd 5 (by decide) (by kernel_rfl)).2
      have x62 : A.tmps[62]? = some (.int .i64 (cmpI n3.z q.z)) := (hin 5 62 rfl).trans (congrArg some e5)
      clear hd hev hin
      simp only [zzA, zzB]
      clear hl
      refine .inr ⟨rfl, fun K' hK => ?_⟩
      have HK := Lib.hid hK
      clear hK
      go_simp
      exact HK.out (.int .i64 (cmpI n3.z q.z)) _ (hJ.grow hLi (by decide) (by decide) (Below.refl _ _)) (rfl) vyL_same
    intro L u W hL hJ hd
    have e0 : u 0 = .slice (some ⟨kr, 0, none⟩) 4 4 := hd 0 (by decide)
    have e1 : u 1 = .int .i64 3 := hd 1 (by decide)
    have e2 : u 2 = .pointer (some ⟨kr, 6, none⟩) := hd 2 (by decide)
    have e3 : u 3 = .agg #[.bool n3.b, .slice n3.a n3.n n3.c] := hd 3 (by decide)
    have e4 : u 4 = .agg #[.bool q.b, .slice q.a q.n q.c] := hd 4 (by decide)
    have e5 : u 5 = .int .i64 (cmpI n3.z q.z) := hd 5 (by decide)
    have e6 : u 6 = .int .i64 (cmpI n3.z q.z) := hd 6 (by decide)
    simp only [layS, Act.put, zzC, zzD, zzE, Nat.zero_add, Nat.reduceAdd, List.drop_succ_cons, List.drop_zero, List.drop_nil, e0, e1, e2, e3, e4, e5, e6]
    replace hF : FJ w W kr n0 n1 n2 n3 p q := ⟨hJ.cm.cs, hF.ge⟩
    clear hJ hL hJ0 hd e0 e1 e2 e3 e4 e5 e6
    have r0 := cl8 (hF.cs.at' (kr, #[.bool n0.b, .slice n0.a n0.n n0.c, .bool n1.b, .slice n1.a n1.n n1.c, .bool n2.b, .slice n2.a n2.n n2.c, .bool n3.b, .slice n3.a n3.n n3.c], 82) (.tail _ (.tail _ (.head _))))
    have r5 := r0.2.2.2.2.1
    have r6 := r0.2.2.2.2.2
    have a0 := cl2 (hF.cs.at' (kr + 1, #[.bool p.b, .slice p.a p.n p.c], 82) (.tail _ (.head _)))
    have a1 := a0.1
    have a2 := a0.2.1
    have a3 := a0.2.2.1
    have a4 := a0.2.2.2
    have c0 := cl2 (hF.cs.at' (kr + 2, #[.bool q.b, .slice q.a q.n q.c], 82) (.head _))
    have c1 := c0.1
    have c2 := c0.2.1
    have c3 := c0.2.2.1
    have c4 := c0.2.2.2
    have gn := hF.cs.num n3 (.tail _ (.tail _ (.tail _ (.tail _ (.tail _ (.head _))))))
    clear r0 a0 c0
    by_cases d1 : n3.z < p.z
    ·
     have D1 := cmp_lt0 d1
     by_cases d2 : q.z < n3.z
     ·
      have D2 := cmp_gt0' d2
      have hF1 := hF.putLo gn
      have gn1 := hF1.cs.num n3 (.tail _ (.tail _ (.tail _ (.tail _ (.tail _ (.head _))))))
      have hF2 := hF1.putHi gn1
      clear gn
      have Z1 : Hid (n3.z = min (min (min n0.z n1.z) n2.z) n3.z) := show _ = _ by have := ZP.out; omega
      have Z2 : Hid (n3.z = max (max (max n0.z n1.z) n2.z) n3.z) := show _ = _ by have := ZQ.out; omega
      clear d1 d2
      go_wp2
      go_roundw
      case rel => exact ⟨4, by omega, by omega, rfl, n3, n3, hF2, Z1.out, Z2.out⟩
      case measure => simp [intOf]
     ·
      have D2 := cmp_ngt0' (show n3.z ≤ q.z by omega)
      have hF1 := hF.putLo gn
      clear gn
      have Z1 : Hid (n3.z = min (min (min n0.z n1.z) n2.z) n3.z) := show _ = _ by have := ZP.out; omega
      have Z2 : Hid (q.z = max (max (max n0.z n1.z) n2.z) n3.z) := show _ = _ by have := ZQ.out; omega
      clear d1 d2
      go_wp2
      go_roundw
      case rel => exact ⟨4, by omega, by omega, rfl, n3, q, hF1, Z1.out, Z2.out⟩
      case measure => simp [intOf]
    ·
     have D1 := cmp_nlt0 (show p.z ≤ n3.z by omega)
     by_cases d2 : q.z < n3.z
     ·
      have D2 := cmp_gt0' d2
      have hF2 := hF.putHi gn
      clear gn
      have Z1 : Hid (p.z = min (min (min n0.z n1.z) n2.z) n3.z) := show _ = _ by have := ZP.out; omega
      have Z2 : Hid (n3.z = max (max (max n0.z n1.z) n2.z) n3.z) := show _ = _ by have := ZQ.out; omega
      clear d1 d2
      go_wp2
      go_roundw
      case rel => exact ⟨4, by omega, by omega, rfl, p, n3, hF2, Z1.out, Z2.out⟩
      case measure => simp [intOf]
     ·
      have D2 := cmp_ngt0' (show n3.z ≤ q.z by omega)
      clear gn
      have Z1 : Hid (p.z = min (min (min n0.z n1.z) n2.z) n3.z) := show _ = _ by have := ZP.out; omega
      have Z2 : Hid (q.z = max (max (max n0.z n1.z) n2.z) n3.z) := show _ = _ by have := ZQ.out; omega
      clear d1 d2
      go_wp2
      go_roundw
      case rel => exact ⟨4, by omega, by omega, rfl, p, q, hF, Z1.out, Z2.out⟩
      case measure => simp [intOf]
  ·
   obtain rfl : i = 4 := by omega
   have ZP : Hid (p.z = min (min (min n0.z n1.z) n2.z) n3.z) := show p.z = _ from zp
   have ZQ : Hid (q.z = max (max (max n0.z n1.z) n2.z) n3.z) := show q.z = _ from zq
   clear zp zq
   have hg := hF.ge
   have a0 := cl2 (hF.cs.at' (kr + 1, #[.bool p.b, .slice p.a p.n p.c], 82) (.tail _ (.head _)))
   have a1 := a0.1
   have a2 := a0.2.1
   have c0 := cl2 (hF.cs.at' (kr + 2, #[.bool q.b, .slice q.a q.n q.c], 82) (.head _))
   have c1 := c0.1
   have c2 := c0.2.1
   have B2 : Bx wr 82 (w.heap.size + 2) (.bool false) (.slice none 0 0) := hF.cs.at' (w.heap.size + 2, #[.bool false, .slice none 0 0], 82) (.tail _ (.tail _ (.tail _ (.tail _ (.head _)))))
   have B3' : Bx wr 82 (w.heap.size + 3) (.bool false) (.slice none 0 0) := hF.cs.at' (w.heap.size + 3, #[.bool false, .slice none 0 0], 82) (.tail _ (.tail _ (.tail _ (.head _))))
   have s1 := B2.cells.1
   have s2 := B2.cells.2.1
   have s3 := B2.cells.2.2.1
   have s4 := B2.cells.2.2.2
   have t1 := B3'.cells.1
   have t2 := B3'.cells.2.1
   have t3 := B3'.cells.2.2.1
   have t4 := B3'.cells.2.2.2
   have B3'' := B3'.other (show w.heap.size + 3 ≠ w.heap.size + 2 by omega) (.bool p.b) (.slice p.a p.n p.c)
   have fp := NR.store2 (r := p) (NR.store2 (r := p) (hF.cs.num p (.tail _ (.head _))) B2 (.bool p.b) (.slice p.a p.n p.c)) B3'' (.bool q.b) (.slice q.a q.n q.c)
   have fq := NR.store2 (r := q) (NR.store2 (r := q) (hF.cs.num q (.head _)) B2 (.bool p.b) (.slice p.a p.n p.c)) B3'' (.bool q.b) (.slice q.a q.n q.c)
   have fb := below_o (below_o hF.cs.below (k := w.heap.size + 2) (by omega) 0 1 (.bool p.b) (.slice p.a p.n p.c)) (k := w.heap.size + 3) (by omega) 0 1 (.bool q.b) (.slice q.a q.n q.c)
   have FZ1 : Hid (p.z = min4 x0 y0) := show p.z = _ by rw [ZP.out, HZ0.out, HZ1.out, HZ2.out, HZ3.out]; rfl
   have FZ2 : Hid (q.z = max4 x0 y0) := show q.z = _ by rw [ZQ.out, HZ0.out, HZ1.out, HZ2.out, HZ3.out]; rfl
   have FP : Hid (p.is _ ∧ q.is _ ∧ Below w.heap.size w _) := show _ ∧ _ ∧ _ from ⟨fp, fq, fb⟩
   clear a0 c0 B2 B3' B3'' hF fp fq fb ZP ZQ
   have q1 : w.heap.size + 2 ≠ kr + 1 := by omega
   have q2 : w.heap.size + 2 ≠ kr + 2 := by omega
   have q3 : w.heap.size + 3 ≠ kr + 2 := by omega
   go_wp2
   go_region_with (fail)
   all_goals
    go_wp2
    refine bodyPost_ret (v := .tuple #[.agg #[.bool p.b, .slice p.a p.n p.c], .agg #[.bool q.b, .slice q.a q.n q.c]]) (by simp [results, Tryz.results75, go_sem, s1, s2, t1, t2]) rfl ?_
    exact ⟨p, q, FZ1.out, FZ2.out, rfl, RNum.below FP.out.1 (Below.refl _ _).drew, RNum.below FP.out.2.1 (Below.refl _ _).drew, FP.out.2.2.drew⟩
end Go.Proofs.YtolpfibihialkaaGreat
