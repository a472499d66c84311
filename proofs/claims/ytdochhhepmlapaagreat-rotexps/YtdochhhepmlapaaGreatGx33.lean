/- Parts of the proof. -/
import Derived.Test.YtdochhhepmlapaaGreatGx32
import Derived.Test.YtdochhhepmlapaaGreatGx21
/- The document's sums: the walk of whole. No statement of the seat is proved here. -/
namespace Go.Proofs.YtdochhhepmlapaaGreat
open Go Go.RowKit
set_option maxRecDepth 100000 in
set_option maxHeartbeats 6400000 in
theorem whole_r (n d : NR) (w : World) (hn : n.is w) (hd : d.is w) (h1 : n.z.natAbs < 10 ^ 150) (h2 : d.z.natAbs < 10 ^ 150) (h3 : (n.z * 1048576).natAbs < 10 ^ 160) (h4 : (flo (n.z * 1048576) d.z).natAbs < 10 ^ 150) (hz : d.z ≠ 0) (hs : smallV (flo (n.z * 1048576) d.z) = flo (n.z * 1048576) d.z) :
  Calls Tryz.prog 96 #[.agg #[.bool n.b, .slice n.a n.n n.c, .bool d.b, .slice d.a d.n d.c]] w (PVal (.int .i64 (flo (n.z * 1048576) d.z)) w) := by
 have H1 := Lib.hid h1
 have H2 := Lib.hid h2
 have H3 := Lib.hid h3
 have H4 := Lib.hid h4
 have HZ := Lib.hid hz
 have HS := Lib.hid hs
 have hC : Cs w (w.alloc (.cells #[.bool n.b, .slice n.a n.n n.c, .bool d.b, .slice d.a d.n d.c] 108)) [(w.heap.size, #[.bool n.b, .slice n.a n.n n.c, .bool d.b, .slice d.a d.n d.c], 108)] [n, d] := (((cs_nil w).more hd).more hn).new _ _
 clear h1 h2 h3 h4 hz hs hn hd
 generalize hZ : n.z * 1048576 = Z at *
 generalize hQ : flo Z d.z = q at *
 go_enter Tryz.func96, Tryz.ntmps96
 go_wp2
 generalize hW : w.alloc (.cells #[.bool n.b, .slice n.a n.n n.c, .bool d.b, .slice d.a d.n d.c] 108) = w1 at *
 obtain ⟨m1, hm1⟩ : ∃ m, m = w1.heap.size := ⟨_, rfl⟩
 have hJ0 : ∀ u, Jy w m1 [(w.heap.size, #[.bool n.b, .slice n.a n.n n.c, .bool d.b, .slice d.a d.n d.c], 108)] [n, d] 74 [11, 12] [(13, 11, 8), (14, 12, 9)] (fun _ => false) u w1.drew := fun u => by rw [hm1]; exact Jy.start (hC) u
 refine wp_region_y 16 [some 9, some 10, some 11, some 12, some 13, some 14, some 15, some 8, some 16, some 17, some 18, some 3, some 4, none, none, some 5] (vyL [.eq (.pointer (some ⟨w.heap.size, 0, none⟩)), .eq (.agg #[.bool n.b, .slice n.a n.n n.c]), .num (1048576), .num (Z), .eq (.pointer (some ⟨w.heap.size, 2, none⟩)), .eq (.agg #[.bool d.b, .slice d.a d.n d.c]), .quo (q) (0), .quo (q) (0), .num (q), .some_, .eq (.int .i64 0), .any, .any, .any, .any, .eq (.int .i64 0)]) (Jy w m1 [(w.heap.size, #[.bool n.b, .slice n.a n.n n.c, .bool d.b, .slice d.a d.n d.c], 108)] [n, d] 74 [11, 12] [(13, 11, 8), (14, 12, 9)]) (by kernel_rfl) (by kernel_rfl) (by rfl) (by decide) (by rfl) hJ0 ?_ ?_
 ·
  intro i hl hi L u W A hLi hJ hd hev hin
  obtain rfl | rfl | rfl | rfl | rfl | rfl | rfl | rfl | rfl | rfl | rfl | rfl | rfl | rfl | rfl | rfl : i = 0 ∨ i = 1 ∨ i = 2 ∨ i = 3 ∨ i = 4 ∨ i = 5 ∨ i = 6 ∨ i = 7 ∨ i = 8 ∨ i = 9 ∨ i = 10 ∨ i = 11 ∨ i = 12 ∨ i = 13 ∨ i = 14 ∨ i = 15 := by omega
  ·
   have x1 : A.tmps[1]? = some (.pointer (some ⟨w.heap.size, 0, none⟩)) := (hev 1 (by decide)).trans rfl
   clear hd hev hin
   simp only [List.getElem_cons_succ, List.getElem_cons_zero]
   clear hl
   refine .inr ⟨rfl, fun K' hK => ?_⟩
   have HK := Lib.hid hK
   clear hK
   go_simp
   exact HK.out (.pointer (some ⟨w.heap.size, 0, none⟩)) _ (hJ.grow hLi (by decide) (by decide) (Below.refl _ _)) (rfl) vyL_same
  ·
   have e0 : u 0 = .pointer (some ⟨w.heap.size, 0, none⟩) := (hd 0 (by decide) (by kernel_rfl)).2
   have x9 : A.tmps[9]? = some (.pointer (some ⟨w.heap.size, 0, none⟩)) := (hin 0 9 rfl).trans (congrArg some e0)
   clear hd hev hin
   simp only [List.getElem_cons_succ, List.getElem_cons_zero]
   clear hl
   refine .inr ⟨rfl, fun K' hK => ?_⟩
   have HK := Lib.hid hK
   clear hK
   have hF : F4 W 108 w.heap.size n d := hJ.cm.cs.at' (w.heap.size, #[.bool n.b, .slice n.a n.n n.c, .bool d.b, .slice d.a d.n d.c], 108) (.head _)
   have f5 := hF.cells.1
   have f6 := hF.cells.2.1
   go_simp
   exact HK.out (.agg #[.bool n.b, .slice n.a n.n n.c]) _ (hJ.grow hLi (by decide) (by decide) (Below.refl _ _)) (rfl) vyL_same
  ·
   clear hd hev hin
   simp only [List.getElem_cons_succ, List.getElem_cons_zero]
   clear hl
   refine .inr ⟨rfl, fun K' hK => ?_⟩
   have HK := Lib.hid hK
   clear hK
   go_simp
   refine (nOf 1048576 (by decide) (by decide) W).mono ?_
   rintro e W' ⟨y, hyz, rfl, hy, hB⟩
   exact HK.out (.agg #[.bool y.b, .slice y.a y.n y.c]) _ (hJ.grow hLi (by decide) (by decide) hB) (⟨y.b, y.a, y.n, y.c, rfl, by rw [← hyz]; exact hy⟩) (vyL_later hB)
  ·
   have e1 : u 1 = .agg #[.bool n.b, .slice n.a n.n n.c] := (hd 1 (by decide) (by kernel_rfl)).2
   have x10 : A.tmps[10]? = some (.agg #[.bool n.b, .slice n.a n.n n.c]) := (hin 1 10 rfl).trans (congrArg some e1)
   obtain ⟨b2, a2, n2, c2, e2, g2⟩ := (show VR (1048576) (u 2) W from (hd 2 (by decide) (by kernel_rfl)).2)
   have x11 : A.tmps[11]? = some (.agg #[.bool b2, .slice a2 n2 c2]) := (hin 2 11 rfl).trans (congrArg some e2)
   clear hd hev hin
   simp only [List.getElem_cons_succ, List.getElem_cons_zero]
   clear hl
   refine .inr ⟨rfl, fun K' hK => ?_⟩
   have HK := Lib.hid hK
   clear hK
   go_simp
   refine (show Calls Tryz.prog 74 _ W (PN Z W) by have := nMul n ⟨b2, a2, n2, c2, 1048576⟩ W (hJ.cm.cs.num n (.head _)) g2 (Nat.le_trans (NR.len (hJ.cm.cs.num n (.head _)) H1.out) (by decide)) (Nat.le_trans (NR.len (p := ⟨b2, a2, n2, c2, 1048576⟩) g2 (k := 10) (by show (1048576 : Int).natAbs < _; decide)) (by decide)); rwa [show n.z * (⟨b2, a2, n2, c2, 1048576⟩ : NR).z = Z from hZ] at this).mono ?_
   rintro e W' ⟨y, hyz, rfl, hy, hB⟩
   exact HK.out (.agg #[.bool y.b, .slice y.a y.n y.c]) _ (hJ.grow hLi (by decide) (by decide) hB) (⟨y.b, y.a, y.n, y.c, rfl, by rw [← hyz]; exact hy⟩) (vyL_later hB)
  ·
   have x1 : A.tmps[1]? = some (.pointer (some ⟨w.heap.size, 0, none⟩)) := (hev 1 (by decide)).trans rfl
   clear hd hev hin
   simp only [List.getElem_cons_succ, List.getElem_cons_zero]
   clear hl
   refine .inr ⟨rfl, fun K' hK => ?_⟩
   have HK := Lib.hid hK
   clear hK
   go_simp
   exact HK.out (.pointer (some ⟨w.heap.size, 2, none⟩)) _ (hJ.grow hLi (by decide) (by decide) (Below.refl _ _)) (rfl) vyL_same
  ·
   have e4 : u 4 = .pointer (some ⟨w.heap.size, 2, none⟩) := (hd 4 (by decide) (by kernel_rfl)).2
   have x13 : A.tmps[13]? = some (.pointer (some ⟨w.heap.size, 2, none⟩)) := (hin 4 13 rfl).trans (congrArg some e4)
   clear hd hev hin
   simp only [List.getElem_cons_succ, List.getElem_cons_zero]
   clear hl
   refine .inr ⟨rfl, fun K' hK => ?_⟩
   have HK := Lib.hid hK
   clear hK
   have hF : F4 W 108 w.heap.size n d := hJ.cm.cs.at' (w.heap.size, #[.bool n.b, .slice n.a n.n n.c, .bool d.b, .slice d.a d.n d.c], 108) (.head _)
   have f5 := hF.cells.2.2.1
   have f6 := hF.cells.2.2.2.1
   go_simp
   exact HK.out (.agg #[.bool d.b, .slice d.a d.n d.c]) _ (hJ.grow hLi (by decide) (by decide) (Below.refl _ _)) (rfl) vyL_same
  ·
   obtain ⟨b3, a3, n3, c3, e3, g3⟩ := (show VR (Z) (u 3) W from (hd 3 (by decide) (by kernel_rfl)).2)
   have x12 : A.tmps[12]? = some (.agg #[.bool b3, .slice a3 n3 c3]) := (hin 3 12 rfl).trans (congrArg some e3)
   have e5 : u 5 = .agg #[.bool d.b, .slice d.a d.n d.c] := (hd 5 (by decide) (by kernel_rfl)).2
   have x14 : A.tmps[14]? = some (.agg #[.bool d.b, .slice d.a d.n d.c]) := (hin 5 14 rfl).trans (congrArg some e5)
   clear hd hev hin
   simp only [List.getElem_cons_succ, List.getElem_cons_zero]
   clear hl
   refine .inr ⟨rfl, fun K' hK => ?_⟩
   have HK := Lib.hid hK
   clear hK
   go_simp
   refine (show Calls Tryz.prog 99 _ W (PNQ q 0 W) by have := nQuo ⟨b3, a3, n3, c3, Z⟩ d W g3 (hJ.cm.cs.num d (.tail _ (.head _))) (Nat.le_trans (NR.len (p := ⟨b3, a3, n3, c3, Z⟩) g3 H3.out) (by decide)) (Nat.le_trans (NR.len (hJ.cm.cs.num d (.tail _ (.head _))) H2.out) (by decide)) HZ.out; rwa [show flo (⟨b3, a3, n3, c3, Z⟩ : NR).z d.z = q from hQ] at this).mono ?_
   rintro e W' ⟨y, r, hyz, rfl, hy, hr, hB⟩
   exact HK.out (.tuple #[.agg #[.bool y.b, .slice y.a y.n y.c], .agg #[.bool r.b, .slice r.a r.n r.c], .int .i64 0]) _ (hJ.grow hLi (by decide) (by decide) hB) (⟨y.b, y.a, y.n, y.c, r.z, r.b, r.a, r.n, r.c, rfl, by rw [← hyz]; exact hy, hr⟩) (vyL_later hB)
  ·
   obtain ⟨b6, a6, n6, c6, r6, b6', a6', n6', c6', e6, g6, g6'⟩ := (show VQ (q) (0) (u 6) W from (hd 6 (by decide) (by kernel_rfl)).2)
   have x15 : A.tmps[15]? = some (.tuple #[.agg #[.bool b6, .slice a6 n6 c6], .agg #[.bool b6', .slice a6' n6' c6'], .int .i64 0]) := (hin 6 15 rfl).trans (congrArg some e6)
   clear hd hev hin
   simp only [List.getElem_cons_succ, List.getElem_cons_zero]
   clear hl
   refine .inr ⟨rfl, fun K' hK => ?_⟩
   have HK := Lib.hid hK
   clear hK
   go_simp
   exact HK.out (.tuple #[.agg #[.bool b6, .slice a6 n6 c6], .agg #[.bool b6', .slice a6' n6' c6'], .int .i64 0]) _ (hJ.grow hLi (by decide) (by decide) (Below.refl _ _)) (⟨b6, a6, n6, c6, r6, b6', a6', n6', c6', rfl, g6, g6'⟩) vyL_same
  ·
   obtain ⟨b7, a7, n7, c7, r7, b7', a7', n7', c7', e7, g7, g7'⟩ := (show VQ (q) (0) (u 7) W from (hd 7 (by decide) (by kernel_rfl)).2)
   have x8 : A.tmps[8]? = some (.tuple #[.agg #[.bool b7, .slice a7 n7 c7], .agg #[.bool b7', .slice a7' n7' c7'], .int .i64 0]) := (hin 7 8 rfl).trans (congrArg some e7)
   clear hd hev hin
   simp only [List.getElem_cons_succ, List.getElem_cons_zero]
   clear hl
   refine .inr ⟨rfl, fun K' hK => ?_⟩
   have HK := Lib.hid hK
   clear hK
   go_simp
   exact HK.out (.agg #[.bool b7, .slice a7 n7 c7]) _ (hJ.grow hLi (by decide) (by decide) (Below.refl _ _)) (⟨b7, a7, n7, c7, rfl, g7⟩) vyL_same
  ·
   obtain ⟨b7, a7, n7, c7, r7, b7', a7', n7', c7', e7, g7, g7'⟩ := (show VQ (q) (0) (u 7) W from (hd 7 (by decide) (by kernel_rfl)).2)
   have x8 : A.tmps[8]? = some (.tuple #[.agg #[.bool b7, .slice a7 n7 c7], .agg #[.bool b7', .slice a7' n7' c7'], .int .i64 0]) := (hin 7 8 rfl).trans (congrArg some e7)
   clear hd hev hin
   simp only [List.getElem_cons_succ, List.getElem_cons_zero]
   clear hl
   refine .inr ⟨rfl, fun K' hK => ?_⟩
   have HK := Lib.hid hK
   clear hK
   go_simp
   exact HK.out (.agg #[.bool b7', .slice a7' n7' c7']) _ (hJ.grow hLi (by decide) (by decide) (Below.refl _ _)) (⟨r7, b7', a7', n7', c7', rfl, g7'⟩) vyL_same
  ·
   obtain ⟨b7, a7, n7, c7, r7, b7', a7', n7', c7', e7, g7, g7'⟩ := (show VQ (q) (0) (u 7) W from (hd 7 (by decide) (by kernel_rfl)).2)
   have x8 : A.tmps[8]? = some (.tuple #[.agg #[.bool b7, .slice a7 n7 c7], .agg #[.bool b7', .slice a7' n7' c7'], .int .i64 0]) := (hin 7 8 rfl).trans (congrArg some e7)
   clear hd hev hin
   simp only [List.getElem_cons_succ, List.getElem_cons_zero]
   clear hl
   refine .inr ⟨rfl, fun K' hK => ?_⟩
   have HK := Lib.hid hK
   clear hK
   go_simp
   exact HK.out (.int .i64 0) _ (hJ.grow hLi (by decide) (by decide) (Below.refl _ _)) (rfl) vyL_same
  ·
   clear hd hev hin
   simp only [List.getElem_cons_succ, List.getElem_cons_zero]
   clear hl
   refine .inr ⟨rfl, fun K' hK => ?_⟩
   have HK := Lib.hid hK
   clear hK
   go_simp
   exact HK.out (.pointer (some ⟨W.heap.size, 0, none⟩)) _ (hJ.alloc hLi (by decide)) trivial (vyL_later ((Below.refl _ _).alloc (Nat.le_refl _) _))
  ·
   clear hd hev hin
   simp only [List.getElem_cons_succ, List.getElem_cons_zero]
   clear hl
   refine .inr ⟨rfl, fun K' hK => ?_⟩
   have HK := Lib.hid hK
   clear hK
   go_simp
   exact HK.out (.pointer (some ⟨W.heap.size, 0, none⟩)) _ (hJ.alloc hLi (by decide)) trivial (vyL_later ((Below.refl _ _).alloc (Nat.le_refl _) _))
  ·
   obtain ⟨k11, bk11, ak11, nk11, ck11, e11, ge11, hk11⟩ := hJ.bx 11 (by decide) ((hd 11 (by decide) (by kernel_rfl)).1)
   have x3 : A.tmps[3]? = some (.pointer (some ⟨k11, 0, none⟩)) := (hin 11 3 rfl).trans (congrArg some e11)
   obtain ⟨b8, a8, n8, c8, e8, g8⟩ := (show VR (q) (u 8) W from (hd 8 (by decide) (by kernel_rfl)).2)
   have x16 : A.tmps[16]? = some (.agg #[.bool b8, .slice a8 n8 c8]) := (hin 8 16 rfl).trans (congrArg some e8)
   have hLa := (hd 11 (by decide) (by kernel_rfl)).1
   have hLx := (hd 8 (by decide) (by kernel_rfl)).1
   clear hd hev hin
   simp only [List.getElem_cons_succ, List.getElem_cons_zero]
   clear hl
   refine .inr ⟨rfl, fun K' hK => ?_⟩
   have HK := Lib.hid hK
   clear hK
   have nc0 := hk11.cells.1
   have nc1 := hk11.cells.2.1
   have nc2 := hk11.cells.2.2.1
   have nc3 := hk11.cells.2.2.2
   have HE1 := Lib.hid e11
   have HE2 := Lib.hid e8
   clear e11 e8
   go_simp
   exact HK.out undef _ (hJ.store hLi (by decide) (by decide) (by decide) (by decide) (by decide) hLa hLx HE1.out ge11 hk11 HE2.out) trivial (vyL_store hk11 _ _)
  ·
   obtain ⟨k12, bk12, ak12, nk12, ck12, e12, ge12, hk12⟩ := hJ.bx 12 (by decide) ((hd 12 (by decide) (by kernel_rfl)).1)
   have x4 : A.tmps[4]? = some (.pointer (some ⟨k12, 0, none⟩)) := (hin 12 4 rfl).trans (congrArg some e12)
   obtain ⟨y9, b9, a9, n9, c9, e9, g9⟩ := (show VA (u 9) W from (hd 9 (by decide) (by kernel_rfl)).2)
   have x17 : A.tmps[17]? = some (.agg #[.bool b9, .slice a9 n9 c9]) := (hin 9 17 rfl).trans (congrArg some e9)
   have hLa := (hd 12 (by decide) (by kernel_rfl)).1
   have hLx := (hd 9 (by decide) (by kernel_rfl)).1
   clear hd hev hin
   simp only [List.getElem_cons_succ, List.getElem_cons_zero]
   clear hl
   refine .inr ⟨rfl, fun K' hK => ?_⟩
   have HK := Lib.hid hK
   clear hK
   have nc0 := hk12.cells.1
   have nc1 := hk12.cells.2.1
   have nc2 := hk12.cells.2.2.1
   have nc3 := hk12.cells.2.2.2
   have HE1 := Lib.hid e12
   have HE2 := Lib.hid e9
   clear e12 e9
   go_simp
   exact HK.out undef _ (hJ.store hLi (by decide) (by decide) (by decide) (by decide) (by decide) hLa hLx HE1.out ge12 hk12 HE2.out) trivial (vyL_store hk12 _ _)
  ·
   have e10 : u 10 = .int .i64 0 := (hd 10 (by decide) (by kernel_rfl)).2
   have x18 : A.tmps[18]? = some (.int .i64 0) := (hin 10 18 rfl).trans (congrArg some e10)
   clear hd hev hin
   simp only [List.getElem_cons_succ, List.getElem_cons_zero]
   clear hl
   refine .inr ⟨rfl, fun K' hK => ?_⟩
   have HK := Lib.hid hK
   clear hK
   go_simp
   exact HK.out (.int .i64 0) _ (hJ.grow hLi (by decide) (by decide) (Below.refl _ _)) (rfl) vyL_same
 intro L u W hL hJ hd
 have e0 : u 0 = .pointer (some ⟨w.heap.size, 0, none⟩) := hd 0 (by decide)
 have e1 : u 1 = .agg #[.bool n.b, .slice n.a n.n n.c] := hd 1 (by decide)
 obtain ⟨b2, a2, n2, c2, e2, g2⟩ := (show VR (1048576) (u 2) W from hd 2 (by decide))
 obtain ⟨b3, a3, n3, c3, e3, g3⟩ := (show VR (Z) (u 3) W from hd 3 (by decide))
 have e4 : u 4 = .pointer (some ⟨w.heap.size, 2, none⟩) := hd 4 (by decide)
 have e5 : u 5 = .agg #[.bool d.b, .slice d.a d.n d.c] := hd 5 (by decide)
 obtain ⟨b6, a6, n6, c6, r6, b6', a6', n6', c6', e6, g6, g6'⟩ := (show VQ (q) (0) (u 6) W from hd 6 (by decide))
 obtain ⟨b7, a7, n7, c7, r7, b7', a7', n7', c7', e7, g7, g7'⟩ := (show VQ (q) (0) (u 7) W from hd 7 (by decide))
 obtain ⟨b8, a8, n8, c8, e8, g8⟩ := (show VR (q) (u 8) W from hd 8 (by decide))
 obtain ⟨y9, b9, a9, n9, c9, e9, g9⟩ := (show VA (u 9) W from hd 9 (by decide))
 have e10 : u 10 = .int .i64 0 := hd 10 (by decide)
 obtain ⟨k11, bk11, ak11, nk11, ck11, e11, ge11, hk11⟩ := hJ.bx 11 (by decide) (hL 11 (by decide))
 obtain ⟨k12, bk12, ak12, nk12, ck12, e12, ge12, hk12⟩ := hJ.bx 12 (by decide) (hL 12 (by decide))
 have e15 : u 15 = .int .i64 0 := hd 15 (by decide)
 obtain ⟨_, _, kq13, pq13, qq13, eq1, eq2, hq13⟩ := hJ.st (13, 11, 8) (by decide) (hL 13 (by decide))
 rw [show u (13, 11, 8).2.1 = _ from e11] at eq1
 rw [show u (13, 11, 8).2.2 = _ from e8] at eq2
 injection eq1 with eq1
 injection eq1 with eq1
 injection eq1 with eq1 _ _
 simp only [Value.agg.injEq, Array.mk.injEq, List.cons.injEq, and_true] at eq2
 obtain ⟨rfl, rfl⟩ := eq2
 subst eq1
 obtain ⟨_, _, kq14, pq14, qq14, eq1, eq2, hq14⟩ := hJ.st (14, 12, 9) (by decide) (hL 14 (by decide))
 rw [show u (14, 12, 9).2.1 = _ from e12] at eq1
 rw [show u (14, 12, 9).2.2 = _ from e9] at eq2
 injection eq1 with eq1
 injection eq1 with eq1
 injection eq1 with eq1 _ _
 simp only [Value.agg.injEq, Array.mk.injEq, List.cons.injEq, and_true] at eq2
 obtain ⟨rfl, rfl⟩ := eq2
 subst eq1
 simp only [layS, Act.put, List.setIfInBounds_toArray, List.set_cons_succ, List.set_cons_zero, Nat.zero_add, Nat.reduceAdd, List.drop_succ_cons, List.drop_zero, List.drop_nil, e0, e1, e2, e3, e4, e5, e6, e7, e8, e9, e10, e11, e12, e15]
 have hb := hJ.cm.cs.below
 have c5 := hq13.cells.1
 have c6 := hq13.cells.2.1
 have lq := NR.len (p := ⟨b8, a8, n8, c8, q⟩) g8 H4.out
 have HG := Lib.hid g8
 clear hJ hL hJ0
 clear g2 g3 g6 g7 g8 g9 g6' g7' hq14 hk11 hk12
 go_wp2_with fail
 refine (nSmall ⟨b8, a8, n8, c8, q⟩ _ HG.out (by show n8 ≤ _; omega)).mono ?_
 rintro e w5 ⟨rfl, hB⟩
 have hfin := hb.trans (hB.mono hb.size)
 rw [show smallV (⟨b8, a8, n8, c8, q⟩ : NR).z = q from HS.out]
 go_wp2
 go_ret
 exact ⟨rfl, hfin⟩
end Go.Proofs.YtdochhhepmlapaaGreat

/- The document's sums: the walks of function, A, B, C. No statement of the seat is proved here. -/
namespace Go.Proofs.YtdochhhepmlapaaGreat
open Go Go.RowKit
theorem small_of {q : Int} (h1 : -9223372036854775808 ≤ q) (h2 : q ≤ 9223372036854775807) : smallV q = q := if_pos ⟨h1, h2⟩
theorem tV_ten {c k : Nat} {n : Int} (h0 : 0 ≤ n) (h1 : n ≤ 4194304) (hc : c ≤ 2) (hk : k ≤ 12) : (tV c n k).natAbs < 10 ^ 140 := by
 have h := tV_bd h0 h1 hc hk
 exact Nat.lt_of_lt_of_le h (Nat.le_trans (Nat.pow_le_pow_right (by decide) (show k + 1 ≤ 13 by omega)) (by decide))
theorem uN_ten {c k : Nat} (hc : c ≤ 2) (hk : k ≤ 12) : uN c k < 10 ^ 140 :=
 Nat.lt_of_lt_of_le (uN_lt hc hk) (Nat.le_trans (Nat.pow_le_pow_right (by decide) (show k + 1 ≤ 13 by omega)) (by decide))
theorem t150 {z : Int} (h : z.natAbs < 10 ^ 140) : z.natAbs < 10 ^ 150 := Nat.lt_of_lt_of_le h (Nat.pow_le_pow_right (by decide) (by decide))
theorem t160 {z : Int} (h : z.natAbs < 10 ^ 140) : (z * 1048576).natAbs < 10 ^ 160 := by
 rw [Int.natAbs_mul]
 exact Nat.lt_of_lt_of_le (Nat.mul_lt_mul_of_pos_right h (by decide)) (by
  have e : (10 : Nat) ^ 160 = 10 ^ 140 * 10 ^ 20 := by rw [← Nat.pow_add]
  rw [e]
  exact Nat.mul_le_mul (Nat.le_refl _) (by decide))
theorem t15 {q : Int} (h1 : -228698418577408 ≤ q) (h2 : q ≤ 228698418577408) : q.natAbs < 10 ^ 150 := Nat.lt_of_le_of_lt (show q.natAbs ≤ 228698418577408 by omega) (Nat.lt_of_lt_of_le (show 228698418577408 < 10 ^ 15 by decide) (Nat.pow_le_pow_right (by decide) (by decide)))
/-- whole, of a fraction whose value is known to be small. -/
theorem whole_q (n d : NR) (q : Int) (w : World) (hn : n.is w) (hd : d.is w) (h1 : n.z.natAbs < 10 ^ 140) (h2 : d.z.natAbs < 10 ^ 140) (hp : 0 < d.z) (hq : n.z * 1048576 / d.z = q) (b1 : -228698418577408 ≤ q) (b2 : q ≤ 228698418577408) :
  Calls Tryz.prog 96 #[.agg #[.bool n.b, .slice n.a n.n n.c, .bool d.b, .slice d.a d.n d.c]] w (PVal (.int .i64 q) w) := by
 have e : flo (n.z * 1048576) d.z = q := by rw [flo_pos hp, hq]
 have := whole_r n d w hn hd (t150 h1) (t150 h2) (t160 h1) (by rw [e]; exact t15 b1 b2) (by omega) (by rw [e]; exact small_of (by omega) (by omega))
 rwa [e] at this
set_option maxRecDepth 100000 in
set_option maxHeartbeats 3200000 in
theorem fun_no (c : Nat) (x y : Sp) (hr : ∀ W : World, Calls Tryz.prog 44 #[.agg #[.int .i64 x.lo, .int .i64 x.hi, .bool x.all]] W (PDp y W)) (h : y.all = true ∨ (y.all = false ∧ y.lo < 0) ∨ (y.all = false ∧ 0 ≤ y.lo ∧ 4194304 < y.hi)) (w : World) :
  Calls Tryz.prog 70 #[.agg #[.int .i64 x.lo, .int .i64 x.hi, .bool x.all], .int .i64 (c : Int)] w (PDp lineS w) := by
 have HR := Lib.hid hr
 clear hr
 obtain ⟨l, u, a⟩ := y
 go_enter Tryz.func70, Tryz.ntmps70
 go_wp2_with fail
 have hC := ((cs_nil w).new #[.int .i64 x.lo, .int .i64 x.hi, .bool x.all] 27).new #[.int .i64 0, .int .i64 0, .bool false] 27
 rw [show (w.alloc (.cells #[.int .i64 x.lo, .int .i64 x.hi, .bool x.all] 27)).heap.size = w.heap.size + 1 by simp] at hC
 generalize (w.alloc (.cells #[.int .i64 x.lo, .int .i64 x.hi, .bool x.all] 27)).alloc (.cells #[.int .i64 0, .int .i64 0, .bool false] 27) = w1 at *
 refine (HR.out _).mono ?_
 rintro e w2 ⟨rfl, hB⟩
 replace hC := hC.later hB
 have hD : D3 w2 (w.heap.size + 1) ⟨0, 0, false⟩ := hC.at' _ (.head _)
 have hlt := hC.lt _ (.head _)
 replace hlt : w.heap.size + 1 < w2.heap.size := hlt
 have hb := hC.below
 have c1 := hD.cells.1
 have c2 := hD.cells.2.1
 have c3 := hD.cells.2.2.1
 have c4 := hD.cells.2.2.2.1
 have c5 := hD.cells.2.2.2.2.1
 have c6 := hD.cells.2.2.2.2.2
 clear hC hB
 have fin : ∀ y : Sp, Below w.heap.size w ((((w2.setCell ⟨w.heap.size + 1, 0, none⟩ (.int .i64 0)).setCell ⟨w.heap.size + 1, 1, none⟩ (.int .i64 0)).setCell ⟨w.heap.size + 1, 2, none⟩ (.bool true)).alloc (.cells #[.int .i64 y.lo, .int .i64 y.hi, .bool y.all] 27)) ∧ D3 ((((w2.setCell ⟨w.heap.size + 1, 0, none⟩ (.int .i64 0)).setCell ⟨w.heap.size + 1, 1, none⟩ (.int .i64 0)).setCell ⟨w.heap.size + 1, 2, none⟩ (.bool true)).alloc (.cells #[.int .i64 y.lo, .int .i64 y.hi, .bool y.all] 27)) (w.heap.size + 1) ⟨0, 0, true⟩ := fun y => by
  have h1 : Below w.heap.size w (((w2.setCell ⟨w.heap.size + 1, 0, none⟩ (.int .i64 0)).setCell ⟨w.heap.size + 1, 1, none⟩ (.int .i64 0)).setCell ⟨w.heap.size + 1, 2, none⟩ (.bool true)) := ((hb.setCell (p := ⟨w.heap.size + 1, 0, none⟩) (Nat.le_succ _) _).setCell (p := ⟨w.heap.size + 1, 1, none⟩) (Nat.le_succ _) _).setCell (p := ⟨w.heap.size + 1, 2, none⟩) (Nat.le_succ _) _
  exact ⟨h1.alloc h1.size _, (hD.self ⟨0, 0, true⟩).below ((Below.refl _ _).alloc (Nat.le_refl _) _)⟩
 clear hD
 rcases h with h | ⟨h, h1⟩ | ⟨h, h1, h2⟩
 ·
  replace h : a = true := h
  subst h
  obtain ⟨hf, hd⟩ := fin ⟨l, u, true⟩
  have k1 := hd.cells.1
  have k2 := hd.cells.2.1
  have k3 := hd.cells.2.2.1
  go_wp2
  exact bodyPost_ret (v := .agg #[.int .i64 lineS.lo, .int .i64 lineS.hi, .bool lineS.all]) (by simp [results, Tryz.results70, go_sem, k1, k2, k3, lineS]) rfl ⟨rfl, hf⟩
 ·
  replace h : a = false := h
  replace h1 : l < 0 := h1
  subst h
  obtain ⟨hf, hd⟩ := fin ⟨l, u, false⟩
  have k1 := hd.cells.1
  have k2 := hd.cells.2.1
  have k3 := hd.cells.2.2.1
  have d1 : decide (l < 0) = true := decide_eq_true h1
  go_wp2
  exact bodyPost_ret (v := .agg #[.int .i64 lineS.lo, .int .i64 lineS.hi, .bool lineS.all]) (by simp [results, Tryz.results70, go_sem, k1, k2, k3, lineS]) rfl ⟨rfl, hf⟩
 ·
  replace h : a = false := h
  replace h1 : 0 ≤ l := h1
  replace h2 : 4194304 < u := h2
  subst h
  obtain ⟨hf, hd⟩ := fin ⟨l, u, false⟩
  have k1 := hd.cells.1
  have k2 := hd.cells.2.1
  have k3 := hd.cells.2.2.1
  have d1 : decide (l < 0) = false := decide_eq_false (by omega)
  have d2 : decide (4194304 < u) = true := decide_eq_true h2
  go_wp2
  exact bodyPost_ret (v := .agg #[.int .i64 lineS.lo, .int .i64 lineS.hi, .bool lineS.all]) (by simp [results, Tryz.results70, go_sem, k1, k2, k3, lineS]) rfl ⟨rfl, hf⟩
set_option maxRecDepth 100000 in
set_option maxHeartbeats 3200000 in
theorem fun_yes (c : Nat) (l u : Int) (w : World) (h0 : 0 ≤ l) (h1 : l ≤ u) (h4 : u ≤ 4194304) (hc : c ≤ 2) :
  Calls Tryz.prog 70 #[.agg #[.int .i64 l, .int .i64 u, .bool false], .int .i64 (c : Int)] w (PDp (ofS (loK c u) (hiK c l)) w) := by
 have HR : Hid (∀ W : World, Calls Tryz.prog 44 #[.agg #[.int .i64 l, .int .i64 u, .bool false]] W (PDp ⟨l, u, false⟩ W)) := show ∀ W : World, _ from fun W => by
  have hk : okB ⟨l, u, false⟩ = true := ok_mk (by show _ ≤ l; omega) h1 (by show u ≤ _; omega) rfl
  have := rRight_any ⟨l, u, false⟩ W
  rwa [mkS_ok hk] at this
 have HS1 : Hid (∀ W : World, Calls Tryz.prog 97 #[.int .i64 u, .int .i64 (c : Int), .int .i64 12] W (PFr (tV c u 11) ((uN c 11 : Nat) : Int) W)) := show ∀ W : World, _ from fun W => rsum_any u c 11 W (by omega) (by omega) hc (by omega)
 have HS2 : Hid (∀ W : World, Calls Tryz.prog 97 #[.int .i64 l, .int .i64 (c : Int), .int .i64 13] W (PFr (tV c l 12) ((uN c 12 : Nat) : Int) W)) := show ∀ W : World, _ from fun W => rsum_any l c 12 W (by omega) (by omega) hc (by omega)
 have b1 := loK_bd (c := c) (n := u) (by omega) (by omega) hc
 have b2 := hiK_bd (c := c) (n := l) (by omega) (by omega) hc
 have HW1 : Hid (∀ (n d : NR) (W : World), n.is W → d.is W → n.z = tV c u 11 → d.z = ((uN c 11 : Nat) : Int) → Calls Tryz.prog 96 #[.agg #[.bool n.b, .slice n.a n.n n.c, .bool d.b, .slice d.a d.n d.c]] W (PVal (.int .i64 (loK c u)) W)) := show ∀ (n d : NR) (W : World), _ from fun n d W hn hd zn zd => whole_q n d _ W hn hd (by rw [zn]; exact tV_ten (by omega) (by omega) hc (by omega)) (by rw [zd, Int.natAbs_natCast]; exact uN_ten hc (by omega)) (by rw [zd]; exact uN_pos' c 11) (by rw [zn, zd]; rfl) b1.1 b1.2
 have HW2 : Hid (∀ (n d : NR) (W : World), n.is W → d.is W → n.z = -tV c l 12 → d.z = ((uN c 12 : Nat) : Int) → Calls Tryz.prog 96 #[.agg #[.bool n.b, .slice n.a n.n n.c, .bool d.b, .slice d.a d.n d.c]] W (PVal (.int .i64 (-(tV c l 12 * 1048576) / ((uN c 12 : Nat) : Int))) W)) := show ∀ (n d : NR) (W : World), _ from fun n d W hn hd zn zd => whole_q n d _ W hn hd (by rw [zn, Int.natAbs_neg]; exact tV_ten (by omega) (by omega) hc (by omega)) (by rw [zd, Int.natAbs_natCast]; exact uN_ten hc (by omega)) (by rw [zd]; exact uN_pos' c 12) (by rw [zn, zd, Int.neg_mul]) b2.1 b2.2
 have hw2 : IntKind.i64.wrap (-(-(tV c l 12 * 1048576) / ((uN c 12 : Nat) : Int))) = -(-(tV c l 12 * 1048576) / ((uN c 12 : Nat) : Int)) := IntWalk.i64_in _ (by omega)
 have HO : Hid (∀ W : World, Calls Tryz.prog 38 #[.int .i64 (loK c u), .int .i64 (-(-(tV c l 12 * 1048576) / ((uN c 12 : Nat) : Int)))] W (PDp (ofS (loK c u) (hiK c l)) W)) := show ∀ W : World, _ from fun W => rdOf_any _ _ W
 have d1 : decide (l < 0) = false := decide_eq_false (by omega)
 have d2 : decide (4194304 < u) = false := decide_eq_false (by omega)
 clear b1 b2 h0 h1 h4 hc
 generalize ofS (loK c u) (hiK c l) = z at *
 generalize loK c u = q1 at *
 generalize -(tV c l 12 * 1048576) / ((uN c 12 : Nat) : Int) = q2 at *
 generalize tV c u 11 = X1 at *
 generalize tV c l 12 = X2 at *
 generalize ((uN c 11 : Nat) : Int) = V1 at *
 generalize ((uN c 12 : Nat) : Int) = V2 at *
 go_enter Tryz.func70, Tryz.ntmps70
 go_wp2_with fail
 have hC := ((cs_nil w).new #[.int .i64 l, .int .i64 u, .bool false] 27).new #[.int .i64 0, .int .i64 0, .bool false] 27
 rw [show (w.alloc (.cells #[.int .i64 l, .int .i64 u, .bool false] 27)).heap.size = w.heap.size + 1 by simp] at hC
 generalize (w.alloc (.cells #[.int .i64 l, .int .i64 u, .bool false] 27)).alloc (.cells #[.int .i64 0, .int .i64 0, .bool false] 27) = w1 at *
 refine (HR.out _).mono ?_
 rintro e w2 ⟨rfl, hB⟩
 replace hC := (hC.later hB).new #[.int .i64 l, .int .i64 u, .bool false] 27
 clear hB HR
 go_wp2_with fail
 generalize w2.alloc (.cells #[.int .i64 l, .int .i64 u, .bool false] 27) = w3 at *
 generalize w2.heap.size = kx at *
 refine (HS1.out _).mono ?_
 rintro e w4 ⟨n, d, zn, zd, rfl, hn, hd, hB⟩
 replace hC := hC.later hB
 clear hB HS1
 go_wp2_with fail
 refine (HW1.out n d _ hn hd zn zd).mono ?_
 rintro e w5 ⟨rfl, hB⟩
 replace hC := hC.later hB
 clear hB HW1 hn hd zn zd
 have hX : D3 w5 kx ⟨l, u, false⟩ := hC.at' _ (.head _)
 have x1 := hX.cells.1
 have x2 := hX.cells.2.1
 go_wp2_with fail
 clear x1 x2 hX
 refine (HS2.out _).mono ?_
 rintro e w6 ⟨n2, d2', zn2, zd2, rfl, hn2, hd2, hB⟩
 replace hC := hC.later hB
 clear hB HS2
 have hF := f4_new w6 108 n2 d2'
 have hal : Below w6.heap.size w6 (w6.alloc (.cells #[.bool n2.b, .slice n2.a n2.n n2.c, .bool d2'.b, .slice d2'.a d2'.n d2'.c] 108)) := (Below.refl _ _).alloc (Nat.le_refl _) _
 have hlt := hC.lt _ (.tail _ (.head _))
 replace hlt : w.heap.size + 1 < w6.heap.size := hlt
 replace hC := hC.later hal
 replace hn2 := RNum.below hn2 hal
 replace hd2 := RNum.below hd2 hal
 clear hal
 go_wp2_with fail
 generalize w6.alloc (.cells #[.bool n2.b, .slice n2.a n2.n n2.c, .bool d2'.b, .slice d2'.a d2'.n d2'.c] 108) = w7 at *
 generalize w6.heap.size = kf at *
 refine (nMinus n2 _ hn2).mono ?_
 rintro e w8 ⟨n3, zn3, rfl, hn3, hB⟩
 replace hC := hC.later hB
 replace hF := hF.below hB
 replace hd2 := RNum.below hd2 hB
 clear hB hn2
 have hF3 := hF.fst n3
 have hn4 := NR.store4 hn3 hF 0 1 (.bool n3.b) (.slice n3.a n3.n n3.c)
 have hd4 := NR.store4 (r := d2') hd2 hF 0 1 (.bool n3.b) (.slice n3.a n3.n n3.c)
 have hb4 : Below w.heap.size w ((w8.setCell ⟨kf, 0, none⟩ (.bool n3.b)).setCell ⟨kf, 1, none⟩ (.slice n3.a n3.n n3.c)) := below_o hC.below (by omega) _ _ _ _
 have hR : D3 w8 (w.heap.size + 1) ⟨0, 0, false⟩ := hC.at' _ (.tail _ (.head _))
 have hR4 : D3 ((w8.setCell ⟨kf, 0, none⟩ (.bool n3.b)).setCell ⟨kf, 1, none⟩ (.slice n3.a n3.n n3.c)) (w.heap.size + 1) ⟨0, 0, false⟩ := Cl.far (p := (w.heap.size + 1, #[.int .i64 0, .int .i64 0, .bool false], 27)) hR (show w.heap.size + 1 ≠ kf by omega) _ _
 have f5 := hF.cells.1
 have f6 := hF.cells.2.1
 have f7 := hF.cells.2.2.1
 have f8 := hF.cells.2.2.2.1
 have f9 := hF.cells.2.2.2.2.1
 have f10 := hF.cells.2.2.2.2.2.1
 clear hC hn3 hd2 hR hF
 go_wp2_with fail
 clear f5 f6 f7 f8 f9 f10
 generalize (w8.setCell ⟨kf, 0, none⟩ (.bool n3.b)).setCell ⟨kf, 1, none⟩ (.slice n3.a n3.n n3.c) = w9 at *
 refine (HW2.out n3 d2' _ hn4 hd4 (by rw [zn3, zn2]) zd2).mono ?_
 rintro e w10 ⟨rfl, hB⟩
 replace hb4 := hb4.trans (hB.mono hb4.size)
 replace hR4 := hR4.below hB
 clear hB HW2 hF3 hn4 hd4
 go_wp2_with fail
 refine (HO.out _).mono ?_
 rintro e w11 ⟨rfl, hB⟩
 replace hb4 := hb4.trans (hB.mono hb4.size)
 replace hR4 := hR4.below hB
 clear hB HO
 have c1 := hR4.cells.1
 have c2 := hR4.cells.2.1
 have c3 := hR4.cells.2.2.1
 have c4 := hR4.cells.2.2.2.1
 have c5 := hR4.cells.2.2.2.2.1
 have c6 := hR4.cells.2.2.2.2.2
 have hf : Below w.heap.size w (((w11.setCell ⟨w.heap.size + 1, 0, none⟩ (.int .i64 z.lo)).setCell ⟨w.heap.size + 1, 1, none⟩ (.int .i64 z.hi)).setCell ⟨w.heap.size + 1, 2, none⟩ (.bool z.all)) := ((hb4.setCell (p := ⟨w.heap.size + 1, 0, none⟩) (Nat.le_succ _) _).setCell (p := ⟨w.heap.size + 1, 1, none⟩) (Nat.le_succ _) _).setCell (p := ⟨w.heap.size + 1, 2, none⟩) (Nat.le_succ _) _
 go_wp2
 exact bodyPost_ret (v := .agg #[.int .i64 z.lo, .int .i64 z.hi, .bool z.all]) (by simp [results, Tryz.results70, go_sem, c1, c2, c3]) rfl ⟨rfl, hf⟩
theorem fun_any (c : Nat) (x : Sp) (w : World) (hc : c ≤ 2) : Calls Tryz.prog 70 #[.agg #[.int .i64 x.lo, .int .i64 x.hi, .bool x.all], .int .i64 (c : Int)] w (PDp (encS c x) w) := by
 cases h : inB x fourS
 ·
  rw [enc_out h]
  refine fun_no c x (mkS x) (rRight_any x) ?_ w
  cases hk : okB x
  ·
   left; rw [mkS_no hk]; rfl
  ·
   rw [mkS_ok hk]
   have k := ok_of hk
   by_cases hl : x.lo < 0
   ·
    exact .inr (.inl ⟨k.2.2.2, hl⟩)
   ·
    refine .inr (.inr ⟨k.2.2.2, by omega, ?_⟩)
    refine Int.lt_of_not_ge fun g => ?_
    rw [(in_ok (D := fourS) rfl).2 ⟨hk, by show 0 ≤ x.lo; omega, g⟩] at h
    cases h
 ·
  obtain ⟨hk, h0, h1, h4⟩ := four_of h
  have k := (ok_of hk).2.2.2
  unfold encS
  rw [h, if_pos rfl]
  obtain ⟨l, u, a⟩ := x
  replace k : a = false := k
  subst k
  exact fun_yes c l u w h0 h1 h4 hc
end Go.Proofs.YtdochhhepmlapaaGreat

/- The document's sums: the walks of A, B, C; the laws' doc. No statement of the seat is proved here. -/
namespace Go.Proofs.YtdochhhepmlapaaGreat
open Go Go.RowKit
theorem rdA_any (s : Sp) (w : World) : Calls Tryz.prog 36 #[.agg #[.int .i64 s.lo, .int .i64 s.hi, .bool s.all]] w (PDp (encS 1 s) w) := by
 have HE : Hid (∀ W : World, Calls Tryz.prog 70 #[.agg #[.int .i64 s.lo, .int .i64 s.hi, .bool s.all], .int .i64 1] W (PDp (encS 1 s) W)) := show ∀ W : World, _ from fun W => fun_any 1 s W (by omega)
 generalize encS 1 s = z at *
 go_enter Tryz.func36, Tryz.ntmps36
 go_wp2_with fail
 have hC := ((cs_nil w).new #[.int .i64 s.lo, .int .i64 s.hi, .bool s.all] 27).new #[.int .i64 0, .int .i64 0, .bool false] 27
 rw [show (w.alloc (.cells #[.int .i64 s.lo, .int .i64 s.hi, .bool s.all] 27)).heap.size = w.heap.size + 1 by simp] at hC
 generalize (w.alloc (.cells #[.int .i64 s.lo, .int .i64 s.hi, .bool s.all] 27)).alloc (.cells #[.int .i64 0, .int .i64 0, .bool false] 27) = w1 at *
 refine (HE.out _).mono ?_
 rintro e w2 ⟨rfl, hB⟩
 replace hC := hC.later hB
 have hb := hC.below
 have k := cl3 (hC.at' _ (.head _))
 have c1 := k.1
 have c2 := k.2.1
 have c3 := k.2.2.1
 have c4 := k.2.2.2.1
 have c5 := k.2.2.2.2.1
 have c6 := k.2.2.2.2.2
 clear k hC hB HE
 have hf : Below w.heap.size w (((w2.setCell ⟨w.heap.size + 1, 0, none⟩ (.int .i64 z.lo)).setCell ⟨w.heap.size + 1, 1, none⟩ (.int .i64 z.hi)).setCell ⟨w.heap.size + 1, 2, none⟩ (.bool z.all)) := ((hb.setCell (p := ⟨w.heap.size + 1, 0, none⟩) (Nat.le_succ _) _).setCell (p := ⟨w.heap.size + 1, 1, none⟩) (Nat.le_succ _) _).setCell (p := ⟨w.heap.size + 1, 2, none⟩) (Nat.le_succ _) _
 go_wp2
 exact bodyPost_ret (v := .agg #[.int .i64 z.lo, .int .i64 z.hi, .bool z.all]) (by simp [results, Tryz.results36, go_sem, c1, c2, c3]) rfl ⟨rfl, hf⟩
theorem rdB_any (s : Sp) (w : World) : Calls Tryz.prog 37 #[.agg #[.int .i64 s.lo, .int .i64 s.hi, .bool s.all]] w (PDp (encS 2 s) w) := by
 have HE : Hid (∀ W : World, Calls Tryz.prog 70 #[.agg #[.int .i64 s.lo, .int .i64 s.hi, .bool s.all], .int .i64 2] W (PDp (encS 2 s) W)) := show ∀ W : World, _ from fun W => fun_any 2 s W (by omega)
 generalize encS 2 s = z at *
 go_enter Tryz.func37, Tryz.ntmps37
 go_wp2_with fail
 have hC := ((cs_nil w).new #[.int .i64 s.lo, .int .i64 s.hi, .bool s.all] 27).new #[.int .i64 0, .int .i64 0, .bool false] 27
 rw [show (w.alloc (.cells #[.int .i64 s.lo, .int .i64 s.hi, .bool s.all] 27)).heap.size = w.heap.size + 1 by simp] at hC
 generalize (w.alloc (.cells #[.int .i64 s.lo, .int .i64 s.hi, .bool s.all] 27)).alloc (.cells #[.int .i64 0, .int .i64 0, .bool false] 27) = w1 at *
 refine (HE.out _).mono ?_
 rintro e w2 ⟨rfl, hB⟩
 replace hC := hC.later hB
 have hb := hC.below
 have k := cl3 (hC.at' _ (.head _))
 have c1 := k.1
 have c2 := k.2.1
 have c3 := k.2.2.1
 have c4 := k.2.2.2.1
 have c5 := k.2.2.2.2.1
 have c6 := k.2.2.2.2.2
 clear k hC hB HE
 have hf : Below w.heap.size w (((w2.setCell ⟨w.heap.size + 1, 0, none⟩ (.int .i64 z.lo)).setCell ⟨w.heap.size + 1, 1, none⟩ (.int .i64 z.hi)).setCell ⟨w.heap.size + 1, 2, none⟩ (.bool z.all)) := ((hb.setCell (p := ⟨w.heap.size + 1, 0, none⟩) (Nat.le_succ _) _).setCell (p := ⟨w.heap.size + 1, 1, none⟩) (Nat.le_succ _) _).setCell (p := ⟨w.heap.size + 1, 2, none⟩) (Nat.le_succ _) _
 go_wp2
 exact bodyPost_ret (v := .agg #[.int .i64 z.lo, .int .i64 z.hi, .bool z.all]) (by simp [results, Tryz.results37, go_sem, c1, c2, c3]) rfl ⟨rfl, hf⟩
end Go.Proofs.YtdochhhepmlapaaGreat
