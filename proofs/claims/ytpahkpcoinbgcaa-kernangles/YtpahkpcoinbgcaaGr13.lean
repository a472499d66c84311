/- The document's sums: the walk of whole. No statement of the seat is proved here. -/
import Derived.Test.YtpahkpcoinbgcaaKs
import Derived.Test.YtpahkpcoinbgcaaGr12
import Derived.Test.YtpahkpcoinbgcaaSc
import Derived.Test.YtpahkpcoinbgcaaSd3
namespace Go.Proofs.Ytpahkpcoinbgcaa
open Go Go.RowKit

set_option maxRecDepth 100000 in
set_option maxHeartbeats 6400000 in
theorem whole_r (n d : NR) (w : World) (hn : n.is w) (hd : d.is w) (h1 : n.z.natAbs < 10 ^ 150) (h2 : d.z.natAbs < 10 ^ 150) (h3 : (n.z * 1048576).natAbs < 10 ^ 160) (h4 : (flo (n.z * 1048576) d.z).natAbs < 10 ^ 150) (hz : d.z ≠ 0) (hs : smallV (flo (n.z * 1048576) d.z) = flo (n.z * 1048576) d.z) :
    Calls Try.prog 118 #[.agg #[.bool n.b, .slice n.a n.n n.c, .bool d.b, .slice d.a d.n d.c]] w (PVal (.int .i64 (flo (n.z * 1048576) d.z)) w) := by
  have H1 := Lib.hid h1
  have H2 := Lib.hid h2
  have H3 := Lib.hid h3
  have H4 := Lib.hid h4
  have HZ := Lib.hid hz
  have HS := Lib.hid hs
  have hC : Cs w (w.alloc (.cells #[.bool n.b, .slice n.a n.n n.c, .bool d.b, .slice d.a d.n d.c] 120)) [(w.heap.size, #[.bool n.b, .slice n.a n.n n.c, .bool d.b, .slice d.a d.n d.c], 120)] [n, d] := (((cs_nil w).more hd).more hn).new _ _
  clear h1 h2 h3 h4 hz hs hn hd
  generalize hZ : n.z * 1048576 = Z at *
  generalize hQ : flo Z d.z = q at *
  go_enter Try.func118, Try.ntmps118
  go_wp2
  generalize hW : w.alloc (.cells #[.bool n.b, .slice n.a n.n n.c, .bool d.b, .slice d.a d.n d.c] 120) = w1 at *
  obtain ⟨m1, hm1⟩ : ∃ m, m = w1.heap.size := ⟨_, rfl⟩
  have hJ0 : ∀ u, Jy w m1 [(w.heap.size, #[.bool n.b, .slice n.a n.n n.c, .bool d.b, .slice d.a d.n d.c], 120)] [n, d] 71 [11, 12] [(13, 11, 8), (14, 12, 9)] (fun _ => false) u w1.drew := fun u => by rw [hm1]; exact Jy.start (hC) u
  refine wp_region_y 16 [some 9, some 10, some 11, some 12, some 13, some 14, some 15, some 8, some 16, some 17, some 18, some 3, some 4, none, none, some 5] (vyL [.eq (.pointer (some ⟨w.heap.size, 0, none⟩)), .eq (.agg #[.bool n.b, .slice n.a n.n n.c]), .num (1048576), .num (Z), .eq (.pointer (some ⟨w.heap.size, 2, none⟩)), .eq (.agg #[.bool d.b, .slice d.a d.n d.c]), .quo (q) (0), .quo (q) (0), .num (q), .some_, .eq (.int .i64 0), .any, .any, .any, .any, .eq (.int .i64 0)]) (Jy w m1 [(w.heap.size, #[.bool n.b, .slice n.a n.n n.c, .bool d.b, .slice d.a d.n d.c], 120)] [n, d] 71 [11, 12] [(13, 11, 8), (14, 12, 9)]) (by kernel_rfl) (by kernel_rfl) (by rfl) (by decide) (by rfl) hJ0 ?_ ?_
  · intro i hl hi L u W A hLi hJ hd hev hin
    obtain rfl | rfl | rfl | rfl | rfl | rfl | rfl | rfl | rfl | rfl | rfl | rfl | rfl | rfl | rfl | rfl : i = 0 ∨ i = 1 ∨ i = 2 ∨ i = 3 ∨ i = 4 ∨ i = 5 ∨ i = 6 ∨ i = 7 ∨ i = 8 ∨ i = 9 ∨ i = 10 ∨ i = 11 ∨ i = 12 ∨ i = 13 ∨ i = 14 ∨ i = 15 := by omega
    · skip
      have x1 : A.tmps[1]? = some (.pointer (some ⟨w.heap.size, 0, none⟩)) := (hev 1 (by decide)).trans rfl
      clear hd hev hin
      simp only [List.getElem_cons_succ, List.getElem_cons_zero]
      clear hl
      refine .inr ⟨rfl, fun K' hK => ?_⟩
      have HK := Lib.hid hK
      clear hK
      go_simp
      exact HK.out (.pointer (some ⟨w.heap.size, 0, none⟩)) _ (hJ.grow hLi (by decide) (by decide) (Below.refl _ _)) (rfl) vyL_same
    · skip
      have e0 : u 0 = .pointer (some ⟨w.heap.size, 0, none⟩) := (hd 0 (by decide) (by kernel_rfl)).2
      have x9 : A.tmps[9]? = some (.pointer (some ⟨w.heap.size, 0, none⟩)) := (hin 0 9 rfl).trans (congrArg some e0)
      clear hd hev hin
      simp only [List.getElem_cons_succ, List.getElem_cons_zero]
      clear hl
      refine .inr ⟨rfl, fun K' hK => ?_⟩
      have HK := Lib.hid hK
      clear hK
      have hF : F4 W 120 w.heap.size n d := hJ.cm.cs.at' (w.heap.size, #[.bool n.b, .slice n.a n.n n.c, .bool d.b, .slice d.a d.n d.c], 120) (.head _)
      have f5 := hF.cells.1
      have f6 := hF.cells.2.1
      go_simp
      exact HK.out (.agg #[.bool n.b, .slice n.a n.n n.c]) _ (hJ.grow hLi (by decide) (by decide) (Below.refl _ _)) (rfl) vyL_same
    · skip
      clear hd hev hin
      simp only [List.getElem_cons_succ, List.getElem_cons_zero]
      clear hl
      refine .inr ⟨rfl, fun K' hK => ?_⟩
      have HK := Lib.hid hK
      clear hK
      go_simp
      refine (nOf 1048576 (by decide) (by decide) W).mono ?_
      rintro e W' ⟨y, hyz, rfl, hy, hB⟩
      exact HK.out (.agg #[.bool y.b, .slice y.a y.n y.c]) _ (hJ.grow hLi (by decide) (by decide) hB) (⟨y.b, y.a, y.n, y.c, rfl, by rw [← hyz]; exact hy⟩) (vyL_later hB)
    · skip
      have e1 : u 1 = .agg #[.bool n.b, .slice n.a n.n n.c] := (hd 1 (by decide) (by kernel_rfl)).2
      have x10 : A.tmps[10]? = some (.agg #[.bool n.b, .slice n.a n.n n.c]) := (hin 1 10 rfl).trans (congrArg some e1)
      obtain ⟨b2, a2, n2, c2, e2, g2⟩ := (show VR (1048576) (u 2) W from (hd 2 (by decide) (by kernel_rfl)).2)
      have x11 : A.tmps[11]? = some (.agg #[.bool b2, .slice a2 n2 c2]) := (hin 2 11 rfl).trans (congrArg some e2)
      clear hd hev hin
      simp only [List.getElem_cons_succ, List.getElem_cons_zero]
      clear hl
      refine .inr ⟨rfl, fun K' hK => ?_⟩
      have HK := Lib.hid hK
      clear hK
      go_simp
      refine (show Calls Try.prog 86 _ W (PN Z W) by have := nMul n ⟨b2, a2, n2, c2, 1048576⟩ W (hJ.cm.cs.num n (.head _)) g2 (Nat.le_trans (NR.len (hJ.cm.cs.num n (.head _)) H1.out) (by decide)) (Nat.le_trans (NR.len (p := ⟨b2, a2, n2, c2, 1048576⟩) g2 (k := 10) (by show (1048576 : Int).natAbs < _; decide)) (by decide)); rwa [show n.z * (⟨b2, a2, n2, c2, 1048576⟩ : NR).z = Z from hZ] at this).mono ?_
      rintro e W' ⟨y, hyz, rfl, hy, hB⟩
      exact HK.out (.agg #[.bool y.b, .slice y.a y.n y.c]) _ (hJ.grow hLi (by decide) (by decide) hB) (⟨y.b, y.a, y.n, y.c, rfl, by rw [← hyz]; exact hy⟩) (vyL_later hB)
    · skip
      have x1 : A.tmps[1]? = some (.pointer (some ⟨w.heap.size, 0, none⟩)) := (hev 1 (by decide)).trans rfl
      clear hd hev hin
      simp only [List.getElem_cons_succ, List.getElem_cons_zero]
      clear hl
      refine .inr ⟨rfl, fun K' hK => ?_⟩
      have HK := Lib.hid hK
      clear hK
      go_simp
      exact HK.out (.pointer (some ⟨w.heap.size, 2, none⟩)) _ (hJ.grow hLi (by decide) (by decide) (Below.refl _ _)) (rfl) vyL_same
    · skip
      have e4 : u 4 = .pointer (some ⟨w.heap.size, 2, none⟩) := (hd 4 (by decide) (by kernel_rfl)).2
      have x13 : A.tmps[13]? = some (.pointer (some ⟨w.heap.size, 2, none⟩)) := (hin 4 13 rfl).trans (congrArg some e4)
      clear hd hev hin
      simp only [List.getElem_cons_succ, List.getElem_cons_zero]
      clear hl
      refine .inr ⟨rfl, fun K' hK => ?_⟩
      have HK := Lib.hid hK
      clear hK
      have hF : F4 W 120 w.heap.size n d := hJ.cm.cs.at' (w.heap.size, #[.bool n.b, .slice n.a n.n n.c, .bool d.b, .slice d.a d.n d.c], 120) (.head _)
      have f5 := hF.cells.2.2.1
      have f6 := hF.cells.2.2.2.1
      go_simp
      exact HK.out (.agg #[.bool d.b, .slice d.a d.n d.c]) _ (hJ.grow hLi (by decide) (by decide) (Below.refl _ _)) (rfl) vyL_same
    · skip
      obtain ⟨b3, a3, n3, c3, e3, g3⟩ := (show VR (Z) (u 3) W from (hd 3 (by decide) (by kernel_rfl)).2)
      have x12 : A.tmps[12]? = some (.agg #[.bool b3, .slice a3 n3 c3]) := (hin 3 12 rfl).trans (congrArg some e3)
      have e5 : u 5 = .agg #[.bool d.b, .slice d.a d.n d.c] := (hd 5 (by decide) (by kernel_rfl)).2
      have x14 : A.tmps[14]? = some (.agg #[.bool d.b, .slice d.a d.n d.c]) := (hin 5 14 rfl).trans (congrArg some e5)
      clear hd hev hin
      simp only [List.getElem_cons_succ, List.getElem_cons_zero]
      clear hl
      refine .inr ⟨rfl, fun K' hK => ?_⟩
      have HK := Lib.hid hK
      clear hK
      go_simp
      refine (show Calls Try.prog 107 _ W (PNQ q 0 W) by have := nQuo ⟨b3, a3, n3, c3, Z⟩ d W g3 (hJ.cm.cs.num d (.tail _ (.head _))) (Nat.le_trans (NR.len (p := ⟨b3, a3, n3, c3, Z⟩) g3 H3.out) (by decide)) (Nat.le_trans (NR.len (hJ.cm.cs.num d (.tail _ (.head _))) H2.out) (by decide)) HZ.out; rwa [show flo (⟨b3, a3, n3, c3, Z⟩ : NR).z d.z = q from hQ] at this).mono ?_
      rintro e W' ⟨y, r, hyz, rfl, hy, hr, hB⟩
      exact HK.out (.tuple #[.agg #[.bool y.b, .slice y.a y.n y.c], .agg #[.bool r.b, .slice r.a r.n r.c], .int .i64 0]) _ (hJ.grow hLi (by decide) (by decide) hB) (⟨y.b, y.a, y.n, y.c, r.z, r.b, r.a, r.n, r.c, rfl, by rw [← hyz]; exact hy, hr⟩) (vyL_later hB)
    · skip
      obtain ⟨b6, a6, n6, c6, r6, b6', a6', n6', c6', e6, g6, g6'⟩ := (show VQ (q) (0) (u 6) W from (hd 6 (by decide) (by kernel_rfl)).2)
      have x15 : A.tmps[15]? = some (.tuple #[.agg #[.bool b6, .slice a6 n6 c6], .agg #[.bool b6', .slice a6' n6' c6'], .int .i64 0]) := (hin 6 15 rfl).trans (congrArg some e6)
      clear hd hev hin
      simp only [List.getElem_cons_succ, List.getElem_cons_zero]
      clear hl
      refine .inr ⟨rfl, fun K' hK => ?_⟩
      have HK := Lib.hid hK
      clear hK
      go_simp
      exact HK.out (.tuple #[.agg #[.bool b6, .slice a6 n6 c6], .agg #[.bool b6', .slice a6' n6' c6'], .int .i64 0]) _ (hJ.grow hLi (by decide) (by decide) (Below.refl _ _)) (⟨b6, a6, n6, c6, r6, b6', a6', n6', c6', rfl, g6, g6'⟩) vyL_same
    · skip
      obtain ⟨b7, a7, n7, c7, r7, b7', a7', n7', c7', e7, g7, g7'⟩ := (show VQ (q) (0) (u 7) W from (hd 7 (by decide) (by kernel_rfl)).2)
      have x8 : A.tmps[8]? = some (.tuple #[.agg #[.bool b7, .slice a7 n7 c7], .agg #[.bool b7', .slice a7' n7' c7'], .int .i64 0]) := (hin 7 8 rfl).trans (congrArg some e7)
      clear hd hev hin
      simp only [List.getElem_cons_succ, List.getElem_cons_zero]
      clear hl
      refine .inr ⟨rfl, fun K' hK => ?_⟩
      have HK := Lib.hid hK
      clear hK
      go_simp
      exact HK.out (.agg #[.bool b7, .slice a7 n7 c7]) _ (hJ.grow hLi (by decide) (by decide) (Below.refl _ _)) (⟨b7, a7, n7, c7, rfl, g7⟩) vyL_same
    · skip
      obtain ⟨b7, a7, n7, c7, r7, b7', a7', n7', c7', e7, g7, g7'⟩ := (show VQ (q) (0) (u 7) W from (hd 7 (by decide) (by kernel_rfl)).2)
      have x8 : A.tmps[8]? = some (.tuple #[.agg #[.bool b7, .slice a7 n7 c7], .agg #[.bool b7', .slice a7' n7' c7'], .int .i64 0]) := (hin 7 8 rfl).trans (congrArg some e7)
      clear hd hev hin
      simp only [List.getElem_cons_succ, List.getElem_cons_zero]
      clear hl
      refine .inr ⟨rfl, fun K' hK => ?_⟩
      have HK := Lib.hid hK
      clear hK
      go_simp
      exact HK.out (.agg #[.bool b7', .slice a7' n7' c7']) _ (hJ.grow hLi (by decide) (by decide) (Below.refl _ _)) (⟨r7, b7', a7', n7', c7', rfl, g7'⟩) vyL_same
    · skip
      obtain ⟨b7, a7, n7, c7, r7, b7', a7', n7', c7', e7, g7, g7'⟩ := (show VQ (q) (0) (u 7) W from (hd 7 (by decide) (by kernel_rfl)).2)
      have x8 : A.tmps[8]? = some (.tuple #[.agg #[.bool b7, .slice a7 n7 c7], .agg #[.bool b7', .slice a7' n7' c7'], .int .i64 0]) := (hin 7 8 rfl).trans (congrArg some e7)
      clear hd hev hin
      simp only [List.getElem_cons_succ, List.getElem_cons_zero]
      clear hl
      refine .inr ⟨rfl, fun K' hK => ?_⟩
      have HK := Lib.hid hK
      clear hK
      go_simp
      exact HK.out (.int .i64 0) _ (hJ.grow hLi (by decide) (by decide) (Below.refl _ _)) (rfl) vyL_same
    · skip
      clear hd hev hin
      simp only [List.getElem_cons_succ, List.getElem_cons_zero]
      clear hl
      refine .inr ⟨rfl, fun K' hK => ?_⟩
      have HK := Lib.hid hK
      clear hK
      go_simp
      exact HK.out (.pointer (some ⟨W.heap.size, 0, none⟩)) _ (hJ.alloc hLi (by decide)) trivial (vyL_later ((Below.refl _ _).alloc (Nat.le_refl _) _))
    · skip
      clear hd hev hin
      simp only [List.getElem_cons_succ, List.getElem_cons_zero]
      clear hl
      refine .inr ⟨rfl, fun K' hK => ?_⟩
      have HK := Lib.hid hK
      clear hK
      go_simp
      exact HK.out (.pointer (some ⟨W.heap.size, 0, none⟩)) _ (hJ.alloc hLi (by decide)) trivial (vyL_later ((Below.refl _ _).alloc (Nat.le_refl _) _))
    · skip
      obtain ⟨k11, bk11, ak11, nk11, ck11, e11, ge11, hk11⟩ := hJ.bx 11 (by decide) ((hd 11 (by decide) (by kernel_rfl)).1)
      have x3 : A.tmps[3]? = some (.pointer (some ⟨k11, 0, none⟩)) := (hin 11 3 rfl).trans (congrArg some e11)
      obtain ⟨b8, a8, n8, c8, e8, g8⟩ := (show VR (q) (u 8) W from (hd 8 (by decide) (by kernel_rfl)).2)
      have x16 : A.tmps[16]? = some (.agg #[.bool b8, .slice a8 n8 c8]) := (hin 8 16 rfl).trans (congrArg some e8)
      have hLa := (hd 11 (by decide) (by kernel_rfl)).1
      have hLx := (hd 8 (by decide) (by kernel_rfl)).1
      clear hd hev hin
      simp only [List.getElem_cons_succ, List.getElem_cons_zero]
      clear hl
      refine .inr ⟨rfl, fun K' hK => ?_⟩
      have HK := Lib.hid hK
      clear hK
      have nc0 := hk11.cells.1
      have nc1 := hk11.cells.2.1
      have nc2 := hk11.cells.2.2.1
      have nc3 := hk11.cells.2.2.2
      have HE1 := Lib.hid e11
      have HE2 := Lib.hid e8
      clear e11 e8
      go_simp
      exact HK.out undef _ (hJ.store hLi (by decide) (by decide) (by decide) (by decide) (by decide) hLa hLx HE1.out ge11 hk11 HE2.out) trivial (vyL_store hk11 _ _)
    · skip
      obtain ⟨k12, bk12, ak12, nk12, ck12, e12, ge12, hk12⟩ := hJ.bx 12 (by decide) ((hd 12 (by decide) (by kernel_rfl)).1)
      have x4 : A.tmps[4]? = some (.pointer (some ⟨k12, 0, none⟩)) := (hin 12 4 rfl).trans (congrArg some e12)
      obtain ⟨y9, b9, a9, n9, c9, e9, g9⟩ := (show VA (u 9) W from (hd 9 (by decide) (by kernel_rfl)).2)
      have x17 : A.tmps[17]? = some (.agg #[.bool b9, .slice a9 n9 c9]) := (hin 9 17 rfl).trans (congrArg some e9)
      have hLa := (hd 12 (by decide) (by kernel_rfl)).1
      have hLx := (hd 9 (by decide) (by kernel_rfl)).1
      clear hd hev hin
      simp only [List.getElem_cons_succ, List.getElem_cons_zero]
      clear hl
      refine .inr ⟨rfl, fun K' hK => ?_⟩
      have HK := Lib.hid hK
      clear hK
      have nc0 := hk12.cells.1
      have nc1 := hk12.cells.2.1
      have nc2 := hk12.cells.2.2.1
      have nc3 := hk12.cells.2.2.2
      have HE1 := Lib.hid e12
      have HE2 := Lib.hid e9
      clear e12 e9
      go_simp
      exact HK.out undef _ (hJ.store hLi (by decide) (by decide) (by decide) (by decide) (by decide) hLa hLx HE1.out ge12 hk12 HE2.out) trivial (vyL_store hk12 _ _)
    · skip
      have e10 : u 10 = .int .i64 0 := (hd 10 (by decide) (by kernel_rfl)).2
      have x18 : A.tmps[18]? = some (.int .i64 0) := (hin 10 18 rfl).trans (congrArg some e10)
      clear hd hev hin
      simp only [List.getElem_cons_succ, List.getElem_cons_zero]
      clear hl
      refine .inr ⟨rfl, fun K' hK => ?_⟩
      have HK := Lib.hid hK
      clear hK
      go_simp
      exact HK.out (.int .i64 0) _ (hJ.grow hLi (by decide) (by decide) (Below.refl _ _)) (rfl) vyL_same
  intro L u W hL hJ hd
  have e0 : u 0 = .pointer (some ⟨w.heap.size, 0, none⟩) := hd 0 (by decide)
  have e1 : u 1 = .agg #[.bool n.b, .slice n.a n.n n.c] := hd 1 (by decide)
  obtain ⟨b2, a2, n2, c2, e2, g2⟩ := (show VR (1048576) (u 2) W from hd 2 (by decide))
  obtain ⟨b3, a3, n3, c3, e3, g3⟩ := (show VR (Z) (u 3) W from hd 3 (by decide))
  have e4 : u 4 = .pointer (some ⟨w.heap.size, 2, none⟩) := hd 4 (by decide)
  have e5 : u 5 = .agg #[.bool d.b, .slice d.a d.n d.c] := hd 5 (by decide)
  obtain ⟨b6, a6, n6, c6, r6, b6', a6', n6', c6', e6, g6, g6'⟩ := (show VQ (q) (0) (u 6) W from hd 6 (by decide))
  obtain ⟨b7, a7, n7, c7, r7, b7', a7', n7', c7', e7, g7, g7'⟩ := (show VQ (q) (0) (u 7) W from hd 7 (by decide))
  obtain ⟨b8, a8, n8, c8, e8, g8⟩ := (show VR (q) (u 8) W from hd 8 (by decide))
  obtain ⟨y9, b9, a9, n9, c9, e9, g9⟩ := (show VA (u 9) W from hd 9 (by decide))
  have e10 : u 10 = .int .i64 0 := hd 10 (by decide)
  obtain ⟨k11, bk11, ak11, nk11, ck11, e11, ge11, hk11⟩ := hJ.bx 11 (by decide) (hL 11 (by decide))
  obtain ⟨k12, bk12, ak12, nk12, ck12, e12, ge12, hk12⟩ := hJ.bx 12 (by decide) (hL 12 (by decide))
  have e15 : u 15 = .int .i64 0 := hd 15 (by decide)
  obtain ⟨_, _, kq13, pq13, qq13, eq1, eq2, hq13⟩ := hJ.st (13, 11, 8) (by decide) (hL 13 (by decide))
  rw [show u (13, 11, 8).2.1 = _ from e11] at eq1
  rw [show u (13, 11, 8).2.2 = _ from e8] at eq2
  injection eq1 with eq1
  injection eq1 with eq1
  injection eq1 with eq1 _ _
  simp only [Value.agg.injEq, Array.mk.injEq, List.cons.injEq, and_true] at eq2
  obtain ⟨rfl, rfl⟩ := eq2
  subst eq1
  obtain ⟨_, _, kq14, pq14, qq14, eq1, eq2, hq14⟩ := hJ.st (14, 12, 9) (by decide) (hL 14 (by decide))
  rw [show u (14, 12, 9).2.1 = _ from e12] at eq1
  rw [show u (14, 12, 9).2.2 = _ from e9] at eq2
  injection eq1 with eq1
  injection eq1 with eq1
  injection eq1 with eq1 _ _
  simp only [Value.agg.injEq, Array.mk.injEq, List.cons.injEq, and_true] at eq2
  obtain ⟨rfl, rfl⟩ := eq2
  subst eq1
  simp only [layS, Act.put, List.setIfInBounds_toArray, List.set_cons_succ, List.set_cons_zero, Nat.zero_add, Nat.reduceAdd, List.drop_succ_cons, List.drop_zero, List.drop_nil, e0, e1, e2, e3, e4, e5, e6, e7, e8, e9, e10, e11, e12, e15]
  have hb := hJ.cm.cs.below
  have c5 := hq13.cells.1
  have c6 := hq13.cells.2.1
  have lq := NR.len (p := ⟨b8, a8, n8, c8, q⟩) g8 H4.out
  have HG := Lib.hid g8
  clear hJ hL hJ0
  clear g2 g3 g6 g7 g8 g9 g6' g7' hq14 hk11 hk12
  go_wp2_with fail
  refine (nSmall ⟨b8, a8, n8, c8, q⟩ _ HG.out (by show n8 ≤ _; omega)).mono ?_
  rintro e w5 ⟨rfl, hB⟩
  have hfin := hb.trans (hB.mono hb.size)
  rw [show smallV (⟨b8, a8, n8, c8, q⟩ : NR).z = q from HS.out]
  go_wp2
  go_ret
  exact ⟨rfl, hfin⟩
end Go.Proofs.Ytpahkpcoinbgcaa

/- The document's spans: the walks of Right, Of, Has, In, Join, Meet, Mid, Rad. -/
namespace Go.Proofs.Ytpahkpcoinbgcaa
open Go.RowKit

theorem bel1 (w : World) (o : Obj) : Below w.heap.size w (w.alloc o) := (Below.refl _ _).alloc (Nat.le_refl _) _
theorem bel2 (w : World) (o o' : Obj) : Below w.heap.size w ((w.alloc o).alloc o') := ((Below.refl _ _).alloc (Nat.le_refl _) _).alloc (by simp) _
theorem bel3 (w : World) (o o' o2 : Obj) : Below w.heap.size w (((w.alloc o).alloc o').alloc o2) := (((Below.refl _ _).alloc (Nat.le_refl _) _).alloc (by simp) _).alloc (by simp; omega) _
theorem bel_on {w w1 W : World} (h : Below w.heap.size w w1) (hB : Below w1.heap.size w1 W) : Below w.heap.size w W := h.trans (hB.mono h.size)
theorem bel_al {w W : World} (h : Below w.heap.size w W) (o : Obj) : Below w.heap.size w (W.alloc o) := h.alloc h.size _
set_option maxHeartbeats 800000 in
theorem rRight_any (x : Sp) (w : World) : Calls Try.prog 78 #[.agg #[.int .i64 x.lo, .int .i64 x.hi, .bool x.all]] w (PDp (mkS x) w) := by
  obtain ⟨l, h, a⟩ := x
  cases a
  case true =>
    rw [mkS_no (by unfold okB; simp)]
    go_enter Try.func78, Try.ntmps78
    go_wp2
    exact bodyPost_ret (v := .agg #[.int .i64 0, .int .i64 0, .bool true]) (by simp [results, Try.results78, go_sem]) rfl ⟨rfl, bel2 _ _ _⟩
  by_cases h1 : l < -2147483647
  · rw [mkS_no (by unfold okB; simp; omega)]
    have d1 : decide (l < -2147483647) = true := decide_eq_true h1
    go_enter Try.func78, Try.ntmps78
    go_wp2
    exact bodyPost_ret (v := .agg #[.int .i64 0, .int .i64 0, .bool true]) (by simp [results, Try.results78, go_sem]) rfl ⟨rfl, bel2 _ _ _⟩
  have d1 : decide (l < -2147483647) = false := decide_eq_false h1
  by_cases h2 : 2147483647 < h
  · rw [mkS_no (by unfold okB; simp; omega)]
    have d2 : decide (2147483647 < h) = true := decide_eq_true h2
    go_enter Try.func78, Try.ntmps78
    go_wp2
    exact bodyPost_ret (v := .agg #[.int .i64 0, .int .i64 0, .bool true]) (by simp [results, Try.results78, go_sem]) rfl ⟨rfl, bel2 _ _ _⟩
  have d2 : decide (2147483647 < h) = false := decide_eq_false h2
  by_cases h3 : h < l
  · rw [mkS_no (by unfold okB; simp; omega)]
    have d3 : decide (h < l) = true := decide_eq_true h3
    go_enter Try.func78, Try.ntmps78
    go_wp2
    exact bodyPost_ret (v := .agg #[.int .i64 0, .int .i64 0, .bool true]) (by simp [results, Try.results78, go_sem]) rfl ⟨rfl, bel2 _ _ _⟩
  have d3 : decide (h < l) = false := decide_eq_false h3
  rw [mkS_ok (ok_mk (by show -2147483647 ≤ l; omega) (by show l ≤ h; omega) (by show h ≤ 2147483647; omega) rfl)]
  go_enter Try.func78, Try.ntmps78
  go_wp2
  exact bodyPost_ret (v := .agg #[.int .i64 l, .int .i64 h, .bool false]) (by simp [results, Try.results78, go_sem]) rfl ⟨rfl, bel2 _ _ _⟩
set_option maxHeartbeats 800000 in
theorem rdOf_any (a b : Int) (w : World) : Calls Try.prog 101 #[.int .i64 a, .int .i64 b] w (PDp (ofS a b) w) := by
  have hR : ∀ W : World, Calls Try.prog 78 #[.agg #[.int .i64 (min a b), .int .i64 (max a b), .bool false]] W (PDp (ofS a b) W) := rRight_any ⟨min a b, max a b, false⟩
  generalize ofS a b = z at *
  have HR := Lib.hid hR
  clear hR
  go_enter Try.func101, Try.ntmps101
  go_wp2_with fail
  refine (HR.out _).mono ?_
  rintro e W ⟨rfl, hB⟩
  have hX := (ds1 w 0 0 false).later hB
  obtain ⟨c0, c1, c2, f0, f1, f2⟩ := hX.c0
  go_wp2
  have h := hX.put 0 (by simp) z
  rw [Nat.add_zero] at h
  exact bodyPost_ret (v := .agg #[.int .i64 z.lo, .int .i64 z.hi, .bool z.all]) (by simp [results, Try.results101, go_sem, c0, c1, c2]) rfl ⟨rfl, h.below⟩
set_option maxHeartbeats 1600000 in
theorem rdIn_qall (x y p q : Sp) (HPx : ∀ W : World, Calls Try.prog 78 #[.agg #[.int .i64 x.lo, .int .i64 x.hi, .bool x.all]] W (PDp p W)) (HQx : ∀ W : World, Calls Try.prog 78 #[.agg #[.int .i64 y.lo, .int .i64 y.hi, .bool y.all]] W (PDp q W)) (haq : q.all = true) (w : World) : Calls Try.prog 98 #[.agg #[.int .i64 x.lo, .int .i64 x.hi, .bool x.all], .agg #[.int .i64 y.lo, .int .i64 y.hi, .bool y.all]] w (PVal (.bool true) w) := by
  have HP := Lib.hid HPx
  have HQ := Lib.hid HQx
  clear HPx HQx
  have HAq := Lib.hid haq
  clear haq
  go_enter Try.func98, Try.ntmps98
  go_wp2_with fail
  have hJ := ds2 w x.lo x.hi x.all y.lo y.hi y.all
  generalize (w.alloc (.cells #[.int .i64 x.lo, .int .i64 x.hi, .bool x.all] 25)).alloc (.cells #[.int .i64 y.lo, .int .i64 y.hi, .bool y.all] 25) = w1 at *
  refine (HP.out _).mono ?_
  rintro e W1 ⟨rfl, hB⟩
  replace hJ := hJ.later hB
  clear hB
  have f10 := hJ.c1.1
  have f11 := hJ.c1.2.1
  have f12 := hJ.c1.2.2.1
  have fz1 : w.heap.size + 1 < W1.heap.size := (Array.getElem?_eq_some_iff.1 (hJ.at' 1 y rfl)).1
  have hal := bel1 W1 (.cells #[.int .i64 p.lo, .int .i64 p.hi, .bool p.all] 25)
  replace hJ := hJ.later hal
  have kp := d3_new W1 p
  go_wp2_with fail
  clear f10 f11 f12 fz1 hal
  generalize W1.alloc (.cells #[.int .i64 p.lo, .int .i64 p.hi, .bool p.all] 25) = W2 at *
  generalize W1.heap.size = bp at *
  refine (HQ.out _).mono ?_
  rintro e W3 ⟨rfl, hB⟩
  replace hJ := hJ.later hB
  replace kp := kp.below hB
  clear hB
  have hlp : bp < W3.heap.size := (Array.getElem?_eq_some_iff.1 kp).1
  have p0 := kp.cells.1
  have p1 := kp.cells.2.1
  have p2 := kp.cells.2.2.1
  have hal := bel1 W3 (.cells #[.int .i64 q.lo, .int .i64 q.hi, .bool q.all] 25)
  have hb := bel_al hJ.below (.cells #[.int .i64 q.lo, .int .i64 q.hi, .bool q.all] 25)
  have haq := HAq.out
  rw [haq] at hb
  go_wp2
  go_ret
  exact ⟨rfl, hb⟩
set_option maxHeartbeats 1600000 in
theorem rdIn_pall (x y p q : Sp) (HPx : ∀ W : World, Calls Try.prog 78 #[.agg #[.int .i64 x.lo, .int .i64 x.hi, .bool x.all]] W (PDp p W)) (HQx : ∀ W : World, Calls Try.prog 78 #[.agg #[.int .i64 y.lo, .int .i64 y.hi, .bool y.all]] W (PDp q W)) (haq : q.all = false) (hap : p.all = true) (w : World) : Calls Try.prog 98 #[.agg #[.int .i64 x.lo, .int .i64 x.hi, .bool x.all], .agg #[.int .i64 y.lo, .int .i64 y.hi, .bool y.all]] w (PVal (.bool false) w) := by
  have HP := Lib.hid HPx
  have HQ := Lib.hid HQx
  clear HPx HQx
  have HAq := Lib.hid haq
  clear haq
  have HAp := Lib.hid hap
  clear hap
  go_enter Try.func98, Try.ntmps98
  go_wp2_with fail
  have hJ := ds2 w x.lo x.hi x.all y.lo y.hi y.all
  generalize (w.alloc (.cells #[.int .i64 x.lo, .int .i64 x.hi, .bool x.all] 25)).alloc (.cells #[.int .i64 y.lo, .int .i64 y.hi, .bool y.all] 25) = w1 at *
  refine (HP.out _).mono ?_
  rintro e W1 ⟨rfl, hB⟩
  replace hJ := hJ.later hB
  clear hB
  have f10 := hJ.c1.1
  have f11 := hJ.c1.2.1
  have f12 := hJ.c1.2.2.1
  have fz1 : w.heap.size + 1 < W1.heap.size := (Array.getElem?_eq_some_iff.1 (hJ.at' 1 y rfl)).1
  have hal := bel1 W1 (.cells #[.int .i64 p.lo, .int .i64 p.hi, .bool p.all] 25)
  replace hJ := hJ.later hal
  have kp := d3_new W1 p
  go_wp2_with fail
  clear f10 f11 f12 fz1 hal
  generalize W1.alloc (.cells #[.int .i64 p.lo, .int .i64 p.hi, .bool p.all] 25) = W2 at *
  generalize W1.heap.size = bp at *
  refine (HQ.out _).mono ?_
  rintro e W3 ⟨rfl, hB⟩
  replace hJ := hJ.later hB
  replace kp := kp.below hB
  clear hB
  have hlp : bp < W3.heap.size := (Array.getElem?_eq_some_iff.1 kp).1
  have p0 := kp.cells.1
  have p1 := kp.cells.2.1
  have p2 := kp.cells.2.2.1
  have hal := bel1 W3 (.cells #[.int .i64 q.lo, .int .i64 q.hi, .bool q.all] 25)
  have hb := bel_al hJ.below (.cells #[.int .i64 q.lo, .int .i64 q.hi, .bool q.all] 25)
  have hap := HAp.out
  rw [hap] at p2
  have haq := HAq.out
  rw [haq] at hb
  go_wp2
  go_ret
  exact ⟨rfl, hb⟩
set_option maxHeartbeats 1600000 in
theorem rdIn_lo (x y p q : Sp) (HPx : ∀ W : World, Calls Try.prog 78 #[.agg #[.int .i64 x.lo, .int .i64 x.hi, .bool x.all]] W (PDp p W)) (HQx : ∀ W : World, Calls Try.prog 78 #[.agg #[.int .i64 y.lo, .int .i64 y.hi, .bool y.all]] W (PDp q W)) (haq : q.all = false) (hap : p.all = false) (d1 : decide (q.lo ≤ p.lo) = false) (w : World) : Calls Try.prog 98 #[.agg #[.int .i64 x.lo, .int .i64 x.hi, .bool x.all], .agg #[.int .i64 y.lo, .int .i64 y.hi, .bool y.all]] w (PVal (.bool false) w) := by
  have HP := Lib.hid HPx
  have HQ := Lib.hid HQx
  clear HPx HQx
  have HAq := Lib.hid haq
  clear haq
  have HAp := Lib.hid hap
  clear hap
  go_enter Try.func98, Try.ntmps98
  go_wp2_with fail
  have hJ := ds2 w x.lo x.hi x.all y.lo y.hi y.all
  generalize (w.alloc (.cells #[.int .i64 x.lo, .int .i64 x.hi, .bool x.all] 25)).alloc (.cells #[.int .i64 y.lo, .int .i64 y.hi, .bool y.all] 25) = w1 at *
  refine (HP.out _).mono ?_
  rintro e W1 ⟨rfl, hB⟩
  replace hJ := hJ.later hB
  clear hB
  have f10 := hJ.c1.1
  have f11 := hJ.c1.2.1
  have f12 := hJ.c1.2.2.1
  have fz1 : w.heap.size + 1 < W1.heap.size := (Array.getElem?_eq_some_iff.1 (hJ.at' 1 y rfl)).1
  have hal := bel1 W1 (.cells #[.int .i64 p.lo, .int .i64 p.hi, .bool p.all] 25)
  replace hJ := hJ.later hal
  have kp := d3_new W1 p
  go_wp2_with fail
  clear f10 f11 f12 fz1 hal
  generalize W1.alloc (.cells #[.int .i64 p.lo, .int .i64 p.hi, .bool p.all] 25) = W2 at *
  generalize W1.heap.size = bp at *
  refine (HQ.out _).mono ?_
  rintro e W3 ⟨rfl, hB⟩
  replace hJ := hJ.later hB
  replace kp := kp.below hB
  clear hB
  have hlp : bp < W3.heap.size := (Array.getElem?_eq_some_iff.1 kp).1
  have p0 := kp.cells.1
  have p1 := kp.cells.2.1
  have p2 := kp.cells.2.2.1
  have hal := bel1 W3 (.cells #[.int .i64 q.lo, .int .i64 q.hi, .bool q.all] 25)
  have hb := bel_al hJ.below (.cells #[.int .i64 q.lo, .int .i64 q.hi, .bool q.all] 25)
  have hap := HAp.out
  rw [hap] at p2
  have haq := HAq.out
  rw [haq] at hb
  go_wp2
  go_ret
  exact ⟨rfl, hb⟩
set_option maxHeartbeats 1600000 in
theorem rdIn_hi (x y p q : Sp) (HPx : ∀ W : World, Calls Try.prog 78 #[.agg #[.int .i64 x.lo, .int .i64 x.hi, .bool x.all]] W (PDp p W)) (HQx : ∀ W : World, Calls Try.prog 78 #[.agg #[.int .i64 y.lo, .int .i64 y.hi, .bool y.all]] W (PDp q W)) (haq : q.all = false) (hap : p.all = false) (d1 : decide (q.lo ≤ p.lo) = true) (w : World) : Calls Try.prog 98 #[.agg #[.int .i64 x.lo, .int .i64 x.hi, .bool x.all], .agg #[.int .i64 y.lo, .int .i64 y.hi, .bool y.all]] w (PVal (.bool (decide (p.hi ≤ q.hi))) w) := by
  have HP := Lib.hid HPx
  have HQ := Lib.hid HQx
  clear HPx HQx
  have HAq := Lib.hid haq
  clear haq
  have HAp := Lib.hid hap
  clear hap
  go_enter Try.func98, Try.ntmps98
  go_wp2_with fail
  have hJ := ds2 w x.lo x.hi x.all y.lo y.hi y.all
  generalize (w.alloc (.cells #[.int .i64 x.lo, .int .i64 x.hi, .bool x.all] 25)).alloc (.cells #[.int .i64 y.lo, .int .i64 y.hi, .bool y.all] 25) = w1 at *
  refine (HP.out _).mono ?_
  rintro e W1 ⟨rfl, hB⟩
  replace hJ := hJ.later hB
  clear hB
  have f10 := hJ.c1.1
  have f11 := hJ.c1.2.1
  have f12 := hJ.c1.2.2.1
  have fz1 : w.heap.size + 1 < W1.heap.size := (Array.getElem?_eq_some_iff.1 (hJ.at' 1 y rfl)).1
  have hal := bel1 W1 (.cells #[.int .i64 p.lo, .int .i64 p.hi, .bool p.all] 25)
  replace hJ := hJ.later hal
  have kp := d3_new W1 p
  go_wp2_with fail
  clear f10 f11 f12 fz1 hal
  generalize W1.alloc (.cells #[.int .i64 p.lo, .int .i64 p.hi, .bool p.all] 25) = W2 at *
  generalize W1.heap.size = bp at *
  refine (HQ.out _).mono ?_
  rintro e W3 ⟨rfl, hB⟩
  replace hJ := hJ.later hB
  replace kp := kp.below hB
  clear hB
  have hlp : bp < W3.heap.size := (Array.getElem?_eq_some_iff.1 kp).1
  have p0 := kp.cells.1
  have p1 := kp.cells.2.1
  have p2 := kp.cells.2.2.1
  have hal := bel1 W3 (.cells #[.int .i64 q.lo, .int .i64 q.hi, .bool q.all] 25)
  have hb := bel_al hJ.below (.cells #[.int .i64 q.lo, .int .i64 q.hi, .bool q.all] 25)
  have hap := HAp.out
  rw [hap] at p2
  have haq := HAq.out
  rw [haq] at hb
  go_wp2
  go_ret
  exact ⟨rfl, hb⟩
theorem rdIn_any (x y : Sp) (w : World) : Calls Try.prog 98 #[.agg #[.int .i64 x.lo, .int .i64 x.hi, .bool x.all], .agg #[.int .i64 y.lo, .int .i64 y.hi, .bool y.all]] w (PVal (.bool (inB x y)) w) := by
  have hp := rRight_any x
  have hq := rRight_any y
  unfold inB
  cases hy : okB y
  · rw [mkS_no hy] at hq
    exact rdIn_qall x y _ _ hp hq rfl w
  · rw [mkS_ok hy] at hq
    have ky := (ok_of hy).2.2.2
    cases hx : okB x
    · rw [mkS_no hx] at hp
      exact rdIn_pall x y _ _ hp hq ky rfl w
    · rw [mkS_ok hx] at hp
      have kx := (ok_of hx).2.2.2
      cases hd : decide (y.lo ≤ x.lo)
      · exact rdIn_lo x y _ _ hp hq ky kx hd w
      · have := rdIn_hi x y _ _ hp hq ky kx hd w
        simpa using this
/-- A span of the document's and whether there is one are handed back. -/
def PDp2 (x : Sp) (b : Bool) (w : World) (e : Ending) (w' : World) : Prop := e = .returned (.tuple #[.agg #[.int .i64 x.lo, .int .i64 x.hi, .bool x.all], .bool b]) ∧ Below w.heap.size w w'
set_option maxHeartbeats 1600000 in
theorem rdMid_w (x p : Sp) (HPx : ∀ W : World, Calls Try.prog 78 #[.agg #[.int .i64 x.lo, .int .i64 x.hi, .bool x.all]] W (PDp p W)) (k1 : -2147483647 ≤ p.lo) (k2 : p.lo ≤ p.hi) (k3 : p.hi ≤ 2147483647) (w : World) : Calls Try.prog 99 #[.agg #[.int .i64 x.lo, .int .i64 x.hi, .bool x.all]] w (PVal (.int .i64 ((p.lo + p.hi) / 2)) w) := by
  have HP := Lib.hid HPx
  clear HPx
  go_enter Try.func99, Try.ntmps99
  go_wp2_with fail
  refine (HP.out _).mono ?_
  rintro e W1 ⟨rfl, hB⟩
  have hb := bel_al (bel_on (bel1 w _) hB) (.cells #[.int .i64 p.lo, .int .i64 p.hi, .bool p.all] 25)
  have kp := d3_new W1 p
  clear hB
  have hq := tq (p.lo + p.hi) 2
  have ha := tr_abs (p.lo + p.hi) 2 (by decide)
  have hps := tr_pos (p.lo + p.hi) 2
  have hng := tr_neg (p.lo + p.hi) 2
  rcases Int.lt_or_le (p.lo + p.hi) 0 with hs | hs
  · have d1 : decide (p.lo + p.hi < 0) = true := decide_eq_true hs
    have hn := hng (by omega)
    obtain ⟨r, hr⟩ : ∃ r, (p.lo + p.hi).tmod 2 = r := ⟨_, rfl⟩
    obtain ⟨q, hqq⟩ : ∃ r, (p.lo + p.hi).tdiv 2 = r := ⟨_, rfl⟩
    rw [hr] at ha hn hq
    rw [hqq] at hq
    clear hps hng
    by_cases h0 : r = 0
    · have e0 : (r != 0) = false := by simpa using h0
      have HE : Hid (q = (p.lo + p.hi) / 2) := show q = _ by omega
      have q1 : -2147483648 ≤ q := by omega
      have q2 : q ≤ 2147483648 := by omega
      clear hq ha hn h0
      go_wp2
      go_ret
      exact ⟨ret_int (by rw [← HE.out]), hb⟩
    · have e0 : (r != 0) = true := by simpa using h0
      have HE : Hid (q - 1 = (p.lo + p.hi) / 2) := show q - 1 = _ by omega
      have q1 : -2147483648 ≤ q := by omega
      have q2 : q ≤ 2147483648 := by omega
      clear hq ha hn h0
      go_wp2
      go_ret
      exact ⟨ret_int (by rw [← HE.out]), hb⟩
  · have d1 : decide (p.lo + p.hi < 0) = false := decide_eq_false (by omega)
    clear hq ha hps hng
    go_wp2
    go_ret
    exact ⟨rfl, hb⟩
theorem rdMid_any (x : Sp) (w : World) : Calls Try.prog 99 #[.agg #[.int .i64 x.lo, .int .i64 x.hi, .bool x.all]] w (PVal (.int .i64 (midS x)) w) := by
  unfold midS
  have h := rdMid_w x _ (rRight_any x)
  cases hx : okB x
  · rw [mkS_no hx] at h
    exact h (by decide) (by decide) (by decide) w
  · obtain ⟨k1, k2, k3, k4⟩ := ok_of hx
    rw [mkS_ok hx] at h
    exact h k1 k2 k3 w
set_option maxHeartbeats 1600000 in
theorem rdRad_no (x p : Sp) (HPx : ∀ W : World, Calls Try.prog 78 #[.agg #[.int .i64 x.lo, .int .i64 x.hi, .bool x.all]] W (PDp p W)) (hap : p.all = true) (w : World) : Calls Try.prog 100 #[.agg #[.int .i64 x.lo, .int .i64 x.hi, .bool x.all]] w (PVal (.int .i64 2147483647) w) := by
  have HA := Lib.hid hap
  clear hap
  have HP := Lib.hid HPx
  clear HPx
  go_enter Try.func100, Try.ntmps100
  go_wp2_with fail
  refine (HP.out _).mono ?_
  rintro e W1 ⟨rfl, hB⟩
  have hb := bel_al (bel_on (bel1 w _) hB) (.cells #[.int .i64 p.lo, .int .i64 p.hi, .bool p.all] 25)
  have kp := d3_new W1 p
  clear hB
  have hap := HA.out
  rw [hap] at hb
  go_wp2
  go_ret
  exact ⟨rfl, hb⟩
set_option maxHeartbeats 1600000 in
theorem rdRad_ok (x p : Sp) (m : Int) (HPx : ∀ W : World, Calls Try.prog 78 #[.agg #[.int .i64 x.lo, .int .i64 x.hi, .bool x.all]] W (PDp p W)) (HMx : ∀ W : World, Calls Try.prog 99 #[.agg #[.int .i64 p.lo, .int .i64 p.hi, .bool false]] W (PVal (.int .i64 m) W)) (hap : p.all = false) (k1 : -2147483647 ≤ p.hi) (k2 : p.hi ≤ 2147483647) (k3 : -2147483647 ≤ m) (k4 : m ≤ 2147483647) (w : World) : Calls Try.prog 100 #[.agg #[.int .i64 x.lo, .int .i64 x.hi, .bool x.all]] w (PVal (.int .i64 (p.hi - m)) w) := by
  have HA := Lib.hid hap
  have HM := Lib.hid HMx
  clear hap HMx
  have HP := Lib.hid HPx
  clear HPx
  go_enter Try.func100, Try.ntmps100
  go_wp2_with fail
  refine (HP.out _).mono ?_
  rintro e W1 ⟨rfl, hB⟩
  have hb := bel_al (bel_on (bel1 w _) hB) (.cells #[.int .i64 p.lo, .int .i64 p.hi, .bool p.all] 25)
  have kp := d3_new W1 p
  clear hB
  have hap := HA.out
  rw [hap] at hb
  clear kp
  have kp := d3_new W1 ⟨p.lo, p.hi, false⟩
  go_wp2
  generalize W1.alloc (.cells #[.int .i64 p.lo, .int .i64 p.hi, .bool false] 25) = W2 at *
  generalize W1.heap.size = bp at *
  clear hap
  refine wp_region_vals 6 [some 8, some 9, some 10, some 11, some 12, some 2] (lstV [.pointer (some ⟨bp, 1, none⟩), .int .i64 p.hi, .agg #[.int .i64 p.lo, .int .i64 p.hi, .bool false], .int .i64 m, .int .i64 (p.hi - m), .int .i64 (p.hi - m)]) (fun W => Below w.heap.size w W ∧ D3 W bp ⟨p.lo, p.hi, false⟩) (by kernel_rfl) (by kernel_rfl) (by decide) (⟨hb.drew, kp⟩) ?_ ?_
  · intro i hl hi u W hJ hd
    obtain rfl | rfl | rfl | rfl | rfl | rfl : i = 0 ∨ i = 1 ∨ i = 2 ∨ i = 3 ∨ i = 4 ∨ i = 5 := by omega
    · skip
      clear hd
      simp only [List.getElem_cons_succ, List.getElem_cons_zero]
      clear hl
      refine .inr ⟨rfl, fun K' hK => ?_⟩
      have HK := Lib.hid hK
      clear hK
      simp only [layS, Act.put, List.setIfInBounds_toArray, List.set_cons_succ, List.set_cons_zero, Nat.zero_add, Nat.reduceAdd]
      have hw : IntKind.i64.wrap (p.hi - m) = p.hi - m := IntWalk.i64_in _ (by omega)
      have c0 := hJ.2.cells.1
      have c1 := hJ.2.cells.2.1
      have c2 := hJ.2.cells.2.2.1
      go_simp
      exact HK.out _ _ (by simp [layS, updV, lstV, Act.put]) hJ
    · have e0 : u 0 = .pointer (some ⟨bp, 1, none⟩) := hd 0 (by kernel_rfl)
      clear hd
      simp only [List.getElem_cons_succ, List.getElem_cons_zero]
      clear hl
      refine .inr ⟨rfl, fun K' hK => ?_⟩
      have HK := Lib.hid hK
      clear hK
      simp only [layS, Act.put, List.setIfInBounds_toArray, List.set_cons_succ, List.set_cons_zero, Nat.zero_add, Nat.reduceAdd, e0]
      have E0 := Lib.hid e0
      clear e0
      have hw : IntKind.i64.wrap (p.hi - m) = p.hi - m := IntWalk.i64_in _ (by omega)
      have c0 := hJ.2.cells.1
      have c1 := hJ.2.cells.2.1
      have c2 := hJ.2.cells.2.2.1
      go_simp
      exact HK.out _ _ (by simp [layS, updV, lstV, Act.put, E0.out]) hJ
    · skip
      clear hd
      simp only [List.getElem_cons_succ, List.getElem_cons_zero]
      clear hl
      refine .inr ⟨rfl, fun K' hK => ?_⟩
      have HK := Lib.hid hK
      clear hK
      simp only [layS, Act.put, List.setIfInBounds_toArray, List.set_cons_succ, List.set_cons_zero, Nat.zero_add, Nat.reduceAdd]
      have hw : IntKind.i64.wrap (p.hi - m) = p.hi - m := IntWalk.i64_in _ (by omega)
      have c0 := hJ.2.cells.1
      have c1 := hJ.2.cells.2.1
      have c2 := hJ.2.cells.2.2.1
      go_simp
      exact HK.out _ _ (by simp [layS, updV, lstV, Act.put]) hJ
    · have e2 : u 2 = .agg #[.int .i64 p.lo, .int .i64 p.hi, .bool false] := hd 2 (by kernel_rfl)
      clear hd
      simp only [List.getElem_cons_succ, List.getElem_cons_zero]
      clear hl
      refine .inr ⟨rfl, fun K' hK => ?_⟩
      have HK := Lib.hid hK
      clear hK
      simp only [layS, Act.put, List.setIfInBounds_toArray, List.set_cons_succ, List.set_cons_zero, Nat.zero_add, Nat.reduceAdd, e2]
      have E2 := Lib.hid e2
      clear e2
      have hw : IntKind.i64.wrap (p.hi - m) = p.hi - m := IntWalk.i64_in _ (by omega)
      have c0 := hJ.2.cells.1
      have c1 := hJ.2.cells.2.1
      have c2 := hJ.2.cells.2.2.1
      go_simp
      refine (HM.out W).mono ?_
      rintro e W' ⟨rfl, hB⟩
      exact HK.out _ _ (by simp [layS, updV, lstV, Act.put, E2.out]) (⟨bel_on hJ.1 hB, hJ.2.below hB⟩)
    · have e1 : u 1 = .int .i64 p.hi := hd 1 (by kernel_rfl)
      have e3 : u 3 = .int .i64 m := hd 3 (by kernel_rfl)
      clear hd
      simp only [List.getElem_cons_succ, List.getElem_cons_zero]
      clear hl
      refine .inr ⟨rfl, fun K' hK => ?_⟩
      have HK := Lib.hid hK
      clear hK
      simp only [layS, Act.put, List.setIfInBounds_toArray, List.set_cons_succ, List.set_cons_zero, Nat.zero_add, Nat.reduceAdd, e1, e3]
      have E1 := Lib.hid e1
      have E3 := Lib.hid e3
      clear e1 e3
      have hw : IntKind.i64.wrap (p.hi - m) = p.hi - m := IntWalk.i64_in _ (by omega)
      have c0 := hJ.2.cells.1
      have c1 := hJ.2.cells.2.1
      have c2 := hJ.2.cells.2.2.1
      go_simp
      exact HK.out _ _ (by simp [layS, updV, lstV, Act.put, E1.out, E3.out]) hJ
    · have e4 : u 4 = .int .i64 (p.hi - m) := hd 4 (by kernel_rfl)
      clear hd
      simp only [List.getElem_cons_succ, List.getElem_cons_zero]
      clear hl
      refine .inr ⟨rfl, fun K' hK => ?_⟩
      have HK := Lib.hid hK
      clear hK
      simp only [layS, Act.put, List.setIfInBounds_toArray, List.set_cons_succ, List.set_cons_zero, Nat.zero_add, Nat.reduceAdd, e4]
      have E4 := Lib.hid e4
      clear e4
      have hw : IntKind.i64.wrap (p.hi - m) = p.hi - m := IntWalk.i64_in _ (by omega)
      have c0 := hJ.2.cells.1
      have c1 := hJ.2.cells.2.1
      have c2 := hJ.2.cells.2.2.1
      go_simp
      exact HK.out _ _ (by simp [layS, updV, lstV, Act.put, E4.out]) hJ
  intro W hJ
  simp only [layS, lstV, Act.put, List.setIfInBounds_toArray, List.set_cons_succ, List.set_cons_zero, Nat.zero_add, Nat.reduceAdd, List.getD_cons_zero, List.getD_cons_succ, List.drop_succ_cons, List.drop_zero, List.drop_nil]
  go_wp2
  go_ret
  exact ⟨rfl, hJ.1⟩
theorem rdRad_any (x : Sp) (w : World) : Calls Try.prog 100 #[.agg #[.int .i64 x.lo, .int .i64 x.hi, .bool x.all]] w (PVal (.int .i64 (radS x)) w) := by
  unfold radS
  cases hx : okB x
  · have h := rRight_any x
    rw [mkS_no hx] at h
    exact rdRad_no x _ h rfl w
  · obtain ⟨k1, k2, k3, k4⟩ := ok_of hx
    have h := rRight_any x
    rw [mkS_ok hx] at h
    have hm := rdMid_any x
    rw [k4] at hm
    have hb := mid_bd x
    have := rdRad_ok x x (midS x) h hm k4 (by omega) k3 hb.1 hb.2 w
    unfold midS at this
    rw [hx] at this
    exact this
set_option maxHeartbeats 400000 in
theorem doc_any (x : Sp) (w : World) : Calls Try.prog 13 #[.agg #[.int .i64 x.lo, .int .i64 x.hi, .bool x.all]] w (PDp x w) := by
  go_enter Try.func13, Try.ntmps13
  go_wp2
  exact bodyPost_ret (v := .agg #[.int .i64 x.lo, .int .i64 x.hi, .bool x.all]) (by simp [results, Try.results13, go_sem]) rfl ⟨rfl, bel2 _ _ _⟩
end Go.Proofs.Ytpahkpcoinbgcaa
