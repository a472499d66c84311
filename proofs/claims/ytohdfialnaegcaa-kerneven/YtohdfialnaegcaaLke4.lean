/- The walk of the law KernEven. -/
import Derived.Test.YtohdfialnaegcaaLke
import Derived.Test.YtohdfialnaegcaaKb
namespace Go.Proofs.Ytohdfialnaegcaa
open Go.RowKit
attribute [local go_sem ↓] run_eqlS run_neqS

set_option maxRecDepth 100000 in
set_option maxHeartbeats 12800000 in
theorem Even_4 (k : Int) (a n b c uu z1 z2 : Sp) (hHaw : ∀ W : World, Calls Try.prog 28 #[] W (PVal (.bool true) W)) (hHa : ∀ W : World, Calls Try.prog 36 #[.agg #[.int .i64 k, .int .i64 k, .bool false]] W (PSp a W)) (hHn : ∀ W : World, Calls Try.prog 22 #[.agg #[.int .i64 k, .int .i64 k, .bool false]] W (PSp n W)) (hHb : ∀ W : World, Calls Try.prog 36 #[.agg #[.int .i64 n.lo, .int .i64 n.hi, .bool n.all]] W (PSp b W)) (hHc : ∀ W : World, Calls Try.prog 37 #[.agg #[.int .i64 k, .int .i64 k, .bool false]] W (PSp c W)) (hHd : ∀ W : World, Calls Try.prog 37 #[.agg #[.int .i64 n.lo, .int .i64 n.hi, .bool n.all]] W (PSp c W)) (hHna : ∀ W : World, Calls Try.prog 22 #[.agg #[.int .i64 a.lo, .int .i64 a.hi, .bool a.all]] W (PSp b W)) (hHu : ∀ W : World, Calls Try.prog 40 #[.int .i64 (-1048576), .int .i64 1048576] W (PSp uu W)) (hHm1 : ∀ W : World, Calls Try.prog 42 #[.agg #[.int .i64 a.lo, .int .i64 a.hi, .bool a.all], .agg #[.int .i64 uu.lo, .int .i64 uu.hi, .bool uu.all]] W (PSp2 z1 true W)) (hHm2 : ∀ W : World, Calls Try.prog 42 #[.agg #[.int .i64 c.lo, .int .i64 c.hi, .bool c.all], .agg #[.int .i64 uu.lo, .int .i64 uu.hi, .bool uu.all]] W (PSp2 z2 true W)) (d2 : decide (k < -2097152) = false) (d3 : decide (2097152 < k) = false) (hw1 : IntKind.i64.wrap (a.hi - a.lo) = a.hi - a.lo) (hw2 : IntKind.i64.wrap (c.hi - c.lo) = c.hi - c.lo) (d4 : decide (a.hi - a.lo ≤ 6) = true) (d5 : decide (c.hi - c.lo ≤ 6) = true) (w : World) : Calls Try.prog 11 #[.agg #[.int .i64 k, .int .i64 k, .bool false]] w (PVal (.bool true) w) := by
  have Haw := Lib.hid hHaw
  have Ha := Lib.hid hHa
  have Hn := Lib.hid hHn
  have Hb := Lib.hid hHb
  have Hc := Lib.hid hHc
  have Hd := Lib.hid hHd
  have Hna := Lib.hid hHna
  have Hu := Lib.hid hHu
  have Hm1 := Lib.hid hHm1
  have Hm2 := Lib.hid hHm2
  clear hHaw hHa hHn hHb hHc hHd hHna hHu hHm1 hHm2
  have hqb : eqS b.lo b.hi b.all b.lo b.hi b.all = true := eqS_same _ _ _
  have hqc : eqS c.lo c.hi c.all c.lo c.hi c.all = true := eqS_same _ _ _
  have D4 := Lib.hid d4
  have D5 := Lib.hid d5
  have HW1 := Lib.hid hw1
  have HW2 := Lib.hid hw2
  clear d4 d5 hw1 hw2
  have hJ := bl_nil w
  go_enter Try.func11, Try.ntmps11
  go_wp2_with fail
  replace hJ := hJ.new (⟨k, k, false⟩ : Sp)
  generalize hW0 : (w).alloc (.cells #[.int .i64 k, .int .i64 k, .bool false] 23) = V0 at *
  clear hW0
  generalize w.heap.size = b0 at *
  refine (Haw.out _).mono ?_
  rintro e W1 ⟨rfl, hB⟩
  replace hJ := hJ.later hB
  clear hB
  have f0_0 : W1.cell? ⟨b0, 0, none⟩ = some (.int .i64 k) := (hJ.at' (b0, (⟨k, k, false⟩ : Sp)) (.head _)).cells.1
  have f0_1 : W1.cell? ⟨b0, 1, none⟩ = some (.int .i64 k) := (hJ.at' (b0, (⟨k, k, false⟩ : Sp)) (.head _)).cells.2.1
  have f0_2 : W1.cell? ⟨b0, 2, none⟩ = some (.bool false) := (hJ.at' (b0, (⟨k, k, false⟩ : Sp)) (.head _)).cells.2.2.1
  have fl0 : b0 < W1.heap.size := hJ.lt (b0, (⟨k, k, false⟩ : Sp)) (.head _)
  go_wp2_with fail
  refine (Ha.out _).mono ?_
  rintro e W2 ⟨rfl, hB⟩
  replace hJ := hJ.later hB
  clear hB f0_0 f0_1 f0_2 fl0
  have f0_0 : W2.cell? ⟨b0, 0, none⟩ = some (.int .i64 k) := (hJ.at' (b0, (⟨k, k, false⟩ : Sp)) (.head _)).cells.1
  have f0_1 : W2.cell? ⟨b0, 1, none⟩ = some (.int .i64 k) := (hJ.at' (b0, (⟨k, k, false⟩ : Sp)) (.head _)).cells.2.1
  have f0_2 : W2.cell? ⟨b0, 2, none⟩ = some (.bool false) := (hJ.at' (b0, (⟨k, k, false⟩ : Sp)) (.head _)).cells.2.2.1
  have fl0 : b0 < W2.heap.size := hJ.lt (b0, (⟨k, k, false⟩ : Sp)) (.head _)
  go_wp2_with fail
  clear f0_0 f0_1 f0_2 fl0
  replace hJ := hJ.new a
  generalize hW3 : W2.alloc (.cells #[.int .i64 a.lo, .int .i64 a.hi, .bool a.all] 23) = V3 at *
  clear hW3
  generalize W2.heap.size = b1 at *
  refine (Hn.out _).mono ?_
  rintro e W4 ⟨rfl, hB⟩
  replace hJ := hJ.later hB
  clear hB
  go_wp2_with fail
  refine (Hb.out _).mono ?_
  rintro e W5 ⟨rfl, hB⟩
  replace hJ := hJ.later hB
  clear hB
  have f1_0 : W5.cell? ⟨b0, 0, none⟩ = some (.int .i64 k) := (hJ.at' (b0, (⟨k, k, false⟩ : Sp)) (.tail _ (.head _))).cells.1
  have f1_1 : W5.cell? ⟨b0, 1, none⟩ = some (.int .i64 k) := (hJ.at' (b0, (⟨k, k, false⟩ : Sp)) (.tail _ (.head _))).cells.2.1
  have f1_2 : W5.cell? ⟨b0, 2, none⟩ = some (.bool false) := (hJ.at' (b0, (⟨k, k, false⟩ : Sp)) (.tail _ (.head _))).cells.2.2.1
  have fl1 : b0 < W5.heap.size := hJ.lt (b0, (⟨k, k, false⟩ : Sp)) (.tail _ (.head _))
  go_wp2_with fail
  clear f1_0 f1_1 f1_2 fl1
  replace hJ := hJ.new b
  generalize hW6 : W5.alloc (.cells #[.int .i64 b.lo, .int .i64 b.hi, .bool b.all] 23) = V6 at *
  clear hW6
  generalize W5.heap.size = b2 at *
  refine (Hc.out _).mono ?_
  rintro e W7 ⟨rfl, hB⟩
  replace hJ := hJ.later hB
  clear hB
  have f2_0 : W7.cell? ⟨b0, 0, none⟩ = some (.int .i64 k) := (hJ.at' (b0, (⟨k, k, false⟩ : Sp)) (.tail _ (.tail _ (.head _)))).cells.1
  have f2_1 : W7.cell? ⟨b0, 1, none⟩ = some (.int .i64 k) := (hJ.at' (b0, (⟨k, k, false⟩ : Sp)) (.tail _ (.tail _ (.head _)))).cells.2.1
  have f2_2 : W7.cell? ⟨b0, 2, none⟩ = some (.bool false) := (hJ.at' (b0, (⟨k, k, false⟩ : Sp)) (.tail _ (.tail _ (.head _)))).cells.2.2.1
  have fl2 : b0 < W7.heap.size := hJ.lt (b0, (⟨k, k, false⟩ : Sp)) (.tail _ (.tail _ (.head _)))
  go_wp2_with fail
  clear f2_0 f2_1 f2_2 fl2
  replace hJ := hJ.new c
  generalize hW8 : W7.alloc (.cells #[.int .i64 c.lo, .int .i64 c.hi, .bool c.all] 23) = V8 at *
  clear hW8
  generalize W7.heap.size = b3 at *
  refine (Hn.out _).mono ?_
  rintro e W9 ⟨rfl, hB⟩
  replace hJ := hJ.later hB
  clear hB
  go_wp2_with fail
  refine (Hd.out _).mono ?_
  rintro e W10 ⟨rfl, hB⟩
  replace hJ := hJ.later hB
  clear hB
  have f3_0 : W10.cell? ⟨b0, 0, none⟩ = some (.int .i64 k) := (hJ.at' (b0, (⟨k, k, false⟩ : Sp)) (.tail _ (.tail _ (.tail _ (.head _))))).cells.1
  have f3_1 : W10.cell? ⟨b0, 1, none⟩ = some (.int .i64 k) := (hJ.at' (b0, (⟨k, k, false⟩ : Sp)) (.tail _ (.tail _ (.tail _ (.head _))))).cells.2.1
  have f3_2 : W10.cell? ⟨b0, 2, none⟩ = some (.bool false) := (hJ.at' (b0, (⟨k, k, false⟩ : Sp)) (.tail _ (.tail _ (.tail _ (.head _))))).cells.2.2.1
  have fl3 : b0 < W10.heap.size := hJ.lt (b0, (⟨k, k, false⟩ : Sp)) (.tail _ (.tail _ (.tail _ (.head _))))
  go_wp2
  clear f3_0 f3_1 f3_2 fl3
  replace hJ := hJ.new c
  generalize hW11 : W10.alloc (.cells #[.int .i64 c.lo, .int .i64 c.hi, .bool c.all] 23) = V11 at *
  clear hW11
  generalize W10.heap.size = b4 at *
  obtain ⟨m9, hm9⟩ : ∃ m, m = V11.heap.size := ⟨_, rfl⟩
  have hM9 := hJ.bm
  rw [← hm9] at hM9
  refine wp_region_z 9 [some 57, some 58, some 59, some 56, some 60, some 61, some 9, none, some 10] (vkL m9 [.eq (.agg #[.int .i64 a.lo, .int .i64 a.hi, .bool a.all]), .eq (.agg #[.int .i64 uu.lo, .int .i64 uu.hi, .bool uu.all]), .eq (.tuple #[.agg #[.int .i64 z1.lo, .int .i64 z1.hi, .bool z1.all], .bool true]), .eq (.tuple #[.agg #[.int .i64 z1.lo, .int .i64 z1.hi, .bool z1.all], .bool true]), .eq (.agg #[.int .i64 z1.lo, .int .i64 z1.hi, .bool z1.all]), .eq (.bool true), .box, .any, .eq (.bool true)]) (Bm w m9 [(b4, c), (b3, c), (b2, b), (b1, a), (b0, (⟨k, k, false⟩ : Sp))]) (by kernel_rfl) (by kernel_rfl) (by rfl) (by decide) (by rfl) hM9 ?_ ?_
  · intro i hl hi u W A hJ hd hev hin
    obtain rfl | rfl | rfl | rfl | rfl | rfl | rfl | rfl | rfl : i = 0 ∨ i = 1 ∨ i = 2 ∨ i = 3 ∨ i = 4 ∨ i = 5 ∨ i = 6 ∨ i = 7 ∨ i = 8 := by omega
    · skip
      have x4 : A.tmps[4]? = some (.pointer (some ⟨b1, 0, none⟩)) := (hev 4 (by decide)).trans rfl
      clear hd hev hin
      simp only [List.getElem_cons_succ, List.getElem_cons_zero]
      clear hl
      refine .inr ⟨rfl, fun K' hK => ?_⟩
      have HK := Lib.hid hK
      clear hK
      have f3_0 := (hJ.bl.at' (b1, a) (.tail _ (.tail _ (.tail _ (.head _))))).cells.1
      have f3_1 := (hJ.bl.at' (b1, a) (.tail _ (.tail _ (.tail _ (.head _))))).cells.2.1
      have f3_2 := (hJ.bl.at' (b1, a) (.tail _ (.tail _ (.tail _ (.head _))))).cells.2.2.1
      go_simp
      exact HK.out (.agg #[.int .i64 a.lo, .int .i64 a.hi, .bool a.all]) _ hJ rfl vkL_same
    · skip
      clear hd hev hin
      simp only [List.getElem_cons_succ, List.getElem_cons_zero]
      clear hl
      refine .inr ⟨rfl, fun K' hK => ?_⟩
      have HK := Lib.hid hK
      clear hK
      go_simp
      refine (Hu.out W).mono ?_
      rintro e W' ⟨rfl, hB⟩
      exact HK.out (.agg #[.int .i64 uu.lo, .int .i64 uu.hi, .bool uu.all]) _ (hJ.later hB) rfl (vkL_later hB)
    · skip
      have x57 : A.tmps[57]? = some (.agg #[.int .i64 a.lo, .int .i64 a.hi, .bool a.all]) := (hin 0 57 rfl).trans (congrArg some (show u 0 = .agg #[.int .i64 a.lo, .int .i64 a.hi, .bool a.all] from hd 0 (by decide) (by kernel_rfl)))
      have x58 : A.tmps[58]? = some (.agg #[.int .i64 uu.lo, .int .i64 uu.hi, .bool uu.all]) := (hin 1 58 rfl).trans (congrArg some (show u 1 = .agg #[.int .i64 uu.lo, .int .i64 uu.hi, .bool uu.all] from hd 1 (by decide) (by kernel_rfl)))
      clear hd hev hin
      simp only [List.getElem_cons_succ, List.getElem_cons_zero]
      clear hl
      refine .inr ⟨rfl, fun K' hK => ?_⟩
      have HK := Lib.hid hK
      clear hK
      go_simp
      refine (Hm1.out W).mono ?_
      rintro e W' ⟨rfl, hB⟩
      exact HK.out (.tuple #[.agg #[.int .i64 z1.lo, .int .i64 z1.hi, .bool z1.all], .bool true]) _ (hJ.later hB) rfl (vkL_later hB)
    · skip
      have x59 : A.tmps[59]? = some (.tuple #[.agg #[.int .i64 z1.lo, .int .i64 z1.hi, .bool z1.all], .bool true]) := (hin 2 59 rfl).trans (congrArg some (show u 2 = .tuple #[.agg #[.int .i64 z1.lo, .int .i64 z1.hi, .bool z1.all], .bool true] from hd 2 (by decide) (by kernel_rfl)))
      clear hd hev hin
      simp only [List.getElem_cons_succ, List.getElem_cons_zero]
      clear hl
      refine .inr ⟨rfl, fun K' hK => ?_⟩
      have HK := Lib.hid hK
      clear hK
      go_simp
      exact HK.out (.tuple #[.agg #[.int .i64 z1.lo, .int .i64 z1.hi, .bool z1.all], .bool true]) _ hJ rfl vkL_same
    · skip
      have x56 : A.tmps[56]? = some (.tuple #[.agg #[.int .i64 z1.lo, .int .i64 z1.hi, .bool z1.all], .bool true]) := (hin 3 56 rfl).trans (congrArg some (show u 3 = .tuple #[.agg #[.int .i64 z1.lo, .int .i64 z1.hi, .bool z1.all], .bool true] from hd 3 (by decide) (by kernel_rfl)))
      clear hd hev hin
      simp only [List.getElem_cons_succ, List.getElem_cons_zero]
      clear hl
      refine .inr ⟨rfl, fun K' hK => ?_⟩
      have HK := Lib.hid hK
      clear hK
      go_simp
      exact HK.out (.agg #[.int .i64 z1.lo, .int .i64 z1.hi, .bool z1.all]) _ hJ rfl vkL_same
    · skip
      have x56 : A.tmps[56]? = some (.tuple #[.agg #[.int .i64 z1.lo, .int .i64 z1.hi, .bool z1.all], .bool true]) := (hin 3 56 rfl).trans (congrArg some (show u 3 = .tuple #[.agg #[.int .i64 z1.lo, .int .i64 z1.hi, .bool z1.all], .bool true] from hd 3 (by decide) (by kernel_rfl)))
      clear hd hev hin
      simp only [List.getElem_cons_succ, List.getElem_cons_zero]
      clear hl
      refine .inr ⟨rfl, fun K' hK => ?_⟩
      have HK := Lib.hid hK
      clear hK
      go_simp
      exact HK.out (.bool true) _ hJ rfl vkL_same
    · skip
      clear hd hev hin
      simp only [List.getElem_cons_succ, List.getElem_cons_zero]
      clear hl
      refine .inr ⟨rfl, fun K' hK => ?_⟩
      have HK := Lib.hid hK
      clear hK
      go_simp
      exact HK.out (.pointer (some ⟨W.heap.size, 0, none⟩)) _ (hJ.later ((Below.refl _ _).alloc (Nat.le_refl _) _)) (pbox_new hJ.le) (vkL_later ((Below.refl _ _).alloc (Nat.le_refl _) _))
    · skip
      obtain ⟨nb, nx, ne, nge, nB⟩ := (show Pbox m9 (u 6) W from hd 6 (by decide) (by kernel_rfl))
      have x9 : A.tmps[9]? = some (.pointer (some ⟨nb, 0, none⟩)) := (hin 6 9 rfl).trans (congrArg some ne)
      have x60 : A.tmps[60]? = some (.agg #[.int .i64 z1.lo, .int .i64 z1.hi, .bool z1.all]) := (hin 4 60 rfl).trans (congrArg some (show u 4 = .agg #[.int .i64 z1.lo, .int .i64 z1.hi, .bool z1.all] from hd 4 (by decide) (by kernel_rfl)))
      clear hd hev hin
      simp only [List.getElem_cons_succ, List.getElem_cons_zero]
      clear hl
      refine .inr ⟨rfl, fun K' hK => ?_⟩
      have HK := Lib.hid hK
      clear hK
      have nc0 := nB.cells.1
      have nc1 := nB.cells.2.1
      have nc2 := nB.cells.2.2.1
      have nc3 := nB.cells.2.2.2.1
      have nc4 := nB.cells.2.2.2.2.1
      have nc5 := nB.cells.2.2.2.2.2
      go_simp
      exact HK.out undef _ (hJ.far nge _ _ _) trivial (vkL_store nB z1)
    · skip
      have x61 : A.tmps[61]? = some (.bool true) := (hin 5 61 rfl).trans (congrArg some (show u 5 = .bool true from hd 5 (by decide) (by kernel_rfl)))
      clear hd hev hin
      simp only [List.getElem_cons_succ, List.getElem_cons_zero]
      clear hl
      refine .inr ⟨rfl, fun K' hK => ?_⟩
      have HK := Lib.hid hK
      clear hK
      go_simp
      exact HK.out (.bool true) _ hJ rfl vkL_same
  intro u W hJm hd
  have e_0 : u 0 = .agg #[.int .i64 a.lo, .int .i64 a.hi, .bool a.all] := hd 0 (by decide)
  have e_1 : u 1 = .agg #[.int .i64 uu.lo, .int .i64 uu.hi, .bool uu.all] := hd 1 (by decide)
  have e_2 : u 2 = .tuple #[.agg #[.int .i64 z1.lo, .int .i64 z1.hi, .bool z1.all], .bool true] := hd 2 (by decide)
  have e_3 : u 3 = .tuple #[.agg #[.int .i64 z1.lo, .int .i64 z1.hi, .bool z1.all], .bool true] := hd 3 (by decide)
  have e_4 : u 4 = .agg #[.int .i64 z1.lo, .int .i64 z1.hi, .bool z1.all] := hd 4 (by decide)
  have e_5 : u 5 = .bool true := hd 5 (by decide)
  obtain ⟨nb9, nx9, e_6, nge9, nB9⟩ := (show Pbox m9 (u 6) W from hd 6 (by decide))
  have e_8 : u 8 = .bool true := hd 8 (by decide)
  clear hd
  simp only [layS, Act.put, List.setIfInBounds_toArray, List.set_cons_succ, List.set_cons_zero, Nat.zero_add, Nat.reduceAdd, List.drop_succ_cons, List.drop_zero, List.drop_nil, e_0, e_1, e_2, e_3, e_4, e_5, e_6, e_8]
  clear e_0 e_1 e_2 e_3 e_4 e_5 e_6 e_8
  replace hJ := hJm.bl
  clear hM9
  clear hJm nge9 nB9
  generalize hZ : W = Z12 at *
  clear hZ
  go_wp2
  obtain ⟨m10, hm10⟩ : ∃ m, m = Z12.heap.size := ⟨_, rfl⟩
  have hM10 := hJ.bm
  rw [← hm10] at hM10
  refine wp_region_z 9 [some 63, some 64, some 65, some 62, some 66, some 67, some 11, none, some 12] (vkL m10 [.eq (.agg #[.int .i64 c.lo, .int .i64 c.hi, .bool c.all]), .eq (.agg #[.int .i64 uu.lo, .int .i64 uu.hi, .bool uu.all]), .eq (.tuple #[.agg #[.int .i64 z2.lo, .int .i64 z2.hi, .bool z2.all], .bool true]), .eq (.tuple #[.agg #[.int .i64 z2.lo, .int .i64 z2.hi, .bool z2.all], .bool true]), .eq (.agg #[.int .i64 z2.lo, .int .i64 z2.hi, .bool z2.all]), .eq (.bool true), .box, .any, .eq (.bool true)]) (Bm w m10 [(b4, c), (b3, c), (b2, b), (b1, a), (b0, (⟨k, k, false⟩ : Sp))]) (by kernel_rfl) (by kernel_rfl) (by rfl) (by decide) (by rfl) hM10 ?_ ?_
  · intro i hl hi u W A hJ hd hev hin
    obtain rfl | rfl | rfl | rfl | rfl | rfl | rfl | rfl | rfl : i = 0 ∨ i = 1 ∨ i = 2 ∨ i = 3 ∨ i = 4 ∨ i = 5 ∨ i = 6 ∨ i = 7 ∨ i = 8 := by omega
    · skip
      have x6 : A.tmps[6]? = some (.pointer (some ⟨b3, 0, none⟩)) := (hev 6 (by decide)).trans rfl
      clear hd hev hin
      simp only [List.getElem_cons_succ, List.getElem_cons_zero]
      clear hl
      refine .inr ⟨rfl, fun K' hK => ?_⟩
      have HK := Lib.hid hK
      clear hK
      have f1_0 := (hJ.bl.at' (b3, c) (.tail _ (.head _))).cells.1
      have f1_1 := (hJ.bl.at' (b3, c) (.tail _ (.head _))).cells.2.1
      have f1_2 := (hJ.bl.at' (b3, c) (.tail _ (.head _))).cells.2.2.1
      go_simp
      exact HK.out (.agg #[.int .i64 c.lo, .int .i64 c.hi, .bool c.all]) _ hJ rfl vkL_same
    · skip
      clear hd hev hin
      simp only [List.getElem_cons_succ, List.getElem_cons_zero]
      clear hl
      refine .inr ⟨rfl, fun K' hK => ?_⟩
      have HK := Lib.hid hK
      clear hK
      go_simp
      refine (Hu.out W).mono ?_
      rintro e W' ⟨rfl, hB⟩
      exact HK.out (.agg #[.int .i64 uu.lo, .int .i64 uu.hi, .bool uu.all]) _ (hJ.later hB) rfl (vkL_later hB)
    · skip
      have x63 : A.tmps[63]? = some (.agg #[.int .i64 c.lo, .int .i64 c.hi, .bool c.all]) := (hin 0 63 rfl).trans (congrArg some (show u 0 = .agg #[.int .i64 c.lo, .int .i64 c.hi, .bool c.all] from hd 0 (by decide) (by kernel_rfl)))
      have x64 : A.tmps[64]? = some (.agg #[.int .i64 uu.lo, .int .i64 uu.hi, .bool uu.all]) := (hin 1 64 rfl).trans (congrArg some (show u 1 = .agg #[.int .i64 uu.lo, .int .i64 uu.hi, .bool uu.all] from hd 1 (by decide) (by kernel_rfl)))
      clear hd hev hin
      simp only [List.getElem_cons_succ, List.getElem_cons_zero]
      clear hl
      refine .inr ⟨rfl, fun K' hK => ?_⟩
      have HK := Lib.hid hK
      clear hK
      go_simp
      refine (Hm2.out W).mono ?_
      rintro e W' ⟨rfl, hB⟩
      exact HK.out (.tuple #[.agg #[.int .i64 z2.lo, .int .i64 z2.hi, .bool z2.all], .bool true]) _ (hJ.later hB) rfl (vkL_later hB)
    · skip
      have x65 : A.tmps[65]? = some (.tuple #[.agg #[.int .i64 z2.lo, .int .i64 z2.hi, .bool z2.all], .bool true]) := (hin 2 65 rfl).trans (congrArg some (show u 2 = .tuple #[.agg #[.int .i64 z2.lo, .int .i64 z2.hi, .bool z2.all], .bool true] from hd 2 (by decide) (by kernel_rfl)))
      clear hd hev hin
      simp only [List.getElem_cons_succ, List.getElem_cons_zero]
      clear hl
      refine .inr ⟨rfl, fun K' hK => ?_⟩
      have HK := Lib.hid hK
      clear hK
      go_simp
      exact HK.out (.tuple #[.agg #[.int .i64 z2.lo, .int .i64 z2.hi, .bool z2.all], .bool true]) _ hJ rfl vkL_same
    · skip
      have x62 : A.tmps[62]? = some (.tuple #[.agg #[.int .i64 z2.lo, .int .i64 z2.hi, .bool z2.all], .bool true]) := (hin 3 62 rfl).trans (congrArg some (show u 3 = .tuple #[.agg #[.int .i64 z2.lo, .int .i64 z2.hi, .bool z2.all], .bool true] from hd 3 (by decide) (by kernel_rfl)))
      clear hd hev hin
      simp only [List.getElem_cons_succ, List.getElem_cons_zero]
      clear hl
      refine .inr ⟨rfl, fun K' hK => ?_⟩
      have HK := Lib.hid hK
      clear hK
      go_simp
      exact HK.out (.agg #[.int .i64 z2.lo, .int .i64 z2.hi, .bool z2.all]) _ hJ rfl vkL_same
    · skip
      have x62 : A.tmps[62]? = some (.tuple #[.agg #[.int .i64 z2.lo, .int .i64 z2.hi, .bool z2.all], .bool true]) := (hin 3 62 rfl).trans (congrArg some (show u 3 = .tuple #[.agg #[.int .i64 z2.lo, .int .i64 z2.hi, .bool z2.all], .bool true] from hd 3 (by decide) (by kernel_rfl)))
      clear hd hev hin
      simp only [List.getElem_cons_succ, List.getElem_cons_zero]
      clear hl
      refine .inr ⟨rfl, fun K' hK => ?_⟩
      have HK := Lib.hid hK
      clear hK
      go_simp
      exact HK.out (.bool true) _ hJ rfl vkL_same
    · skip
      clear hd hev hin
      simp only [List.getElem_cons_succ, List.getElem_cons_zero]
      clear hl
      refine .inr ⟨rfl, fun K' hK => ?_⟩
      have HK := Lib.hid hK
      clear hK
      go_simp
      exact HK.out (.pointer (some ⟨W.heap.size, 0, none⟩)) _ (hJ.later ((Below.refl _ _).alloc (Nat.le_refl _) _)) (pbox_new hJ.le) (vkL_later ((Below.refl _ _).alloc (Nat.le_refl _) _))
    · skip
      obtain ⟨nb, nx, ne, nge, nB⟩ := (show Pbox m10 (u 6) W from hd 6 (by decide) (by kernel_rfl))
      have x11 : A.tmps[11]? = some (.pointer (some ⟨nb, 0, none⟩)) := (hin 6 11 rfl).trans (congrArg some ne)
      have x66 : A.tmps[66]? = some (.agg #[.int .i64 z2.lo, .int .i64 z2.hi, .bool z2.all]) := (hin 4 66 rfl).trans (congrArg some (show u 4 = .agg #[.int .i64 z2.lo, .int .i64 z2.hi, .bool z2.all] from hd 4 (by decide) (by kernel_rfl)))
      clear hd hev hin
      simp only [List.getElem_cons_succ, List.getElem_cons_zero]
      clear hl
      refine .inr ⟨rfl, fun K' hK => ?_⟩
      have HK := Lib.hid hK
      clear hK
      have nc0 := nB.cells.1
      have nc1 := nB.cells.2.1
      have nc2 := nB.cells.2.2.1
      have nc3 := nB.cells.2.2.2.1
      have nc4 := nB.cells.2.2.2.2.1
      have nc5 := nB.cells.2.2.2.2.2
      go_simp
      exact HK.out undef _ (hJ.far nge _ _ _) trivial (vkL_store nB z2)
    · skip
      have x67 : A.tmps[67]? = some (.bool true) := (hin 5 67 rfl).trans (congrArg some (show u 5 = .bool true from hd 5 (by decide) (by kernel_rfl)))
      clear hd hev hin
      simp only [List.getElem_cons_succ, List.getElem_cons_zero]
      clear hl
      refine .inr ⟨rfl, fun K' hK => ?_⟩
      have HK := Lib.hid hK
      clear hK
      go_simp
      exact HK.out (.bool true) _ hJ rfl vkL_same
  intro u W hJm hd
  have e_0 : u 0 = .agg #[.int .i64 c.lo, .int .i64 c.hi, .bool c.all] := hd 0 (by decide)
  have e_1 : u 1 = .agg #[.int .i64 uu.lo, .int .i64 uu.hi, .bool uu.all] := hd 1 (by decide)
  have e_2 : u 2 = .tuple #[.agg #[.int .i64 z2.lo, .int .i64 z2.hi, .bool z2.all], .bool true] := hd 2 (by decide)
  have e_3 : u 3 = .tuple #[.agg #[.int .i64 z2.lo, .int .i64 z2.hi, .bool z2.all], .bool true] := hd 3 (by decide)
  have e_4 : u 4 = .agg #[.int .i64 z2.lo, .int .i64 z2.hi, .bool z2.all] := hd 4 (by decide)
  have e_5 : u 5 = .bool true := hd 5 (by decide)
  obtain ⟨nb10, nx10, e_6, nge10, nB10⟩ := (show Pbox m10 (u 6) W from hd 6 (by decide))
  have e_8 : u 8 = .bool true := hd 8 (by decide)
  clear hd
  simp only [layS, Act.put, List.setIfInBounds_toArray, List.set_cons_succ, List.set_cons_zero, Nat.zero_add, Nat.reduceAdd, List.drop_succ_cons, List.drop_zero, List.drop_nil, e_0, e_1, e_2, e_3, e_4, e_5, e_6, e_8]
  clear e_0 e_1 e_2 e_3 e_4 e_5 e_6 e_8
  replace hJ := hJm.bl
  clear hM10
  clear hJm nge10 nB10
  generalize hZ : W = Z13 at *
  clear hZ
  have d4 := D4.out
  have d5 := D5.out
  have hw1 := HW1.out
  have hw2 := HW2.out
  have f3_0 := (hJ.at' (b1, a) (.tail _ (.tail _ (.tail _ (.head _))))).cells.1
  have f3_1 := (hJ.at' (b1, a) (.tail _ (.tail _ (.tail _ (.head _))))).cells.2.1
  have f3_2 := (hJ.at' (b1, a) (.tail _ (.tail _ (.tail _ (.head _))))).cells.2.2.1
  have fl3 : b1 < Z13.heap.size := hJ.lt (b1, a) (.tail _ (.tail _ (.tail _ (.head _))))
  have f1_0 := (hJ.at' (b3, c) (.tail _ (.head _))).cells.1
  have f1_1 := (hJ.at' (b3, c) (.tail _ (.head _))).cells.2.1
  have f1_2 := (hJ.at' (b3, c) (.tail _ (.head _))).cells.2.2.1
  have fl1 : b3 < Z13.heap.size := hJ.lt (b3, c) (.tail _ (.head _))
  go_wp2
  clear f3_0 f3_1 f3_2 fl3 f1_0 f1_1 f1_2 fl1
  obtain ⟨m12, hm12⟩ : ∃ m, m = Z13.heap.size := ⟨_, rfl⟩
  have hM12 := hJ.bm
  rw [← hm12] at hM12
  refine wp_region_z 22 [some 82, some 83, some 84, some 85, some 86, some 87, some 88, some 89, some 90, some 91, some 92, some 93, some 94, some 95, some 96, some 97, some 98, some 99, some 100, some 101, some 102, some 2] (vkL m12 [.eq (.bool true), .eq (.bool true), .eq (.agg #[.int .i64 b.lo, .int .i64 b.hi, .bool b.all]), .eq (.agg #[.int .i64 a.lo, .int .i64 a.hi, .bool a.all]), .eq (.agg #[.int .i64 b.lo, .int .i64 b.hi, .bool b.all]), .eq (.bool true), .eq (.bool true), .eq (.bool true), .eq (.agg #[.int .i64 c.lo, .int .i64 c.hi, .bool c.all]), .eq (.agg #[.int .i64 c.lo, .int .i64 c.hi, .bool c.all]), .eq (.bool true), .eq (.bool true), .eq (.bool true), .eq (.bool true), .eq (.bool true), .eq (.bool true), .eq (.bool true), .eq (.bool true), .eq (.bool true), .eq (.bool true), .eq (.bool true), .eq (.bool true)]) (Bm w m12 [(b4, c), (b3, c), (b2, b), (b1, a), (b0, (⟨k, k, false⟩ : Sp))]) (by kernel_rfl) (by kernel_rfl) (by rfl) (by decide) (by rfl) hM12 ?_ ?_
  · intro i hl hi u W A hJ hd hev hin
    obtain rfl | rfl | rfl | rfl | rfl | rfl | rfl | rfl | rfl | rfl | rfl | rfl | rfl | rfl | rfl | rfl | rfl | rfl | rfl | rfl | rfl | rfl : i = 0 ∨ i = 1 ∨ i = 2 ∨ i = 3 ∨ i = 4 ∨ i = 5 ∨ i = 6 ∨ i = 7 ∨ i = 8 ∨ i = 9 ∨ i = 10 ∨ i = 11 ∨ i = 12 ∨ i = 13 ∨ i = 14 ∨ i = 15 ∨ i = 16 ∨ i = 17 ∨ i = 18 ∨ i = 19 ∨ i = 20 ∨ i = 21 := by omega
    · skip
      have x3 : A.tmps[3]? = some (.bool true) := (hev 3 (by decide)).trans rfl
      clear hd hev hin
      simp only [List.getElem_cons_succ, List.getElem_cons_zero]
      clear hl
      refine .inr ⟨rfl, fun K' hK => ?_⟩
      have HK := Lib.hid hK
      clear hK
      go_simp
      exact HK.out (.bool true) _ hJ rfl vkL_same
    · skip
      have x82 : A.tmps[82]? = some (.bool true) := (hin 0 82 rfl).trans (congrArg some (show u 0 = .bool true from hd 0 (by decide) (by kernel_rfl)))
      clear hd hev hin
      simp only [List.getElem_cons_succ, List.getElem_cons_zero]
      clear hl
      refine .inr ⟨rfl, fun K' hK => ?_⟩
      have HK := Lib.hid hK
      clear hK
      go_simp
      exact HK.out (.bool true) _ hJ rfl vkL_same
    · skip
      have x5 : A.tmps[5]? = some (.pointer (some ⟨b2, 0, none⟩)) := (hev 5 (by decide)).trans rfl
      have y1 : A.tmps[83]? = some (.bool true) := (hin 1 83 rfl).trans (congrArg some (show u 1 = .bool true from hd 1 (by decide) (by kernel_rfl)))
      clear hd hev hin
      simp only [List.getElem_cons_succ, List.getElem_cons_zero]
      clear hl
      refine .inr ⟨?_, fun K' hK => ?_⟩
      · simp [Region.wanted, yielded, y1]
      clear y1
      have HK := Lib.hid hK
      clear hK
      have f2_0 := (hJ.bl.at' (b2, b) (.tail _ (.tail _ (.head _)))).cells.1
      have f2_1 := (hJ.bl.at' (b2, b) (.tail _ (.tail _ (.head _)))).cells.2.1
      have f2_2 := (hJ.bl.at' (b2, b) (.tail _ (.tail _ (.head _)))).cells.2.2.1
      go_simp
      exact HK.out (.agg #[.int .i64 b.lo, .int .i64 b.hi, .bool b.all]) _ hJ rfl vkL_same
    · skip
      have x4 : A.tmps[4]? = some (.pointer (some ⟨b1, 0, none⟩)) := (hev 4 (by decide)).trans rfl
      have y1 : A.tmps[83]? = some (.bool true) := (hin 1 83 rfl).trans (congrArg some (show u 1 = .bool true from hd 1 (by decide) (by kernel_rfl)))
      clear hd hev hin
      simp only [List.getElem_cons_succ, List.getElem_cons_zero]
      clear hl
      refine .inr ⟨?_, fun K' hK => ?_⟩
      · simp [Region.wanted, yielded, y1]
      clear y1
      have HK := Lib.hid hK
      clear hK
      have f3_0 := (hJ.bl.at' (b1, a) (.tail _ (.tail _ (.tail _ (.head _))))).cells.1
      have f3_1 := (hJ.bl.at' (b1, a) (.tail _ (.tail _ (.tail _ (.head _))))).cells.2.1
      have f3_2 := (hJ.bl.at' (b1, a) (.tail _ (.tail _ (.tail _ (.head _))))).cells.2.2.1
      go_simp
      exact HK.out (.agg #[.int .i64 a.lo, .int .i64 a.hi, .bool a.all]) _ hJ rfl vkL_same
    · skip
      have x85 : A.tmps[85]? = some (.agg #[.int .i64 a.lo, .int .i64 a.hi, .bool a.all]) := (hin 3 85 rfl).trans (congrArg some (show u 3 = .agg #[.int .i64 a.lo, .int .i64 a.hi, .bool a.all] from hd 3 (by decide) (by kernel_rfl)))
      have y1 : A.tmps[83]? = some (.bool true) := (hin 1 83 rfl).trans (congrArg some (show u 1 = .bool true from hd 1 (by decide) (by kernel_rfl)))
      clear hd hev hin
      simp only [List.getElem_cons_succ, List.getElem_cons_zero]
      clear hl
      refine .inr ⟨?_, fun K' hK => ?_⟩
      · simp [Region.wanted, yielded, y1]
      clear y1
      have HK := Lib.hid hK
      clear hK
      go_simp
      refine (Hna.out W).mono ?_
      rintro e W' ⟨rfl, hB⟩
      exact HK.out (.agg #[.int .i64 b.lo, .int .i64 b.hi, .bool b.all]) _ (hJ.later hB) rfl (vkL_later hB)
    · skip
      have x84 : A.tmps[84]? = some (.agg #[.int .i64 b.lo, .int .i64 b.hi, .bool b.all]) := (hin 2 84 rfl).trans (congrArg some (show u 2 = .agg #[.int .i64 b.lo, .int .i64 b.hi, .bool b.all] from hd 2 (by decide) (by kernel_rfl)))
      have x86 : A.tmps[86]? = some (.agg #[.int .i64 b.lo, .int .i64 b.hi, .bool b.all]) := (hin 4 86 rfl).trans (congrArg some (show u 4 = .agg #[.int .i64 b.lo, .int .i64 b.hi, .bool b.all] from hd 4 (by decide) (by kernel_rfl)))
      have y1 : A.tmps[83]? = some (.bool true) := (hin 1 83 rfl).trans (congrArg some (show u 1 = .bool true from hd 1 (by decide) (by kernel_rfl)))
      clear hd hev hin
      simp only [List.getElem_cons_succ, List.getElem_cons_zero]
      clear hl
      refine .inr ⟨?_, fun K' hK => ?_⟩
      · simp [Region.wanted, yielded, y1]
      clear y1
      have HK := Lib.hid hK
      clear hK
      go_simp
      exact HK.out (.bool true) _ hJ rfl vkL_same
    · skip
      have x83 : A.tmps[83]? = some (.bool true) := (hin 1 83 rfl).trans (congrArg some (show u 1 = .bool true from hd 1 (by decide) (by kernel_rfl)))
      have x87 : A.tmps[87]? = some (.bool true) := (hin 5 87 rfl).trans (congrArg some (show u 5 = .bool true from hd 5 (by decide) (by kernel_rfl)))
      clear hd hev hin
      simp only [List.getElem_cons_succ, List.getElem_cons_zero]
      clear hl
      refine .inr ⟨rfl, fun K' hK => ?_⟩
      have HK := Lib.hid hK
      clear hK
      go_simp
      exact HK.out (.bool true) _ hJ rfl vkL_same
    · skip
      have x88 : A.tmps[88]? = some (.bool true) := (hin 6 88 rfl).trans (congrArg some (show u 6 = .bool true from hd 6 (by decide) (by kernel_rfl)))
      clear hd hev hin
      simp only [List.getElem_cons_succ, List.getElem_cons_zero]
      clear hl
      refine .inr ⟨rfl, fun K' hK => ?_⟩
      have HK := Lib.hid hK
      clear hK
      go_simp
      exact HK.out (.bool true) _ hJ rfl vkL_same
    · skip
      have x6 : A.tmps[6]? = some (.pointer (some ⟨b3, 0, none⟩)) := (hev 6 (by decide)).trans rfl
      have y7 : A.tmps[89]? = some (.bool true) := (hin 7 89 rfl).trans (congrArg some (show u 7 = .bool true from hd 7 (by decide) (by kernel_rfl)))
      clear hd hev hin
      simp only [List.getElem_cons_succ, List.getElem_cons_zero]
      clear hl
      refine .inr ⟨?_, fun K' hK => ?_⟩
      · simp [Region.wanted, yielded, y7]
      clear y7
      have HK := Lib.hid hK
      clear hK
      have f1_0 := (hJ.bl.at' (b3, c) (.tail _ (.head _))).cells.1
      have f1_1 := (hJ.bl.at' (b3, c) (.tail _ (.head _))).cells.2.1
      have f1_2 := (hJ.bl.at' (b3, c) (.tail _ (.head _))).cells.2.2.1
      go_simp
      exact HK.out (.agg #[.int .i64 c.lo, .int .i64 c.hi, .bool c.all]) _ hJ rfl vkL_same
    · skip
      have x7 : A.tmps[7]? = some (.pointer (some ⟨b4, 0, none⟩)) := (hev 7 (by decide)).trans rfl
      have y7 : A.tmps[89]? = some (.bool true) := (hin 7 89 rfl).trans (congrArg some (show u 7 = .bool true from hd 7 (by decide) (by kernel_rfl)))
      clear hd hev hin
      simp only [List.getElem_cons_succ, List.getElem_cons_zero]
      clear hl
      refine .inr ⟨?_, fun K' hK => ?_⟩
      · simp [Region.wanted, yielded, y7]
      clear y7
      have HK := Lib.hid hK
      clear hK
      have f0_0 := (hJ.bl.at' (b4, c) (.head _)).cells.1
      have f0_1 := (hJ.bl.at' (b4, c) (.head _)).cells.2.1
      have f0_2 := (hJ.bl.at' (b4, c) (.head _)).cells.2.2.1
      go_simp
      exact HK.out (.agg #[.int .i64 c.lo, .int .i64 c.hi, .bool c.all]) _ hJ rfl vkL_same
    · skip
      have x90 : A.tmps[90]? = some (.agg #[.int .i64 c.lo, .int .i64 c.hi, .bool c.all]) := (hin 8 90 rfl).trans (congrArg some (show u 8 = .agg #[.int .i64 c.lo, .int .i64 c.hi, .bool c.all] from hd 8 (by decide) (by kernel_rfl)))
      have x91 : A.tmps[91]? = some (.agg #[.int .i64 c.lo, .int .i64 c.hi, .bool c.all]) := (hin 9 91 rfl).trans (congrArg some (show u 9 = .agg #[.int .i64 c.lo, .int .i64 c.hi, .bool c.all] from hd 9 (by decide) (by kernel_rfl)))
      have y7 : A.tmps[89]? = some (.bool true) := (hin 7 89 rfl).trans (congrArg some (show u 7 = .bool true from hd 7 (by decide) (by kernel_rfl)))
      clear hd hev hin
      simp only [List.getElem_cons_succ, List.getElem_cons_zero]
      clear hl
      refine .inr ⟨?_, fun K' hK => ?_⟩
      · simp [Region.wanted, yielded, y7]
      clear y7
      have HK := Lib.hid hK
      clear hK
      go_simp
      exact HK.out (.bool true) _ hJ rfl vkL_same
    · skip
      have x89 : A.tmps[89]? = some (.bool true) := (hin 7 89 rfl).trans (congrArg some (show u 7 = .bool true from hd 7 (by decide) (by kernel_rfl)))
      have x92 : A.tmps[92]? = some (.bool true) := (hin 10 92 rfl).trans (congrArg some (show u 10 = .bool true from hd 10 (by decide) (by kernel_rfl)))
      clear hd hev hin
      simp only [List.getElem_cons_succ, List.getElem_cons_zero]
      clear hl
      refine .inr ⟨rfl, fun K' hK => ?_⟩
      have HK := Lib.hid hK
      clear hK
      go_simp
      exact HK.out (.bool true) _ hJ rfl vkL_same
    · skip
      have x93 : A.tmps[93]? = some (.bool true) := (hin 11 93 rfl).trans (congrArg some (show u 11 = .bool true from hd 11 (by decide) (by kernel_rfl)))
      clear hd hev hin
      simp only [List.getElem_cons_succ, List.getElem_cons_zero]
      clear hl
      refine .inr ⟨rfl, fun K' hK => ?_⟩
      have HK := Lib.hid hK
      clear hK
      go_simp
      exact HK.out (.bool true) _ hJ rfl vkL_same
    · skip
      have x10 : A.tmps[10]? = some (.bool true) := (hev 10 (by decide)).trans rfl
      have y12 : A.tmps[94]? = some (.bool true) := (hin 12 94 rfl).trans (congrArg some (show u 12 = .bool true from hd 12 (by decide) (by kernel_rfl)))
      clear hd hev hin
      simp only [List.getElem_cons_succ, List.getElem_cons_zero]
      clear hl
      refine .inr ⟨?_, fun K' hK => ?_⟩
      · simp [Region.wanted, yielded, y12]
      clear y12
      have HK := Lib.hid hK
      clear hK
      go_simp
      exact HK.out (.bool true) _ hJ rfl vkL_same
    · skip
      have x94 : A.tmps[94]? = some (.bool true) := (hin 12 94 rfl).trans (congrArg some (show u 12 = .bool true from hd 12 (by decide) (by kernel_rfl)))
      have x95 : A.tmps[95]? = some (.bool true) := (hin 13 95 rfl).trans (congrArg some (show u 13 = .bool true from hd 13 (by decide) (by kernel_rfl)))
      clear hd hev hin
      simp only [List.getElem_cons_succ, List.getElem_cons_zero]
      clear hl
      refine .inr ⟨rfl, fun K' hK => ?_⟩
      have HK := Lib.hid hK
      clear hK
      go_simp
      exact HK.out (.bool true) _ hJ rfl vkL_same
    · skip
      have x96 : A.tmps[96]? = some (.bool true) := (hin 14 96 rfl).trans (congrArg some (show u 14 = .bool true from hd 14 (by decide) (by kernel_rfl)))
      clear hd hev hin
      simp only [List.getElem_cons_succ, List.getElem_cons_zero]
      clear hl
      refine .inr ⟨rfl, fun K' hK => ?_⟩
      have HK := Lib.hid hK
      clear hK
      go_simp
      exact HK.out (.bool true) _ hJ rfl vkL_same
    · skip
      have x12 : A.tmps[12]? = some (.bool true) := (hev 12 (by decide)).trans rfl
      have y15 : A.tmps[97]? = some (.bool true) := (hin 15 97 rfl).trans (congrArg some (show u 15 = .bool true from hd 15 (by decide) (by kernel_rfl)))
      clear hd hev hin
      simp only [List.getElem_cons_succ, List.getElem_cons_zero]
      clear hl
      refine .inr ⟨?_, fun K' hK => ?_⟩
      · simp [Region.wanted, yielded, y15]
      clear y15
      have HK := Lib.hid hK
      clear hK
      go_simp
      exact HK.out (.bool true) _ hJ rfl vkL_same
    · skip
      have x97 : A.tmps[97]? = some (.bool true) := (hin 15 97 rfl).trans (congrArg some (show u 15 = .bool true from hd 15 (by decide) (by kernel_rfl)))
      have x98 : A.tmps[98]? = some (.bool true) := (hin 16 98 rfl).trans (congrArg some (show u 16 = .bool true from hd 16 (by decide) (by kernel_rfl)))
      clear hd hev hin
      simp only [List.getElem_cons_succ, List.getElem_cons_zero]
      clear hl
      refine .inr ⟨rfl, fun K' hK => ?_⟩
      have HK := Lib.hid hK
      clear hK
      go_simp
      exact HK.out (.bool true) _ hJ rfl vkL_same
    · skip
      have x99 : A.tmps[99]? = some (.bool true) := (hin 17 99 rfl).trans (congrArg some (show u 17 = .bool true from hd 17 (by decide) (by kernel_rfl)))
      clear hd hev hin
      simp only [List.getElem_cons_succ, List.getElem_cons_zero]
      clear hl
      refine .inr ⟨rfl, fun K' hK => ?_⟩
      have HK := Lib.hid hK
      clear hK
      go_simp
      exact HK.out (.bool true) _ hJ rfl vkL_same
    · skip
      have x13 : A.tmps[13]? = some (.bool true) := (hev 13 (by decide)).trans rfl
      have y18 : A.tmps[100]? = some (.bool true) := (hin 18 100 rfl).trans (congrArg some (show u 18 = .bool true from hd 18 (by decide) (by kernel_rfl)))
      clear hd hev hin
      simp only [List.getElem_cons_succ, List.getElem_cons_zero]
      clear hl
      refine .inr ⟨?_, fun K' hK => ?_⟩
      · simp [Region.wanted, yielded, y18]
      clear y18
      have HK := Lib.hid hK
      clear hK
      go_simp
      exact HK.out (.bool true) _ hJ rfl vkL_same
    · skip
      have x100 : A.tmps[100]? = some (.bool true) := (hin 18 100 rfl).trans (congrArg some (show u 18 = .bool true from hd 18 (by decide) (by kernel_rfl)))
      have x101 : A.tmps[101]? = some (.bool true) := (hin 19 101 rfl).trans (congrArg some (show u 19 = .bool true from hd 19 (by decide) (by kernel_rfl)))
      clear hd hev hin
      simp only [List.getElem_cons_succ, List.getElem_cons_zero]
      clear hl
      refine .inr ⟨rfl, fun K' hK => ?_⟩
      have HK := Lib.hid hK
      clear hK
      go_simp
      exact HK.out (.bool true) _ hJ rfl vkL_same
    · skip
      have x102 : A.tmps[102]? = some (.bool true) := (hin 20 102 rfl).trans (congrArg some (show u 20 = .bool true from hd 20 (by decide) (by kernel_rfl)))
      clear hd hev hin
      simp only [List.getElem_cons_succ, List.getElem_cons_zero]
      clear hl
      refine .inr ⟨rfl, fun K' hK => ?_⟩
      have HK := Lib.hid hK
      clear hK
      go_simp
      exact HK.out (.bool true) _ hJ rfl vkL_same
  intro u W hJm hd
  have e_0 : u 0 = .bool true := hd 0 (by decide)
  have e_1 : u 1 = .bool true := hd 1 (by decide)
  have e_2 : u 2 = .agg #[.int .i64 b.lo, .int .i64 b.hi, .bool b.all] := hd 2 (by decide)
  have e_3 : u 3 = .agg #[.int .i64 a.lo, .int .i64 a.hi, .bool a.all] := hd 3 (by decide)
  have e_4 : u 4 = .agg #[.int .i64 b.lo, .int .i64 b.hi, .bool b.all] := hd 4 (by decide)
  have e_5 : u 5 = .bool true := hd 5 (by decide)
  have e_6 : u 6 = .bool true := hd 6 (by decide)
  have e_7 : u 7 = .bool true := hd 7 (by decide)
  have e_8 : u 8 = .agg #[.int .i64 c.lo, .int .i64 c.hi, .bool c.all] := hd 8 (by decide)
  have e_9 : u 9 = .agg #[.int .i64 c.lo, .int .i64 c.hi, .bool c.all] := hd 9 (by decide)
  have e_10 : u 10 = .bool true := hd 10 (by decide)
  have e_11 : u 11 = .bool true := hd 11 (by decide)
  have e_12 : u 12 = .bool true := hd 12 (by decide)
  have e_13 : u 13 = .bool true := hd 13 (by decide)
  have e_14 : u 14 = .bool true := hd 14 (by decide)
  have e_15 : u 15 = .bool true := hd 15 (by decide)
  have e_16 : u 16 = .bool true := hd 16 (by decide)
  have e_17 : u 17 = .bool true := hd 17 (by decide)
  have e_18 : u 18 = .bool true := hd 18 (by decide)
  have e_19 : u 19 = .bool true := hd 19 (by decide)
  have e_20 : u 20 = .bool true := hd 20 (by decide)
  have e_21 : u 21 = .bool true := hd 21 (by decide)
  clear hd
  simp only [layS, Act.put, List.setIfInBounds_toArray, List.set_cons_succ, List.set_cons_zero, Nat.zero_add, Nat.reduceAdd, List.drop_succ_cons, List.drop_zero, List.drop_nil, e_0, e_1, e_2, e_3, e_4, e_5, e_6, e_7, e_8, e_9, e_10, e_11, e_12, e_13, e_14, e_15, e_16, e_17, e_18, e_19, e_20, e_21]
  clear e_0 e_1 e_2 e_3 e_4 e_5 e_6 e_7 e_8 e_9 e_10 e_11 e_12 e_13 e_14 e_15 e_16 e_17 e_18 e_19 e_20 e_21
  replace hJ := hJm.bl
  clear hM12
  clear hJm
  generalize hZ : W = Z14 at *
  clear hZ
  have hJf := hJ.below
  go_wp2
  go_ret
  exact ⟨rfl, hJf⟩
end Go.Proofs.Ytohdfialnaegcaa
