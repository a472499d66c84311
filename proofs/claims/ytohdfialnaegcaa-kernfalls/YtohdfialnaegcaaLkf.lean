/- The walk of the law KernFalls. -/
import Derived.Test.YtohdfialnaegcaaKe
import Derived.Test.YtohdfialnaegcaaKb
namespace Go.Proofs.Ytohdfialnaegcaa
open Go.RowKit
attribute [local go_sem ↓] run_eqlS run_neqS

set_option maxHeartbeats 800000 in
theorem falls_any (x y : Sp) (hx : x.all = false) (hy : y.all = false) (h1 : y.lo ≤ x.lo) (h2 : y.hi ≤ x.hi) (w : World) : Calls Try.prog 43 #[.agg #[.int .i64 x.lo, .int .i64 x.hi, .bool x.all], .agg #[.int .i64 y.lo, .int .i64 y.hi, .bool y.all]] w (PVal (.bool true) w) := by
  obtain ⟨l, u, c⟩ := x
  obtain ⟨l', u', c'⟩ := y
  cases hx
  cases hy
  change l' ≤ l at h1
  change u' ≤ u at h2
  have d1 : decide (l' ≤ l) = true := decide_eq_true h1
  have d2 : decide (u' ≤ u) = true := decide_eq_true h2
  go_enter Try.func43, Try.ntmps43
  go_wp2
  go_ret
  exact ⟨rfl, (bs2 w l u false l' u' false).below⟩
set_option maxRecDepth 100000 in
set_option maxHeartbeats 12800000 in
theorem Falls_0o (s t : Int) (x y : Sp) (hHaw : ∀ W : World, Calls Try.prog 28 #[] W (PVal (.bool true) W)) (hHin : ∀ W : World, Calls Try.prog 44 #[.agg #[.int .i64 x.lo, .int .i64 x.hi, .bool x.all], .agg #[.int .i64 y.lo, .int .i64 y.hi, .bool y.all]] W (PVal (.bool false) W)) (d0 : decide (0 ≤ s) = false) (w : World) : Calls Try.prog 9 #[.int .i64 s, .int .i64 t, .agg #[.int .i64 x.lo, .int .i64 x.hi, .bool x.all], .agg #[.int .i64 y.lo, .int .i64 y.hi, .bool y.all]] w (PVal (.bool true) w) := by
  have Haw := Lib.hid hHaw
  have Hin := Lib.hid hHin
  clear hHaw hHin
  have hJ := bl_nil w
  go_enter Try.func9, Try.ntmps9
  go_wp2_with fail
  replace hJ := hJ.new x
  replace hJ := hJ.new y
  rw [show ((w).alloc (.cells #[.int .i64 x.lo, .int .i64 x.hi, .bool x.all] 23)).heap.size = w.heap.size + 1 by simp] at hJ
  generalize hW0 : ((w).alloc (.cells #[.int .i64 x.lo, .int .i64 x.hi, .bool x.all] 23)).alloc (.cells #[.int .i64 y.lo, .int .i64 y.hi, .bool y.all] 23) = V0 at *
  clear hW0
  generalize w.heap.size = b0 at *
  refine (Haw.out _).mono ?_
  rintro e W1 ⟨rfl, hB⟩
  replace hJ := hJ.later hB
  clear hB
  have f1_0 := (hJ.at' (b0, x) (.tail _ (.head _))).cells.1
  have f1_1 := (hJ.at' (b0, x) (.tail _ (.head _))).cells.2.1
  have f1_2 := (hJ.at' (b0, x) (.tail _ (.head _))).cells.2.2.1
  have fl1 : b0 < W1.heap.size := hJ.lt (b0, x) (.tail _ (.head _))
  have f0_0 := (hJ.at' (b0 + 1, y) (.head _)).cells.1
  have f0_1 := (hJ.at' (b0 + 1, y) (.head _)).cells.2.1
  have f0_2 := (hJ.at' (b0 + 1, y) (.head _)).cells.2.2.1
  have fl0 : b0 + 1 < W1.heap.size := hJ.lt (b0 + 1, y) (.head _)
  go_wp2_with fail
  refine (Hin.out _).mono ?_
  rintro e W2 ⟨rfl, hB⟩
  replace hJ := hJ.later hB
  clear hB f1_0 f1_1 f1_2 fl1 f0_0 f0_1 f0_2 fl0
  have hJf := hJ.below
  go_wp2
  go_ret
  exact ⟨rfl, hJf⟩
set_option maxRecDepth 100000 in
set_option maxHeartbeats 12800000 in
theorem Falls_0i (s t : Int) (x y xA yA xB yB xC yC : Sp) (hHaw : ∀ W : World, Calls Try.prog 28 #[] W (PVal (.bool true) W)) (hHin : ∀ W : World, Calls Try.prog 44 #[.agg #[.int .i64 x.lo, .int .i64 x.hi, .bool x.all], .agg #[.int .i64 y.lo, .int .i64 y.hi, .bool y.all]] W (PVal (.bool true) W)) (hHAx : ∀ W : World, Calls Try.prog 30 #[.agg #[.int .i64 x.lo, .int .i64 x.hi, .bool x.all]] W (PSp xA W)) (hHAy : ∀ W : World, Calls Try.prog 30 #[.agg #[.int .i64 y.lo, .int .i64 y.hi, .bool y.all]] W (PSp yA W)) (hHAi : ∀ W : World, Calls Try.prog 44 #[.agg #[.int .i64 xA.lo, .int .i64 xA.hi, .bool xA.all], .agg #[.int .i64 yA.lo, .int .i64 yA.hi, .bool yA.all]] W (PVal (.bool true) W)) (hHBx : ∀ W : World, Calls Try.prog 31 #[.agg #[.int .i64 x.lo, .int .i64 x.hi, .bool x.all]] W (PSp xB W)) (hHBy : ∀ W : World, Calls Try.prog 31 #[.agg #[.int .i64 y.lo, .int .i64 y.hi, .bool y.all]] W (PSp yB W)) (hHBi : ∀ W : World, Calls Try.prog 44 #[.agg #[.int .i64 xB.lo, .int .i64 xB.hi, .bool xB.all], .agg #[.int .i64 yB.lo, .int .i64 yB.hi, .bool yB.all]] W (PVal (.bool true) W)) (hHCx : ∀ W : World, Calls Try.prog 32 #[.agg #[.int .i64 x.lo, .int .i64 x.hi, .bool x.all]] W (PSp xC W)) (hHCy : ∀ W : World, Calls Try.prog 32 #[.agg #[.int .i64 y.lo, .int .i64 y.hi, .bool y.all]] W (PSp yC W)) (hHCi : ∀ W : World, Calls Try.prog 44 #[.agg #[.int .i64 xC.lo, .int .i64 xC.hi, .bool xC.all], .agg #[.int .i64 yC.lo, .int .i64 yC.hi, .bool yC.all]] W (PVal (.bool true) W)) (d0 : decide (0 ≤ s) = false) (w : World) : Calls Try.prog 9 #[.int .i64 s, .int .i64 t, .agg #[.int .i64 x.lo, .int .i64 x.hi, .bool x.all], .agg #[.int .i64 y.lo, .int .i64 y.hi, .bool y.all]] w (PVal (.bool true) w) := by
  have Haw := Lib.hid hHaw
  have Hin := Lib.hid hHin
  have HAx := Lib.hid hHAx
  have HAy := Lib.hid hHAy
  have HAi := Lib.hid hHAi
  have HBx := Lib.hid hHBx
  have HBy := Lib.hid hHBy
  have HBi := Lib.hid hHBi
  have HCx := Lib.hid hHCx
  have HCy := Lib.hid hHCy
  have HCi := Lib.hid hHCi
  clear hHaw hHin hHAx hHAy hHAi hHBx hHBy hHBi hHCx hHCy hHCi
  have hJ := bl_nil w
  go_enter Try.func9, Try.ntmps9
  go_wp2_with fail
  replace hJ := hJ.new x
  replace hJ := hJ.new y
  rw [show ((w).alloc (.cells #[.int .i64 x.lo, .int .i64 x.hi, .bool x.all] 23)).heap.size = w.heap.size + 1 by simp] at hJ
  generalize hW0 : ((w).alloc (.cells #[.int .i64 x.lo, .int .i64 x.hi, .bool x.all] 23)).alloc (.cells #[.int .i64 y.lo, .int .i64 y.hi, .bool y.all] 23) = V0 at *
  clear hW0
  generalize w.heap.size = b0 at *
  refine (Haw.out _).mono ?_
  rintro e W1 ⟨rfl, hB⟩
  replace hJ := hJ.later hB
  clear hB
  have f1_0 := (hJ.at' (b0, x) (.tail _ (.head _))).cells.1
  have f1_1 := (hJ.at' (b0, x) (.tail _ (.head _))).cells.2.1
  have f1_2 := (hJ.at' (b0, x) (.tail _ (.head _))).cells.2.2.1
  have fl1 : b0 < W1.heap.size := hJ.lt (b0, x) (.tail _ (.head _))
  have f0_0 := (hJ.at' (b0 + 1, y) (.head _)).cells.1
  have f0_1 := (hJ.at' (b0 + 1, y) (.head _)).cells.2.1
  have f0_2 := (hJ.at' (b0 + 1, y) (.head _)).cells.2.2.1
  have fl0 : b0 + 1 < W1.heap.size := hJ.lt (b0 + 1, y) (.head _)
  go_wp2_with fail
  refine (Hin.out _).mono ?_
  rintro e W2 ⟨rfl, hB⟩
  replace hJ := hJ.later hB
  clear hB f1_0 f1_1 f1_2 fl1 f0_0 f0_1 f0_2 fl0
  go_wp2
  obtain ⟨m13, hm13⟩ : ∃ m, m = W2.heap.size := ⟨_, rfl⟩
  have hM13 := hJ.bm
  rw [← hm13] at hM13
  refine wp_region_z 6 [some 68, some 69, some 70, some 71, some 72, some 16] (vkL m13 [.eq (.agg #[.int .i64 x.lo, .int .i64 x.hi, .bool x.all]), .eq (.agg #[.int .i64 xA.lo, .int .i64 xA.hi, .bool xA.all]), .eq (.agg #[.int .i64 y.lo, .int .i64 y.hi, .bool y.all]), .eq (.agg #[.int .i64 yA.lo, .int .i64 yA.hi, .bool yA.all]), .eq (.bool true), .eq (.bool true)]) (Bm w m13 [(b0 + 1, y), (b0, x)]) (by kernel_rfl) (by kernel_rfl) (by rfl) (by decide) (by rfl) hM13 ?_ ?_
  · intro i hl hi u W A hJ hd hev hin
    obtain rfl | rfl | rfl | rfl | rfl | rfl : i = 0 ∨ i = 1 ∨ i = 2 ∨ i = 3 ∨ i = 4 ∨ i = 5 := by omega
    · skip
      have x6 : A.tmps[6]? = some (.pointer (some ⟨b0, 0, none⟩)) := (hev 6 (by decide)).trans rfl
      clear hd hev hin
      simp only [List.getElem_cons_succ, List.getElem_cons_zero]
      clear hl
      refine .inr ⟨rfl, fun K' hK => ?_⟩
      have HK := Lib.hid hK
      clear hK
      have f1_0 := (hJ.bl.at' (b0, x) (.tail _ (.head _))).cells.1
      have f1_1 := (hJ.bl.at' (b0, x) (.tail _ (.head _))).cells.2.1
      have f1_2 := (hJ.bl.at' (b0, x) (.tail _ (.head _))).cells.2.2.1
      go_simp
      exact HK.out (.agg #[.int .i64 x.lo, .int .i64 x.hi, .bool x.all]) _ hJ rfl vkL_same
    · skip
      have x68 : A.tmps[68]? = some (.agg #[.int .i64 x.lo, .int .i64 x.hi, .bool x.all]) := (hin 0 68 rfl).trans (congrArg some (show u 0 = .agg #[.int .i64 x.lo, .int .i64 x.hi, .bool x.all] from hd 0 (by decide) (by kernel_rfl)))
      clear hd hev hin
      simp only [List.getElem_cons_succ, List.getElem_cons_zero]
      clear hl
      refine .inr ⟨rfl, fun K' hK => ?_⟩
      have HK := Lib.hid hK
      clear hK
      go_simp
      refine (HAx.out W).mono ?_
      rintro e W' ⟨rfl, hB⟩
      exact HK.out (.agg #[.int .i64 xA.lo, .int .i64 xA.hi, .bool xA.all]) _ (hJ.later hB) rfl (vkL_later hB)
    · skip
      have x7 : A.tmps[7]? = some (.pointer (some ⟨b0 + 1, 0, none⟩)) := (hev 7 (by decide)).trans rfl
      clear hd hev hin
      simp only [List.getElem_cons_succ, List.getElem_cons_zero]
      clear hl
      refine .inr ⟨rfl, fun K' hK => ?_⟩
      have HK := Lib.hid hK
      clear hK
      have f0_0 := (hJ.bl.at' (b0 + 1, y) (.head _)).cells.1
      have f0_1 := (hJ.bl.at' (b0 + 1, y) (.head _)).cells.2.1
      have f0_2 := (hJ.bl.at' (b0 + 1, y) (.head _)).cells.2.2.1
      go_simp
      exact HK.out (.agg #[.int .i64 y.lo, .int .i64 y.hi, .bool y.all]) _ hJ rfl vkL_same
    · skip
      have x70 : A.tmps[70]? = some (.agg #[.int .i64 y.lo, .int .i64 y.hi, .bool y.all]) := (hin 2 70 rfl).trans (congrArg some (show u 2 = .agg #[.int .i64 y.lo, .int .i64 y.hi, .bool y.all] from hd 2 (by decide) (by kernel_rfl)))
      clear hd hev hin
      simp only [List.getElem_cons_succ, List.getElem_cons_zero]
      clear hl
      refine .inr ⟨rfl, fun K' hK => ?_⟩
      have HK := Lib.hid hK
      clear hK
      go_simp
      refine (HAy.out W).mono ?_
      rintro e W' ⟨rfl, hB⟩
      exact HK.out (.agg #[.int .i64 yA.lo, .int .i64 yA.hi, .bool yA.all]) _ (hJ.later hB) rfl (vkL_later hB)
    · skip
      have x69 : A.tmps[69]? = some (.agg #[.int .i64 xA.lo, .int .i64 xA.hi, .bool xA.all]) := (hin 1 69 rfl).trans (congrArg some (show u 1 = .agg #[.int .i64 xA.lo, .int .i64 xA.hi, .bool xA.all] from hd 1 (by decide) (by kernel_rfl)))
      have x71 : A.tmps[71]? = some (.agg #[.int .i64 yA.lo, .int .i64 yA.hi, .bool yA.all]) := (hin 3 71 rfl).trans (congrArg some (show u 3 = .agg #[.int .i64 yA.lo, .int .i64 yA.hi, .bool yA.all] from hd 3 (by decide) (by kernel_rfl)))
      clear hd hev hin
      simp only [List.getElem_cons_succ, List.getElem_cons_zero]
      clear hl
      refine .inr ⟨rfl, fun K' hK => ?_⟩
      have HK := Lib.hid hK
      clear hK
      go_simp
      refine (HAi.out W).mono ?_
      rintro e W' ⟨rfl, hB⟩
      exact HK.out (.bool true) _ (hJ.later hB) rfl (vkL_later hB)
    · skip
      have x72 : A.tmps[72]? = some (.bool true) := (hin 4 72 rfl).trans (congrArg some (show u 4 = .bool true from hd 4 (by decide) (by kernel_rfl)))
      clear hd hev hin
      simp only [List.getElem_cons_succ, List.getElem_cons_zero]
      clear hl
      refine .inr ⟨rfl, fun K' hK => ?_⟩
      have HK := Lib.hid hK
      clear hK
      go_simp
      exact HK.out (.bool true) _ hJ rfl vkL_same
  intro u W hJm hd
  have e_0 : u 0 = .agg #[.int .i64 x.lo, .int .i64 x.hi, .bool x.all] := hd 0 (by decide)
  have e_1 : u 1 = .agg #[.int .i64 xA.lo, .int .i64 xA.hi, .bool xA.all] := hd 1 (by decide)
  have e_2 : u 2 = .agg #[.int .i64 y.lo, .int .i64 y.hi, .bool y.all] := hd 2 (by decide)
  have e_3 : u 3 = .agg #[.int .i64 yA.lo, .int .i64 yA.hi, .bool yA.all] := hd 3 (by decide)
  have e_4 : u 4 = .bool true := hd 4 (by decide)
  have e_5 : u 5 = .bool true := hd 5 (by decide)
  clear hd
  simp only [layS, Act.put, List.setIfInBounds_toArray, List.set_cons_succ, List.set_cons_zero, Nat.zero_add, Nat.reduceAdd, List.drop_succ_cons, List.drop_zero, List.drop_nil, e_0, e_1, e_2, e_3, e_4, e_5]
  clear e_0 e_1 e_2 e_3 e_4 e_5
  replace hJ := hJm.bl
  clear hM13
  clear hJm
  generalize hZ : W = Z3 at *
  clear hZ
  go_wp2
  obtain ⟨m14, hm14⟩ : ∃ m, m = Z3.heap.size := ⟨_, rfl⟩
  have hM14 := hJ.bm
  rw [← hm14] at hM14
  refine wp_region_z 6 [some 73, some 74, some 75, some 76, some 77, some 17] (vkL m14 [.eq (.agg #[.int .i64 x.lo, .int .i64 x.hi, .bool x.all]), .eq (.agg #[.int .i64 xB.lo, .int .i64 xB.hi, .bool xB.all]), .eq (.agg #[.int .i64 y.lo, .int .i64 y.hi, .bool y.all]), .eq (.agg #[.int .i64 yB.lo, .int .i64 yB.hi, .bool yB.all]), .eq (.bool true), .eq (.bool true)]) (Bm w m14 [(b0 + 1, y), (b0, x)]) (by kernel_rfl) (by kernel_rfl) (by rfl) (by decide) (by rfl) hM14 ?_ ?_
  · intro i hl hi u W A hJ hd hev hin
    obtain rfl | rfl | rfl | rfl | rfl | rfl : i = 0 ∨ i = 1 ∨ i = 2 ∨ i = 3 ∨ i = 4 ∨ i = 5 := by omega
    · skip
      have x6 : A.tmps[6]? = some (.pointer (some ⟨b0, 0, none⟩)) := (hev 6 (by decide)).trans rfl
      clear hd hev hin
      simp only [List.getElem_cons_succ, List.getElem_cons_zero]
      clear hl
      refine .inr ⟨rfl, fun K' hK => ?_⟩
      have HK := Lib.hid hK
      clear hK
      have f1_0 := (hJ.bl.at' (b0, x) (.tail _ (.head _))).cells.1
      have f1_1 := (hJ.bl.at' (b0, x) (.tail _ (.head _))).cells.2.1
      have f1_2 := (hJ.bl.at' (b0, x) (.tail _ (.head _))).cells.2.2.1
      go_simp
      exact HK.out (.agg #[.int .i64 x.lo, .int .i64 x.hi, .bool x.all]) _ hJ rfl vkL_same
    · skip
      have x73 : A.tmps[73]? = some (.agg #[.int .i64 x.lo, .int .i64 x.hi, .bool x.all]) := (hin 0 73 rfl).trans (congrArg some (show u 0 = .agg #[.int .i64 x.lo, .int .i64 x.hi, .bool x.all] from hd 0 (by decide) (by kernel_rfl)))
      clear hd hev hin
      simp only [List.getElem_cons_succ, List.getElem_cons_zero]
      clear hl
      refine .inr ⟨rfl, fun K' hK => ?_⟩
      have HK := Lib.hid hK
      clear hK
      go_simp
      refine (HBx.out W).mono ?_
      rintro e W' ⟨rfl, hB⟩
      exact HK.out (.agg #[.int .i64 xB.lo, .int .i64 xB.hi, .bool xB.all]) _ (hJ.later hB) rfl (vkL_later hB)
    · skip
      have x7 : A.tmps[7]? = some (.pointer (some ⟨b0 + 1, 0, none⟩)) := (hev 7 (by decide)).trans rfl
      clear hd hev hin
      simp only [List.getElem_cons_succ, List.getElem_cons_zero]
      clear hl
      refine .inr ⟨rfl, fun K' hK => ?_⟩
      have HK := Lib.hid hK
      clear hK
      have f0_0 := (hJ.bl.at' (b0 + 1, y) (.head _)).cells.1
      have f0_1 := (hJ.bl.at' (b0 + 1, y) (.head _)).cells.2.1
      have f0_2 := (hJ.bl.at' (b0 + 1, y) (.head _)).cells.2.2.1
      go_simp
      exact HK.out (.agg #[.int .i64 y.lo, .int .i64 y.hi, .bool y.all]) _ hJ rfl vkL_same
    · skip
      have x75 : A.tmps[75]? = some (.agg #[.int .i64 y.lo, .int .i64 y.hi, .bool y.all]) := (hin 2 75 rfl).trans (congrArg some (show u 2 = .agg #[.int .i64 y.lo, .int .i64 y.hi, .bool y.all] from hd 2 (by decide) (by kernel_rfl)))
      clear hd hev hin
      simp only [List.getElem_cons_succ, List.getElem_cons_zero]
      clear hl
      refine .inr ⟨rfl, fun K' hK => ?_⟩
      have HK := Lib.hid hK
      clear hK
      go_simp
      refine (HBy.out W).mono ?_
      rintro e W' ⟨rfl, hB⟩
      exact HK.out (.agg #[.int .i64 yB.lo, .int .i64 yB.hi, .bool yB.all]) _ (hJ.later hB) rfl (vkL_later hB)
    · skip
      have x74 : A.tmps[74]? = some (.agg #[.int .i64 xB.lo, .int .i64 xB.hi, .bool xB.all]) := (hin 1 74 rfl).trans (congrArg some (show u 1 = .agg #[.int .i64 xB.lo, .int .i64 xB.hi, .bool xB.all] from hd 1 (by decide) (by kernel_rfl)))
      have x76 : A.tmps[76]? = some (.agg #[.int .i64 yB.lo, .int .i64 yB.hi, .bool yB.all]) := (hin 3 76 rfl).trans (congrArg some (show u 3 = .agg #[.int .i64 yB.lo, .int .i64 yB.hi, .bool yB.all] from hd 3 (by decide) (by kernel_rfl)))
      clear hd hev hin
      simp only [List.getElem_cons_succ, List.getElem_cons_zero]
      clear hl
      refine .inr ⟨rfl, fun K' hK => ?_⟩
      have HK := Lib.hid hK
      clear hK
      go_simp
      refine (HBi.out W).mono ?_
      rintro e W' ⟨rfl, hB⟩
      exact HK.out (.bool true) _ (hJ.later hB) rfl (vkL_later hB)
    · skip
      have x77 : A.tmps[77]? = some (.bool true) := (hin 4 77 rfl).trans (congrArg some (show u 4 = .bool true from hd 4 (by decide) (by kernel_rfl)))
      clear hd hev hin
      simp only [List.getElem_cons_succ, List.getElem_cons_zero]
      clear hl
      refine .inr ⟨rfl, fun K' hK => ?_⟩
      have HK := Lib.hid hK
      clear hK
      go_simp
      exact HK.out (.bool true) _ hJ rfl vkL_same
  intro u W hJm hd
  have e_0 : u 0 = .agg #[.int .i64 x.lo, .int .i64 x.hi, .bool x.all] := hd 0 (by decide)
  have e_1 : u 1 = .agg #[.int .i64 xB.lo, .int .i64 xB.hi, .bool xB.all] := hd 1 (by decide)
  have e_2 : u 2 = .agg #[.int .i64 y.lo, .int .i64 y.hi, .bool y.all] := hd 2 (by decide)
  have e_3 : u 3 = .agg #[.int .i64 yB.lo, .int .i64 yB.hi, .bool yB.all] := hd 3 (by decide)
  have e_4 : u 4 = .bool true := hd 4 (by decide)
  have e_5 : u 5 = .bool true := hd 5 (by decide)
  clear hd
  simp only [layS, Act.put, List.setIfInBounds_toArray, List.set_cons_succ, List.set_cons_zero, Nat.zero_add, Nat.reduceAdd, List.drop_succ_cons, List.drop_zero, List.drop_nil, e_0, e_1, e_2, e_3, e_4, e_5]
  clear e_0 e_1 e_2 e_3 e_4 e_5
  replace hJ := hJm.bl
  clear hM14
  clear hJm
  generalize hZ : W = Z4 at *
  clear hZ
  go_wp2
  obtain ⟨m15, hm15⟩ : ∃ m, m = Z4.heap.size := ⟨_, rfl⟩
  have hM15 := hJ.bm
  rw [← hm15] at hM15
  refine wp_region_z 6 [some 78, some 79, some 80, some 81, some 82, some 18] (vkL m15 [.eq (.agg #[.int .i64 x.lo, .int .i64 x.hi, .bool x.all]), .eq (.agg #[.int .i64 xC.lo, .int .i64 xC.hi, .bool xC.all]), .eq (.agg #[.int .i64 y.lo, .int .i64 y.hi, .bool y.all]), .eq (.agg #[.int .i64 yC.lo, .int .i64 yC.hi, .bool yC.all]), .eq (.bool true), .eq (.bool true)]) (Bm w m15 [(b0 + 1, y), (b0, x)]) (by kernel_rfl) (by kernel_rfl) (by rfl) (by decide) (by rfl) hM15 ?_ ?_
  · intro i hl hi u W A hJ hd hev hin
    obtain rfl | rfl | rfl | rfl | rfl | rfl : i = 0 ∨ i = 1 ∨ i = 2 ∨ i = 3 ∨ i = 4 ∨ i = 5 := by omega
    · skip
      have x6 : A.tmps[6]? = some (.pointer (some ⟨b0, 0, none⟩)) := (hev 6 (by decide)).trans rfl
      clear hd hev hin
      simp only [List.getElem_cons_succ, List.getElem_cons_zero]
      clear hl
      refine .inr ⟨rfl, fun K' hK => ?_⟩
      have HK := Lib.hid hK
      clear hK
      have f1_0 := (hJ.bl.at' (b0, x) (.tail _ (.head _))).cells.1
      have f1_1 := (hJ.bl.at' (b0, x) (.tail _ (.head _))).cells.2.1
      have f1_2 := (hJ.bl.at' (b0, x) (.tail _ (.head _))).cells.2.2.1
      go_simp
      exact HK.out (.agg #[.int .i64 x.lo, .int .i64 x.hi, .bool x.all]) _ hJ rfl vkL_same
    · skip
      have x78 : A.tmps[78]? = some (.agg #[.int .i64 x.lo, .int .i64 x.hi, .bool x.all]) := (hin 0 78 rfl).trans (congrArg some (show u 0 = .agg #[.int .i64 x.lo, .int .i64 x.hi, .bool x.all] from hd 0 (by decide) (by kernel_rfl)))
      clear hd hev hin
      simp only [List.getElem_cons_succ, List.getElem_cons_zero]
      clear hl
      refine .inr ⟨rfl, fun K' hK => ?_⟩
      have HK := Lib.hid hK
      clear hK
      go_simp
      refine (HCx.out W).mono ?_
      rintro e W' ⟨rfl, hB⟩
      exact HK.out (.agg #[.int .i64 xC.lo, .int .i64 xC.hi, .bool xC.all]) _ (hJ.later hB) rfl (vkL_later hB)
    · skip
      have x7 : A.tmps[7]? = some (.pointer (some ⟨b0 + 1, 0, none⟩)) := (hev 7 (by decide)).trans rfl
      clear hd hev hin
      simp only [List.getElem_cons_succ, List.getElem_cons_zero]
      clear hl
      refine .inr ⟨rfl, fun K' hK => ?_⟩
      have HK := Lib.hid hK
      clear hK
      have f0_0 := (hJ.bl.at' (b0 + 1, y) (.head _)).cells.1
      have f0_1 := (hJ.bl.at' (b0 + 1, y) (.head _)).cells.2.1
      have f0_2 := (hJ.bl.at' (b0 + 1, y) (.head _)).cells.2.2.1
      go_simp
      exact HK.out (.agg #[.int .i64 y.lo, .int .i64 y.hi, .bool y.all]) _ hJ rfl vkL_same
    · skip
      have x80 : A.tmps[80]? = some (.agg #[.int .i64 y.lo, .int .i64 y.hi, .bool y.all]) := (hin 2 80 rfl).trans (congrArg some (show u 2 = .agg #[.int .i64 y.lo, .int .i64 y.hi, .bool y.all] from hd 2 (by decide) (by kernel_rfl)))
      clear hd hev hin
      simp only [List.getElem_cons_succ, List.getElem_cons_zero]
      clear hl
      refine .inr ⟨rfl, fun K' hK => ?_⟩
      have HK := Lib.hid hK
      clear hK
      go_simp
      refine (HCy.out W).mono ?_
      rintro e W' ⟨rfl, hB⟩
      exact HK.out (.agg #[.int .i64 yC.lo, .int .i64 yC.hi, .bool yC.all]) _ (hJ.later hB) rfl (vkL_later hB)
    · skip
      have x79 : A.tmps[79]? = some (.agg #[.int .i64 xC.lo, .int .i64 xC.hi, .bool xC.all]) := (hin 1 79 rfl).trans (congrArg some (show u 1 = .agg #[.int .i64 xC.lo, .int .i64 xC.hi, .bool xC.all] from hd 1 (by decide) (by kernel_rfl)))
      have x81 : A.tmps[81]? = some (.agg #[.int .i64 yC.lo, .int .i64 yC.hi, .bool yC.all]) := (hin 3 81 rfl).trans (congrArg some (show u 3 = .agg #[.int .i64 yC.lo, .int .i64 yC.hi, .bool yC.all] from hd 3 (by decide) (by kernel_rfl)))
      clear hd hev hin
      simp only [List.getElem_cons_succ, List.getElem_cons_zero]
      clear hl
      refine .inr ⟨rfl, fun K' hK => ?_⟩
      have HK := Lib.hid hK
      clear hK
      go_simp
      refine (HCi.out W).mono ?_
      rintro e W' ⟨rfl, hB⟩
      exact HK.out (.bool true) _ (hJ.later hB) rfl (vkL_later hB)
    · skip
      have x82 : A.tmps[82]? = some (.bool true) := (hin 4 82 rfl).trans (congrArg some (show u 4 = .bool true from hd 4 (by decide) (by kernel_rfl)))
      clear hd hev hin
      simp only [List.getElem_cons_succ, List.getElem_cons_zero]
      clear hl
      refine .inr ⟨rfl, fun K' hK => ?_⟩
      have HK := Lib.hid hK
      clear hK
      go_simp
      exact HK.out (.bool true) _ hJ rfl vkL_same
  intro u W hJm hd
  have e_0 : u 0 = .agg #[.int .i64 x.lo, .int .i64 x.hi, .bool x.all] := hd 0 (by decide)
  have e_1 : u 1 = .agg #[.int .i64 xC.lo, .int .i64 xC.hi, .bool xC.all] := hd 1 (by decide)
  have e_2 : u 2 = .agg #[.int .i64 y.lo, .int .i64 y.hi, .bool y.all] := hd 2 (by decide)
  have e_3 : u 3 = .agg #[.int .i64 yC.lo, .int .i64 yC.hi, .bool yC.all] := hd 3 (by decide)
  have e_4 : u 4 = .bool true := hd 4 (by decide)
  have e_5 : u 5 = .bool true := hd 5 (by decide)
  clear hd
  simp only [layS, Act.put, List.setIfInBounds_toArray, List.set_cons_succ, List.set_cons_zero, Nat.zero_add, Nat.reduceAdd, List.drop_succ_cons, List.drop_zero, List.drop_nil, e_0, e_1, e_2, e_3, e_4, e_5]
  clear e_0 e_1 e_2 e_3 e_4 e_5
  replace hJ := hJm.bl
  clear hM15
  clear hJm
  generalize hZ : W = Z5 at *
  clear hZ
  have hJf := hJ.below
  go_wp2
  go_ret
  exact ⟨rfl, hJf⟩
set_option maxRecDepth 100000 in
set_option maxHeartbeats 12800000 in
theorem Falls_1o (s t : Int) (x y : Sp) (hHaw : ∀ W : World, Calls Try.prog 28 #[] W (PVal (.bool true) W)) (hHin : ∀ W : World, Calls Try.prog 44 #[.agg #[.int .i64 x.lo, .int .i64 x.hi, .bool x.all], .agg #[.int .i64 y.lo, .int .i64 y.hi, .bool y.all]] W (PVal (.bool false) W)) (d0 : decide (0 ≤ s) = true) (d1 : decide (s ≤ t) = false) (w : World) : Calls Try.prog 9 #[.int .i64 s, .int .i64 t, .agg #[.int .i64 x.lo, .int .i64 x.hi, .bool x.all], .agg #[.int .i64 y.lo, .int .i64 y.hi, .bool y.all]] w (PVal (.bool true) w) := by
  have Haw := Lib.hid hHaw
  have Hin := Lib.hid hHin
  clear hHaw hHin
  have hJ := bl_nil w
  go_enter Try.func9, Try.ntmps9
  go_wp2_with fail
  replace hJ := hJ.new x
  replace hJ := hJ.new y
  rw [show ((w).alloc (.cells #[.int .i64 x.lo, .int .i64 x.hi, .bool x.all] 23)).heap.size = w.heap.size + 1 by simp] at hJ
  generalize hW0 : ((w).alloc (.cells #[.int .i64 x.lo, .int .i64 x.hi, .bool x.all] 23)).alloc (.cells #[.int .i64 y.lo, .int .i64 y.hi, .bool y.all] 23) = V0 at *
  clear hW0
  generalize w.heap.size = b0 at *
  refine (Haw.out _).mono ?_
  rintro e W1 ⟨rfl, hB⟩
  replace hJ := hJ.later hB
  clear hB
  have f1_0 := (hJ.at' (b0, x) (.tail _ (.head _))).cells.1
  have f1_1 := (hJ.at' (b0, x) (.tail _ (.head _))).cells.2.1
  have f1_2 := (hJ.at' (b0, x) (.tail _ (.head _))).cells.2.2.1
  have fl1 : b0 < W1.heap.size := hJ.lt (b0, x) (.tail _ (.head _))
  have f0_0 := (hJ.at' (b0 + 1, y) (.head _)).cells.1
  have f0_1 := (hJ.at' (b0 + 1, y) (.head _)).cells.2.1
  have f0_2 := (hJ.at' (b0 + 1, y) (.head _)).cells.2.2.1
  have fl0 : b0 + 1 < W1.heap.size := hJ.lt (b0 + 1, y) (.head _)
  go_wp2_with fail
  refine (Hin.out _).mono ?_
  rintro e W2 ⟨rfl, hB⟩
  replace hJ := hJ.later hB
  clear hB f1_0 f1_1 f1_2 fl1 f0_0 f0_1 f0_2 fl0
  have hJf := hJ.below
  go_wp2
  go_ret
  exact ⟨rfl, hJf⟩
set_option maxRecDepth 100000 in
set_option maxHeartbeats 12800000 in
theorem Falls_1i (s t : Int) (x y xA yA xB yB xC yC : Sp) (hHaw : ∀ W : World, Calls Try.prog 28 #[] W (PVal (.bool true) W)) (hHin : ∀ W : World, Calls Try.prog 44 #[.agg #[.int .i64 x.lo, .int .i64 x.hi, .bool x.all], .agg #[.int .i64 y.lo, .int .i64 y.hi, .bool y.all]] W (PVal (.bool true) W)) (hHAx : ∀ W : World, Calls Try.prog 30 #[.agg #[.int .i64 x.lo, .int .i64 x.hi, .bool x.all]] W (PSp xA W)) (hHAy : ∀ W : World, Calls Try.prog 30 #[.agg #[.int .i64 y.lo, .int .i64 y.hi, .bool y.all]] W (PSp yA W)) (hHAi : ∀ W : World, Calls Try.prog 44 #[.agg #[.int .i64 xA.lo, .int .i64 xA.hi, .bool xA.all], .agg #[.int .i64 yA.lo, .int .i64 yA.hi, .bool yA.all]] W (PVal (.bool true) W)) (hHBx : ∀ W : World, Calls Try.prog 31 #[.agg #[.int .i64 x.lo, .int .i64 x.hi, .bool x.all]] W (PSp xB W)) (hHBy : ∀ W : World, Calls Try.prog 31 #[.agg #[.int .i64 y.lo, .int .i64 y.hi, .bool y.all]] W (PSp yB W)) (hHBi : ∀ W : World, Calls Try.prog 44 #[.agg #[.int .i64 xB.lo, .int .i64 xB.hi, .bool xB.all], .agg #[.int .i64 yB.lo, .int .i64 yB.hi, .bool yB.all]] W (PVal (.bool true) W)) (hHCx : ∀ W : World, Calls Try.prog 32 #[.agg #[.int .i64 x.lo, .int .i64 x.hi, .bool x.all]] W (PSp xC W)) (hHCy : ∀ W : World, Calls Try.prog 32 #[.agg #[.int .i64 y.lo, .int .i64 y.hi, .bool y.all]] W (PSp yC W)) (hHCi : ∀ W : World, Calls Try.prog 44 #[.agg #[.int .i64 xC.lo, .int .i64 xC.hi, .bool xC.all], .agg #[.int .i64 yC.lo, .int .i64 yC.hi, .bool yC.all]] W (PVal (.bool true) W)) (d0 : decide (0 ≤ s) = true) (d1 : decide (s ≤ t) = false) (w : World) : Calls Try.prog 9 #[.int .i64 s, .int .i64 t, .agg #[.int .i64 x.lo, .int .i64 x.hi, .bool x.all], .agg #[.int .i64 y.lo, .int .i64 y.hi, .bool y.all]] w (PVal (.bool true) w) := by
  have Haw := Lib.hid hHaw
  have Hin := Lib.hid hHin
  have HAx := Lib.hid hHAx
  have HAy := Lib.hid hHAy
  have HAi := Lib.hid hHAi
  have HBx := Lib.hid hHBx
  have HBy := Lib.hid hHBy
  have HBi := Lib.hid hHBi
  have HCx := Lib.hid hHCx
  have HCy := Lib.hid hHCy
  have HCi := Lib.hid hHCi
  clear hHaw hHin hHAx hHAy hHAi hHBx hHBy hHBi hHCx hHCy hHCi
  have hJ := bl_nil w
  go_enter Try.func9, Try.ntmps9
  go_wp2_with fail
  replace hJ := hJ.new x
  replace hJ := hJ.new y
  rw [show ((w).alloc (.cells #[.int .i64 x.lo, .int .i64 x.hi, .bool x.all] 23)).heap.size = w.heap.size + 1 by simp] at hJ
  generalize hW0 : ((w).alloc (.cells #[.int .i64 x.lo, .int .i64 x.hi, .bool x.all] 23)).alloc (.cells #[.int .i64 y.lo, .int .i64 y.hi, .bool y.all] 23) = V0 at *
  clear hW0
  generalize w.heap.size = b0 at *
  refine (Haw.out _).mono ?_
  rintro e W1 ⟨rfl, hB⟩
  replace hJ := hJ.later hB
  clear hB
  have f1_0 := (hJ.at' (b0, x) (.tail _ (.head _))).cells.1
  have f1_1 := (hJ.at' (b0, x) (.tail _ (.head _))).cells.2.1
  have f1_2 := (hJ.at' (b0, x) (.tail _ (.head _))).cells.2.2.1
  have fl1 : b0 < W1.heap.size := hJ.lt (b0, x) (.tail _ (.head _))
  have f0_0 := (hJ.at' (b0 + 1, y) (.head _)).cells.1
  have f0_1 := (hJ.at' (b0 + 1, y) (.head _)).cells.2.1
  have f0_2 := (hJ.at' (b0 + 1, y) (.head _)).cells.2.2.1
  have fl0 : b0 + 1 < W1.heap.size := hJ.lt (b0 + 1, y) (.head _)
  go_wp2_with fail
  refine (Hin.out _).mono ?_
  rintro e W2 ⟨rfl, hB⟩
  replace hJ := hJ.later hB
  clear hB f1_0 f1_1 f1_2 fl1 f0_0 f0_1 f0_2 fl0
  go_wp2
  obtain ⟨m13, hm13⟩ : ∃ m, m = W2.heap.size := ⟨_, rfl⟩
  have hM13 := hJ.bm
  rw [← hm13] at hM13
  refine wp_region_z 6 [some 68, some 69, some 70, some 71, some 72, some 16] (vkL m13 [.eq (.agg #[.int .i64 x.lo, .int .i64 x.hi, .bool x.all]), .eq (.agg #[.int .i64 xA.lo, .int .i64 xA.hi, .bool xA.all]), .eq (.agg #[.int .i64 y.lo, .int .i64 y.hi, .bool y.all]), .eq (.agg #[.int .i64 yA.lo, .int .i64 yA.hi, .bool yA.all]), .eq (.bool true), .eq (.bool true)]) (Bm w m13 [(b0 + 1, y), (b0, x)]) (by kernel_rfl) (by kernel_rfl) (by rfl) (by decide) (by rfl) hM13 ?_ ?_
  · intro i hl hi u W A hJ hd hev hin
    obtain rfl | rfl | rfl | rfl | rfl | rfl : i = 0 ∨ i = 1 ∨ i = 2 ∨ i = 3 ∨ i = 4 ∨ i = 5 := by omega
    · skip
      have x6 : A.tmps[6]? = some (.pointer (some ⟨b0, 0, none⟩)) := (hev 6 (by decide)).trans rfl
      clear hd hev hin
      simp only [List.getElem_cons_succ, List.getElem_cons_zero]
      clear hl
      refine .inr ⟨rfl, fun K' hK => ?_⟩
      have HK := Lib.hid hK
      clear hK
      have f1_0 := (hJ.bl.at' (b0, x) (.tail _ (.head _))).cells.1
      have f1_1 := (hJ.bl.at' (b0, x) (.tail _ (.head _))).cells.2.1
      have f1_2 := (hJ.bl.at' (b0, x) (.tail _ (.head _))).cells.2.2.1
      go_simp
      exact HK.out (.agg #[.int .i64 x.lo, .int .i64 x.hi, .bool x.all]) _ hJ rfl vkL_same
    · skip
      have x68 : A.tmps[68]? = some (.agg #[.int .i64 x.lo, .int .i64 x.hi, .bool x.all]) := (hin 0 68 rfl).trans (congrArg some (show u 0 = .agg #[.int .i64 x.lo, .int .i64 x.hi, .bool x.all] from hd 0 (by decide) (by kernel_rfl)))
      clear hd hev hin
      simp only [List.getElem_cons_succ, List.getElem_cons_zero]
      clear hl
      refine .inr ⟨rfl, fun K' hK => ?_⟩
      have HK := Lib.hid hK
      clear hK
      go_simp
      refine (HAx.out W).mono ?_
      rintro e W' ⟨rfl, hB⟩
      exact HK.out (.agg #[.int .i64 xA.lo, .int .i64 xA.hi, .bool xA.all]) _ (hJ.later hB) rfl (vkL_later hB)
    · skip
      have x7 : A.tmps[7]? = some (.pointer (some ⟨b0 + 1, 0, none⟩)) := (hev 7 (by decide)).trans rfl
      clear hd hev hin
      simp only [List.getElem_cons_succ, List.getElem_cons_zero]
      clear hl
      refine .inr ⟨rfl, fun K' hK => ?_⟩
      have HK := Lib.hid hK
      clear hK
      have f0_0 := (hJ.bl.at' (b0 + 1, y) (.head _)).cells.1
      have f0_1 := (hJ.bl.at' (b0 + 1, y) (.head _)).cells.2.1
      have f0_2 := (hJ.bl.at' (b0 + 1, y) (.head _)).cells.2.2.1
      go_simp
      exact HK.out (.agg #[.int .i64 y.lo, .int .i64 y.hi, .bool y.all]) _ hJ rfl vkL_same
    · skip
      have x70 : A.tmps[70]? = some (.agg #[.int .i64 y.lo, .int .i64 y.hi, .bool y.all]) := (hin 2 70 rfl).trans (congrArg some (show u 2 = .agg #[.int .i64 y.lo, .int .i64 y.hi, .bool y.all] from hd 2 (by decide) (by kernel_rfl)))
      clear hd hev hin
      simp only [List.getElem_cons_succ, List.getElem_cons_zero]
      clear hl
      refine .inr ⟨rfl, fun K' hK => ?_⟩
      have HK := Lib.hid hK
      clear hK
      go_simp
      refine (HAy.out W).mono ?_
      rintro e W' ⟨rfl, hB⟩
      exact HK.out (.agg #[.int .i64 yA.lo, .int .i64 yA.hi, .bool yA.all]) _ (hJ.later hB) rfl (vkL_later hB)
    · skip
      have x69 : A.tmps[69]? = some (.agg #[.int .i64 xA.lo, .int .i64 xA.hi, .bool xA.all]) := (hin 1 69 rfl).trans (congrArg some (show u 1 = .agg #[.int .i64 xA.lo, .int .i64 xA.hi, .bool xA.all] from hd 1 (by decide) (by kernel_rfl)))
      have x71 : A.tmps[71]? = some (.agg #[.int .i64 yA.lo, .int .i64 yA.hi, .bool yA.all]) := (hin 3 71 rfl).trans (congrArg some (show u 3 = .agg #[.int .i64 yA.lo, .int .i64 yA.hi, .bool yA.all] from hd 3 (by decide) (by kernel_rfl)))
      clear hd hev hin
      simp only [List.getElem_cons_succ, List.getElem_cons_zero]
      clear hl
      refine .inr ⟨rfl, fun K' hK => ?_⟩
      have HK := Lib.hid hK
      clear hK
      go_simp
      refine (HAi.out W).mono ?_
      rintro e W' ⟨rfl, hB⟩
      exact HK.out (.bool true) _ (hJ.later hB) rfl (vkL_later hB)
    · skip
      have x72 : A.tmps[72]? = some (.bool true) := (hin 4 72 rfl).trans (congrArg some (show u 4 = .bool true from hd 4 (by decide) (by kernel_rfl)))
      clear hd hev hin
      simp only [List.getElem_cons_succ, List.getElem_cons_zero]
      clear hl
      refine .inr ⟨rfl, fun K' hK => ?_⟩
      have HK := Lib.hid hK
      clear hK
      go_simp
      exact HK.out (.bool true) _ hJ rfl vkL_same
  intro u W hJm hd
  have e_0 : u 0 = .agg #[.int .i64 x.lo, .int .i64 x.hi, .bool x.all] := hd 0 (by decide)
  have e_1 : u 1 = .agg #[.int .i64 xA.lo, .int .i64 xA.hi, .bool xA.all] := hd 1 (by decide)
  have e_2 : u 2 = .agg #[.int .i64 y.lo, .int .i64 y.hi, .bool y.all] := hd 2 (by decide)
  have e_3 : u 3 = .agg #[.int .i64 yA.lo, .int .i64 yA.hi, .bool yA.all] := hd 3 (by decide)
  have e_4 : u 4 = .bool true := hd 4 (by decide)
  have e_5 : u 5 = .bool true := hd 5 (by decide)
  clear hd
  simp only [layS, Act.put, List.setIfInBounds_toArray, List.set_cons_succ, List.set_cons_zero, Nat.zero_add, Nat.reduceAdd, List.drop_succ_cons, List.drop_zero, List.drop_nil, e_0, e_1, e_2, e_3, e_4, e_5]
  clear e_0 e_1 e_2 e_3 e_4 e_5
  replace hJ := hJm.bl
  clear hM13
  clear hJm
  generalize hZ : W = Z3 at *
  clear hZ
  go_wp2
  obtain ⟨m14, hm14⟩ : ∃ m, m = Z3.heap.size := ⟨_, rfl⟩
  have hM14 := hJ.bm
  rw [← hm14] at hM14
  refine wp_region_z 6 [some 73, some 74, some 75, some 76, some 77, some 17] (vkL m14 [.eq (.agg #[.int .i64 x.lo, .int .i64 x.hi, .bool x.all]), .eq (.agg #[.int .i64 xB.lo, .int .i64 xB.hi, .bool xB.all]), .eq (.agg #[.int .i64 y.lo, .int .i64 y.hi, .bool y.all]), .eq (.agg #[.int .i64 yB.lo, .int .i64 yB.hi, .bool yB.all]), .eq (.bool true), .eq (.bool true)]) (Bm w m14 [(b0 + 1, y), (b0, x)]) (by kernel_rfl) (by kernel_rfl) (by rfl) (by decide) (by rfl) hM14 ?_ ?_
  · intro i hl hi u W A hJ hd hev hin
    obtain rfl | rfl | rfl | rfl | rfl | rfl : i = 0 ∨ i = 1 ∨ i = 2 ∨ i = 3 ∨ i = 4 ∨ i = 5 := by omega
    · skip
      have x6 : A.tmps[6]? = some (.pointer (some ⟨b0, 0, none⟩)) := (hev 6 (by decide)).trans rfl
      clear hd hev hin
      simp only [List.getElem_cons_succ, List.getElem_cons_zero]
      clear hl
      refine .inr ⟨rfl, fun K' hK => ?_⟩
      have HK := Lib.hid hK
      clear hK
      have f1_0 := (hJ.bl.at' (b0, x) (.tail _ (.head _))).cells.1
      have f1_1 := (hJ.bl.at' (b0, x) (.tail _ (.head _))).cells.2.1
      have f1_2 := (hJ.bl.at' (b0, x) (.tail _ (.head _))).cells.2.2.1
      go_simp
      exact HK.out (.agg #[.int .i64 x.lo, .int .i64 x.hi, .bool x.all]) _ hJ rfl vkL_same
    · skip
      have x73 : A.tmps[73]? = some (.agg #[.int .i64 x.lo, .int .i64 x.hi, .bool x.all]) := (hin 0 73 rfl).trans (congrArg some (show u 0 = .agg #[.int .i64 x.lo, .int .i64 x.hi, .bool x.all] from hd 0 (by decide) (by kernel_rfl)))
      clear hd hev hin
      simp only [List.getElem_cons_succ, List.getElem_cons_zero]
      clear hl
      refine .inr ⟨rfl, fun K' hK => ?_⟩
      have HK := Lib.hid hK
      clear hK
      go_simp
      refine (HBx.out W).mono ?_
      rintro e W' ⟨rfl, hB⟩
      exact HK.out (.agg #[.int .i64 xB.lo, .int .i64 xB.hi, .bool xB.all]) _ (hJ.later hB) rfl (vkL_later hB)
    · skip
      have x7 : A.tmps[7]? = some (.pointer (some ⟨b0 + 1, 0, none⟩)) := (hev 7 (by decide)).trans rfl
      clear hd hev hin
      simp only [List.getElem_cons_succ, List.getElem_cons_zero]
      clear hl
      refine .inr ⟨rfl, fun K' hK => ?_⟩
      have HK := Lib.hid hK
      clear hK
      have f0_0 := (hJ.bl.at' (b0 + 1, y) (.head _)).cells.1
      have f0_1 := (hJ.bl.at' (b0 + 1, y) (.head _)).cells.2.1
      have f0_2 := (hJ.bl.at' (b0 + 1, y) (.head _)).cells.2.2.1
      go_simp
      exact HK.out (.agg #[.int .i64 y.lo, .int .i64 y.hi, .bool y.all]) _ hJ rfl vkL_same
    · skip
      have x75 : A.tmps[75]? = some (.agg #[.int .i64 y.lo, .int .i64 y.hi, .bool y.all]) := (hin 2 75 rfl).trans (congrArg some (show u 2 = .agg #[.int .i64 y.lo, .int .i64 y.hi, .bool y.all] from hd 2 (by decide) (by kernel_rfl)))
      clear hd hev hin
      simp only [List.getElem_cons_succ, List.getElem_cons_zero]
      clear hl
      refine .inr ⟨rfl, fun K' hK => ?_⟩
      have HK := Lib.hid hK
      clear hK
      go_simp
      refine (HBy.out W).mono ?_
      rintro e W' ⟨rfl, hB⟩
      exact HK.out (.agg #[.int .i64 yB.lo, .int .i64 yB.hi, .bool yB.all]) _ (hJ.later hB) rfl (vkL_later hB)
    · skip
      have x74 : A.tmps[74]? = some (.agg #[.int .i64 xB.lo, .int .i64 xB.hi, .bool xB.all]) := (hin 1 74 rfl).trans (congrArg some (show u 1 = .agg #[.int .i64 xB.lo, .int .i64 xB.hi, .bool xB.all] from hd 1 (by decide) (by kernel_rfl)))
      have x76 : A.tmps[76]? = some (.agg #[.int .i64 yB.lo, .int .i64 yB.hi, .bool yB.all]) := (hin 3 76 rfl).trans (congrArg some (show u 3 = .agg #[.int .i64 yB.lo, .int .i64 yB.hi, .bool yB.all] from hd 3 (by decide) (by kernel_rfl)))
      clear hd hev hin
      simp only [List.getElem_cons_succ, List.getElem_cons_zero]
      clear hl
      refine .inr ⟨rfl, fun K' hK => ?_⟩
      have HK := Lib.hid hK
      clear hK
      go_simp
      refine (HBi.out W).mono ?_
      rintro e W' ⟨rfl, hB⟩
      exact HK.out (.bool true) _ (hJ.later hB) rfl (vkL_later hB)
    · skip
      have x77 : A.tmps[77]? = some (.bool true) := (hin 4 77 rfl).trans (congrArg some (show u 4 = .bool true from hd 4 (by decide) (by kernel_rfl)))
      clear hd hev hin
      simp only [List.getElem_cons_succ, List.getElem_cons_zero]
      clear hl
      refine .inr ⟨rfl, fun K' hK => ?_⟩
      have HK := Lib.hid hK
      clear hK
      go_simp
      exact HK.out (.bool true) _ hJ rfl vkL_same
  intro u W hJm hd
  have e_0 : u 0 = .agg #[.int .i64 x.lo, .int .i64 x.hi, .bool x.all] := hd 0 (by decide)
  have e_1 : u 1 = .agg #[.int .i64 xB.lo, .int .i64 xB.hi, .bool xB.all] := hd 1 (by decide)
  have e_2 : u 2 = .agg #[.int .i64 y.lo, .int .i64 y.hi, .bool y.all] := hd 2 (by decide)
  have e_3 : u 3 = .agg #[.int .i64 yB.lo, .int .i64 yB.hi, .bool yB.all] := hd 3 (by decide)
  have e_4 : u 4 = .bool true := hd 4 (by decide)
  have e_5 : u 5 = .bool true := hd 5 (by decide)
  clear hd
  simp only [layS, Act.put, List.setIfInBounds_toArray, List.set_cons_succ, List.set_cons_zero, Nat.zero_add, Nat.reduceAdd, List.drop_succ_cons, List.drop_zero, List.drop_nil, e_0, e_1, e_2, e_3, e_4, e_5]
  clear e_0 e_1 e_2 e_3 e_4 e_5
  replace hJ := hJm.bl
  clear hM14
  clear hJm
  generalize hZ : W = Z4 at *
  clear hZ
  go_wp2
  obtain ⟨m15, hm15⟩ : ∃ m, m = Z4.heap.size := ⟨_, rfl⟩
  have hM15 := hJ.bm
  rw [← hm15] at hM15
  refine wp_region_z 6 [some 78, some 79, some 80, some 81, some 82, some 18] (vkL m15 [.eq (.agg #[.int .i64 x.lo, .int .i64 x.hi, .bool x.all]), .eq (.agg #[.int .i64 xC.lo, .int .i64 xC.hi, .bool xC.all]), .eq (.agg #[.int .i64 y.lo, .int .i64 y.hi, .bool y.all]), .eq (.agg #[.int .i64 yC.lo, .int .i64 yC.hi, .bool yC.all]), .eq (.bool true), .eq (.bool true)]) (Bm w m15 [(b0 + 1, y), (b0, x)]) (by kernel_rfl) (by kernel_rfl) (by rfl) (by decide) (by rfl) hM15 ?_ ?_
  · intro i hl hi u W A hJ hd hev hin
    obtain rfl | rfl | rfl | rfl | rfl | rfl : i = 0 ∨ i = 1 ∨ i = 2 ∨ i = 3 ∨ i = 4 ∨ i = 5 := by omega
    · skip
      have x6 : A.tmps[6]? = some (.pointer (some ⟨b0, 0, none⟩)) := (hev 6 (by decide)).trans rfl
      clear hd hev hin
      simp only [List.getElem_cons_succ, List.getElem_cons_zero]
      clear hl
      refine .inr ⟨rfl, fun K' hK => ?_⟩
      have HK := Lib.hid hK
      clear hK
      have f1_0 := (hJ.bl.at' (b0, x) (.tail _ (.head _))).cells.1
      have f1_1 := (hJ.bl.at' (b0, x) (.tail _ (.head _))).cells.2.1
      have f1_2 := (hJ.bl.at' (b0, x) (.tail _ (.head _))).cells.2.2.1
      go_simp
      exact HK.out (.agg #[.int .i64 x.lo, .int .i64 x.hi, .bool x.all]) _ hJ rfl vkL_same
    · skip
      have x78 : A.tmps[78]? = some (.agg #[.int .i64 x.lo, .int .i64 x.hi, .bool x.all]) := (hin 0 78 rfl).trans (congrArg some (show u 0 = .agg #[.int .i64 x.lo, .int .i64 x.hi, .bool x.all] from hd 0 (by decide) (by kernel_rfl)))
      clear hd hev hin
      simp only [List.getElem_cons_succ, List.getElem_cons_zero]
      clear hl
      refine .inr ⟨rfl, fun K' hK => ?_⟩
      have HK := Lib.hid hK
      clear hK
      go_simp
      refine (HCx.out W).mono ?_
      rintro e W' ⟨rfl, hB⟩
      exact HK.out (.agg #[.int .i64 xC.lo, .int .i64 xC.hi, .bool xC.all]) _ (hJ.later hB) rfl (vkL_later hB)
    · skip
      have x7 : A.tmps[7]? = some (.pointer (some ⟨b0 + 1, 0, none⟩)) := (hev 7 (by decide)).trans rfl
      clear hd hev hin
      simp only [List.getElem_cons_succ, List.getElem_cons_zero]
      clear hl
      refine .inr ⟨rfl, fun K' hK => ?_⟩
      have HK := Lib.hid hK
      clear hK
      have f0_0 := (hJ.bl.at' (b0 + 1, y) (.head _)).cells.1
      have f0_1 := (hJ.bl.at' (b0 + 1, y) (.head _)).cells.2.1
      have f0_2 := (hJ.bl.at' (b0 + 1, y) (.head _)).cells.2.2.1
      go_simp
      exact HK.out (.agg #[.int .i64 y.lo, .int .i64 y.hi, .bool y.all]) _ hJ rfl vkL_same
    · skip
      have x80 : A.tmps[80]? = some (.agg #[.int .i64 y.lo, .int .i64 y.hi, .bool y.all]) := (hin 2 80 rfl).trans (congrArg some (show u 2 = .agg #[.int .i64 y.lo, .int .i64 y.hi, .bool y.all] from hd 2 (by decide) (by kernel_rfl)))
      clear hd hev hin
      simp only [List.getElem_cons_succ, List.getElem_cons_zero]
      clear hl
      refine .inr ⟨rfl, fun K' hK => ?_⟩
      have HK := Lib.hid hK
      clear hK
      go_simp
      refine (HCy.out W).mono ?_
      rintro e W' ⟨rfl, hB⟩
      exact HK.out (.agg #[.int .i64 yC.lo, .int .i64 yC.hi, .bool yC.all]) _ (hJ.later hB) rfl (vkL_later hB)
    · skip
      have x79 : A.tmps[79]? = some (.agg #[.int .i64 xC.lo, .int .i64 xC.hi, .bool xC.all]) := (hin 1 79 rfl).trans (congrArg some (show u 1 = .agg #[.int .i64 xC.lo, .int .i64 xC.hi, .bool xC.all] from hd 1 (by decide) (by kernel_rfl)))
      have x81 : A.tmps[81]? = some (.agg #[.int .i64 yC.lo, .int .i64 yC.hi, .bool yC.all]) := (hin 3 81 rfl).trans (congrArg some (show u 3 = .agg #[.int .i64 yC.lo, .int .i64 yC.hi, .bool yC.all] from hd 3 (by decide) (by kernel_rfl)))
      clear hd hev hin
      simp only [List.getElem_cons_succ, List.getElem_cons_zero]
      clear hl
      refine .inr ⟨rfl, fun K' hK => ?_⟩
      have HK := Lib.hid hK
      clear hK
      go_simp
      refine (HCi.out W).mono ?_
      rintro e W' ⟨rfl, hB⟩
      exact HK.out (.bool true) _ (hJ.later hB) rfl (vkL_later hB)
    · skip
      have x82 : A.tmps[82]? = some (.bool true) := (hin 4 82 rfl).trans (congrArg some (show u 4 = .bool true from hd 4 (by decide) (by kernel_rfl)))
      clear hd hev hin
      simp only [List.getElem_cons_succ, List.getElem_cons_zero]
      clear hl
      refine .inr ⟨rfl, fun K' hK => ?_⟩
      have HK := Lib.hid hK
      clear hK
      go_simp
      exact HK.out (.bool true) _ hJ rfl vkL_same
  intro u W hJm hd
  have e_0 : u 0 = .agg #[.int .i64 x.lo, .int .i64 x.hi, .bool x.all] := hd 0 (by decide)
  have e_1 : u 1 = .agg #[.int .i64 xC.lo, .int .i64 xC.hi, .bool xC.all] := hd 1 (by decide)
  have e_2 : u 2 = .agg #[.int .i64 y.lo, .int .i64 y.hi, .bool y.all] := hd 2 (by decide)
  have e_3 : u 3 = .agg #[.int .i64 yC.lo, .int .i64 yC.hi, .bool yC.all] := hd 3 (by decide)
  have e_4 : u 4 = .bool true := hd 4 (by decide)
  have e_5 : u 5 = .bool true := hd 5 (by decide)
  clear hd
  simp only [layS, Act.put, List.setIfInBounds_toArray, List.set_cons_succ, List.set_cons_zero, Nat.zero_add, Nat.reduceAdd, List.drop_succ_cons, List.drop_zero, List.drop_nil, e_0, e_1, e_2, e_3, e_4, e_5]
  clear e_0 e_1 e_2 e_3 e_4 e_5
  replace hJ := hJm.bl
  clear hM15
  clear hJm
  generalize hZ : W = Z5 at *
  clear hZ
  have hJf := hJ.below
  go_wp2
  go_ret
  exact ⟨rfl, hJf⟩
set_option maxRecDepth 100000 in
set_option maxHeartbeats 12800000 in
theorem Falls_2o (s t : Int) (x y : Sp) (hHaw : ∀ W : World, Calls Try.prog 28 #[] W (PVal (.bool true) W)) (hHin : ∀ W : World, Calls Try.prog 44 #[.agg #[.int .i64 x.lo, .int .i64 x.hi, .bool x.all], .agg #[.int .i64 y.lo, .int .i64 y.hi, .bool y.all]] W (PVal (.bool false) W)) (d0 : decide (0 ≤ s) = true) (d1 : decide (s ≤ t) = true) (d2 : decide (t ≤ 4194304) = false) (w : World) : Calls Try.prog 9 #[.int .i64 s, .int .i64 t, .agg #[.int .i64 x.lo, .int .i64 x.hi, .bool x.all], .agg #[.int .i64 y.lo, .int .i64 y.hi, .bool y.all]] w (PVal (.bool true) w) := by
  have Haw := Lib.hid hHaw
  have Hin := Lib.hid hHin
  clear hHaw hHin
  have hJ := bl_nil w
  go_enter Try.func9, Try.ntmps9
  go_wp2_with fail
  replace hJ := hJ.new x
  replace hJ := hJ.new y
  rw [show ((w).alloc (.cells #[.int .i64 x.lo, .int .i64 x.hi, .bool x.all] 23)).heap.size = w.heap.size + 1 by simp] at hJ
  generalize hW0 : ((w).alloc (.cells #[.int .i64 x.lo, .int .i64 x.hi, .bool x.all] 23)).alloc (.cells #[.int .i64 y.lo, .int .i64 y.hi, .bool y.all] 23) = V0 at *
  clear hW0
  generalize w.heap.size = b0 at *
  refine (Haw.out _).mono ?_
  rintro e W1 ⟨rfl, hB⟩
  replace hJ := hJ.later hB
  clear hB
  have f1_0 := (hJ.at' (b0, x) (.tail _ (.head _))).cells.1
  have f1_1 := (hJ.at' (b0, x) (.tail _ (.head _))).cells.2.1
  have f1_2 := (hJ.at' (b0, x) (.tail _ (.head _))).cells.2.2.1
  have fl1 : b0 < W1.heap.size := hJ.lt (b0, x) (.tail _ (.head _))
  have f0_0 := (hJ.at' (b0 + 1, y) (.head _)).cells.1
  have f0_1 := (hJ.at' (b0 + 1, y) (.head _)).cells.2.1
  have f0_2 := (hJ.at' (b0 + 1, y) (.head _)).cells.2.2.1
  have fl0 : b0 + 1 < W1.heap.size := hJ.lt (b0 + 1, y) (.head _)
  go_wp2_with fail
  refine (Hin.out _).mono ?_
  rintro e W2 ⟨rfl, hB⟩
  replace hJ := hJ.later hB
  clear hB f1_0 f1_1 f1_2 fl1 f0_0 f0_1 f0_2 fl0
  have hJf := hJ.below
  go_wp2
  go_ret
  exact ⟨rfl, hJf⟩
set_option maxRecDepth 100000 in
set_option maxHeartbeats 12800000 in
theorem Falls_2i (s t : Int) (x y xA yA xB yB xC yC : Sp) (hHaw : ∀ W : World, Calls Try.prog 28 #[] W (PVal (.bool true) W)) (hHin : ∀ W : World, Calls Try.prog 44 #[.agg #[.int .i64 x.lo, .int .i64 x.hi, .bool x.all], .agg #[.int .i64 y.lo, .int .i64 y.hi, .bool y.all]] W (PVal (.bool true) W)) (hHAx : ∀ W : World, Calls Try.prog 30 #[.agg #[.int .i64 x.lo, .int .i64 x.hi, .bool x.all]] W (PSp xA W)) (hHAy : ∀ W : World, Calls Try.prog 30 #[.agg #[.int .i64 y.lo, .int .i64 y.hi, .bool y.all]] W (PSp yA W)) (hHAi : ∀ W : World, Calls Try.prog 44 #[.agg #[.int .i64 xA.lo, .int .i64 xA.hi, .bool xA.all], .agg #[.int .i64 yA.lo, .int .i64 yA.hi, .bool yA.all]] W (PVal (.bool true) W)) (hHBx : ∀ W : World, Calls Try.prog 31 #[.agg #[.int .i64 x.lo, .int .i64 x.hi, .bool x.all]] W (PSp xB W)) (hHBy : ∀ W : World, Calls Try.prog 31 #[.agg #[.int .i64 y.lo, .int .i64 y.hi, .bool y.all]] W (PSp yB W)) (hHBi : ∀ W : World, Calls Try.prog 44 #[.agg #[.int .i64 xB.lo, .int .i64 xB.hi, .bool xB.all], .agg #[.int .i64 yB.lo, .int .i64 yB.hi, .bool yB.all]] W (PVal (.bool true) W)) (hHCx : ∀ W : World, Calls Try.prog 32 #[.agg #[.int .i64 x.lo, .int .i64 x.hi, .bool x.all]] W (PSp xC W)) (hHCy : ∀ W : World, Calls Try.prog 32 #[.agg #[.int .i64 y.lo, .int .i64 y.hi, .bool y.all]] W (PSp yC W)) (hHCi : ∀ W : World, Calls Try.prog 44 #[.agg #[.int .i64 xC.lo, .int .i64 xC.hi, .bool xC.all], .agg #[.int .i64 yC.lo, .int .i64 yC.hi, .bool yC.all]] W (PVal (.bool true) W)) (d0 : decide (0 ≤ s) = true) (d1 : decide (s ≤ t) = true) (d2 : decide (t ≤ 4194304) = false) (w : World) : Calls Try.prog 9 #[.int .i64 s, .int .i64 t, .agg #[.int .i64 x.lo, .int .i64 x.hi, .bool x.all], .agg #[.int .i64 y.lo, .int .i64 y.hi, .bool y.all]] w (PVal (.bool true) w) := by
  have Haw := Lib.hid hHaw
  have Hin := Lib.hid hHin
  have HAx := Lib.hid hHAx
  have HAy := Lib.hid hHAy
  have HAi := Lib.hid hHAi
  have HBx := Lib.hid hHBx
  have HBy := Lib.hid hHBy
  have HBi := Lib.hid hHBi
  have HCx := Lib.hid hHCx
  have HCy := Lib.hid hHCy
  have HCi := Lib.hid hHCi
  clear hHaw hHin hHAx hHAy hHAi hHBx hHBy hHBi hHCx hHCy hHCi
  have hJ := bl_nil w
  go_enter Try.func9, Try.ntmps9
  go_wp2_with fail
  replace hJ := hJ.new x
  replace hJ := hJ.new y
  rw [show ((w).alloc (.cells #[.int .i64 x.lo, .int .i64 x.hi, .bool x.all] 23)).heap.size = w.heap.size + 1 by simp] at hJ
  generalize hW0 : ((w).alloc (.cells #[.int .i64 x.lo, .int .i64 x.hi, .bool x.all] 23)).alloc (.cells #[.int .i64 y.lo, .int .i64 y.hi, .bool y.all] 23) = V0 at *
  clear hW0
  generalize w.heap.size = b0 at *
  refine (Haw.out _).mono ?_
  rintro e W1 ⟨rfl, hB⟩
  replace hJ := hJ.later hB
  clear hB
  have f1_0 := (hJ.at' (b0, x) (.tail _ (.head _))).cells.1
  have f1_1 := (hJ.at' (b0, x) (.tail _ (.head _))).cells.2.1
  have f1_2 := (hJ.at' (b0, x) (.tail _ (.head _))).cells.2.2.1
  have fl1 : b0 < W1.heap.size := hJ.lt (b0, x) (.tail _ (.head _))
  have f0_0 := (hJ.at' (b0 + 1, y) (.head _)).cells.1
  have f0_1 := (hJ.at' (b0 + 1, y) (.head _)).cells.2.1
  have f0_2 := (hJ.at' (b0 + 1, y) (.head _)).cells.2.2.1
  have fl0 : b0 + 1 < W1.heap.size := hJ.lt (b0 + 1, y) (.head _)
  go_wp2_with fail
  refine (Hin.out _).mono ?_
  rintro e W2 ⟨rfl, hB⟩
  replace hJ := hJ.later hB
  clear hB f1_0 f1_1 f1_2 fl1 f0_0 f0_1 f0_2 fl0
  go_wp2
  obtain ⟨m13, hm13⟩ : ∃ m, m = W2.heap.size := ⟨_, rfl⟩
  have hM13 := hJ.bm
  rw [← hm13] at hM13
  refine wp_region_z 6 [some 68, some 69, some 70, some 71, some 72, some 16] (vkL m13 [.eq (.agg #[.int .i64 x.lo, .int .i64 x.hi, .bool x.all]), .eq (.agg #[.int .i64 xA.lo, .int .i64 xA.hi, .bool xA.all]), .eq (.agg #[.int .i64 y.lo, .int .i64 y.hi, .bool y.all]), .eq (.agg #[.int .i64 yA.lo, .int .i64 yA.hi, .bool yA.all]), .eq (.bool true), .eq (.bool true)]) (Bm w m13 [(b0 + 1, y), (b0, x)]) (by kernel_rfl) (by kernel_rfl) (by rfl) (by decide) (by rfl) hM13 ?_ ?_
  · intro i hl hi u W A hJ hd hev hin
    obtain rfl | rfl | rfl | rfl | rfl | rfl : i = 0 ∨ i = 1 ∨ i = 2 ∨ i = 3 ∨ i = 4 ∨ i = 5 := by omega
    · skip
      have x6 : A.tmps[6]? = some (.pointer (some ⟨b0, 0, none⟩)) := (hev 6 (by decide)).trans rfl
      clear hd hev hin
      simp only [List.getElem_cons_succ, List.getElem_cons_zero]
      clear hl
      refine .inr ⟨rfl, fun K' hK => ?_⟩
      have HK := Lib.hid hK
      clear hK
      have f1_0 := (hJ.bl.at' (b0, x) (.tail _ (.head _))).cells.1
      have f1_1 := (hJ.bl.at' (b0, x) (.tail _ (.head _))).cells.2.1
      have f1_2 := (hJ.bl.at' (b0, x) (.tail _ (.head _))).cells.2.2.1
      go_simp
      exact HK.out (.agg #[.int .i64 x.lo, .int .i64 x.hi, .bool x.all]) _ hJ rfl vkL_same
    · skip
      have x68 : A.tmps[68]? = some (.agg #[.int .i64 x.lo, .int .i64 x.hi, .bool x.all]) := (hin 0 68 rfl).trans (congrArg some (show u 0 = .agg #[.int .i64 x.lo, .int .i64 x.hi, .bool x.all] from hd 0 (by decide) (by kernel_rfl)))
      clear hd hev hin
      simp only [List.getElem_cons_succ, List.getElem_cons_zero]
      clear hl
      refine .inr ⟨rfl, fun K' hK => ?_⟩
      have HK := Lib.hid hK
      clear hK
      go_simp
      refine (HAx.out W).mono ?_
      rintro e W' ⟨rfl, hB⟩
      exact HK.out (.agg #[.int .i64 xA.lo, .int .i64 xA.hi, .bool xA.all]) _ (hJ.later hB) rfl (vkL_later hB)
    · skip
      have x7 : A.tmps[7]? = some (.pointer (some ⟨b0 + 1, 0, none⟩)) := (hev 7 (by decide)).trans rfl
      clear hd hev hin
      simp only [List.getElem_cons_succ, List.getElem_cons_zero]
      clear hl
      refine .inr ⟨rfl, fun K' hK => ?_⟩
      have HK := Lib.hid hK
      clear hK
      have f0_0 := (hJ.bl.at' (b0 + 1, y) (.head _)).cells.1
      have f0_1 := (hJ.bl.at' (b0 + 1, y) (.head _)).cells.2.1
      have f0_2 := (hJ.bl.at' (b0 + 1, y) (.head _)).cells.2.2.1
      go_simp
      exact HK.out (.agg #[.int .i64 y.lo, .int .i64 y.hi, .bool y.all]) _ hJ rfl vkL_same
    · skip
      have x70 : A.tmps[70]? = some (.agg #[.int .i64 y.lo, .int .i64 y.hi, .bool y.all]) := (hin 2 70 rfl).trans (congrArg some (show u 2 = .agg #[.int .i64 y.lo, .int .i64 y.hi, .bool y.all] from hd 2 (by decide) (by kernel_rfl)))
      clear hd hev hin
      simp only [List.getElem_cons_succ, List.getElem_cons_zero]
      clear hl
      refine .inr ⟨rfl, fun K' hK => ?_⟩
      have HK := Lib.hid hK
      clear hK
      go_simp
      refine (HAy.out W).mono ?_
      rintro e W' ⟨rfl, hB⟩
      exact HK.out (.agg #[.int .i64 yA.lo, .int .i64 yA.hi, .bool yA.all]) _ (hJ.later hB) rfl (vkL_later hB)
    · skip
      have x69 : A.tmps[69]? = some (.agg #[.int .i64 xA.lo, .int .i64 xA.hi, .bool xA.all]) := (hin 1 69 rfl).trans (congrArg some (show u 1 = .agg #[.int .i64 xA.lo, .int .i64 xA.hi, .bool xA.all] from hd 1 (by decide) (by kernel_rfl)))
      have x71 : A.tmps[71]? = some (.agg #[.int .i64 yA.lo, .int .i64 yA.hi, .bool yA.all]) := (hin 3 71 rfl).trans (congrArg some (show u 3 = .agg #[.int .i64 yA.lo, .int .i64 yA.hi, .bool yA.all] from hd 3 (by decide) (by kernel_rfl)))
      clear hd hev hin
      simp only [List.getElem_cons_succ, List.getElem_cons_zero]
      clear hl
      refine .inr ⟨rfl, fun K' hK => ?_⟩
      have HK := Lib.hid hK
      clear hK
      go_simp
      refine (HAi.out W).mono ?_
      rintro e W' ⟨rfl, hB⟩
      exact HK.out (.bool true) _ (hJ.later hB) rfl (vkL_later hB)
    · skip
      have x72 : A.tmps[72]? = some (.bool true) := (hin 4 72 rfl).trans (congrArg some (show u 4 = .bool true from hd 4 (by decide) (by kernel_rfl)))
      clear hd hev hin
      simp only [List.getElem_cons_succ, List.getElem_cons_zero]
      clear hl
      refine .inr ⟨rfl, fun K' hK => ?_⟩
      have HK := Lib.hid hK
      clear hK
      go_simp
      exact HK.out (.bool true) _ hJ rfl vkL_same
  intro u W hJm hd
  have e_0 : u 0 = .agg #[.int .i64 x.lo, .int .i64 x.hi, .bool x.all] := hd 0 (by decide)
  have e_1 : u 1 = .agg #[.int .i64 xA.lo, .int .i64 xA.hi, .bool xA.all] := hd 1 (by decide)
  have e_2 : u 2 = .agg #[.int .i64 y.lo, .int .i64 y.hi, .bool y.all] := hd 2 (by decide)
  have e_3 : u 3 = .agg #[.int .i64 yA.lo, .int .i64 yA.hi, .bool yA.all] := hd 3 (by decide)
  have e_4 : u 4 = .bool true := hd 4 (by decide)
  have e_5 : u 5 = .bool true := hd 5 (by decide)
  clear hd
  simp only [layS, Act.put, List.setIfInBounds_toArray, List.set_cons_succ, List.set_cons_zero, Nat.zero_add, Nat.reduceAdd, List.drop_succ_cons, List.drop_zero, List.drop_nil, e_0, e_1, e_2, e_3, e_4, e_5]
  clear e_0 e_1 e_2 e_3 e_4 e_5
  replace hJ := hJm.bl
  clear hM13
  clear hJm
  generalize hZ : W = Z3 at *
  clear hZ
  go_wp2
  obtain ⟨m14, hm14⟩ : ∃ m, m = Z3.heap.size := ⟨_, rfl⟩
  have hM14 := hJ.bm
  rw [← hm14] at hM14
  refine wp_region_z 6 [some 73, some 74, some 75, some 76, some 77, some 17] (vkL m14 [.eq (.agg #[.int .i64 x.lo, .int .i64 x.hi, .bool x.all]), .eq (.agg #[.int .i64 xB.lo, .int .i64 xB.hi, .bool xB.all]), .eq (.agg #[.int .i64 y.lo, .int .i64 y.hi, .bool y.all]), .eq (.agg #[.int .i64 yB.lo, .int .i64 yB.hi, .bool yB.all]), .eq (.bool true), .eq (.bool true)]) (Bm w m14 [(b0 + 1, y), (b0, x)]) (by kernel_rfl) (by kernel_rfl) (by rfl) (by decide) (by rfl) hM14 ?_ ?_
  · intro i hl hi u W A hJ hd hev hin
    obtain rfl | rfl | rfl | rfl | rfl | rfl : i = 0 ∨ i = 1 ∨ i = 2 ∨ i = 3 ∨ i = 4 ∨ i = 5 := by omega
    · skip
      have x6 : A.tmps[6]? = some (.pointer (some ⟨b0, 0, none⟩)) := (hev 6 (by decide)).trans rfl
      clear hd hev hin
      simp only [List.getElem_cons_succ, List.getElem_cons_zero]
      clear hl
      refine .inr ⟨rfl, fun K' hK => ?_⟩
      have HK := Lib.hid hK
      clear hK
      have f1_0 := (hJ.bl.at' (b0, x) (.tail _ (.head _))).cells.1
      have f1_1 := (hJ.bl.at' (b0, x) (.tail _ (.head _))).cells.2.1
      have f1_2 := (hJ.bl.at' (b0, x) (.tail _ (.head _))).cells.2.2.1
      go_simp
      exact HK.out (.agg #[.int .i64 x.lo, .int .i64 x.hi, .bool x.all]) _ hJ rfl vkL_same
    · skip
      have x73 : A.tmps[73]? = some (.agg #[.int .i64 x.lo, .int .i64 x.hi, .bool x.all]) := (hin 0 73 rfl).trans (congrArg some (show u 0 = .agg #[.int .i64 x.lo, .int .i64 x.hi, .bool x.all] from hd 0 (by decide) (by kernel_rfl)))
      clear hd hev hin
      simp only [List.getElem_cons_succ, List.getElem_cons_zero]
      clear hl
      refine .inr ⟨rfl, fun K' hK => ?_⟩
      have HK := Lib.hid hK
      clear hK
      go_simp
      refine (HBx.out W).mono ?_
      rintro e W' ⟨rfl, hB⟩
      exact HK.out (.agg #[.int .i64 xB.lo, .int .i64 xB.hi, .bool xB.all]) _ (hJ.later hB) rfl (vkL_later hB)
    · skip
      have x7 : A.tmps[7]? = some (.pointer (some ⟨b0 + 1, 0, none⟩)) := (hev 7 (by decide)).trans rfl
      clear hd hev hin
      simp only [List.getElem_cons_succ, List.getElem_cons_zero]
      clear hl
      refine .inr ⟨rfl, fun K' hK => ?_⟩
      have HK := Lib.hid hK
      clear hK
      have f0_0 := (hJ.bl.at' (b0 + 1, y) (.head _)).cells.1
      have f0_1 := (hJ.bl.at' (b0 + 1, y) (.head _)).cells.2.1
      have f0_2 := (hJ.bl.at' (b0 + 1, y) (.head _)).cells.2.2.1
      go_simp
      exact HK.out (.agg #[.int .i64 y.lo, .int .i64 y.hi, .bool y.all]) _ hJ rfl vkL_same
    · skip
      have x75 : A.tmps[75]? = some (.agg #[.int .i64 y.lo, .int .i64 y.hi, .bool y.all]) := (hin 2 75 rfl).trans (congrArg some (show u 2 = .agg #[.int .i64 y.lo, .int .i64 y.hi, .bool y.all] from hd 2 (by decide) (by kernel_rfl)))
      clear hd hev hin
      simp only [List.getElem_cons_succ, List.getElem_cons_zero]
      clear hl
      refine .inr ⟨rfl, fun K' hK => ?_⟩
      have HK := Lib.hid hK
      clear hK
      go_simp
      refine (HBy.out W).mono ?_
      rintro e W' ⟨rfl, hB⟩
      exact HK.out (.agg #[.int .i64 yB.lo, .int .i64 yB.hi, .bool yB.all]) _ (hJ.later hB) rfl (vkL_later hB)
    · skip
      have x74 : A.tmps[74]? = some (.agg #[.int .i64 xB.lo, .int .i64 xB.hi, .bool xB.all]) := (hin 1 74 rfl).trans (congrArg some (show u 1 = .agg #[.int .i64 xB.lo, .int .i64 xB.hi, .bool xB.all] from hd 1 (by decide) (by kernel_rfl)))
      have x76 : A.tmps[76]? = some (.agg #[.int .i64 yB.lo, .int .i64 yB.hi, .bool yB.all]) := (hin 3 76 rfl).trans (congrArg some (show u 3 = .agg #[.int .i64 yB.lo, .int .i64 yB.hi, .bool yB.all] from hd 3 (by decide) (by kernel_rfl)))
      clear hd hev hin
      simp only [List.getElem_cons_succ, List.getElem_cons_zero]
      clear hl
      refine .inr ⟨rfl, fun K' hK => ?_⟩
      have HK := Lib.hid hK
      clear hK
      go_simp
      refine (HBi.out W).mono ?_
      rintro e W' ⟨rfl, hB⟩
      exact HK.out (.bool true) _ (hJ.later hB) rfl (vkL_later hB)
    · skip
      have x77 : A.tmps[77]? = some (.bool true) := (hin 4 77 rfl).trans (congrArg some (show u 4 = .bool true from hd 4 (by decide) (by kernel_rfl)))
      clear hd hev hin
      simp only [List.getElem_cons_succ, List.getElem_cons_zero]
      clear hl
      refine .inr ⟨rfl, fun K' hK => ?_⟩
      have HK := Lib.hid hK
      clear hK
      go_simp
      exact HK.out (.bool true) _ hJ rfl vkL_same
  intro u W hJm hd
  have e_0 : u 0 = .agg #[.int .i64 x.lo, .int .i64 x.hi, .bool x.all] := hd 0 (by decide)
  have e_1 : u 1 = .agg #[.int .i64 xB.lo, .int .i64 xB.hi, .bool xB.all] := hd 1 (by decide)
  have e_2 : u 2 = .agg #[.int .i64 y.lo, .int .i64 y.hi, .bool y.all] := hd 2 (by decide)
  have e_3 : u 3 = .agg #[.int .i64 yB.lo, .int .i64 yB.hi, .bool yB.all] := hd 3 (by decide)
  have e_4 : u 4 = .bool true := hd 4 (by decide)
  have e_5 : u 5 = .bool true := hd 5 (by decide)
  clear hd
  simp only [layS, Act.put, List.setIfInBounds_toArray, List.set_cons_succ, List.set_cons_zero, Nat.zero_add, Nat.reduceAdd, List.drop_succ_cons, List.drop_zero, List.drop_nil, e_0, e_1, e_2, e_3, e_4, e_5]
  clear e_0 e_1 e_2 e_3 e_4 e_5
  replace hJ := hJm.bl
  clear hM14
  clear hJm
  generalize hZ : W = Z4 at *
  clear hZ
  go_wp2
  obtain ⟨m15, hm15⟩ : ∃ m, m = Z4.heap.size := ⟨_, rfl⟩
  have hM15 := hJ.bm
  rw [← hm15] at hM15
  refine wp_region_z 6 [some 78, some 79, some 80, some 81, some 82, some 18] (vkL m15 [.eq (.agg #[.int .i64 x.lo, .int .i64 x.hi, .bool x.all]), .eq (.agg #[.int .i64 xC.lo, .int .i64 xC.hi, .bool xC.all]), .eq (.agg #[.int .i64 y.lo, .int .i64 y.hi, .bool y.all]), .eq (.agg #[.int .i64 yC.lo, .int .i64 yC.hi, .bool yC.all]), .eq (.bool true), .eq (.bool true)]) (Bm w m15 [(b0 + 1, y), (b0, x)]) (by kernel_rfl) (by kernel_rfl) (by rfl) (by decide) (by rfl) hM15 ?_ ?_
  · intro i hl hi u W A hJ hd hev hin
    obtain rfl | rfl | rfl | rfl | rfl | rfl : i = 0 ∨ i = 1 ∨ i = 2 ∨ i = 3 ∨ i = 4 ∨ i = 5 := by omega
    · skip
      have x6 : A.tmps[6]? = some (.pointer (some ⟨b0, 0, none⟩)) := (hev 6 (by decide)).trans rfl
      clear hd hev hin
      simp only [List.getElem_cons_succ, List.getElem_cons_zero]
      clear hl
      refine .inr ⟨rfl, fun K' hK => ?_⟩
      have HK := Lib.hid hK
      clear hK
      have f1_0 := (hJ.bl.at' (b0, x) (.tail _ (.head _))).cells.1
      have f1_1 := (hJ.bl.at' (b0, x) (.tail _ (.head _))).cells.2.1
      have f1_2 := (hJ.bl.at' (b0, x) (.tail _ (.head _))).cells.2.2.1
      go_simp
      exact HK.out (.agg #[.int .i64 x.lo, .int .i64 x.hi, .bool x.all]) _ hJ rfl vkL_same
    · skip
      have x78 : A.tmps[78]? = some (.agg #[.int .i64 x.lo, .int .i64 x.hi, .bool x.all]) := (hin 0 78 rfl).trans (congrArg some (show u 0 = .agg #[.int .i64 x.lo, .int .i64 x.hi, .bool x.all] from hd 0 (by decide) (by kernel_rfl)))
      clear hd hev hin
      simp only [List.getElem_cons_succ, List.getElem_cons_zero]
      clear hl
      refine .inr ⟨rfl, fun K' hK => ?_⟩
      have HK := Lib.hid hK
      clear hK
      go_simp
      refine (HCx.out W).mono ?_
      rintro e W' ⟨rfl, hB⟩
      exact HK.out (.agg #[.int .i64 xC.lo, .int .i64 xC.hi, .bool xC.all]) _ (hJ.later hB) rfl (vkL_later hB)
    · skip
      have x7 : A.tmps[7]? = some (.pointer (some ⟨b0 + 1, 0, none⟩)) := (hev 7 (by decide)).trans rfl
      clear hd hev hin
      simp only [List.getElem_cons_succ, List.getElem_cons_zero]
      clear hl
      refine .inr ⟨rfl, fun K' hK => ?_⟩
      have HK := Lib.hid hK
      clear hK
      have f0_0 := (hJ.bl.at' (b0 + 1, y) (.head _)).cells.1
      have f0_1 := (hJ.bl.at' (b0 + 1, y) (.head _)).cells.2.1
      have f0_2 := (hJ.bl.at' (b0 + 1, y) (.head _)).cells.2.2.1
      go_simp
      exact HK.out (.agg #[.int .i64 y.lo, .int .i64 y.hi, .bool y.all]) _ hJ rfl vkL_same
    · skip
      have x80 : A.tmps[80]? = some (.agg #[.int .i64 y.lo, .int .i64 y.hi, .bool y.all]) := (hin 2 80 rfl).trans (congrArg some (show u 2 = .agg #[.int .i64 y.lo, .int .i64 y.hi, .bool y.all] from hd 2 (by decide) (by kernel_rfl)))
      clear hd hev hin
      simp only [List.getElem_cons_succ, List.getElem_cons_zero]
      clear hl
      refine .inr ⟨rfl, fun K' hK => ?_⟩
      have HK := Lib.hid hK
      clear hK
      go_simp
      refine (HCy.out W).mono ?_
      rintro e W' ⟨rfl, hB⟩
      exact HK.out (.agg #[.int .i64 yC.lo, .int .i64 yC.hi, .bool yC.all]) _ (hJ.later hB) rfl (vkL_later hB)
    · skip
      have x79 : A.tmps[79]? = some (.agg #[.int .i64 xC.lo, .int .i64 xC.hi, .bool xC.all]) := (hin 1 79 rfl).trans (congrArg some (show u 1 = .agg #[.int .i64 xC.lo, .int .i64 xC.hi, .bool xC.all] from hd 1 (by decide) (by kernel_rfl)))
      have x81 : A.tmps[81]? = some (.agg #[.int .i64 yC.lo, .int .i64 yC.hi, .bool yC.all]) := (hin 3 81 rfl).trans (congrArg some (show u 3 = .agg #[.int .i64 yC.lo, .int .i64 yC.hi, .bool yC.all] from hd 3 (by decide) (by kernel_rfl)))
      clear hd hev hin
      simp only [List.getElem_cons_succ, List.getElem_cons_zero]
      clear hl
      refine .inr ⟨rfl, fun K' hK => ?_⟩
      have HK := Lib.hid hK
      clear hK
      go_simp
      refine (HCi.out W).mono ?_
      rintro e W' ⟨rfl, hB⟩
      exact HK.out (.bool true) _ (hJ.later hB) rfl (vkL_later hB)
    · skip
      have x82 : A.tmps[82]? = some (.bool true) := (hin 4 82 rfl).trans (congrArg some (show u 4 = .bool true from hd 4 (by decide) (by kernel_rfl)))
      clear hd hev hin
      simp only [List.getElem_cons_succ, List.getElem_cons_zero]
      clear hl
      refine .inr ⟨rfl, fun K' hK => ?_⟩
      have HK := Lib.hid hK
      clear hK
      go_simp
      exact HK.out (.bool true) _ hJ rfl vkL_same
  intro u W hJm hd
  have e_0 : u 0 = .agg #[.int .i64 x.lo, .int .i64 x.hi, .bool x.all] := hd 0 (by decide)
  have e_1 : u 1 = .agg #[.int .i64 xC.lo, .int .i64 xC.hi, .bool xC.all] := hd 1 (by decide)
  have e_2 : u 2 = .agg #[.int .i64 y.lo, .int .i64 y.hi, .bool y.all] := hd 2 (by decide)
  have e_3 : u 3 = .agg #[.int .i64 yC.lo, .int .i64 yC.hi, .bool yC.all] := hd 3 (by decide)
  have e_4 : u 4 = .bool true := hd 4 (by decide)
  have e_5 : u 5 = .bool true := hd 5 (by decide)
  clear hd
  simp only [layS, Act.put, List.setIfInBounds_toArray, List.set_cons_succ, List.set_cons_zero, Nat.zero_add, Nat.reduceAdd, List.drop_succ_cons, List.drop_zero, List.drop_nil, e_0, e_1, e_2, e_3, e_4, e_5]
  clear e_0 e_1 e_2 e_3 e_4 e_5
  replace hJ := hJm.bl
  clear hM15
  clear hJm
  generalize hZ : W = Z5 at *
  clear hZ
  have hJf := hJ.below
  go_wp2
  go_ret
  exact ⟨rfl, hJf⟩
set_option maxRecDepth 100000 in
set_option maxHeartbeats 12800000 in
theorem Falls_3o (s t : Int) (x y p q pA qA pB qB pC qC : Sp) (hHaw : ∀ W : World, Calls Try.prog 28 #[] W (PVal (.bool true) W)) (hHp : ∀ W : World, Calls Try.prog 40 #[.int .i64 s, .int .i64 s] W (PSp p W)) (hHq : ∀ W : World, Calls Try.prog 40 #[.int .i64 t, .int .i64 t] W (PSp q W)) (hHAp : ∀ W : World, Calls Try.prog 30 #[.agg #[.int .i64 p.lo, .int .i64 p.hi, .bool p.all]] W (PSp pA W)) (hHAq : ∀ W : World, Calls Try.prog 30 #[.agg #[.int .i64 q.lo, .int .i64 q.hi, .bool q.all]] W (PSp qA W)) (hHAf : ∀ W : World, Calls Try.prog 43 #[.agg #[.int .i64 pA.lo, .int .i64 pA.hi, .bool pA.all], .agg #[.int .i64 qA.lo, .int .i64 qA.hi, .bool qA.all]] W (PVal (.bool true) W)) (hHBp : ∀ W : World, Calls Try.prog 31 #[.agg #[.int .i64 p.lo, .int .i64 p.hi, .bool p.all]] W (PSp pB W)) (hHBq : ∀ W : World, Calls Try.prog 31 #[.agg #[.int .i64 q.lo, .int .i64 q.hi, .bool q.all]] W (PSp qB W)) (hHBf : ∀ W : World, Calls Try.prog 43 #[.agg #[.int .i64 pB.lo, .int .i64 pB.hi, .bool pB.all], .agg #[.int .i64 qB.lo, .int .i64 qB.hi, .bool qB.all]] W (PVal (.bool true) W)) (hHCp : ∀ W : World, Calls Try.prog 32 #[.agg #[.int .i64 p.lo, .int .i64 p.hi, .bool p.all]] W (PSp pC W)) (hHCq : ∀ W : World, Calls Try.prog 32 #[.agg #[.int .i64 q.lo, .int .i64 q.hi, .bool q.all]] W (PSp qC W)) (hHCf : ∀ W : World, Calls Try.prog 43 #[.agg #[.int .i64 pC.lo, .int .i64 pC.hi, .bool pC.all], .agg #[.int .i64 qC.lo, .int .i64 qC.hi, .bool qC.all]] W (PVal (.bool true) W)) (hHin : ∀ W : World, Calls Try.prog 44 #[.agg #[.int .i64 x.lo, .int .i64 x.hi, .bool x.all], .agg #[.int .i64 y.lo, .int .i64 y.hi, .bool y.all]] W (PVal (.bool false) W)) (d0 : decide (0 ≤ s) = true) (d1 : decide (s ≤ t) = true) (d2 : decide (t ≤ 4194304) = true) (w : World) : Calls Try.prog 9 #[.int .i64 s, .int .i64 t, .agg #[.int .i64 x.lo, .int .i64 x.hi, .bool x.all], .agg #[.int .i64 y.lo, .int .i64 y.hi, .bool y.all]] w (PVal (.bool true) w) := by
  have Haw := Lib.hid hHaw
  have Hp := Lib.hid hHp
  have Hq := Lib.hid hHq
  have HAp := Lib.hid hHAp
  have HAq := Lib.hid hHAq
  have HAf := Lib.hid hHAf
  have HBp := Lib.hid hHBp
  have HBq := Lib.hid hHBq
  have HBf := Lib.hid hHBf
  have HCp := Lib.hid hHCp
  have HCq := Lib.hid hHCq
  have HCf := Lib.hid hHCf
  have Hin := Lib.hid hHin
  clear hHaw hHp hHq hHAp hHAq hHAf hHBp hHBq hHBf hHCp hHCq hHCf hHin
  have hJ := bl_nil w
  go_enter Try.func9, Try.ntmps9
  go_wp2_with fail
  replace hJ := hJ.new x
  replace hJ := hJ.new y
  rw [show ((w).alloc (.cells #[.int .i64 x.lo, .int .i64 x.hi, .bool x.all] 23)).heap.size = w.heap.size + 1 by simp] at hJ
  generalize hW0 : ((w).alloc (.cells #[.int .i64 x.lo, .int .i64 x.hi, .bool x.all] 23)).alloc (.cells #[.int .i64 y.lo, .int .i64 y.hi, .bool y.all] 23) = V0 at *
  clear hW0
  generalize w.heap.size = b0 at *
  refine (Haw.out _).mono ?_
  rintro e W1 ⟨rfl, hB⟩
  replace hJ := hJ.later hB
  clear hB
  go_wp2_with fail
  refine (Hp.out _).mono ?_
  rintro e W2 ⟨rfl, hB⟩
  replace hJ := hJ.later hB
  clear hB
  go_wp2_with fail
  replace hJ := hJ.new p
  generalize hW3 : W2.alloc (.cells #[.int .i64 p.lo, .int .i64 p.hi, .bool p.all] 23) = V3 at *
  clear hW3
  generalize W2.heap.size = b2 at *
  refine (Hq.out _).mono ?_
  rintro e W4 ⟨rfl, hB⟩
  replace hJ := hJ.later hB
  clear hB
  go_wp2
  replace hJ := hJ.new q
  generalize hW5 : W4.alloc (.cells #[.int .i64 q.lo, .int .i64 q.hi, .bool q.all] 23) = V5 at *
  clear hW5
  generalize W4.heap.size = b3 at *
  obtain ⟨m5, hm5⟩ : ∃ m, m = V5.heap.size := ⟨_, rfl⟩
  have hM5 := hJ.bm
  rw [← hm5] at hM5
  refine wp_region_z 6 [some 37, some 38, some 39, some 40, some 41, some 12] (vkL m5 [.eq (.agg #[.int .i64 p.lo, .int .i64 p.hi, .bool p.all]), .eq (.agg #[.int .i64 pA.lo, .int .i64 pA.hi, .bool pA.all]), .eq (.agg #[.int .i64 q.lo, .int .i64 q.hi, .bool q.all]), .eq (.agg #[.int .i64 qA.lo, .int .i64 qA.hi, .bool qA.all]), .eq (.bool true), .eq (.bool true)]) (Bm w m5 [(b3, q), (b2, p), (b0 + 1, y), (b0, x)]) (by kernel_rfl) (by kernel_rfl) (by rfl) (by decide) (by rfl) hM5 ?_ ?_
  · intro i hl hi u W A hJ hd hev hin
    obtain rfl | rfl | rfl | rfl | rfl | rfl : i = 0 ∨ i = 1 ∨ i = 2 ∨ i = 3 ∨ i = 4 ∨ i = 5 := by omega
    · skip
      have x10 : A.tmps[10]? = some (.pointer (some ⟨b2, 0, none⟩)) := (hev 10 (by decide)).trans rfl
      clear hd hev hin
      simp only [List.getElem_cons_succ, List.getElem_cons_zero]
      clear hl
      refine .inr ⟨rfl, fun K' hK => ?_⟩
      have HK := Lib.hid hK
      clear hK
      have f1_0 := (hJ.bl.at' (b2, p) (.tail _ (.head _))).cells.1
      have f1_1 := (hJ.bl.at' (b2, p) (.tail _ (.head _))).cells.2.1
      have f1_2 := (hJ.bl.at' (b2, p) (.tail _ (.head _))).cells.2.2.1
      go_simp
      exact HK.out (.agg #[.int .i64 p.lo, .int .i64 p.hi, .bool p.all]) _ hJ rfl vkL_same
    · skip
      have x37 : A.tmps[37]? = some (.agg #[.int .i64 p.lo, .int .i64 p.hi, .bool p.all]) := (hin 0 37 rfl).trans (congrArg some (show u 0 = .agg #[.int .i64 p.lo, .int .i64 p.hi, .bool p.all] from hd 0 (by decide) (by kernel_rfl)))
      clear hd hev hin
      simp only [List.getElem_cons_succ, List.getElem_cons_zero]
      clear hl
      refine .inr ⟨rfl, fun K' hK => ?_⟩
      have HK := Lib.hid hK
      clear hK
      go_simp
      refine (HAp.out W).mono ?_
      rintro e W' ⟨rfl, hB⟩
      exact HK.out (.agg #[.int .i64 pA.lo, .int .i64 pA.hi, .bool pA.all]) _ (hJ.later hB) rfl (vkL_later hB)
    · skip
      have x11 : A.tmps[11]? = some (.pointer (some ⟨b3, 0, none⟩)) := (hev 11 (by decide)).trans rfl
      clear hd hev hin
      simp only [List.getElem_cons_succ, List.getElem_cons_zero]
      clear hl
      refine .inr ⟨rfl, fun K' hK => ?_⟩
      have HK := Lib.hid hK
      clear hK
      have f0_0 := (hJ.bl.at' (b3, q) (.head _)).cells.1
      have f0_1 := (hJ.bl.at' (b3, q) (.head _)).cells.2.1
      have f0_2 := (hJ.bl.at' (b3, q) (.head _)).cells.2.2.1
      go_simp
      exact HK.out (.agg #[.int .i64 q.lo, .int .i64 q.hi, .bool q.all]) _ hJ rfl vkL_same
    · skip
      have x39 : A.tmps[39]? = some (.agg #[.int .i64 q.lo, .int .i64 q.hi, .bool q.all]) := (hin 2 39 rfl).trans (congrArg some (show u 2 = .agg #[.int .i64 q.lo, .int .i64 q.hi, .bool q.all] from hd 2 (by decide) (by kernel_rfl)))
      clear hd hev hin
      simp only [List.getElem_cons_succ, List.getElem_cons_zero]
      clear hl
      refine .inr ⟨rfl, fun K' hK => ?_⟩
      have HK := Lib.hid hK
      clear hK
      go_simp
      refine (HAq.out W).mono ?_
      rintro e W' ⟨rfl, hB⟩
      exact HK.out (.agg #[.int .i64 qA.lo, .int .i64 qA.hi, .bool qA.all]) _ (hJ.later hB) rfl (vkL_later hB)
    · skip
      have x38 : A.tmps[38]? = some (.agg #[.int .i64 pA.lo, .int .i64 pA.hi, .bool pA.all]) := (hin 1 38 rfl).trans (congrArg some (show u 1 = .agg #[.int .i64 pA.lo, .int .i64 pA.hi, .bool pA.all] from hd 1 (by decide) (by kernel_rfl)))
      have x40 : A.tmps[40]? = some (.agg #[.int .i64 qA.lo, .int .i64 qA.hi, .bool qA.all]) := (hin 3 40 rfl).trans (congrArg some (show u 3 = .agg #[.int .i64 qA.lo, .int .i64 qA.hi, .bool qA.all] from hd 3 (by decide) (by kernel_rfl)))
      clear hd hev hin
      simp only [List.getElem_cons_succ, List.getElem_cons_zero]
      clear hl
      refine .inr ⟨rfl, fun K' hK => ?_⟩
      have HK := Lib.hid hK
      clear hK
      go_simp
      refine (HAf.out W).mono ?_
      rintro e W' ⟨rfl, hB⟩
      exact HK.out (.bool true) _ (hJ.later hB) rfl (vkL_later hB)
    · skip
      have x41 : A.tmps[41]? = some (.bool true) := (hin 4 41 rfl).trans (congrArg some (show u 4 = .bool true from hd 4 (by decide) (by kernel_rfl)))
      clear hd hev hin
      simp only [List.getElem_cons_succ, List.getElem_cons_zero]
      clear hl
      refine .inr ⟨rfl, fun K' hK => ?_⟩
      have HK := Lib.hid hK
      clear hK
      go_simp
      exact HK.out (.bool true) _ hJ rfl vkL_same
  intro u W hJm hd
  have e_0 : u 0 = .agg #[.int .i64 p.lo, .int .i64 p.hi, .bool p.all] := hd 0 (by decide)
  have e_1 : u 1 = .agg #[.int .i64 pA.lo, .int .i64 pA.hi, .bool pA.all] := hd 1 (by decide)
  have e_2 : u 2 = .agg #[.int .i64 q.lo, .int .i64 q.hi, .bool q.all] := hd 2 (by decide)
  have e_3 : u 3 = .agg #[.int .i64 qA.lo, .int .i64 qA.hi, .bool qA.all] := hd 3 (by decide)
  have e_4 : u 4 = .bool true := hd 4 (by decide)
  have e_5 : u 5 = .bool true := hd 5 (by decide)
  clear hd
  simp only [layS, Act.put, List.setIfInBounds_toArray, List.set_cons_succ, List.set_cons_zero, Nat.zero_add, Nat.reduceAdd, List.drop_succ_cons, List.drop_zero, List.drop_nil, e_0, e_1, e_2, e_3, e_4, e_5]
  clear e_0 e_1 e_2 e_3 e_4 e_5
  replace hJ := hJm.bl
  clear hM5
  clear hJm
  generalize hZ : W = Z6 at *
  clear hZ
  go_wp2
  obtain ⟨m6, hm6⟩ : ∃ m, m = Z6.heap.size := ⟨_, rfl⟩
  have hM6 := hJ.bm
  rw [← hm6] at hM6
  refine wp_region_z 6 [some 42, some 43, some 44, some 45, some 46, some 13] (vkL m6 [.eq (.agg #[.int .i64 p.lo, .int .i64 p.hi, .bool p.all]), .eq (.agg #[.int .i64 pB.lo, .int .i64 pB.hi, .bool pB.all]), .eq (.agg #[.int .i64 q.lo, .int .i64 q.hi, .bool q.all]), .eq (.agg #[.int .i64 qB.lo, .int .i64 qB.hi, .bool qB.all]), .eq (.bool true), .eq (.bool true)]) (Bm w m6 [(b3, q), (b2, p), (b0 + 1, y), (b0, x)]) (by kernel_rfl) (by kernel_rfl) (by rfl) (by decide) (by rfl) hM6 ?_ ?_
  · intro i hl hi u W A hJ hd hev hin
    obtain rfl | rfl | rfl | rfl | rfl | rfl : i = 0 ∨ i = 1 ∨ i = 2 ∨ i = 3 ∨ i = 4 ∨ i = 5 := by omega
    · skip
      have x10 : A.tmps[10]? = some (.pointer (some ⟨b2, 0, none⟩)) := (hev 10 (by decide)).trans rfl
      clear hd hev hin
      simp only [List.getElem_cons_succ, List.getElem_cons_zero]
      clear hl
      refine .inr ⟨rfl, fun K' hK => ?_⟩
      have HK := Lib.hid hK
      clear hK
      have f1_0 := (hJ.bl.at' (b2, p) (.tail _ (.head _))).cells.1
      have f1_1 := (hJ.bl.at' (b2, p) (.tail _ (.head _))).cells.2.1
      have f1_2 := (hJ.bl.at' (b2, p) (.tail _ (.head _))).cells.2.2.1
      go_simp
      exact HK.out (.agg #[.int .i64 p.lo, .int .i64 p.hi, .bool p.all]) _ hJ rfl vkL_same
    · skip
      have x42 : A.tmps[42]? = some (.agg #[.int .i64 p.lo, .int .i64 p.hi, .bool p.all]) := (hin 0 42 rfl).trans (congrArg some (show u 0 = .agg #[.int .i64 p.lo, .int .i64 p.hi, .bool p.all] from hd 0 (by decide) (by kernel_rfl)))
      clear hd hev hin
      simp only [List.getElem_cons_succ, List.getElem_cons_zero]
      clear hl
      refine .inr ⟨rfl, fun K' hK => ?_⟩
      have HK := Lib.hid hK
      clear hK
      go_simp
      refine (HBp.out W).mono ?_
      rintro e W' ⟨rfl, hB⟩
      exact HK.out (.agg #[.int .i64 pB.lo, .int .i64 pB.hi, .bool pB.all]) _ (hJ.later hB) rfl (vkL_later hB)
    · skip
      have x11 : A.tmps[11]? = some (.pointer (some ⟨b3, 0, none⟩)) := (hev 11 (by decide)).trans rfl
      clear hd hev hin
      simp only [List.getElem_cons_succ, List.getElem_cons_zero]
      clear hl
      refine .inr ⟨rfl, fun K' hK => ?_⟩
      have HK := Lib.hid hK
      clear hK
      have f0_0 := (hJ.bl.at' (b3, q) (.head _)).cells.1
      have f0_1 := (hJ.bl.at' (b3, q) (.head _)).cells.2.1
      have f0_2 := (hJ.bl.at' (b3, q) (.head _)).cells.2.2.1
      go_simp
      exact HK.out (.agg #[.int .i64 q.lo, .int .i64 q.hi, .bool q.all]) _ hJ rfl vkL_same
    · skip
      have x44 : A.tmps[44]? = some (.agg #[.int .i64 q.lo, .int .i64 q.hi, .bool q.all]) := (hin 2 44 rfl).trans (congrArg some (show u 2 = .agg #[.int .i64 q.lo, .int .i64 q.hi, .bool q.all] from hd 2 (by decide) (by kernel_rfl)))
      clear hd hev hin
      simp only [List.getElem_cons_succ, List.getElem_cons_zero]
      clear hl
      refine .inr ⟨rfl, fun K' hK => ?_⟩
      have HK := Lib.hid hK
      clear hK
      go_simp
      refine (HBq.out W).mono ?_
      rintro e W' ⟨rfl, hB⟩
      exact HK.out (.agg #[.int .i64 qB.lo, .int .i64 qB.hi, .bool qB.all]) _ (hJ.later hB) rfl (vkL_later hB)
    · skip
      have x43 : A.tmps[43]? = some (.agg #[.int .i64 pB.lo, .int .i64 pB.hi, .bool pB.all]) := (hin 1 43 rfl).trans (congrArg some (show u 1 = .agg #[.int .i64 pB.lo, .int .i64 pB.hi, .bool pB.all] from hd 1 (by decide) (by kernel_rfl)))
      have x45 : A.tmps[45]? = some (.agg #[.int .i64 qB.lo, .int .i64 qB.hi, .bool qB.all]) := (hin 3 45 rfl).trans (congrArg some (show u 3 = .agg #[.int .i64 qB.lo, .int .i64 qB.hi, .bool qB.all] from hd 3 (by decide) (by kernel_rfl)))
      clear hd hev hin
      simp only [List.getElem_cons_succ, List.getElem_cons_zero]
      clear hl
      refine .inr ⟨rfl, fun K' hK => ?_⟩
      have HK := Lib.hid hK
      clear hK
      go_simp
      refine (HBf.out W).mono ?_
      rintro e W' ⟨rfl, hB⟩
      exact HK.out (.bool true) _ (hJ.later hB) rfl (vkL_later hB)
    · skip
      have x46 : A.tmps[46]? = some (.bool true) := (hin 4 46 rfl).trans (congrArg some (show u 4 = .bool true from hd 4 (by decide) (by kernel_rfl)))
      clear hd hev hin
      simp only [List.getElem_cons_succ, List.getElem_cons_zero]
      clear hl
      refine .inr ⟨rfl, fun K' hK => ?_⟩
      have HK := Lib.hid hK
      clear hK
      go_simp
      exact HK.out (.bool true) _ hJ rfl vkL_same
  intro u W hJm hd
  have e_0 : u 0 = .agg #[.int .i64 p.lo, .int .i64 p.hi, .bool p.all] := hd 0 (by decide)
  have e_1 : u 1 = .agg #[.int .i64 pB.lo, .int .i64 pB.hi, .bool pB.all] := hd 1 (by decide)
  have e_2 : u 2 = .agg #[.int .i64 q.lo, .int .i64 q.hi, .bool q.all] := hd 2 (by decide)
  have e_3 : u 3 = .agg #[.int .i64 qB.lo, .int .i64 qB.hi, .bool qB.all] := hd 3 (by decide)
  have e_4 : u 4 = .bool true := hd 4 (by decide)
  have e_5 : u 5 = .bool true := hd 5 (by decide)
  clear hd
  simp only [layS, Act.put, List.setIfInBounds_toArray, List.set_cons_succ, List.set_cons_zero, Nat.zero_add, Nat.reduceAdd, List.drop_succ_cons, List.drop_zero, List.drop_nil, e_0, e_1, e_2, e_3, e_4, e_5]
  clear e_0 e_1 e_2 e_3 e_4 e_5
  replace hJ := hJm.bl
  clear hM6
  clear hJm
  generalize hZ : W = Z7 at *
  clear hZ
  go_wp2
  obtain ⟨m7, hm7⟩ : ∃ m, m = Z7.heap.size := ⟨_, rfl⟩
  have hM7 := hJ.bm
  rw [← hm7] at hM7
  refine wp_region_z 6 [some 47, some 48, some 49, some 50, some 51, some 14] (vkL m7 [.eq (.agg #[.int .i64 p.lo, .int .i64 p.hi, .bool p.all]), .eq (.agg #[.int .i64 pC.lo, .int .i64 pC.hi, .bool pC.all]), .eq (.agg #[.int .i64 q.lo, .int .i64 q.hi, .bool q.all]), .eq (.agg #[.int .i64 qC.lo, .int .i64 qC.hi, .bool qC.all]), .eq (.bool true), .eq (.bool true)]) (Bm w m7 [(b3, q), (b2, p), (b0 + 1, y), (b0, x)]) (by kernel_rfl) (by kernel_rfl) (by rfl) (by decide) (by rfl) hM7 ?_ ?_
  · intro i hl hi u W A hJ hd hev hin
    obtain rfl | rfl | rfl | rfl | rfl | rfl : i = 0 ∨ i = 1 ∨ i = 2 ∨ i = 3 ∨ i = 4 ∨ i = 5 := by omega
    · skip
      have x10 : A.tmps[10]? = some (.pointer (some ⟨b2, 0, none⟩)) := (hev 10 (by decide)).trans rfl
      clear hd hev hin
      simp only [List.getElem_cons_succ, List.getElem_cons_zero]
      clear hl
      refine .inr ⟨rfl, fun K' hK => ?_⟩
      have HK := Lib.hid hK
      clear hK
      have f1_0 := (hJ.bl.at' (b2, p) (.tail _ (.head _))).cells.1
      have f1_1 := (hJ.bl.at' (b2, p) (.tail _ (.head _))).cells.2.1
      have f1_2 := (hJ.bl.at' (b2, p) (.tail _ (.head _))).cells.2.2.1
      go_simp
      exact HK.out (.agg #[.int .i64 p.lo, .int .i64 p.hi, .bool p.all]) _ hJ rfl vkL_same
    · skip
      have x47 : A.tmps[47]? = some (.agg #[.int .i64 p.lo, .int .i64 p.hi, .bool p.all]) := (hin 0 47 rfl).trans (congrArg some (show u 0 = .agg #[.int .i64 p.lo, .int .i64 p.hi, .bool p.all] from hd 0 (by decide) (by kernel_rfl)))
      clear hd hev hin
      simp only [List.getElem_cons_succ, List.getElem_cons_zero]
      clear hl
      refine .inr ⟨rfl, fun K' hK => ?_⟩
      have HK := Lib.hid hK
      clear hK
      go_simp
      refine (HCp.out W).mono ?_
      rintro e W' ⟨rfl, hB⟩
      exact HK.out (.agg #[.int .i64 pC.lo, .int .i64 pC.hi, .bool pC.all]) _ (hJ.later hB) rfl (vkL_later hB)
    · skip
      have x11 : A.tmps[11]? = some (.pointer (some ⟨b3, 0, none⟩)) := (hev 11 (by decide)).trans rfl
      clear hd hev hin
      simp only [List.getElem_cons_succ, List.getElem_cons_zero]
      clear hl
      refine .inr ⟨rfl, fun K' hK => ?_⟩
      have HK := Lib.hid hK
      clear hK
      have f0_0 := (hJ.bl.at' (b3, q) (.head _)).cells.1
      have f0_1 := (hJ.bl.at' (b3, q) (.head _)).cells.2.1
      have f0_2 := (hJ.bl.at' (b3, q) (.head _)).cells.2.2.1
      go_simp
      exact HK.out (.agg #[.int .i64 q.lo, .int .i64 q.hi, .bool q.all]) _ hJ rfl vkL_same
    · skip
      have x49 : A.tmps[49]? = some (.agg #[.int .i64 q.lo, .int .i64 q.hi, .bool q.all]) := (hin 2 49 rfl).trans (congrArg some (show u 2 = .agg #[.int .i64 q.lo, .int .i64 q.hi, .bool q.all] from hd 2 (by decide) (by kernel_rfl)))
      clear hd hev hin
      simp only [List.getElem_cons_succ, List.getElem_cons_zero]
      clear hl
      refine .inr ⟨rfl, fun K' hK => ?_⟩
      have HK := Lib.hid hK
      clear hK
      go_simp
      refine (HCq.out W).mono ?_
      rintro e W' ⟨rfl, hB⟩
      exact HK.out (.agg #[.int .i64 qC.lo, .int .i64 qC.hi, .bool qC.all]) _ (hJ.later hB) rfl (vkL_later hB)
    · skip
      have x48 : A.tmps[48]? = some (.agg #[.int .i64 pC.lo, .int .i64 pC.hi, .bool pC.all]) := (hin 1 48 rfl).trans (congrArg some (show u 1 = .agg #[.int .i64 pC.lo, .int .i64 pC.hi, .bool pC.all] from hd 1 (by decide) (by kernel_rfl)))
      have x50 : A.tmps[50]? = some (.agg #[.int .i64 qC.lo, .int .i64 qC.hi, .bool qC.all]) := (hin 3 50 rfl).trans (congrArg some (show u 3 = .agg #[.int .i64 qC.lo, .int .i64 qC.hi, .bool qC.all] from hd 3 (by decide) (by kernel_rfl)))
      clear hd hev hin
      simp only [List.getElem_cons_succ, List.getElem_cons_zero]
      clear hl
      refine .inr ⟨rfl, fun K' hK => ?_⟩
      have HK := Lib.hid hK
      clear hK
      go_simp
      refine (HCf.out W).mono ?_
      rintro e W' ⟨rfl, hB⟩
      exact HK.out (.bool true) _ (hJ.later hB) rfl (vkL_later hB)
    · skip
      have x51 : A.tmps[51]? = some (.bool true) := (hin 4 51 rfl).trans (congrArg some (show u 4 = .bool true from hd 4 (by decide) (by kernel_rfl)))
      clear hd hev hin
      simp only [List.getElem_cons_succ, List.getElem_cons_zero]
      clear hl
      refine .inr ⟨rfl, fun K' hK => ?_⟩
      have HK := Lib.hid hK
      clear hK
      go_simp
      exact HK.out (.bool true) _ hJ rfl vkL_same
  intro u W hJm hd
  have e_0 : u 0 = .agg #[.int .i64 p.lo, .int .i64 p.hi, .bool p.all] := hd 0 (by decide)
  have e_1 : u 1 = .agg #[.int .i64 pC.lo, .int .i64 pC.hi, .bool pC.all] := hd 1 (by decide)
  have e_2 : u 2 = .agg #[.int .i64 q.lo, .int .i64 q.hi, .bool q.all] := hd 2 (by decide)
  have e_3 : u 3 = .agg #[.int .i64 qC.lo, .int .i64 qC.hi, .bool qC.all] := hd 3 (by decide)
  have e_4 : u 4 = .bool true := hd 4 (by decide)
  have e_5 : u 5 = .bool true := hd 5 (by decide)
  clear hd
  simp only [layS, Act.put, List.setIfInBounds_toArray, List.set_cons_succ, List.set_cons_zero, Nat.zero_add, Nat.reduceAdd, List.drop_succ_cons, List.drop_zero, List.drop_nil, e_0, e_1, e_2, e_3, e_4, e_5]
  clear e_0 e_1 e_2 e_3 e_4 e_5
  replace hJ := hJm.bl
  clear hM7
  clear hJm
  generalize hZ : W = Z8 at *
  clear hZ
  have f3_0 := (hJ.at' (b0, x) (.tail _ (.tail _ (.tail _ (.head _))))).cells.1
  have f3_1 := (hJ.at' (b0, x) (.tail _ (.tail _ (.tail _ (.head _))))).cells.2.1
  have f3_2 := (hJ.at' (b0, x) (.tail _ (.tail _ (.tail _ (.head _))))).cells.2.2.1
  have fl3 : b0 < Z8.heap.size := hJ.lt (b0, x) (.tail _ (.tail _ (.tail _ (.head _))))
  have f2_0 := (hJ.at' (b0 + 1, y) (.tail _ (.tail _ (.head _)))).cells.1
  have f2_1 := (hJ.at' (b0 + 1, y) (.tail _ (.tail _ (.head _)))).cells.2.1
  have f2_2 := (hJ.at' (b0 + 1, y) (.tail _ (.tail _ (.head _)))).cells.2.2.1
  have fl2 : b0 + 1 < Z8.heap.size := hJ.lt (b0 + 1, y) (.tail _ (.tail _ (.head _)))
  go_wp2_with fail
  refine (Hin.out _).mono ?_
  rintro e W9 ⟨rfl, hB⟩
  replace hJ := hJ.later hB
  clear hB f3_0 f3_1 f3_2 fl3 f2_0 f2_1 f2_2 fl2
  have hJf := hJ.below
  go_wp2
  go_ret
  exact ⟨rfl, hJf⟩
set_option maxRecDepth 100000 in
set_option maxHeartbeats 12800000 in
theorem Falls_3i (s t : Int) (x y p q pA qA pB qB pC qC xA yA xB yB xC yC : Sp) (hHaw : ∀ W : World, Calls Try.prog 28 #[] W (PVal (.bool true) W)) (hHp : ∀ W : World, Calls Try.prog 40 #[.int .i64 s, .int .i64 s] W (PSp p W)) (hHq : ∀ W : World, Calls Try.prog 40 #[.int .i64 t, .int .i64 t] W (PSp q W)) (hHAp : ∀ W : World, Calls Try.prog 30 #[.agg #[.int .i64 p.lo, .int .i64 p.hi, .bool p.all]] W (PSp pA W)) (hHAq : ∀ W : World, Calls Try.prog 30 #[.agg #[.int .i64 q.lo, .int .i64 q.hi, .bool q.all]] W (PSp qA W)) (hHAf : ∀ W : World, Calls Try.prog 43 #[.agg #[.int .i64 pA.lo, .int .i64 pA.hi, .bool pA.all], .agg #[.int .i64 qA.lo, .int .i64 qA.hi, .bool qA.all]] W (PVal (.bool true) W)) (hHBp : ∀ W : World, Calls Try.prog 31 #[.agg #[.int .i64 p.lo, .int .i64 p.hi, .bool p.all]] W (PSp pB W)) (hHBq : ∀ W : World, Calls Try.prog 31 #[.agg #[.int .i64 q.lo, .int .i64 q.hi, .bool q.all]] W (PSp qB W)) (hHBf : ∀ W : World, Calls Try.prog 43 #[.agg #[.int .i64 pB.lo, .int .i64 pB.hi, .bool pB.all], .agg #[.int .i64 qB.lo, .int .i64 qB.hi, .bool qB.all]] W (PVal (.bool true) W)) (hHCp : ∀ W : World, Calls Try.prog 32 #[.agg #[.int .i64 p.lo, .int .i64 p.hi, .bool p.all]] W (PSp pC W)) (hHCq : ∀ W : World, Calls Try.prog 32 #[.agg #[.int .i64 q.lo, .int .i64 q.hi, .bool q.all]] W (PSp qC W)) (hHCf : ∀ W : World, Calls Try.prog 43 #[.agg #[.int .i64 pC.lo, .int .i64 pC.hi, .bool pC.all], .agg #[.int .i64 qC.lo, .int .i64 qC.hi, .bool qC.all]] W (PVal (.bool true) W)) (hHin : ∀ W : World, Calls Try.prog 44 #[.agg #[.int .i64 x.lo, .int .i64 x.hi, .bool x.all], .agg #[.int .i64 y.lo, .int .i64 y.hi, .bool y.all]] W (PVal (.bool true) W)) (hHAx : ∀ W : World, Calls Try.prog 30 #[.agg #[.int .i64 x.lo, .int .i64 x.hi, .bool x.all]] W (PSp xA W)) (hHAy : ∀ W : World, Calls Try.prog 30 #[.agg #[.int .i64 y.lo, .int .i64 y.hi, .bool y.all]] W (PSp yA W)) (hHAi : ∀ W : World, Calls Try.prog 44 #[.agg #[.int .i64 xA.lo, .int .i64 xA.hi, .bool xA.all], .agg #[.int .i64 yA.lo, .int .i64 yA.hi, .bool yA.all]] W (PVal (.bool true) W)) (hHBx : ∀ W : World, Calls Try.prog 31 #[.agg #[.int .i64 x.lo, .int .i64 x.hi, .bool x.all]] W (PSp xB W)) (hHBy : ∀ W : World, Calls Try.prog 31 #[.agg #[.int .i64 y.lo, .int .i64 y.hi, .bool y.all]] W (PSp yB W)) (hHBi : ∀ W : World, Calls Try.prog 44 #[.agg #[.int .i64 xB.lo, .int .i64 xB.hi, .bool xB.all], .agg #[.int .i64 yB.lo, .int .i64 yB.hi, .bool yB.all]] W (PVal (.bool true) W)) (hHCx : ∀ W : World, Calls Try.prog 32 #[.agg #[.int .i64 x.lo, .int .i64 x.hi, .bool x.all]] W (PSp xC W)) (hHCy : ∀ W : World, Calls Try.prog 32 #[.agg #[.int .i64 y.lo, .int .i64 y.hi, .bool y.all]] W (PSp yC W)) (hHCi : ∀ W : World, Calls Try.prog 44 #[.agg #[.int .i64 xC.lo, .int .i64 xC.hi, .bool xC.all], .agg #[.int .i64 yC.lo, .int .i64 yC.hi, .bool yC.all]] W (PVal (.bool true) W)) (d0 : decide (0 ≤ s) = true) (d1 : decide (s ≤ t) = true) (d2 : decide (t ≤ 4194304) = true) (w : World) : Calls Try.prog 9 #[.int .i64 s, .int .i64 t, .agg #[.int .i64 x.lo, .int .i64 x.hi, .bool x.all], .agg #[.int .i64 y.lo, .int .i64 y.hi, .bool y.all]] w (PVal (.bool true) w) := by
  have Haw := Lib.hid hHaw
  have Hp := Lib.hid hHp
  have Hq := Lib.hid hHq
  have HAp := Lib.hid hHAp
  have HAq := Lib.hid hHAq
  have HAf := Lib.hid hHAf
  have HBp := Lib.hid hHBp
  have HBq := Lib.hid hHBq
  have HBf := Lib.hid hHBf
  have HCp := Lib.hid hHCp
  have HCq := Lib.hid hHCq
  have HCf := Lib.hid hHCf
  have Hin := Lib.hid hHin
  have HAx := Lib.hid hHAx
  have HAy := Lib.hid hHAy
  have HAi := Lib.hid hHAi
  have HBx := Lib.hid hHBx
  have HBy := Lib.hid hHBy
  have HBi := Lib.hid hHBi
  have HCx := Lib.hid hHCx
  have HCy := Lib.hid hHCy
  have HCi := Lib.hid hHCi
  clear hHaw hHp hHq hHAp hHAq hHAf hHBp hHBq hHBf hHCp hHCq hHCf hHin hHAx hHAy hHAi hHBx hHBy hHBi hHCx hHCy hHCi
  have hJ := bl_nil w
  go_enter Try.func9, Try.ntmps9
  go_wp2_with fail
  replace hJ := hJ.new x
  replace hJ := hJ.new y
  rw [show ((w).alloc (.cells #[.int .i64 x.lo, .int .i64 x.hi, .bool x.all] 23)).heap.size = w.heap.size + 1 by simp] at hJ
  generalize hW0 : ((w).alloc (.cells #[.int .i64 x.lo, .int .i64 x.hi, .bool x.all] 23)).alloc (.cells #[.int .i64 y.lo, .int .i64 y.hi, .bool y.all] 23) = V0 at *
  clear hW0
  generalize w.heap.size = b0 at *
  refine (Haw.out _).mono ?_
  rintro e W1 ⟨rfl, hB⟩
  replace hJ := hJ.later hB
  clear hB
  go_wp2_with fail
  refine (Hp.out _).mono ?_
  rintro e W2 ⟨rfl, hB⟩
  replace hJ := hJ.later hB
  clear hB
  go_wp2_with fail
  replace hJ := hJ.new p
  generalize hW3 : W2.alloc (.cells #[.int .i64 p.lo, .int .i64 p.hi, .bool p.all] 23) = V3 at *
  clear hW3
  generalize W2.heap.size = b2 at *
  refine (Hq.out _).mono ?_
  rintro e W4 ⟨rfl, hB⟩
  replace hJ := hJ.later hB
  clear hB
  go_wp2
  replace hJ := hJ.new q
  generalize hW5 : W4.alloc (.cells #[.int .i64 q.lo, .int .i64 q.hi, .bool q.all] 23) = V5 at *
  clear hW5
  generalize W4.heap.size = b3 at *
  obtain ⟨m5, hm5⟩ : ∃ m, m = V5.heap.size := ⟨_, rfl⟩
  have hM5 := hJ.bm
  rw [← hm5] at hM5
  refine wp_region_z 6 [some 37, some 38, some 39, some 40, some 41, some 12] (vkL m5 [.eq (.agg #[.int .i64 p.lo, .int .i64 p.hi, .bool p.all]), .eq (.agg #[.int .i64 pA.lo, .int .i64 pA.hi, .bool pA.all]), .eq (.agg #[.int .i64 q.lo, .int .i64 q.hi, .bool q.all]), .eq (.agg #[.int .i64 qA.lo, .int .i64 qA.hi, .bool qA.all]), .eq (.bool true), .eq (.bool true)]) (Bm w m5 [(b3, q), (b2, p), (b0 + 1, y), (b0, x)]) (by kernel_rfl) (by kernel_rfl) (by rfl) (by decide) (by rfl) hM5 ?_ ?_
  · intro i hl hi u W A hJ hd hev hin
    obtain rfl | rfl | rfl | rfl | rfl | rfl : i = 0 ∨ i = 1 ∨ i = 2 ∨ i = 3 ∨ i = 4 ∨ i = 5 := by omega
    · skip
      have x10 : A.tmps[10]? = some (.pointer (some ⟨b2, 0, none⟩)) := (hev 10 (by decide)).trans rfl
      clear hd hev hin
      simp only [List.getElem_cons_succ, List.getElem_cons_zero]
      clear hl
      refine .inr ⟨rfl, fun K' hK => ?_⟩
      have HK := Lib.hid hK
      clear hK
      have f1_0 := (hJ.bl.at' (b2, p) (.tail _ (.head _))).cells.1
      have f1_1 := (hJ.bl.at' (b2, p) (.tail _ (.head _))).cells.2.1
      have f1_2 := (hJ.bl.at' (b2, p) (.tail _ (.head _))).cells.2.2.1
      go_simp
      exact HK.out (.agg #[.int .i64 p.lo, .int .i64 p.hi, .bool p.all]) _ hJ rfl vkL_same
    · skip
      have x37 : A.tmps[37]? = some (.agg #[.int .i64 p.lo, .int .i64 p.hi, .bool p.all]) := (hin 0 37 rfl).trans (congrArg some (show u 0 = .agg #[.int .i64 p.lo, .int .i64 p.hi, .bool p.all] from hd 0 (by decide) (by kernel_rfl)))
      clear hd hev hin
      simp only [List.getElem_cons_succ, List.getElem_cons_zero]
      clear hl
      refine .inr ⟨rfl, fun K' hK => ?_⟩
      have HK := Lib.hid hK
      clear hK
      go_simp
      refine (HAp.out W).mono ?_
      rintro e W' ⟨rfl, hB⟩
      exact HK.out (.agg #[.int .i64 pA.lo, .int .i64 pA.hi, .bool pA.all]) _ (hJ.later hB) rfl (vkL_later hB)
    · skip
      have x11 : A.tmps[11]? = some (.pointer (some ⟨b3, 0, none⟩)) := (hev 11 (by decide)).trans rfl
      clear hd hev hin
      simp only [List.getElem_cons_succ, List.getElem_cons_zero]
      clear hl
      refine .inr ⟨rfl, fun K' hK => ?_⟩
      have HK := Lib.hid hK
      clear hK
      have f0_0 := (hJ.bl.at' (b3, q) (.head _)).cells.1
      have f0_1 := (hJ.bl.at' (b3, q) (.head _)).cells.2.1
      have f0_2 := (hJ.bl.at' (b3, q) (.head _)).cells.2.2.1
      go_simp
      exact HK.out (.agg #[.int .i64 q.lo, .int .i64 q.hi, .bool q.all]) _ hJ rfl vkL_same
    · skip
      have x39 : A.tmps[39]? = some (.agg #[.int .i64 q.lo, .int .i64 q.hi, .bool q.all]) := (hin 2 39 rfl).trans (congrArg some (show u 2 = .agg #[.int .i64 q.lo, .int .i64 q.hi, .bool q.all] from hd 2 (by decide) (by kernel_rfl)))
      clear hd hev hin
      simp only [List.getElem_cons_succ, List.getElem_cons_zero]
      clear hl
      refine .inr ⟨rfl, fun K' hK => ?_⟩
      have HK := Lib.hid hK
      clear hK
      go_simp
      refine (HAq.out W).mono ?_
      rintro e W' ⟨rfl, hB⟩
      exact HK.out (.agg #[.int .i64 qA.lo, .int .i64 qA.hi, .bool qA.all]) _ (hJ.later hB) rfl (vkL_later hB)
    · skip
      have x38 : A.tmps[38]? = some (.agg #[.int .i64 pA.lo, .int .i64 pA.hi, .bool pA.all]) := (hin 1 38 rfl).trans (congrArg some (show u 1 = .agg #[.int .i64 pA.lo, .int .i64 pA.hi, .bool pA.all] from hd 1 (by decide) (by kernel_rfl)))
      have x40 : A.tmps[40]? = some (.agg #[.int .i64 qA.lo, .int .i64 qA.hi, .bool qA.all]) := (hin 3 40 rfl).trans (congrArg some (show u 3 = .agg #[.int .i64 qA.lo, .int .i64 qA.hi, .bool qA.all] from hd 3 (by decide) (by kernel_rfl)))
      clear hd hev hin
      simp only [List.getElem_cons_succ, List.getElem_cons_zero]
      clear hl
      refine .inr ⟨rfl, fun K' hK => ?_⟩
      have HK := Lib.hid hK
      clear hK
      go_simp
      refine (HAf.out W).mono ?_
      rintro e W' ⟨rfl, hB⟩
      exact HK.out (.bool true) _ (hJ.later hB) rfl (vkL_later hB)
    · skip
      have x41 : A.tmps[41]? = some (.bool true) := (hin 4 41 rfl).trans (congrArg some (show u 4 = .bool true from hd 4 (by decide) (by kernel_rfl)))
      clear hd hev hin
      simp only [List.getElem_cons_succ, List.getElem_cons_zero]
      clear hl
      refine .inr ⟨rfl, fun K' hK => ?_⟩
      have HK := Lib.hid hK
      clear hK
      go_simp
      exact HK.out (.bool true) _ hJ rfl vkL_same
  intro u W hJm hd
  have e_0 : u 0 = .agg #[.int .i64 p.lo, .int .i64 p.hi, .bool p.all] := hd 0 (by decide)
  have e_1 : u 1 = .agg #[.int .i64 pA.lo, .int .i64 pA.hi, .bool pA.all] := hd 1 (by decide)
  have e_2 : u 2 = .agg #[.int .i64 q.lo, .int .i64 q.hi, .bool q.all] := hd 2 (by decide)
  have e_3 : u 3 = .agg #[.int .i64 qA.lo, .int .i64 qA.hi, .bool qA.all] := hd 3 (by decide)
  have e_4 : u 4 = .bool true := hd 4 (by decide)
  have e_5 : u 5 = .bool true := hd 5 (by decide)
  clear hd
  simp only [layS, Act.put, List.setIfInBounds_toArray, List.set_cons_succ, List.set_cons_zero, Nat.zero_add, Nat.reduceAdd, List.drop_succ_cons, List.drop_zero, List.drop_nil, e_0, e_1, e_2, e_3, e_4, e_5]
  clear e_0 e_1 e_2 e_3 e_4 e_5
  replace hJ := hJm.bl
  clear hM5
  clear hJm
  generalize hZ : W = Z6 at *
  clear hZ
  go_wp2
  obtain ⟨m6, hm6⟩ : ∃ m, m = Z6.heap.size := ⟨_, rfl⟩
  have hM6 := hJ.bm
  rw [← hm6] at hM6
  refine wp_region_z 6 [some 42, some 43, some 44, some 45, some 46, some 13] (vkL m6 [.eq (.agg #[.int .i64 p.lo, .int .i64 p.hi, .bool p.all]), .eq (.agg #[.int .i64 pB.lo, .int .i64 pB.hi, .bool pB.all]), .eq (.agg #[.int .i64 q.lo, .int .i64 q.hi, .bool q.all]), .eq (.agg #[.int .i64 qB.lo, .int .i64 qB.hi, .bool qB.all]), .eq (.bool true), .eq (.bool true)]) (Bm w m6 [(b3, q), (b2, p), (b0 + 1, y), (b0, x)]) (by kernel_rfl) (by kernel_rfl) (by rfl) (by decide) (by rfl) hM6 ?_ ?_
  · intro i hl hi u W A hJ hd hev hin
    obtain rfl | rfl | rfl | rfl | rfl | rfl : i = 0 ∨ i = 1 ∨ i = 2 ∨ i = 3 ∨ i = 4 ∨ i = 5 := by omega
    · skip
      have x10 : A.tmps[10]? = some (.pointer (some ⟨b2, 0, none⟩)) := (hev 10 (by decide)).trans rfl
      clear hd hev hin
      simp only [List.getElem_cons_succ, List.getElem_cons_zero]
      clear hl
      refine .inr ⟨rfl, fun K' hK => ?_⟩
      have HK := Lib.hid hK
      clear hK
      have f1_0 := (hJ.bl.at' (b2, p) (.tail _ (.head _))).cells.1
      have f1_1 := (hJ.bl.at' (b2, p) (.tail _ (.head _))).cells.2.1
      have f1_2 := (hJ.bl.at' (b2, p) (.tail _ (.head _))).cells.2.2.1
      go_simp
      exact HK.out (.agg #[.int .i64 p.lo, .int .i64 p.hi, .bool p.all]) _ hJ rfl vkL_same
    · skip
      have x42 : A.tmps[42]? = some (.agg #[.int .i64 p.lo, .int .i64 p.hi, .bool p.all]) := (hin 0 42 rfl).trans (congrArg some (show u 0 = .agg #[.int .i64 p.lo, .int .i64 p.hi, .bool p.all] from hd 0 (by decide) (by kernel_rfl)))
      clear hd hev hin
      simp only [List.getElem_cons_succ, List.getElem_cons_zero]
      clear hl
      refine .inr ⟨rfl, fun K' hK => ?_⟩
      have HK := Lib.hid hK
      clear hK
      go_simp
      refine (HBp.out W).mono ?_
      rintro e W' ⟨rfl, hB⟩
      exact HK.out (.agg #[.int .i64 pB.lo, .int .i64 pB.hi, .bool pB.all]) _ (hJ.later hB) rfl (vkL_later hB)
    · skip
      have x11 : A.tmps[11]? = some (.pointer (some ⟨b3, 0, none⟩)) := (hev 11 (by decide)).trans rfl
      clear hd hev hin
      simp only [List.getElem_cons_succ, List.getElem_cons_zero]
      clear hl
      refine .inr ⟨rfl, fun K' hK => ?_⟩
      have HK := Lib.hid hK
      clear hK
      have f0_0 := (hJ.bl.at' (b3, q) (.head _)).cells.1
      have f0_1 := (hJ.bl.at' (b3, q) (.head _)).cells.2.1
      have f0_2 := (hJ.bl.at' (b3, q) (.head _)).cells.2.2.1
      go_simp
      exact HK.out (.agg #[.int .i64 q.lo, .int .i64 q.hi, .bool q.all]) _ hJ rfl vkL_same
    · skip
      have x44 : A.tmps[44]? = some (.agg #[.int .i64 q.lo, .int .i64 q.hi, .bool q.all]) := (hin 2 44 rfl).trans (congrArg some (show u 2 = .agg #[.int .i64 q.lo, .int .i64 q.hi, .bool q.all] from hd 2 (by decide) (by kernel_rfl)))
      clear hd hev hin
      simp only [List.getElem_cons_succ, List.getElem_cons_zero]
      clear hl
      refine .inr ⟨rfl, fun K' hK => ?_⟩
      have HK := Lib.hid hK
      clear hK
      go_simp
      refine (HBq.out W).mono ?_
      rintro e W' ⟨rfl, hB⟩
      exact HK.out (.agg #[.int .i64 qB.lo, .int .i64 qB.hi, .bool qB.all]) _ (hJ.later hB) rfl (vkL_later hB)
    · skip
      have x43 : A.tmps[43]? = some (.agg #[.int .i64 pB.lo, .int .i64 pB.hi, .bool pB.all]) := (hin 1 43 rfl).trans (congrArg some (show u 1 = .agg #[.int .i64 pB.lo, .int .i64 pB.hi, .bool pB.all] from hd 1 (by decide) (by kernel_rfl)))
      have x45 : A.tmps[45]? = some (.agg #[.int .i64 qB.lo, .int .i64 qB.hi, .bool qB.all]) := (hin 3 45 rfl).trans (congrArg some (show u 3 = .agg #[.int .i64 qB.lo, .int .i64 qB.hi, .bool qB.all] from hd 3 (by decide) (by kernel_rfl)))
      clear hd hev hin
      simp only [List.getElem_cons_succ, List.getElem_cons_zero]
      clear hl
      refine .inr ⟨rfl, fun K' hK => ?_⟩
      have HK := Lib.hid hK
      clear hK
      go_simp
      refine (HBf.out W).mono ?_
      rintro e W' ⟨rfl, hB⟩
      exact HK.out (.bool true) _ (hJ.later hB) rfl (vkL_later hB)
    · skip
      have x46 : A.tmps[46]? = some (.bool true) := (hin 4 46 rfl).trans (congrArg some (show u 4 = .bool true from hd 4 (by decide) (by kernel_rfl)))
      clear hd hev hin
      simp only [List.getElem_cons_succ, List.getElem_cons_zero]
      clear hl
      refine .inr ⟨rfl, fun K' hK => ?_⟩
      have HK := Lib.hid hK
      clear hK
      go_simp
      exact HK.out (.bool true) _ hJ rfl vkL_same
  intro u W hJm hd
  have e_0 : u 0 = .agg #[.int .i64 p.lo, .int .i64 p.hi, .bool p.all] := hd 0 (by decide)
  have e_1 : u 1 = .agg #[.int .i64 pB.lo, .int .i64 pB.hi, .bool pB.all] := hd 1 (by decide)
  have e_2 : u 2 = .agg #[.int .i64 q.lo, .int .i64 q.hi, .bool q.all] := hd 2 (by decide)
  have e_3 : u 3 = .agg #[.int .i64 qB.lo, .int .i64 qB.hi, .bool qB.all] := hd 3 (by decide)
  have e_4 : u 4 = .bool true := hd 4 (by decide)
  have e_5 : u 5 = .bool true := hd 5 (by decide)
  clear hd
  simp only [layS, Act.put, List.setIfInBounds_toArray, List.set_cons_succ, List.set_cons_zero, Nat.zero_add, Nat.reduceAdd, List.drop_succ_cons, List.drop_zero, List.drop_nil, e_0, e_1, e_2, e_3, e_4, e_5]
  clear e_0 e_1 e_2 e_3 e_4 e_5
  replace hJ := hJm.bl
  clear hM6
  clear hJm
  generalize hZ : W = Z7 at *
  clear hZ
  go_wp2
  obtain ⟨m7, hm7⟩ : ∃ m, m = Z7.heap.size := ⟨_, rfl⟩
  have hM7 := hJ.bm
  rw [← hm7] at hM7
  refine wp_region_z 6 [some 47, some 48, some 49, some 50, some 51, some 14] (vkL m7 [.eq (.agg #[.int .i64 p.lo, .int .i64 p.hi, .bool p.all]), .eq (.agg #[.int .i64 pC.lo, .int .i64 pC.hi, .bool pC.all]), .eq (.agg #[.int .i64 q.lo, .int .i64 q.hi, .bool q.all]), .eq (.agg #[.int .i64 qC.lo, .int .i64 qC.hi, .bool qC.all]), .eq (.bool true), .eq (.bool true)]) (Bm w m7 [(b3, q), (b2, p), (b0 + 1, y), (b0, x)]) (by kernel_rfl) (by kernel_rfl) (by rfl) (by decide) (by rfl) hM7 ?_ ?_
  · intro i hl hi u W A hJ hd hev hin
    obtain rfl | rfl | rfl | rfl | rfl | rfl : i = 0 ∨ i = 1 ∨ i = 2 ∨ i = 3 ∨ i = 4 ∨ i = 5 := by omega
    · skip
      have x10 : A.tmps[10]? = some (.pointer (some ⟨b2, 0, none⟩)) := (hev 10 (by decide)).trans rfl
      clear hd hev hin
      simp only [List.getElem_cons_succ, List.getElem_cons_zero]
      clear hl
      refine .inr ⟨rfl, fun K' hK => ?_⟩
      have HK := Lib.hid hK
      clear hK
      have f1_0 := (hJ.bl.at' (b2, p) (.tail _ (.head _))).cells.1
      have f1_1 := (hJ.bl.at' (b2, p) (.tail _ (.head _))).cells.2.1
      have f1_2 := (hJ.bl.at' (b2, p) (.tail _ (.head _))).cells.2.2.1
      go_simp
      exact HK.out (.agg #[.int .i64 p.lo, .int .i64 p.hi, .bool p.all]) _ hJ rfl vkL_same
    · skip
      have x47 : A.tmps[47]? = some (.agg #[.int .i64 p.lo, .int .i64 p.hi, .bool p.all]) := (hin 0 47 rfl).trans (congrArg some (show u 0 = .agg #[.int .i64 p.lo, .int .i64 p.hi, .bool p.all] from hd 0 (by decide) (by kernel_rfl)))
      clear hd hev hin
      simp only [List.getElem_cons_succ, List.getElem_cons_zero]
      clear hl
      refine .inr ⟨rfl, fun K' hK => ?_⟩
      have HK := Lib.hid hK
      clear hK
      go_simp
      refine (HCp.out W).mono ?_
      rintro e W' ⟨rfl, hB⟩
      exact HK.out (.agg #[.int .i64 pC.lo, .int .i64 pC.hi, .bool pC.all]) _ (hJ.later hB) rfl (vkL_later hB)
    · skip
      have x11 : A.tmps[11]? = some (.pointer (some ⟨b3, 0, none⟩)) := (hev 11 (by decide)).trans rfl
      clear hd hev hin
      simp only [List.getElem_cons_succ, List.getElem_cons_zero]
      clear hl
      refine .inr ⟨rfl, fun K' hK => ?_⟩
      have HK := Lib.hid hK
      clear hK
      have f0_0 := (hJ.bl.at' (b3, q) (.head _)).cells.1
      have f0_1 := (hJ.bl.at' (b3, q) (.head _)).cells.2.1
      have f0_2 := (hJ.bl.at' (b3, q) (.head _)).cells.2.2.1
      go_simp
      exact HK.out (.agg #[.int .i64 q.lo, .int .i64 q.hi, .bool q.all]) _ hJ rfl vkL_same
    · skip
      have x49 : A.tmps[49]? = some (.agg #[.int .i64 q.lo, .int .i64 q.hi, .bool q.all]) := (hin 2 49 rfl).trans (congrArg some (show u 2 = .agg #[.int .i64 q.lo, .int .i64 q.hi, .bool q.all] from hd 2 (by decide) (by kernel_rfl)))
      clear hd hev hin
      simp only [List.getElem_cons_succ, List.getElem_cons_zero]
      clear hl
      refine .inr ⟨rfl, fun K' hK => ?_⟩
      have HK := Lib.hid hK
      clear hK
      go_simp
      refine (HCq.out W).mono ?_
      rintro e W' ⟨rfl, hB⟩
      exact HK.out (.agg #[.int .i64 qC.lo, .int .i64 qC.hi, .bool qC.all]) _ (hJ.later hB) rfl (vkL_later hB)
    · skip
      have x48 : A.tmps[48]? = some (.agg #[.int .i64 pC.lo, .int .i64 pC.hi, .bool pC.all]) := (hin 1 48 rfl).trans (congrArg some (show u 1 = .agg #[.int .i64 pC.lo, .int .i64 pC.hi, .bool pC.all] from hd 1 (by decide) (by kernel_rfl)))
      have x50 : A.tmps[50]? = some (.agg #[.int .i64 qC.lo, .int .i64 qC.hi, .bool qC.all]) := (hin 3 50 rfl).trans (congrArg some (show u 3 = .agg #[.int .i64 qC.lo, .int .i64 qC.hi, .bool qC.all] from hd 3 (by decide) (by kernel_rfl)))
      clear hd hev hin
      simp only [List.getElem_cons_succ, List.getElem_cons_zero]
      clear hl
      refine .inr ⟨rfl, fun K' hK => ?_⟩
      have HK := Lib.hid hK
      clear hK
      go_simp
      refine (HCf.out W).mono ?_
      rintro e W' ⟨rfl, hB⟩
      exact HK.out (.bool true) _ (hJ.later hB) rfl (vkL_later hB)
    · skip
      have x51 : A.tmps[51]? = some (.bool true) := (hin 4 51 rfl).trans (congrArg some (show u 4 = .bool true from hd 4 (by decide) (by kernel_rfl)))
      clear hd hev hin
      simp only [List.getElem_cons_succ, List.getElem_cons_zero]
      clear hl
      refine .inr ⟨rfl, fun K' hK => ?_⟩
      have HK := Lib.hid hK
      clear hK
      go_simp
      exact HK.out (.bool true) _ hJ rfl vkL_same
  intro u W hJm hd
  have e_0 : u 0 = .agg #[.int .i64 p.lo, .int .i64 p.hi, .bool p.all] := hd 0 (by decide)
  have e_1 : u 1 = .agg #[.int .i64 pC.lo, .int .i64 pC.hi, .bool pC.all] := hd 1 (by decide)
  have e_2 : u 2 = .agg #[.int .i64 q.lo, .int .i64 q.hi, .bool q.all] := hd 2 (by decide)
  have e_3 : u 3 = .agg #[.int .i64 qC.lo, .int .i64 qC.hi, .bool qC.all] := hd 3 (by decide)
  have e_4 : u 4 = .bool true := hd 4 (by decide)
  have e_5 : u 5 = .bool true := hd 5 (by decide)
  clear hd
  simp only [layS, Act.put, List.setIfInBounds_toArray, List.set_cons_succ, List.set_cons_zero, Nat.zero_add, Nat.reduceAdd, List.drop_succ_cons, List.drop_zero, List.drop_nil, e_0, e_1, e_2, e_3, e_4, e_5]
  clear e_0 e_1 e_2 e_3 e_4 e_5
  replace hJ := hJm.bl
  clear hM7
  clear hJm
  generalize hZ : W = Z8 at *
  clear hZ
  have f3_0 := (hJ.at' (b0, x) (.tail _ (.tail _ (.tail _ (.head _))))).cells.1
  have f3_1 := (hJ.at' (b0, x) (.tail _ (.tail _ (.tail _ (.head _))))).cells.2.1
  have f3_2 := (hJ.at' (b0, x) (.tail _ (.tail _ (.tail _ (.head _))))).cells.2.2.1
  have fl3 : b0 < Z8.heap.size := hJ.lt (b0, x) (.tail _ (.tail _ (.tail _ (.head _))))
  have f2_0 := (hJ.at' (b0 + 1, y) (.tail _ (.tail _ (.head _)))).cells.1
  have f2_1 := (hJ.at' (b0 + 1, y) (.tail _ (.tail _ (.head _)))).cells.2.1
  have f2_2 := (hJ.at' (b0 + 1, y) (.tail _ (.tail _ (.head _)))).cells.2.2.1
  have fl2 : b0 + 1 < Z8.heap.size := hJ.lt (b0 + 1, y) (.tail _ (.tail _ (.head _)))
  go_wp2_with fail
  refine (Hin.out _).mono ?_
  rintro e W9 ⟨rfl, hB⟩
  replace hJ := hJ.later hB
  clear hB f3_0 f3_1 f3_2 fl3 f2_0 f2_1 f2_2 fl2
  go_wp2
  obtain ⟨m13, hm13⟩ : ∃ m, m = W9.heap.size := ⟨_, rfl⟩
  have hM13 := hJ.bm
  rw [← hm13] at hM13
  refine wp_region_z 6 [some 68, some 69, some 70, some 71, some 72, some 16] (vkL m13 [.eq (.agg #[.int .i64 x.lo, .int .i64 x.hi, .bool x.all]), .eq (.agg #[.int .i64 xA.lo, .int .i64 xA.hi, .bool xA.all]), .eq (.agg #[.int .i64 y.lo, .int .i64 y.hi, .bool y.all]), .eq (.agg #[.int .i64 yA.lo, .int .i64 yA.hi, .bool yA.all]), .eq (.bool true), .eq (.bool true)]) (Bm w m13 [(b3, q), (b2, p), (b0 + 1, y), (b0, x)]) (by kernel_rfl) (by kernel_rfl) (by rfl) (by decide) (by rfl) hM13 ?_ ?_
  · intro i hl hi u W A hJ hd hev hin
    obtain rfl | rfl | rfl | rfl | rfl | rfl : i = 0 ∨ i = 1 ∨ i = 2 ∨ i = 3 ∨ i = 4 ∨ i = 5 := by omega
    · skip
      have x6 : A.tmps[6]? = some (.pointer (some ⟨b0, 0, none⟩)) := (hev 6 (by decide)).trans rfl
      clear hd hev hin
      simp only [List.getElem_cons_succ, List.getElem_cons_zero]
      clear hl
      refine .inr ⟨rfl, fun K' hK => ?_⟩
      have HK := Lib.hid hK
      clear hK
      have f3_0 := (hJ.bl.at' (b0, x) (.tail _ (.tail _ (.tail _ (.head _))))).cells.1
      have f3_1 := (hJ.bl.at' (b0, x) (.tail _ (.tail _ (.tail _ (.head _))))).cells.2.1
      have f3_2 := (hJ.bl.at' (b0, x) (.tail _ (.tail _ (.tail _ (.head _))))).cells.2.2.1
      go_simp
      exact HK.out (.agg #[.int .i64 x.lo, .int .i64 x.hi, .bool x.all]) _ hJ rfl vkL_same
    · skip
      have x68 : A.tmps[68]? = some (.agg #[.int .i64 x.lo, .int .i64 x.hi, .bool x.all]) := (hin 0 68 rfl).trans (congrArg some (show u 0 = .agg #[.int .i64 x.lo, .int .i64 x.hi, .bool x.all] from hd 0 (by decide) (by kernel_rfl)))
      clear hd hev hin
      simp only [List.getElem_cons_succ, List.getElem_cons_zero]
      clear hl
      refine .inr ⟨rfl, fun K' hK => ?_⟩
      have HK := Lib.hid hK
      clear hK
      go_simp
      refine (HAx.out W).mono ?_
      rintro e W' ⟨rfl, hB⟩
      exact HK.out (.agg #[.int .i64 xA.lo, .int .i64 xA.hi, .bool xA.all]) _ (hJ.later hB) rfl (vkL_later hB)
    · skip
      have x7 : A.tmps[7]? = some (.pointer (some ⟨b0 + 1, 0, none⟩)) := (hev 7 (by decide)).trans rfl
      clear hd hev hin
      simp only [List.getElem_cons_succ, List.getElem_cons_zero]
      clear hl
      refine .inr ⟨rfl, fun K' hK => ?_⟩
      have HK := Lib.hid hK
      clear hK
      have f2_0 := (hJ.bl.at' (b0 + 1, y) (.tail _ (.tail _ (.head _)))).cells.1
      have f2_1 := (hJ.bl.at' (b0 + 1, y) (.tail _ (.tail _ (.head _)))).cells.2.1
      have f2_2 := (hJ.bl.at' (b0 + 1, y) (.tail _ (.tail _ (.head _)))).cells.2.2.1
      go_simp
      exact HK.out (.agg #[.int .i64 y.lo, .int .i64 y.hi, .bool y.all]) _ hJ rfl vkL_same
    · skip
      have x70 : A.tmps[70]? = some (.agg #[.int .i64 y.lo, .int .i64 y.hi, .bool y.all]) := (hin 2 70 rfl).trans (congrArg some (show u 2 = .agg #[.int .i64 y.lo, .int .i64 y.hi, .bool y.all] from hd 2 (by decide) (by kernel_rfl)))
      clear hd hev hin
      simp only [List.getElem_cons_succ, List.getElem_cons_zero]
      clear hl
      refine .inr ⟨rfl, fun K' hK => ?_⟩
      have HK := Lib.hid hK
      clear hK
      go_simp
      refine (HAy.out W).mono ?_
      rintro e W' ⟨rfl, hB⟩
      exact HK.out (.agg #[.int .i64 yA.lo, .int .i64 yA.hi, .bool yA.all]) _ (hJ.later hB) rfl (vkL_later hB)
    · skip
      have x69 : A.tmps[69]? = some (.agg #[.int .i64 xA.lo, .int .i64 xA.hi, .bool xA.all]) := (hin 1 69 rfl).trans (congrArg some (show u 1 = .agg #[.int .i64 xA.lo, .int .i64 xA.hi, .bool xA.all] from hd 1 (by decide) (by kernel_rfl)))
      have x71 : A.tmps[71]? = some (.agg #[.int .i64 yA.lo, .int .i64 yA.hi, .bool yA.all]) := (hin 3 71 rfl).trans (congrArg some (show u 3 = .agg #[.int .i64 yA.lo, .int .i64 yA.hi, .bool yA.all] from hd 3 (by decide) (by kernel_rfl)))
      clear hd hev hin
      simp only [List.getElem_cons_succ, List.getElem_cons_zero]
      clear hl
      refine .inr ⟨rfl, fun K' hK => ?_⟩
      have HK := Lib.hid hK
      clear hK
      go_simp
      refine (HAi.out W).mono ?_
      rintro e W' ⟨rfl, hB⟩
      exact HK.out (.bool true) _ (hJ.later hB) rfl (vkL_later hB)
    · skip
      have x72 : A.tmps[72]? = some (.bool true) := (hin 4 72 rfl).trans (congrArg some (show u 4 = .bool true from hd 4 (by decide) (by kernel_rfl)))
      clear hd hev hin
      simp only [List.getElem_cons_succ, List.getElem_cons_zero]
      clear hl
      refine .inr ⟨rfl, fun K' hK => ?_⟩
      have HK := Lib.hid hK
      clear hK
      go_simp
      exact HK.out (.bool true) _ hJ rfl vkL_same
  intro u W hJm hd
  have e_0 : u 0 = .agg #[.int .i64 x.lo, .int .i64 x.hi, .bool x.all] := hd 0 (by decide)
  have e_1 : u 1 = .agg #[.int .i64 xA.lo, .int .i64 xA.hi, .bool xA.all] := hd 1 (by decide)
  have e_2 : u 2 = .agg #[.int .i64 y.lo, .int .i64 y.hi, .bool y.all] := hd 2 (by decide)
  have e_3 : u 3 = .agg #[.int .i64 yA.lo, .int .i64 yA.hi, .bool yA.all] := hd 3 (by decide)
  have e_4 : u 4 = .bool true := hd 4 (by decide)
  have e_5 : u 5 = .bool true := hd 5 (by decide)
  clear hd
  simp only [layS, Act.put, List.setIfInBounds_toArray, List.set_cons_succ, List.set_cons_zero, Nat.zero_add, Nat.reduceAdd, List.drop_succ_cons, List.drop_zero, List.drop_nil, e_0, e_1, e_2, e_3, e_4, e_5]
  clear e_0 e_1 e_2 e_3 e_4 e_5
  replace hJ := hJm.bl
  clear hM13
  clear hJm
  generalize hZ : W = Z10 at *
  clear hZ
  go_wp2
  obtain ⟨m14, hm14⟩ : ∃ m, m = Z10.heap.size := ⟨_, rfl⟩
  have hM14 := hJ.bm
  rw [← hm14] at hM14
  refine wp_region_z 6 [some 73, some 74, some 75, some 76, some 77, some 17] (vkL m14 [.eq (.agg #[.int .i64 x.lo, .int .i64 x.hi, .bool x.all]), .eq (.agg #[.int .i64 xB.lo, .int .i64 xB.hi, .bool xB.all]), .eq (.agg #[.int .i64 y.lo, .int .i64 y.hi, .bool y.all]), .eq (.agg #[.int .i64 yB.lo, .int .i64 yB.hi, .bool yB.all]), .eq (.bool true), .eq (.bool true)]) (Bm w m14 [(b3, q), (b2, p), (b0 + 1, y), (b0, x)]) (by kernel_rfl) (by kernel_rfl) (by rfl) (by decide) (by rfl) hM14 ?_ ?_
  · intro i hl hi u W A hJ hd hev hin
    obtain rfl | rfl | rfl | rfl | rfl | rfl : i = 0 ∨ i = 1 ∨ i = 2 ∨ i = 3 ∨ i = 4 ∨ i = 5 := by omega
    · skip
      have x6 : A.tmps[6]? = some (.pointer (some ⟨b0, 0, none⟩)) := (hev 6 (by decide)).trans rfl
      clear hd hev hin
      simp only [List.getElem_cons_succ, List.getElem_cons_zero]
      clear hl
      refine .inr ⟨rfl, fun K' hK => ?_⟩
      have HK := Lib.hid hK
      clear hK
      have f3_0 := (hJ.bl.at' (b0, x) (.tail _ (.tail _ (.tail _ (.head _))))).cells.1
      have f3_1 := (hJ.bl.at' (b0, x) (.tail _ (.tail _ (.tail _ (.head _))))).cells.2.1
      have f3_2 := (hJ.bl.at' (b0, x) (.tail _ (.tail _ (.tail _ (.head _))))).cells.2.2.1
      go_simp
      exact HK.out (.agg #[.int .i64 x.lo, .int .i64 x.hi, .bool x.all]) _ hJ rfl vkL_same
    · skip
      have x73 : A.tmps[73]? = some (.agg #[.int .i64 x.lo, .int .i64 x.hi, .bool x.all]) := (hin 0 73 rfl).trans (congrArg some (show u 0 = .agg #[.int .i64 x.lo, .int .i64 x.hi, .bool x.all] from hd 0 (by decide) (by kernel_rfl)))
      clear hd hev hin
      simp only [List.getElem_cons_succ, List.getElem_cons_zero]
      clear hl
      refine .inr ⟨rfl, fun K' hK => ?_⟩
      have HK := Lib.hid hK
      clear hK
      go_simp
      refine (HBx.out W).mono ?_
      rintro e W' ⟨rfl, hB⟩
      exact HK.out (.agg #[.int .i64 xB.lo, .int .i64 xB.hi, .bool xB.all]) _ (hJ.later hB) rfl (vkL_later hB)
    · skip
      have x7 : A.tmps[7]? = some (.pointer (some ⟨b0 + 1, 0, none⟩)) := (hev 7 (by decide)).trans rfl
      clear hd hev hin
      simp only [List.getElem_cons_succ, List.getElem_cons_zero]
      clear hl
      refine .inr ⟨rfl, fun K' hK => ?_⟩
      have HK := Lib.hid hK
      clear hK
      have f2_0 := (hJ.bl.at' (b0 + 1, y) (.tail _ (.tail _ (.head _)))).cells.1
      have f2_1 := (hJ.bl.at' (b0 + 1, y) (.tail _ (.tail _ (.head _)))).cells.2.1
      have f2_2 := (hJ.bl.at' (b0 + 1, y) (.tail _ (.tail _ (.head _)))).cells.2.2.1
      go_simp
      exact HK.out (.agg #[.int .i64 y.lo, .int .i64 y.hi, .bool y.all]) _ hJ rfl vkL_same
    · skip
      have x75 : A.tmps[75]? = some (.agg #[.int .i64 y.lo, .int .i64 y.hi, .bool y.all]) := (hin 2 75 rfl).trans (congrArg some (show u 2 = .agg #[.int .i64 y.lo, .int .i64 y.hi, .bool y.all] from hd 2 (by decide) (by kernel_rfl)))
      clear hd hev hin
      simp only [List.getElem_cons_succ, List.getElem_cons_zero]
      clear hl
      refine .inr ⟨rfl, fun K' hK => ?_⟩
      have HK := Lib.hid hK
      clear hK
      go_simp
      refine (HBy.out W).mono ?_
      rintro e W' ⟨rfl, hB⟩
      exact HK.out (.agg #[.int .i64 yB.lo, .int .i64 yB.hi, .bool yB.all]) _ (hJ.later hB) rfl (vkL_later hB)
    · skip
      have x74 : A.tmps[74]? = some (.agg #[.int .i64 xB.lo, .int .i64 xB.hi, .bool xB.all]) := (hin 1 74 rfl).trans (congrArg some (show u 1 = .agg #[.int .i64 xB.lo, .int .i64 xB.hi, .bool xB.all] from hd 1 (by decide) (by kernel_rfl)))
      have x76 : A.tmps[76]? = some (.agg #[.int .i64 yB.lo, .int .i64 yB.hi, .bool yB.all]) := (hin 3 76 rfl).trans (congrArg some (show u 3 = .agg #[.int .i64 yB.lo, .int .i64 yB.hi, .bool yB.all] from hd 3 (by decide) (by kernel_rfl)))
      clear hd hev hin
      simp only [List.getElem_cons_succ, List.getElem_cons_zero]
      clear hl
      refine .inr ⟨rfl, fun K' hK => ?_⟩
      have HK := Lib.hid hK
      clear hK
      go_simp
      refine (HBi.out W).mono ?_
      rintro e W' ⟨rfl, hB⟩
      exact HK.out (.bool true) _ (hJ.later hB) rfl (vkL_later hB)
    · skip
      have x77 : A.tmps[77]? = some (.bool true) := (hin 4 77 rfl).trans (congrArg some (show u 4 = .bool true from hd 4 (by decide) (by kernel_rfl)))
      clear hd hev hin
      simp only [List.getElem_cons_succ, List.getElem_cons_zero]
      clear hl
      refine .inr ⟨rfl, fun K' hK => ?_⟩
      have HK := Lib.hid hK
      clear hK
      go_simp
      exact HK.out (.bool true) _ hJ rfl vkL_same
  intro u W hJm hd
  have e_0 : u 0 = .agg #[.int .i64 x.lo, .int .i64 x.hi, .bool x.all] := hd 0 (by decide)
  have e_1 : u 1 = .agg #[.int .i64 xB.lo, .int .i64 xB.hi, .bool xB.all] := hd 1 (by decide)
  have e_2 : u 2 = .agg #[.int .i64 y.lo, .int .i64 y.hi, .bool y.all] := hd 2 (by decide)
  have e_3 : u 3 = .agg #[.int .i64 yB.lo, .int .i64 yB.hi, .bool yB.all] := hd 3 (by decide)
  have e_4 : u 4 = .bool true := hd 4 (by decide)
  have e_5 : u 5 = .bool true := hd 5 (by decide)
  clear hd
  simp only [layS, Act.put, List.setIfInBounds_toArray, List.set_cons_succ, List.set_cons_zero, Nat.zero_add, Nat.reduceAdd, List.drop_succ_cons, List.drop_zero, List.drop_nil, e_0, e_1, e_2, e_3, e_4, e_5]
  clear e_0 e_1 e_2 e_3 e_4 e_5
  replace hJ := hJm.bl
  clear hM14
  clear hJm
  generalize hZ : W = Z11 at *
  clear hZ
  go_wp2
  obtain ⟨m15, hm15⟩ : ∃ m, m = Z11.heap.size := ⟨_, rfl⟩
  have hM15 := hJ.bm
  rw [← hm15] at hM15
  refine wp_region_z 6 [some 78, some 79, some 80, some 81, some 82, some 18] (vkL m15 [.eq (.agg #[.int .i64 x.lo, .int .i64 x.hi, .bool x.all]), .eq (.agg #[.int .i64 xC.lo, .int .i64 xC.hi, .bool xC.all]), .eq (.agg #[.int .i64 y.lo, .int .i64 y.hi, .bool y.all]), .eq (.agg #[.int .i64 yC.lo, .int .i64 yC.hi, .bool yC.all]), .eq (.bool true), .eq (.bool true)]) (Bm w m15 [(b3, q), (b2, p), (b0 + 1, y), (b0, x)]) (by kernel_rfl) (by kernel_rfl) (by rfl) (by decide) (by rfl) hM15 ?_ ?_
  · intro i hl hi u W A hJ hd hev hin
    obtain rfl | rfl | rfl | rfl | rfl | rfl : i = 0 ∨ i = 1 ∨ i = 2 ∨ i = 3 ∨ i = 4 ∨ i = 5 := by omega
    · skip
      have x6 : A.tmps[6]? = some (.pointer (some ⟨b0, 0, none⟩)) := (hev 6 (by decide)).trans rfl
      clear hd hev hin
      simp only [List.getElem_cons_succ, List.getElem_cons_zero]
      clear hl
      refine .inr ⟨rfl, fun K' hK => ?_⟩
      have HK := Lib.hid hK
      clear hK
      have f3_0 := (hJ.bl.at' (b0, x) (.tail _ (.tail _ (.tail _ (.head _))))).cells.1
      have f3_1 := (hJ.bl.at' (b0, x) (.tail _ (.tail _ (.tail _ (.head _))))).cells.2.1
      have f3_2 := (hJ.bl.at' (b0, x) (.tail _ (.tail _ (.tail _ (.head _))))).cells.2.2.1
      go_simp
      exact HK.out (.agg #[.int .i64 x.lo, .int .i64 x.hi, .bool x.all]) _ hJ rfl vkL_same
    · skip
      have x78 : A.tmps[78]? = some (.agg #[.int .i64 x.lo, .int .i64 x.hi, .bool x.all]) := (hin 0 78 rfl).trans (congrArg some (show u 0 = .agg #[.int .i64 x.lo, .int .i64 x.hi, .bool x.all] from hd 0 (by decide) (by kernel_rfl)))
      clear hd hev hin
      simp only [List.getElem_cons_succ, List.getElem_cons_zero]
      clear hl
      refine .inr ⟨rfl, fun K' hK => ?_⟩
      have HK := Lib.hid hK
      clear hK
      go_simp
      refine (HCx.out W).mono ?_
      rintro e W' ⟨rfl, hB⟩
      exact HK.out (.agg #[.int .i64 xC.lo, .int .i64 xC.hi, .bool xC.all]) _ (hJ.later hB) rfl (vkL_later hB)
    · skip
      have x7 : A.tmps[7]? = some (.pointer (some ⟨b0 + 1, 0, none⟩)) := (hev 7 (by decide)).trans rfl
      clear hd hev hin
      simp only [List.getElem_cons_succ, List.getElem_cons_zero]
      clear hl
      refine .inr ⟨rfl, fun K' hK => ?_⟩
      have HK := Lib.hid hK
      clear hK
      have f2_0 := (hJ.bl.at' (b0 + 1, y) (.tail _ (.tail _ (.head _)))).cells.1
      have f2_1 := (hJ.bl.at' (b0 + 1, y) (.tail _ (.tail _ (.head _)))).cells.2.1
      have f2_2 := (hJ.bl.at' (b0 + 1, y) (.tail _ (.tail _ (.head _)))).cells.2.2.1
      go_simp
      exact HK.out (.agg #[.int .i64 y.lo, .int .i64 y.hi, .bool y.all]) _ hJ rfl vkL_same
    · skip
      have x80 : A.tmps[80]? = some (.agg #[.int .i64 y.lo, .int .i64 y.hi, .bool y.all]) := (hin 2 80 rfl).trans (congrArg some (show u 2 = .agg #[.int .i64 y.lo, .int .i64 y.hi, .bool y.all] from hd 2 (by decide) (by kernel_rfl)))
      clear hd hev hin
      simp only [List.getElem_cons_succ, List.getElem_cons_zero]
      clear hl
      refine .inr ⟨rfl, fun K' hK => ?_⟩
      have HK := Lib.hid hK
      clear hK
      go_simp
      refine (HCy.out W).mono ?_
      rintro e W' ⟨rfl, hB⟩
      exact HK.out (.agg #[.int .i64 yC.lo, .int .i64 yC.hi, .bool yC.all]) _ (hJ.later hB) rfl (vkL_later hB)
    · skip
      have x79 : A.tmps[79]? = some (.agg #[.int .i64 xC.lo, .int .i64 xC.hi, .bool xC.all]) := (hin 1 79 rfl).trans (congrArg some (show u 1 = .agg #[.int .i64 xC.lo, .int .i64 xC.hi, .bool xC.all] from hd 1 (by decide) (by kernel_rfl)))
      have x81 : A.tmps[81]? = some (.agg #[.int .i64 yC.lo, .int .i64 yC.hi, .bool yC.all]) := (hin 3 81 rfl).trans (congrArg some (show u 3 = .agg #[.int .i64 yC.lo, .int .i64 yC.hi, .bool yC.all] from hd 3 (by decide) (by kernel_rfl)))
      clear hd hev hin
      simp only [List.getElem_cons_succ, List.getElem_cons_zero]
      clear hl
      refine .inr ⟨rfl, fun K' hK => ?_⟩
      have HK := Lib.hid hK
      clear hK
      go_simp
      refine (HCi.out W).mono ?_
      rintro e W' ⟨rfl, hB⟩
      exact HK.out (.bool true) _ (hJ.later hB) rfl (vkL_later hB)
    · skip
      have x82 : A.tmps[82]? = some (.bool true) := (hin 4 82 rfl).trans (congrArg some (show u 4 = .bool true from hd 4 (by decide) (by kernel_rfl)))
      clear hd hev hin
      simp only [List.getElem_cons_succ, List.getElem_cons_zero]
      clear hl
      refine .inr ⟨rfl, fun K' hK => ?_⟩
      have HK := Lib.hid hK
      clear hK
      go_simp
      exact HK.out (.bool true) _ hJ rfl vkL_same
  intro u W hJm hd
  have e_0 : u 0 = .agg #[.int .i64 x.lo, .int .i64 x.hi, .bool x.all] := hd 0 (by decide)
  have e_1 : u 1 = .agg #[.int .i64 xC.lo, .int .i64 xC.hi, .bool xC.all] := hd 1 (by decide)
  have e_2 : u 2 = .agg #[.int .i64 y.lo, .int .i64 y.hi, .bool y.all] := hd 2 (by decide)
  have e_3 : u 3 = .agg #[.int .i64 yC.lo, .int .i64 yC.hi, .bool yC.all] := hd 3 (by decide)
  have e_4 : u 4 = .bool true := hd 4 (by decide)
  have e_5 : u 5 = .bool true := hd 5 (by decide)
  clear hd
  simp only [layS, Act.put, List.setIfInBounds_toArray, List.set_cons_succ, List.set_cons_zero, Nat.zero_add, Nat.reduceAdd, List.drop_succ_cons, List.drop_zero, List.drop_nil, e_0, e_1, e_2, e_3, e_4, e_5]
  clear e_0 e_1 e_2 e_3 e_4 e_5
  replace hJ := hJm.bl
  clear hM15
  clear hJm
  generalize hZ : W = Z12 at *
  clear hZ
  have hJf := hJ.below
  go_wp2
  go_ret
  exact ⟨rfl, hJf⟩
end Go.Proofs.Ytohdfialnaegcaa
