/- The walk of the law KernEven. -/
import Derived.Test.YtohdfialnaegcaaKe
import Derived.Test.YtohdfialnaegcaaKb
namespace Go.Proofs.Ytohdfialnaegcaa
open Go.RowKit
attribute [local go_sem ↓] run_eqlS run_neqS

set_option maxRecDepth 100000 in
set_option maxHeartbeats 12800000 in
theorem Even_0 (x a n b c : Sp) (hHaw : ∀ W : World, Calls Try.prog 28 #[] W (PVal (.bool true) W)) (hHa : ∀ W : World, Calls Try.prog 36 #[.agg #[.int .i64 x.lo, .int .i64 x.hi, .bool x.all]] W (PSp a W)) (hHn : ∀ W : World, Calls Try.prog 22 #[.agg #[.int .i64 x.lo, .int .i64 x.hi, .bool x.all]] W (PSp n W)) (hHb : ∀ W : World, Calls Try.prog 36 #[.agg #[.int .i64 n.lo, .int .i64 n.hi, .bool n.all]] W (PSp b W)) (hHc : ∀ W : World, Calls Try.prog 37 #[.agg #[.int .i64 x.lo, .int .i64 x.hi, .bool x.all]] W (PSp c W)) (hHd : ∀ W : World, Calls Try.prog 37 #[.agg #[.int .i64 n.lo, .int .i64 n.hi, .bool n.all]] W (PSp c W)) (hHna : ∀ W : World, Calls Try.prog 22 #[.agg #[.int .i64 a.lo, .int .i64 a.hi, .bool a.all]] W (PSp b W))  (hX : x.all = true) (w : World) : Calls Try.prog 11 #[.agg #[.int .i64 x.lo, .int .i64 x.hi, .bool x.all]] w (PVal (.bool true) w) := by
  have Haw := Lib.hid hHaw
  have Ha := Lib.hid hHa
  have Hn := Lib.hid hHn
  have Hb := Lib.hid hHb
  have Hc := Lib.hid hHc
  have Hd := Lib.hid hHd
  have Hna := Lib.hid hHna
  clear hHaw hHa hHn hHb hHc hHd hHna
  have HX := Lib.hid hX
  clear hX
  have hqb : eqS b.lo b.hi b.all b.lo b.hi b.all = true := eqS_same _ _ _
  have hqc : eqS c.lo c.hi c.all c.lo c.hi c.all = true := eqS_same _ _ _
  have hJ := bl_nil w
  go_enter Try.func11, Try.ntmps11
  go_wp2_with fail
  replace hJ := hJ.new x
  generalize hW0 : (w).alloc (.cells #[.int .i64 x.lo, .int .i64 x.hi, .bool x.all] 23) = V0 at *
  clear hW0
  generalize w.heap.size = b0 at *
  refine (Haw.out _).mono ?_
  rintro e W1 ⟨rfl, hB⟩
  replace hJ := hJ.later hB
  clear hB
  have f0_0 := (hJ.at' (b0, x) (.head _)).cells.1
  have f0_1 := (hJ.at' (b0, x) (.head _)).cells.2.1
  have f0_2 := (hJ.at' (b0, x) (.head _)).cells.2.2.1
  have fl0 : b0 < W1.heap.size := hJ.lt (b0, x) (.head _)
  go_wp2_with fail
  refine (Ha.out _).mono ?_
  rintro e W2 ⟨rfl, hB⟩
  replace hJ := hJ.later hB
  clear hB f0_0 f0_1 f0_2 fl0
  have f0_0 := (hJ.at' (b0, x) (.head _)).cells.1
  have f0_1 := (hJ.at' (b0, x) (.head _)).cells.2.1
  have f0_2 := (hJ.at' (b0, x) (.head _)).cells.2.2.1
  have fl0 : b0 < W2.heap.size := hJ.lt (b0, x) (.head _)
  go_wp2_with fail
  clear f0_0 f0_1 f0_2 fl0
  replace hJ := hJ.new a
  generalize hW3 : W2.alloc (.cells #[.int .i64 a.lo, .int .i64 a.hi, .bool a.all] 23) = V3 at *
  clear hW3
  generalize W2.heap.size = b1 at *
  refine (Hn.out _).mono ?_
  rintro e W4 ⟨rfl, hB⟩
  replace hJ := hJ.later hB
  clear hB
  go_wp2_with fail
  refine (Hb.out _).mono ?_
  rintro e W5 ⟨rfl, hB⟩
  replace hJ := hJ.later hB
  clear hB
  have f1_0 := (hJ.at' (b0, x) (.tail _ (.head _))).cells.1
  have f1_1 := (hJ.at' (b0, x) (.tail _ (.head _))).cells.2.1
  have f1_2 := (hJ.at' (b0, x) (.tail _ (.head _))).cells.2.2.1
  have fl1 : b0 < W5.heap.size := hJ.lt (b0, x) (.tail _ (.head _))
  go_wp2_with fail
  clear f1_0 f1_1 f1_2 fl1
  replace hJ := hJ.new b
  generalize hW6 : W5.alloc (.cells #[.int .i64 b.lo, .int .i64 b.hi, .bool b.all] 23) = V6 at *
  clear hW6
  generalize W5.heap.size = b2 at *
  refine (Hc.out _).mono ?_
  rintro e W7 ⟨rfl, hB⟩
  replace hJ := hJ.later hB
  clear hB
  have f2_0 := (hJ.at' (b0, x) (.tail _ (.tail _ (.head _)))).cells.1
  have f2_1 := (hJ.at' (b0, x) (.tail _ (.tail _ (.head _)))).cells.2.1
  have f2_2 := (hJ.at' (b0, x) (.tail _ (.tail _ (.head _)))).cells.2.2.1
  have fl2 : b0 < W7.heap.size := hJ.lt (b0, x) (.tail _ (.tail _ (.head _)))
  go_wp2_with fail
  clear f2_0 f2_1 f2_2 fl2
  replace hJ := hJ.new c
  generalize hW8 : W7.alloc (.cells #[.int .i64 c.lo, .int .i64 c.hi, .bool c.all] 23) = V8 at *
  clear hW8
  generalize W7.heap.size = b3 at *
  refine (Hn.out _).mono ?_
  rintro e W9 ⟨rfl, hB⟩
  replace hJ := hJ.later hB
  clear hB
  go_wp2_with fail
  refine (Hd.out _).mono ?_
  rintro e W10 ⟨rfl, hB⟩
  replace hJ := hJ.later hB
  clear hB
  have f3_0 := (hJ.at' (b0, x) (.tail _ (.tail _ (.tail _ (.head _))))).cells.1
  have f3_1 := (hJ.at' (b0, x) (.tail _ (.tail _ (.tail _ (.head _))))).cells.2.1
  have f3_2 := (hJ.at' (b0, x) (.tail _ (.tail _ (.tail _ (.head _))))).cells.2.2.1
  rw [show x.all = true from HX.out] at f3_2
  have fl3 : b0 < W10.heap.size := hJ.lt (b0, x) (.tail _ (.tail _ (.tail _ (.head _))))
  go_wp2
  clear f3_0 f3_1 f3_2 fl3
  replace hJ := hJ.new c
  generalize hW11 : W10.alloc (.cells #[.int .i64 c.lo, .int .i64 c.hi, .bool c.all] 23) = V11 at *
  clear hW11
  generalize W10.heap.size = b4 at *
  obtain ⟨m8, hm8⟩ : ∃ m, m = V11.heap.size := ⟨_, rfl⟩
  have hM8 := hJ.bm
  rw [← hm8] at hM8
  refine wp_region_z 13 [some 44, some 45, some 46, some 47, some 48, some 49, some 50, some 51, some 52, some 53, some 54, some 55, some 2] (vkL m8 [.eq (.bool true), .eq (.bool true), .eq (.agg #[.int .i64 b.lo, .int .i64 b.hi, .bool b.all]), .eq (.agg #[.int .i64 a.lo, .int .i64 a.hi, .bool a.all]), .eq (.agg #[.int .i64 b.lo, .int .i64 b.hi, .bool b.all]), .eq (.bool true), .eq (.bool true), .eq (.bool true), .eq (.agg #[.int .i64 c.lo, .int .i64 c.hi, .bool c.all]), .eq (.agg #[.int .i64 c.lo, .int .i64 c.hi, .bool c.all]), .eq (.bool true), .eq (.bool true), .eq (.bool true)]) (Bm w m8 [(b4, c), (b3, c), (b2, b), (b1, a), (b0, x)]) (by kernel_rfl) (by kernel_rfl) (by rfl) (by decide) (by rfl) hM8 ?_ ?_
  · intro i hl hi u W A hJ hd hev hin
    obtain rfl | rfl | rfl | rfl | rfl | rfl | rfl | rfl | rfl | rfl | rfl | rfl | rfl : i = 0 ∨ i = 1 ∨ i = 2 ∨ i = 3 ∨ i = 4 ∨ i = 5 ∨ i = 6 ∨ i = 7 ∨ i = 8 ∨ i = 9 ∨ i = 10 ∨ i = 11 ∨ i = 12 := by omega
    · skip
      have x3 : A.tmps[3]? = some (.bool true) := (hev 3 (by decide)).trans rfl
      clear hd hev hin
      simp only [List.getElem_cons_succ, List.getElem_cons_zero]
      clear hl
      refine .inr ⟨rfl, fun K' hK => ?_⟩
      have HK := Lib.hid hK
      clear hK
      go_simp
      exact HK.out (.bool true) _ hJ rfl vkL_same
    · skip
      have x44 : A.tmps[44]? = some (.bool true) := (hin 0 44 rfl).trans (congrArg some (show u 0 = .bool true from hd 0 (by decide) (by kernel_rfl)))
      clear hd hev hin
      simp only [List.getElem_cons_succ, List.getElem_cons_zero]
      clear hl
      refine .inr ⟨rfl, fun K' hK => ?_⟩
      have HK := Lib.hid hK
      clear hK
      go_simp
      exact HK.out (.bool true) _ hJ rfl vkL_same
    · skip
      have x5 : A.tmps[5]? = some (.pointer (some ⟨b2, 0, none⟩)) := (hev 5 (by decide)).trans rfl
      have y1 : A.tmps[45]? = some (.bool true) := (hin 1 45 rfl).trans (congrArg some (show u 1 = .bool true from hd 1 (by decide) (by kernel_rfl)))
      clear hd hev hin
      simp only [List.getElem_cons_succ, List.getElem_cons_zero]
      clear hl
      refine .inr ⟨?_, fun K' hK => ?_⟩
      · simp [Region.wanted, yielded, y1]
      clear y1
      have HK := Lib.hid hK
      clear hK
      have f2_0 := (hJ.bl.at' (b2, b) (.tail _ (.tail _ (.head _)))).cells.1
      have f2_1 := (hJ.bl.at' (b2, b) (.tail _ (.tail _ (.head _)))).cells.2.1
      have f2_2 := (hJ.bl.at' (b2, b) (.tail _ (.tail _ (.head _)))).cells.2.2.1
      go_simp
      exact HK.out (.agg #[.int .i64 b.lo, .int .i64 b.hi, .bool b.all]) _ hJ rfl vkL_same
    · skip
      have x4 : A.tmps[4]? = some (.pointer (some ⟨b1, 0, none⟩)) := (hev 4 (by decide)).trans rfl
      have y1 : A.tmps[45]? = some (.bool true) := (hin 1 45 rfl).trans (congrArg some (show u 1 = .bool true from hd 1 (by decide) (by kernel_rfl)))
      clear hd hev hin
      simp only [List.getElem_cons_succ, List.getElem_cons_zero]
      clear hl
      refine .inr ⟨?_, fun K' hK => ?_⟩
      · simp [Region.wanted, yielded, y1]
      clear y1
      have HK := Lib.hid hK
      clear hK
      have f3_0 := (hJ.bl.at' (b1, a) (.tail _ (.tail _ (.tail _ (.head _))))).cells.1
      have f3_1 := (hJ.bl.at' (b1, a) (.tail _ (.tail _ (.tail _ (.head _))))).cells.2.1
      have f3_2 := (hJ.bl.at' (b1, a) (.tail _ (.tail _ (.tail _ (.head _))))).cells.2.2.1
      go_simp
      exact HK.out (.agg #[.int .i64 a.lo, .int .i64 a.hi, .bool a.all]) _ hJ rfl vkL_same
    · skip
      have x47 : A.tmps[47]? = some (.agg #[.int .i64 a.lo, .int .i64 a.hi, .bool a.all]) := (hin 3 47 rfl).trans (congrArg some (show u 3 = .agg #[.int .i64 a.lo, .int .i64 a.hi, .bool a.all] from hd 3 (by decide) (by kernel_rfl)))
      have y1 : A.tmps[45]? = some (.bool true) := (hin 1 45 rfl).trans (congrArg some (show u 1 = .bool true from hd 1 (by decide) (by kernel_rfl)))
      clear hd hev hin
      simp only [List.getElem_cons_succ, List.getElem_cons_zero]
      clear hl
      refine .inr ⟨?_, fun K' hK => ?_⟩
      · simp [Region.wanted, yielded, y1]
      clear y1
      have HK := Lib.hid hK
      clear hK
      go_simp
      refine (Hna.out W).mono ?_
      rintro e W' ⟨rfl, hB⟩
      exact HK.out (.agg #[.int .i64 b.lo, .int .i64 b.hi, .bool b.all]) _ (hJ.later hB) rfl (vkL_later hB)
    · skip
      have x46 : A.tmps[46]? = some (.agg #[.int .i64 b.lo, .int .i64 b.hi, .bool b.all]) := (hin 2 46 rfl).trans (congrArg some (show u 2 = .agg #[.int .i64 b.lo, .int .i64 b.hi, .bool b.all] from hd 2 (by decide) (by kernel_rfl)))
      have x48 : A.tmps[48]? = some (.agg #[.int .i64 b.lo, .int .i64 b.hi, .bool b.all]) := (hin 4 48 rfl).trans (congrArg some (show u 4 = .agg #[.int .i64 b.lo, .int .i64 b.hi, .bool b.all] from hd 4 (by decide) (by kernel_rfl)))
      have y1 : A.tmps[45]? = some (.bool true) := (hin 1 45 rfl).trans (congrArg some (show u 1 = .bool true from hd 1 (by decide) (by kernel_rfl)))
      clear hd hev hin
      simp only [List.getElem_cons_succ, List.getElem_cons_zero]
      clear hl
      refine .inr ⟨?_, fun K' hK => ?_⟩
      · simp [Region.wanted, yielded, y1]
      clear y1
      have HK := Lib.hid hK
      clear hK
      go_simp
      exact HK.out (.bool true) _ hJ rfl vkL_same
    · skip
      have x45 : A.tmps[45]? = some (.bool true) := (hin 1 45 rfl).trans (congrArg some (show u 1 = .bool true from hd 1 (by decide) (by kernel_rfl)))
      have x49 : A.tmps[49]? = some (.bool true) := (hin 5 49 rfl).trans (congrArg some (show u 5 = .bool true from hd 5 (by decide) (by kernel_rfl)))
      clear hd hev hin
      simp only [List.getElem_cons_succ, List.getElem_cons_zero]
      clear hl
      refine .inr ⟨rfl, fun K' hK => ?_⟩
      have HK := Lib.hid hK
      clear hK
      go_simp
      exact HK.out (.bool true) _ hJ rfl vkL_same
    · skip
      have x50 : A.tmps[50]? = some (.bool true) := (hin 6 50 rfl).trans (congrArg some (show u 6 = .bool true from hd 6 (by decide) (by kernel_rfl)))
      clear hd hev hin
      simp only [List.getElem_cons_succ, List.getElem_cons_zero]
      clear hl
      refine .inr ⟨rfl, fun K' hK => ?_⟩
      have HK := Lib.hid hK
      clear hK
      go_simp
      exact HK.out (.bool true) _ hJ rfl vkL_same
    · skip
      have x6 : A.tmps[6]? = some (.pointer (some ⟨b3, 0, none⟩)) := (hev 6 (by decide)).trans rfl
      have y7 : A.tmps[51]? = some (.bool true) := (hin 7 51 rfl).trans (congrArg some (show u 7 = .bool true from hd 7 (by decide) (by kernel_rfl)))
      clear hd hev hin
      simp only [List.getElem_cons_succ, List.getElem_cons_zero]
      clear hl
      refine .inr ⟨?_, fun K' hK => ?_⟩
      · simp [Region.wanted, yielded, y7]
      clear y7
      have HK := Lib.hid hK
      clear hK
      have f1_0 := (hJ.bl.at' (b3, c) (.tail _ (.head _))).cells.1
      have f1_1 := (hJ.bl.at' (b3, c) (.tail _ (.head _))).cells.2.1
      have f1_2 := (hJ.bl.at' (b3, c) (.tail _ (.head _))).cells.2.2.1
      go_simp
      exact HK.out (.agg #[.int .i64 c.lo, .int .i64 c.hi, .bool c.all]) _ hJ rfl vkL_same
    · skip
      have x7 : A.tmps[7]? = some (.pointer (some ⟨b4, 0, none⟩)) := (hev 7 (by decide)).trans rfl
      have y7 : A.tmps[51]? = some (.bool true) := (hin 7 51 rfl).trans (congrArg some (show u 7 = .bool true from hd 7 (by decide) (by kernel_rfl)))
      clear hd hev hin
      simp only [List.getElem_cons_succ, List.getElem_cons_zero]
      clear hl
      refine .inr ⟨?_, fun K' hK => ?_⟩
      · simp [Region.wanted, yielded, y7]
      clear y7
      have HK := Lib.hid hK
      clear hK
      have f0_0 := (hJ.bl.at' (b4, c) (.head _)).cells.1
      have f0_1 := (hJ.bl.at' (b4, c) (.head _)).cells.2.1
      have f0_2 := (hJ.bl.at' (b4, c) (.head _)).cells.2.2.1
      go_simp
      exact HK.out (.agg #[.int .i64 c.lo, .int .i64 c.hi, .bool c.all]) _ hJ rfl vkL_same
    · skip
      have x52 : A.tmps[52]? = some (.agg #[.int .i64 c.lo, .int .i64 c.hi, .bool c.all]) := (hin 8 52 rfl).trans (congrArg some (show u 8 = .agg #[.int .i64 c.lo, .int .i64 c.hi, .bool c.all] from hd 8 (by decide) (by kernel_rfl)))
      have x53 : A.tmps[53]? = some (.agg #[.int .i64 c.lo, .int .i64 c.hi, .bool c.all]) := (hin 9 53 rfl).trans (congrArg some (show u 9 = .agg #[.int .i64 c.lo, .int .i64 c.hi, .bool c.all] from hd 9 (by decide) (by kernel_rfl)))
      have y7 : A.tmps[51]? = some (.bool true) := (hin 7 51 rfl).trans (congrArg some (show u 7 = .bool true from hd 7 (by decide) (by kernel_rfl)))
      clear hd hev hin
      simp only [List.getElem_cons_succ, List.getElem_cons_zero]
      clear hl
      refine .inr ⟨?_, fun K' hK => ?_⟩
      · simp [Region.wanted, yielded, y7]
      clear y7
      have HK := Lib.hid hK
      clear hK
      go_simp
      exact HK.out (.bool true) _ hJ rfl vkL_same
    · skip
      have x51 : A.tmps[51]? = some (.bool true) := (hin 7 51 rfl).trans (congrArg some (show u 7 = .bool true from hd 7 (by decide) (by kernel_rfl)))
      have x54 : A.tmps[54]? = some (.bool true) := (hin 10 54 rfl).trans (congrArg some (show u 10 = .bool true from hd 10 (by decide) (by kernel_rfl)))
      clear hd hev hin
      simp only [List.getElem_cons_succ, List.getElem_cons_zero]
      clear hl
      refine .inr ⟨rfl, fun K' hK => ?_⟩
      have HK := Lib.hid hK
      clear hK
      go_simp
      exact HK.out (.bool true) _ hJ rfl vkL_same
    · skip
      have x55 : A.tmps[55]? = some (.bool true) := (hin 11 55 rfl).trans (congrArg some (show u 11 = .bool true from hd 11 (by decide) (by kernel_rfl)))
      clear hd hev hin
      simp only [List.getElem_cons_succ, List.getElem_cons_zero]
      clear hl
      refine .inr ⟨rfl, fun K' hK => ?_⟩
      have HK := Lib.hid hK
      clear hK
      go_simp
      exact HK.out (.bool true) _ hJ rfl vkL_same
  intro u W hJm hd
  have e_0 : u 0 = .bool true := hd 0 (by decide)
  have e_1 : u 1 = .bool true := hd 1 (by decide)
  have e_2 : u 2 = .agg #[.int .i64 b.lo, .int .i64 b.hi, .bool b.all] := hd 2 (by decide)
  have e_3 : u 3 = .agg #[.int .i64 a.lo, .int .i64 a.hi, .bool a.all] := hd 3 (by decide)
  have e_4 : u 4 = .agg #[.int .i64 b.lo, .int .i64 b.hi, .bool b.all] := hd 4 (by decide)
  have e_5 : u 5 = .bool true := hd 5 (by decide)
  have e_6 : u 6 = .bool true := hd 6 (by decide)
  have e_7 : u 7 = .bool true := hd 7 (by decide)
  have e_8 : u 8 = .agg #[.int .i64 c.lo, .int .i64 c.hi, .bool c.all] := hd 8 (by decide)
  have e_9 : u 9 = .agg #[.int .i64 c.lo, .int .i64 c.hi, .bool c.all] := hd 9 (by decide)
  have e_10 : u 10 = .bool true := hd 10 (by decide)
  have e_11 : u 11 = .bool true := hd 11 (by decide)
  have e_12 : u 12 = .bool true := hd 12 (by decide)
  clear hd
  simp only [layS, Act.put, List.setIfInBounds_toArray, List.set_cons_succ, List.set_cons_zero, Nat.zero_add, Nat.reduceAdd, List.drop_succ_cons, List.drop_zero, List.drop_nil, e_0, e_1, e_2, e_3, e_4, e_5, e_6, e_7, e_8, e_9, e_10, e_11, e_12]
  clear e_0 e_1 e_2 e_3 e_4 e_5 e_6 e_7 e_8 e_9 e_10 e_11 e_12
  replace hJ := hJm.bl
  clear hM8
  clear hJm
  generalize hZ : W = Z12 at *
  clear hZ
  have hJf := hJ.below
  go_wp2
  go_ret
  exact ⟨rfl, hJf⟩
set_option maxRecDepth 100000 in
set_option maxHeartbeats 12800000 in
theorem Even_1 (x a n b c : Sp) (hHaw : ∀ W : World, Calls Try.prog 28 #[] W (PVal (.bool true) W)) (hHa : ∀ W : World, Calls Try.prog 36 #[.agg #[.int .i64 x.lo, .int .i64 x.hi, .bool x.all]] W (PSp a W)) (hHn : ∀ W : World, Calls Try.prog 22 #[.agg #[.int .i64 x.lo, .int .i64 x.hi, .bool x.all]] W (PSp n W)) (hHb : ∀ W : World, Calls Try.prog 36 #[.agg #[.int .i64 n.lo, .int .i64 n.hi, .bool n.all]] W (PSp b W)) (hHc : ∀ W : World, Calls Try.prog 37 #[.agg #[.int .i64 x.lo, .int .i64 x.hi, .bool x.all]] W (PSp c W)) (hHd : ∀ W : World, Calls Try.prog 37 #[.agg #[.int .i64 n.lo, .int .i64 n.hi, .bool n.all]] W (PSp c W)) (hHna : ∀ W : World, Calls Try.prog 22 #[.agg #[.int .i64 a.lo, .int .i64 a.hi, .bool a.all]] W (PSp b W)) (d1 : x.lo ≠ x.hi) (hX : x.all = false) (w : World) : Calls Try.prog 11 #[.agg #[.int .i64 x.lo, .int .i64 x.hi, .bool x.all]] w (PVal (.bool true) w) := by
  have Haw := Lib.hid hHaw
  have Ha := Lib.hid hHa
  have Hn := Lib.hid hHn
  have Hb := Lib.hid hHb
  have Hc := Lib.hid hHc
  have Hd := Lib.hid hHd
  have Hna := Lib.hid hHna
  clear hHaw hHa hHn hHb hHc hHd hHna
  have HX := Lib.hid hX
  clear hX
  have hqb : eqS b.lo b.hi b.all b.lo b.hi b.all = true := eqS_same _ _ _
  have hqc : eqS c.lo c.hi c.all c.lo c.hi c.all = true := eqS_same _ _ _
  have hJ := bl_nil w
  go_enter Try.func11, Try.ntmps11
  go_wp2_with fail
  replace hJ := hJ.new x
  generalize hW0 : (w).alloc (.cells #[.int .i64 x.lo, .int .i64 x.hi, .bool x.all] 23) = V0 at *
  clear hW0
  generalize w.heap.size = b0 at *
  refine (Haw.out _).mono ?_
  rintro e W1 ⟨rfl, hB⟩
  replace hJ := hJ.later hB
  clear hB
  have f0_0 := (hJ.at' (b0, x) (.head _)).cells.1
  have f0_1 := (hJ.at' (b0, x) (.head _)).cells.2.1
  have f0_2 := (hJ.at' (b0, x) (.head _)).cells.2.2.1
  have fl0 : b0 < W1.heap.size := hJ.lt (b0, x) (.head _)
  go_wp2_with fail
  refine (Ha.out _).mono ?_
  rintro e W2 ⟨rfl, hB⟩
  replace hJ := hJ.later hB
  clear hB f0_0 f0_1 f0_2 fl0
  have f0_0 := (hJ.at' (b0, x) (.head _)).cells.1
  have f0_1 := (hJ.at' (b0, x) (.head _)).cells.2.1
  have f0_2 := (hJ.at' (b0, x) (.head _)).cells.2.2.1
  have fl0 : b0 < W2.heap.size := hJ.lt (b0, x) (.head _)
  go_wp2_with fail
  clear f0_0 f0_1 f0_2 fl0
  replace hJ := hJ.new a
  generalize hW3 : W2.alloc (.cells #[.int .i64 a.lo, .int .i64 a.hi, .bool a.all] 23) = V3 at *
  clear hW3
  generalize W2.heap.size = b1 at *
  refine (Hn.out _).mono ?_
  rintro e W4 ⟨rfl, hB⟩
  replace hJ := hJ.later hB
  clear hB
  go_wp2_with fail
  refine (Hb.out _).mono ?_
  rintro e W5 ⟨rfl, hB⟩
  replace hJ := hJ.later hB
  clear hB
  have f1_0 := (hJ.at' (b0, x) (.tail _ (.head _))).cells.1
  have f1_1 := (hJ.at' (b0, x) (.tail _ (.head _))).cells.2.1
  have f1_2 := (hJ.at' (b0, x) (.tail _ (.head _))).cells.2.2.1
  have fl1 : b0 < W5.heap.size := hJ.lt (b0, x) (.tail _ (.head _))
  go_wp2_with fail
  clear f1_0 f1_1 f1_2 fl1
  replace hJ := hJ.new b
  generalize hW6 : W5.alloc (.cells #[.int .i64 b.lo, .int .i64 b.hi, .bool b.all] 23) = V6 at *
  clear hW6
  generalize W5.heap.size = b2 at *
  refine (Hc.out _).mono ?_
  rintro e W7 ⟨rfl, hB⟩
  replace hJ := hJ.later hB
  clear hB
  have f2_0 := (hJ.at' (b0, x) (.tail _ (.tail _ (.head _)))).cells.1
  have f2_1 := (hJ.at' (b0, x) (.tail _ (.tail _ (.head _)))).cells.2.1
  have f2_2 := (hJ.at' (b0, x) (.tail _ (.tail _ (.head _)))).cells.2.2.1
  have fl2 : b0 < W7.heap.size := hJ.lt (b0, x) (.tail _ (.tail _ (.head _)))
  go_wp2_with fail
  clear f2_0 f2_1 f2_2 fl2
  replace hJ := hJ.new c
  generalize hW8 : W7.alloc (.cells #[.int .i64 c.lo, .int .i64 c.hi, .bool c.all] 23) = V8 at *
  clear hW8
  generalize W7.heap.size = b3 at *
  refine (Hn.out _).mono ?_
  rintro e W9 ⟨rfl, hB⟩
  replace hJ := hJ.later hB
  clear hB
  go_wp2_with fail
  refine (Hd.out _).mono ?_
  rintro e W10 ⟨rfl, hB⟩
  replace hJ := hJ.later hB
  clear hB
  have f3_0 := (hJ.at' (b0, x) (.tail _ (.tail _ (.tail _ (.head _))))).cells.1
  have f3_1 := (hJ.at' (b0, x) (.tail _ (.tail _ (.tail _ (.head _))))).cells.2.1
  have f3_2 := (hJ.at' (b0, x) (.tail _ (.tail _ (.tail _ (.head _))))).cells.2.2.1
  rw [show x.all = false from HX.out] at f3_2
  have fl3 : b0 < W10.heap.size := hJ.lt (b0, x) (.tail _ (.tail _ (.tail _ (.head _))))
  go_wp2
  clear f3_0 f3_1 f3_2 fl3
  replace hJ := hJ.new c
  generalize hW11 : W10.alloc (.cells #[.int .i64 c.lo, .int .i64 c.hi, .bool c.all] 23) = V11 at *
  clear hW11
  generalize W10.heap.size = b4 at *
  obtain ⟨m8, hm8⟩ : ∃ m, m = V11.heap.size := ⟨_, rfl⟩
  have hM8 := hJ.bm
  rw [← hm8] at hM8
  refine wp_region_z 13 [some 44, some 45, some 46, some 47, some 48, some 49, some 50, some 51, some 52, some 53, some 54, some 55, some 2] (vkL m8 [.eq (.bool true), .eq (.bool true), .eq (.agg #[.int .i64 b.lo, .int .i64 b.hi, .bool b.all]), .eq (.agg #[.int .i64 a.lo, .int .i64 a.hi, .bool a.all]), .eq (.agg #[.int .i64 b.lo, .int .i64 b.hi, .bool b.all]), .eq (.bool true), .eq (.bool true), .eq (.bool true), .eq (.agg #[.int .i64 c.lo, .int .i64 c.hi, .bool c.all]), .eq (.agg #[.int .i64 c.lo, .int .i64 c.hi, .bool c.all]), .eq (.bool true), .eq (.bool true), .eq (.bool true)]) (Bm w m8 [(b4, c), (b3, c), (b2, b), (b1, a), (b0, x)]) (by kernel_rfl) (by kernel_rfl) (by rfl) (by decide) (by rfl) hM8 ?_ ?_
  · intro i hl hi u W A hJ hd hev hin
    obtain rfl | rfl | rfl | rfl | rfl | rfl | rfl | rfl | rfl | rfl | rfl | rfl | rfl : i = 0 ∨ i = 1 ∨ i = 2 ∨ i = 3 ∨ i = 4 ∨ i = 5 ∨ i = 6 ∨ i = 7 ∨ i = 8 ∨ i = 9 ∨ i = 10 ∨ i = 11 ∨ i = 12 := by omega
    · skip
      have x3 : A.tmps[3]? = some (.bool true) := (hev 3 (by decide)).trans rfl
      clear hd hev hin
      simp only [List.getElem_cons_succ, List.getElem_cons_zero]
      clear hl
      refine .inr ⟨rfl, fun K' hK => ?_⟩
      have HK := Lib.hid hK
      clear hK
      go_simp
      exact HK.out (.bool true) _ hJ rfl vkL_same
    · skip
      have x44 : A.tmps[44]? = some (.bool true) := (hin 0 44 rfl).trans (congrArg some (show u 0 = .bool true from hd 0 (by decide) (by kernel_rfl)))
      clear hd hev hin
      simp only [List.getElem_cons_succ, List.getElem_cons_zero]
      clear hl
      refine .inr ⟨rfl, fun K' hK => ?_⟩
      have HK := Lib.hid hK
      clear hK
      go_simp
      exact HK.out (.bool true) _ hJ rfl vkL_same
    · skip
      have x5 : A.tmps[5]? = some (.pointer (some ⟨b2, 0, none⟩)) := (hev 5 (by decide)).trans rfl
      have y1 : A.tmps[45]? = some (.bool true) := (hin 1 45 rfl).trans (congrArg some (show u 1 = .bool true from hd 1 (by decide) (by kernel_rfl)))
      clear hd hev hin
      simp only [List.getElem_cons_succ, List.getElem_cons_zero]
      clear hl
      refine .inr ⟨?_, fun K' hK => ?_⟩
      · simp [Region.wanted, yielded, y1]
      clear y1
      have HK := Lib.hid hK
      clear hK
      have f2_0 := (hJ.bl.at' (b2, b) (.tail _ (.tail _ (.head _)))).cells.1
      have f2_1 := (hJ.bl.at' (b2, b) (.tail _ (.tail _ (.head _)))).cells.2.1
      have f2_2 := (hJ.bl.at' (b2, b) (.tail _ (.tail _ (.head _)))).cells.2.2.1
      go_simp
      exact HK.out (.agg #[.int .i64 b.lo, .int .i64 b.hi, .bool b.all]) _ hJ rfl vkL_same
    · skip
      have x4 : A.tmps[4]? = some (.pointer (some ⟨b1, 0, none⟩)) := (hev 4 (by decide)).trans rfl
      have y1 : A.tmps[45]? = some (.bool true) := (hin 1 45 rfl).trans (congrArg some (show u 1 = .bool true from hd 1 (by decide) (by kernel_rfl)))
      clear hd hev hin
      simp only [List.getElem_cons_succ, List.getElem_cons_zero]
      clear hl
      refine .inr ⟨?_, fun K' hK => ?_⟩
      · simp [Region.wanted, yielded, y1]
      clear y1
      have HK := Lib.hid hK
      clear hK
      have f3_0 := (hJ.bl.at' (b1, a) (.tail _ (.tail _ (.tail _ (.head _))))).cells.1
      have f3_1 := (hJ.bl.at' (b1, a) (.tail _ (.tail _ (.tail _ (.head _))))).cells.2.1
      have f3_2 := (hJ.bl.at' (b1, a) (.tail _ (.tail _ (.tail _ (.head _))))).cells.2.2.1
      go_simp
      exact HK.out (.agg #[.int .i64 a.lo, .int .i64 a.hi, .bool a.all]) _ hJ rfl vkL_same
    · skip
      have x47 : A.tmps[47]? = some (.agg #[.int .i64 a.lo, .int .i64 a.hi, .bool a.all]) := (hin 3 47 rfl).trans (congrArg some (show u 3 = .agg #[.int .i64 a.lo, .int .i64 a.hi, .bool a.all] from hd 3 (by decide) (by kernel_rfl)))
      have y1 : A.tmps[45]? = some (.bool true) := (hin 1 45 rfl).trans (congrArg some (show u 1 = .bool true from hd 1 (by decide) (by kernel_rfl)))
      clear hd hev hin
      simp only [List.getElem_cons_succ, List.getElem_cons_zero]
      clear hl
      refine .inr ⟨?_, fun K' hK => ?_⟩
      · simp [Region.wanted, yielded, y1]
      clear y1
      have HK := Lib.hid hK
      clear hK
      go_simp
      refine (Hna.out W).mono ?_
      rintro e W' ⟨rfl, hB⟩
      exact HK.out (.agg #[.int .i64 b.lo, .int .i64 b.hi, .bool b.all]) _ (hJ.later hB) rfl (vkL_later hB)
    · skip
      have x46 : A.tmps[46]? = some (.agg #[.int .i64 b.lo, .int .i64 b.hi, .bool b.all]) := (hin 2 46 rfl).trans (congrArg some (show u 2 = .agg #[.int .i64 b.lo, .int .i64 b.hi, .bool b.all] from hd 2 (by decide) (by kernel_rfl)))
      have x48 : A.tmps[48]? = some (.agg #[.int .i64 b.lo, .int .i64 b.hi, .bool b.all]) := (hin 4 48 rfl).trans (congrArg some (show u 4 = .agg #[.int .i64 b.lo, .int .i64 b.hi, .bool b.all] from hd 4 (by decide) (by kernel_rfl)))
      have y1 : A.tmps[45]? = some (.bool true) := (hin 1 45 rfl).trans (congrArg some (show u 1 = .bool true from hd 1 (by decide) (by kernel_rfl)))
      clear hd hev hin
      simp only [List.getElem_cons_succ, List.getElem_cons_zero]
      clear hl
      refine .inr ⟨?_, fun K' hK => ?_⟩
      · simp [Region.wanted, yielded, y1]
      clear y1
      have HK := Lib.hid hK
      clear hK
      go_simp
      exact HK.out (.bool true) _ hJ rfl vkL_same
    · skip
      have x45 : A.tmps[45]? = some (.bool true) := (hin 1 45 rfl).trans (congrArg some (show u 1 = .bool true from hd 1 (by decide) (by kernel_rfl)))
      have x49 : A.tmps[49]? = some (.bool true) := (hin 5 49 rfl).trans (congrArg some (show u 5 = .bool true from hd 5 (by decide) (by kernel_rfl)))
      clear hd hev hin
      simp only [List.getElem_cons_succ, List.getElem_cons_zero]
      clear hl
      refine .inr ⟨rfl, fun K' hK => ?_⟩
      have HK := Lib.hid hK
      clear hK
      go_simp
      exact HK.out (.bool true) _ hJ rfl vkL_same
    · skip
      have x50 : A.tmps[50]? = some (.bool true) := (hin 6 50 rfl).trans (congrArg some (show u 6 = .bool true from hd 6 (by decide) (by kernel_rfl)))
      clear hd hev hin
      simp only [List.getElem_cons_succ, List.getElem_cons_zero]
      clear hl
      refine .inr ⟨rfl, fun K' hK => ?_⟩
      have HK := Lib.hid hK
      clear hK
      go_simp
      exact HK.out (.bool true) _ hJ rfl vkL_same
    · skip
      have x6 : A.tmps[6]? = some (.pointer (some ⟨b3, 0, none⟩)) := (hev 6 (by decide)).trans rfl
      have y7 : A.tmps[51]? = some (.bool true) := (hin 7 51 rfl).trans (congrArg some (show u 7 = .bool true from hd 7 (by decide) (by kernel_rfl)))
      clear hd hev hin
      simp only [List.getElem_cons_succ, List.getElem_cons_zero]
      clear hl
      refine .inr ⟨?_, fun K' hK => ?_⟩
      · simp [Region.wanted, yielded, y7]
      clear y7
      have HK := Lib.hid hK
      clear hK
      have f1_0 := (hJ.bl.at' (b3, c) (.tail _ (.head _))).cells.1
      have f1_1 := (hJ.bl.at' (b3, c) (.tail _ (.head _))).cells.2.1
      have f1_2 := (hJ.bl.at' (b3, c) (.tail _ (.head _))).cells.2.2.1
      go_simp
      exact HK.out (.agg #[.int .i64 c.lo, .int .i64 c.hi, .bool c.all]) _ hJ rfl vkL_same
    · skip
      have x7 : A.tmps[7]? = some (.pointer (some ⟨b4, 0, none⟩)) := (hev 7 (by decide)).trans rfl
      have y7 : A.tmps[51]? = some (.bool true) := (hin 7 51 rfl).trans (congrArg some (show u 7 = .bool true from hd 7 (by decide) (by kernel_rfl)))
      clear hd hev hin
      simp only [List.getElem_cons_succ, List.getElem_cons_zero]
      clear hl
      refine .inr ⟨?_, fun K' hK => ?_⟩
      · simp [Region.wanted, yielded, y7]
      clear y7
      have HK := Lib.hid hK
      clear hK
      have f0_0 := (hJ.bl.at' (b4, c) (.head _)).cells.1
      have f0_1 := (hJ.bl.at' (b4, c) (.head _)).cells.2.1
      have f0_2 := (hJ.bl.at' (b4, c) (.head _)).cells.2.2.1
      go_simp
      exact HK.out (.agg #[.int .i64 c.lo, .int .i64 c.hi, .bool c.all]) _ hJ rfl vkL_same
    · skip
      have x52 : A.tmps[52]? = some (.agg #[.int .i64 c.lo, .int .i64 c.hi, .bool c.all]) := (hin 8 52 rfl).trans (congrArg some (show u 8 = .agg #[.int .i64 c.lo, .int .i64 c.hi, .bool c.all] from hd 8 (by decide) (by kernel_rfl)))
      have x53 : A.tmps[53]? = some (.agg #[.int .i64 c.lo, .int .i64 c.hi, .bool c.all]) := (hin 9 53 rfl).trans (congrArg some (show u 9 = .agg #[.int .i64 c.lo, .int .i64 c.hi, .bool c.all] from hd 9 (by decide) (by kernel_rfl)))
      have y7 : A.tmps[51]? = some (.bool true) := (hin 7 51 rfl).trans (congrArg some (show u 7 = .bool true from hd 7 (by decide) (by kernel_rfl)))
      clear hd hev hin
      simp only [List.getElem_cons_succ, List.getElem_cons_zero]
      clear hl
      refine .inr ⟨?_, fun K' hK => ?_⟩
      · simp [Region.wanted, yielded, y7]
      clear y7
      have HK := Lib.hid hK
      clear hK
      go_simp
      exact HK.out (.bool true) _ hJ rfl vkL_same
    · skip
      have x51 : A.tmps[51]? = some (.bool true) := (hin 7 51 rfl).trans (congrArg some (show u 7 = .bool true from hd 7 (by decide) (by kernel_rfl)))
      have x54 : A.tmps[54]? = some (.bool true) := (hin 10 54 rfl).trans (congrArg some (show u 10 = .bool true from hd 10 (by decide) (by kernel_rfl)))
      clear hd hev hin
      simp only [List.getElem_cons_succ, List.getElem_cons_zero]
      clear hl
      refine .inr ⟨rfl, fun K' hK => ?_⟩
      have HK := Lib.hid hK
      clear hK
      go_simp
      exact HK.out (.bool true) _ hJ rfl vkL_same
    · skip
      have x55 : A.tmps[55]? = some (.bool true) := (hin 11 55 rfl).trans (congrArg some (show u 11 = .bool true from hd 11 (by decide) (by kernel_rfl)))
      clear hd hev hin
      simp only [List.getElem_cons_succ, List.getElem_cons_zero]
      clear hl
      refine .inr ⟨rfl, fun K' hK => ?_⟩
      have HK := Lib.hid hK
      clear hK
      go_simp
      exact HK.out (.bool true) _ hJ rfl vkL_same
  intro u W hJm hd
  have e_0 : u 0 = .bool true := hd 0 (by decide)
  have e_1 : u 1 = .bool true := hd 1 (by decide)
  have e_2 : u 2 = .agg #[.int .i64 b.lo, .int .i64 b.hi, .bool b.all] := hd 2 (by decide)
  have e_3 : u 3 = .agg #[.int .i64 a.lo, .int .i64 a.hi, .bool a.all] := hd 3 (by decide)
  have e_4 : u 4 = .agg #[.int .i64 b.lo, .int .i64 b.hi, .bool b.all] := hd 4 (by decide)
  have e_5 : u 5 = .bool true := hd 5 (by decide)
  have e_6 : u 6 = .bool true := hd 6 (by decide)
  have e_7 : u 7 = .bool true := hd 7 (by decide)
  have e_8 : u 8 = .agg #[.int .i64 c.lo, .int .i64 c.hi, .bool c.all] := hd 8 (by decide)
  have e_9 : u 9 = .agg #[.int .i64 c.lo, .int .i64 c.hi, .bool c.all] := hd 9 (by decide)
  have e_10 : u 10 = .bool true := hd 10 (by decide)
  have e_11 : u 11 = .bool true := hd 11 (by decide)
  have e_12 : u 12 = .bool true := hd 12 (by decide)
  clear hd
  simp only [layS, Act.put, List.setIfInBounds_toArray, List.set_cons_succ, List.set_cons_zero, Nat.zero_add, Nat.reduceAdd, List.drop_succ_cons, List.drop_zero, List.drop_nil, e_0, e_1, e_2, e_3, e_4, e_5, e_6, e_7, e_8, e_9, e_10, e_11, e_12]
  clear e_0 e_1 e_2 e_3 e_4 e_5 e_6 e_7 e_8 e_9 e_10 e_11 e_12
  replace hJ := hJm.bl
  clear hM8
  clear hJm
  generalize hZ : W = Z12 at *
  clear hZ
  have hJf := hJ.below
  go_wp2
  go_ret
  exact ⟨rfl, hJf⟩
set_option maxRecDepth 100000 in
set_option maxHeartbeats 12800000 in
theorem Even_2 (k : Int) (a n b c : Sp) (hHaw : ∀ W : World, Calls Try.prog 28 #[] W (PVal (.bool true) W)) (hHa : ∀ W : World, Calls Try.prog 36 #[.agg #[.int .i64 k, .int .i64 k, .bool false]] W (PSp a W)) (hHn : ∀ W : World, Calls Try.prog 22 #[.agg #[.int .i64 k, .int .i64 k, .bool false]] W (PSp n W)) (hHb : ∀ W : World, Calls Try.prog 36 #[.agg #[.int .i64 n.lo, .int .i64 n.hi, .bool n.all]] W (PSp b W)) (hHc : ∀ W : World, Calls Try.prog 37 #[.agg #[.int .i64 k, .int .i64 k, .bool false]] W (PSp c W)) (hHd : ∀ W : World, Calls Try.prog 37 #[.agg #[.int .i64 n.lo, .int .i64 n.hi, .bool n.all]] W (PSp c W)) (hHna : ∀ W : World, Calls Try.prog 22 #[.agg #[.int .i64 a.lo, .int .i64 a.hi, .bool a.all]] W (PSp b W)) (d2 : decide (k < -2097152) = true) (w : World) : Calls Try.prog 11 #[.agg #[.int .i64 k, .int .i64 k, .bool false]] w (PVal (.bool true) w) := by
  have Haw := Lib.hid hHaw
  have Ha := Lib.hid hHa
  have Hn := Lib.hid hHn
  have Hb := Lib.hid hHb
  have Hc := Lib.hid hHc
  have Hd := Lib.hid hHd
  have Hna := Lib.hid hHna
  clear hHaw hHa hHn hHb hHc hHd hHna
  have hqb : eqS b.lo b.hi b.all b.lo b.hi b.all = true := eqS_same _ _ _
  have hqc : eqS c.lo c.hi c.all c.lo c.hi c.all = true := eqS_same _ _ _
  have hJ := bl_nil w
  go_enter Try.func11, Try.ntmps11
  go_wp2_with fail
  replace hJ := hJ.new (⟨k, k, false⟩ : Sp)
  generalize hW0 : (w).alloc (.cells #[.int .i64 k, .int .i64 k, .bool false] 23) = V0 at *
  clear hW0
  generalize w.heap.size = b0 at *
  refine (Haw.out _).mono ?_
  rintro e W1 ⟨rfl, hB⟩
  replace hJ := hJ.later hB
  clear hB
  have f0_0 : W1.cell? ⟨b0, 0, none⟩ = some (.int .i64 k) := (hJ.at' (b0, (⟨k, k, false⟩ : Sp)) (.head _)).cells.1
  have f0_1 : W1.cell? ⟨b0, 1, none⟩ = some (.int .i64 k) := (hJ.at' (b0, (⟨k, k, false⟩ : Sp)) (.head _)).cells.2.1
  have f0_2 : W1.cell? ⟨b0, 2, none⟩ = some (.bool false) := (hJ.at' (b0, (⟨k, k, false⟩ : Sp)) (.head _)).cells.2.2.1
  have fl0 : b0 < W1.heap.size := hJ.lt (b0, (⟨k, k, false⟩ : Sp)) (.head _)
  go_wp2_with fail
  refine (Ha.out _).mono ?_
  rintro e W2 ⟨rfl, hB⟩
  replace hJ := hJ.later hB
  clear hB f0_0 f0_1 f0_2 fl0
  have f0_0 : W2.cell? ⟨b0, 0, none⟩ = some (.int .i64 k) := (hJ.at' (b0, (⟨k, k, false⟩ : Sp)) (.head _)).cells.1
  have f0_1 : W2.cell? ⟨b0, 1, none⟩ = some (.int .i64 k) := (hJ.at' (b0, (⟨k, k, false⟩ : Sp)) (.head _)).cells.2.1
  have f0_2 : W2.cell? ⟨b0, 2, none⟩ = some (.bool false) := (hJ.at' (b0, (⟨k, k, false⟩ : Sp)) (.head _)).cells.2.2.1
  have fl0 : b0 < W2.heap.size := hJ.lt (b0, (⟨k, k, false⟩ : Sp)) (.head _)
  go_wp2_with fail
  clear f0_0 f0_1 f0_2 fl0
  replace hJ := hJ.new a
  generalize hW3 : W2.alloc (.cells #[.int .i64 a.lo, .int .i64 a.hi, .bool a.all] 23) = V3 at *
  clear hW3
  generalize W2.heap.size = b1 at *
  refine (Hn.out _).mono ?_
  rintro e W4 ⟨rfl, hB⟩
  replace hJ := hJ.later hB
  clear hB
  go_wp2_with fail
  refine (Hb.out _).mono ?_
  rintro e W5 ⟨rfl, hB⟩
  replace hJ := hJ.later hB
  clear hB
  have f1_0 : W5.cell? ⟨b0, 0, none⟩ = some (.int .i64 k) := (hJ.at' (b0, (⟨k, k, false⟩ : Sp)) (.tail _ (.head _))).cells.1
  have f1_1 : W5.cell? ⟨b0, 1, none⟩ = some (.int .i64 k) := (hJ.at' (b0, (⟨k, k, false⟩ : Sp)) (.tail _ (.head _))).cells.2.1
  have f1_2 : W5.cell? ⟨b0, 2, none⟩ = some (.bool false) := (hJ.at' (b0, (⟨k, k, false⟩ : Sp)) (.tail _ (.head _))).cells.2.2.1
  have fl1 : b0 < W5.heap.size := hJ.lt (b0, (⟨k, k, false⟩ : Sp)) (.tail _ (.head _))
  go_wp2_with fail
  clear f1_0 f1_1 f1_2 fl1
  replace hJ := hJ.new b
  generalize hW6 : W5.alloc (.cells #[.int .i64 b.lo, .int .i64 b.hi, .bool b.all] 23) = V6 at *
  clear hW6
  generalize W5.heap.size = b2 at *
  refine (Hc.out _).mono ?_
  rintro e W7 ⟨rfl, hB⟩
  replace hJ := hJ.later hB
  clear hB
  have f2_0 : W7.cell? ⟨b0, 0, none⟩ = some (.int .i64 k) := (hJ.at' (b0, (⟨k, k, false⟩ : Sp)) (.tail _ (.tail _ (.head _)))).cells.1
  have f2_1 : W7.cell? ⟨b0, 1, none⟩ = some (.int .i64 k) := (hJ.at' (b0, (⟨k, k, false⟩ : Sp)) (.tail _ (.tail _ (.head _)))).cells.2.1
  have f2_2 : W7.cell? ⟨b0, 2, none⟩ = some (.bool false) := (hJ.at' (b0, (⟨k, k, false⟩ : Sp)) (.tail _ (.tail _ (.head _)))).cells.2.2.1
  have fl2 : b0 < W7.heap.size := hJ.lt (b0, (⟨k, k, false⟩ : Sp)) (.tail _ (.tail _ (.head _)))
  go_wp2_with fail
  clear f2_0 f2_1 f2_2 fl2
  replace hJ := hJ.new c
  generalize hW8 : W7.alloc (.cells #[.int .i64 c.lo, .int .i64 c.hi, .bool c.all] 23) = V8 at *
  clear hW8
  generalize W7.heap.size = b3 at *
  refine (Hn.out _).mono ?_
  rintro e W9 ⟨rfl, hB⟩
  replace hJ := hJ.later hB
  clear hB
  go_wp2_with fail
  refine (Hd.out _).mono ?_
  rintro e W10 ⟨rfl, hB⟩
  replace hJ := hJ.later hB
  clear hB
  have f3_0 : W10.cell? ⟨b0, 0, none⟩ = some (.int .i64 k) := (hJ.at' (b0, (⟨k, k, false⟩ : Sp)) (.tail _ (.tail _ (.tail _ (.head _))))).cells.1
  have f3_1 : W10.cell? ⟨b0, 1, none⟩ = some (.int .i64 k) := (hJ.at' (b0, (⟨k, k, false⟩ : Sp)) (.tail _ (.tail _ (.tail _ (.head _))))).cells.2.1
  have f3_2 : W10.cell? ⟨b0, 2, none⟩ = some (.bool false) := (hJ.at' (b0, (⟨k, k, false⟩ : Sp)) (.tail _ (.tail _ (.tail _ (.head _))))).cells.2.2.1
  have fl3 : b0 < W10.heap.size := hJ.lt (b0, (⟨k, k, false⟩ : Sp)) (.tail _ (.tail _ (.tail _ (.head _))))
  go_wp2
  clear f3_0 f3_1 f3_2 fl3
  replace hJ := hJ.new c
  generalize hW11 : W10.alloc (.cells #[.int .i64 c.lo, .int .i64 c.hi, .bool c.all] 23) = V11 at *
  clear hW11
  generalize W10.heap.size = b4 at *
  obtain ⟨m8, hm8⟩ : ∃ m, m = V11.heap.size := ⟨_, rfl⟩
  have hM8 := hJ.bm
  rw [← hm8] at hM8
  refine wp_region_z 13 [some 44, some 45, some 46, some 47, some 48, some 49, some 50, some 51, some 52, some 53, some 54, some 55, some 2] (vkL m8 [.eq (.bool true), .eq (.bool true), .eq (.agg #[.int .i64 b.lo, .int .i64 b.hi, .bool b.all]), .eq (.agg #[.int .i64 a.lo, .int .i64 a.hi, .bool a.all]), .eq (.agg #[.int .i64 b.lo, .int .i64 b.hi, .bool b.all]), .eq (.bool true), .eq (.bool true), .eq (.bool true), .eq (.agg #[.int .i64 c.lo, .int .i64 c.hi, .bool c.all]), .eq (.agg #[.int .i64 c.lo, .int .i64 c.hi, .bool c.all]), .eq (.bool true), .eq (.bool true), .eq (.bool true)]) (Bm w m8 [(b4, c), (b3, c), (b2, b), (b1, a), (b0, (⟨k, k, false⟩ : Sp))]) (by kernel_rfl) (by kernel_rfl) (by rfl) (by decide) (by rfl) hM8 ?_ ?_
  · intro i hl hi u W A hJ hd hev hin
    obtain rfl | rfl | rfl | rfl | rfl | rfl | rfl | rfl | rfl | rfl | rfl | rfl | rfl : i = 0 ∨ i = 1 ∨ i = 2 ∨ i = 3 ∨ i = 4 ∨ i = 5 ∨ i = 6 ∨ i = 7 ∨ i = 8 ∨ i = 9 ∨ i = 10 ∨ i = 11 ∨ i = 12 := by omega
    · skip
      have x3 : A.tmps[3]? = some (.bool true) := (hev 3 (by decide)).trans rfl
      clear hd hev hin
      simp only [List.getElem_cons_succ, List.getElem_cons_zero]
      clear hl
      refine .inr ⟨rfl, fun K' hK => ?_⟩
      have HK := Lib.hid hK
      clear hK
      go_simp
      exact HK.out (.bool true) _ hJ rfl vkL_same
    · skip
      have x44 : A.tmps[44]? = some (.bool true) := (hin 0 44 rfl).trans (congrArg some (show u 0 = .bool true from hd 0 (by decide) (by kernel_rfl)))
      clear hd hev hin
      simp only [List.getElem_cons_succ, List.getElem_cons_zero]
      clear hl
      refine .inr ⟨rfl, fun K' hK => ?_⟩
      have HK := Lib.hid hK
      clear hK
      go_simp
      exact HK.out (.bool true) _ hJ rfl vkL_same
    · skip
      have x5 : A.tmps[5]? = some (.pointer (some ⟨b2, 0, none⟩)) := (hev 5 (by decide)).trans rfl
      have y1 : A.tmps[45]? = some (.bool true) := (hin 1 45 rfl).trans (congrArg some (show u 1 = .bool true from hd 1 (by decide) (by kernel_rfl)))
      clear hd hev hin
      simp only [List.getElem_cons_succ, List.getElem_cons_zero]
      clear hl
      refine .inr ⟨?_, fun K' hK => ?_⟩
      · simp [Region.wanted, yielded, y1]
      clear y1
      have HK := Lib.hid hK
      clear hK
      have f2_0 := (hJ.bl.at' (b2, b) (.tail _ (.tail _ (.head _)))).cells.1
      have f2_1 := (hJ.bl.at' (b2, b) (.tail _ (.tail _ (.head _)))).cells.2.1
      have f2_2 := (hJ.bl.at' (b2, b) (.tail _ (.tail _ (.head _)))).cells.2.2.1
      go_simp
      exact HK.out (.agg #[.int .i64 b.lo, .int .i64 b.hi, .bool b.all]) _ hJ rfl vkL_same
    · skip
      have x4 : A.tmps[4]? = some (.pointer (some ⟨b1, 0, none⟩)) := (hev 4 (by decide)).trans rfl
      have y1 : A.tmps[45]? = some (.bool true) := (hin 1 45 rfl).trans (congrArg some (show u 1 = .bool true from hd 1 (by decide) (by kernel_rfl)))
      clear hd hev hin
      simp only [List.getElem_cons_succ, List.getElem_cons_zero]
      clear hl
      refine .inr ⟨?_, fun K' hK => ?_⟩
      · simp [Region.wanted, yielded, y1]
      clear y1
      have HK := Lib.hid hK
      clear hK
      have f3_0 := (hJ.bl.at' (b1, a) (.tail _ (.tail _ (.tail _ (.head _))))).cells.1
      have f3_1 := (hJ.bl.at' (b1, a) (.tail _ (.tail _ (.tail _ (.head _))))).cells.2.1
      have f3_2 := (hJ.bl.at' (b1, a) (.tail _ (.tail _ (.tail _ (.head _))))).cells.2.2.1
      go_simp
      exact HK.out (.agg #[.int .i64 a.lo, .int .i64 a.hi, .bool a.all]) _ hJ rfl vkL_same
    · skip
      have x47 : A.tmps[47]? = some (.agg #[.int .i64 a.lo, .int .i64 a.hi, .bool a.all]) := (hin 3 47 rfl).trans (congrArg some (show u 3 = .agg #[.int .i64 a.lo, .int .i64 a.hi, .bool a.all] from hd 3 (by decide) (by kernel_rfl)))
      have y1 : A.tmps[45]? = some (.bool true) := (hin 1 45 rfl).trans (congrArg some (show u 1 = .bool true from hd 1 (by decide) (by kernel_rfl)))
      clear hd hev hin
      simp only [List.getElem_cons_succ, List.getElem_cons_zero]
      clear hl
      refine .inr ⟨?_, fun K' hK => ?_⟩
      · simp [Region.wanted, yielded, y1]
      clear y1
      have HK := Lib.hid hK
      clear hK
      go_simp
      refine (Hna.out W).mono ?_
      rintro e W' ⟨rfl, hB⟩
      exact HK.out (.agg #[.int .i64 b.lo, .int .i64 b.hi, .bool b.all]) _ (hJ.later hB) rfl (vkL_later hB)
    · skip
      have x46 : A.tmps[46]? = some (.agg #[.int .i64 b.lo, .int .i64 b.hi, .bool b.all]) := (hin 2 46 rfl).trans (congrArg some (show u 2 = .agg #[.int .i64 b.lo, .int .i64 b.hi, .bool b.all] from hd 2 (by decide) (by kernel_rfl)))
      have x48 : A.tmps[48]? = some (.agg #[.int .i64 b.lo, .int .i64 b.hi, .bool b.all]) := (hin 4 48 rfl).trans (congrArg some (show u 4 = .agg #[.int .i64 b.lo, .int .i64 b.hi, .bool b.all] from hd 4 (by decide) (by kernel_rfl)))
      have y1 : A.tmps[45]? = some (.bool true) := (hin 1 45 rfl).trans (congrArg some (show u 1 = .bool true from hd 1 (by decide) (by kernel_rfl)))
      clear hd hev hin
      simp only [List.getElem_cons_succ, List.getElem_cons_zero]
      clear hl
      refine .inr ⟨?_, fun K' hK => ?_⟩
      · simp [Region.wanted, yielded, y1]
      clear y1
      have HK := Lib.hid hK
      clear hK
      go_simp
      exact HK.out (.bool true) _ hJ rfl vkL_same
    · skip
      have x45 : A.tmps[45]? = some (.bool true) := (hin 1 45 rfl).trans (congrArg some (show u 1 = .bool true from hd 1 (by decide) (by kernel_rfl)))
      have x49 : A.tmps[49]? = some (.bool true) := (hin 5 49 rfl).trans (congrArg some (show u 5 = .bool true from hd 5 (by decide) (by kernel_rfl)))
      clear hd hev hin
      simp only [List.getElem_cons_succ, List.getElem_cons_zero]
      clear hl
      refine .inr ⟨rfl, fun K' hK => ?_⟩
      have HK := Lib.hid hK
      clear hK
      go_simp
      exact HK.out (.bool true) _ hJ rfl vkL_same
    · skip
      have x50 : A.tmps[50]? = some (.bool true) := (hin 6 50 rfl).trans (congrArg some (show u 6 = .bool true from hd 6 (by decide) (by kernel_rfl)))
      clear hd hev hin
      simp only [List.getElem_cons_succ, List.getElem_cons_zero]
      clear hl
      refine .inr ⟨rfl, fun K' hK => ?_⟩
      have HK := Lib.hid hK
      clear hK
      go_simp
      exact HK.out (.bool true) _ hJ rfl vkL_same
    · skip
      have x6 : A.tmps[6]? = some (.pointer (some ⟨b3, 0, none⟩)) := (hev 6 (by decide)).trans rfl
      have y7 : A.tmps[51]? = some (.bool true) := (hin 7 51 rfl).trans (congrArg some (show u 7 = .bool true from hd 7 (by decide) (by kernel_rfl)))
      clear hd hev hin
      simp only [List.getElem_cons_succ, List.getElem_cons_zero]
      clear hl
      refine .inr ⟨?_, fun K' hK => ?_⟩
      · simp [Region.wanted, yielded, y7]
      clear y7
      have HK := Lib.hid hK
      clear hK
      have f1_0 := (hJ.bl.at' (b3, c) (.tail _ (.head _))).cells.1
      have f1_1 := (hJ.bl.at' (b3, c) (.tail _ (.head _))).cells.2.1
      have f1_2 := (hJ.bl.at' (b3, c) (.tail _ (.head _))).cells.2.2.1
      go_simp
      exact HK.out (.agg #[.int .i64 c.lo, .int .i64 c.hi, .bool c.all]) _ hJ rfl vkL_same
    · skip
      have x7 : A.tmps[7]? = some (.pointer (some ⟨b4, 0, none⟩)) := (hev 7 (by decide)).trans rfl
      have y7 : A.tmps[51]? = some (.bool true) := (hin 7 51 rfl).trans (congrArg some (show u 7 = .bool true from hd 7 (by decide) (by kernel_rfl)))
      clear hd hev hin
      simp only [List.getElem_cons_succ, List.getElem_cons_zero]
      clear hl
      refine .inr ⟨?_, fun K' hK => ?_⟩
      · simp [Region.wanted, yielded, y7]
      clear y7
      have HK := Lib.hid hK
      clear hK
      have f0_0 := (hJ.bl.at' (b4, c) (.head _)).cells.1
      have f0_1 := (hJ.bl.at' (b4, c) (.head _)).cells.2.1
      have f0_2 := (hJ.bl.at' (b4, c) (.head _)).cells.2.2.1
      go_simp
      exact HK.out (.agg #[.int .i64 c.lo, .int .i64 c.hi, .bool c.all]) _ hJ rfl vkL_same
    · skip
      have x52 : A.tmps[52]? = some (.agg #[.int .i64 c.lo, .int .i64 c.hi, .bool c.all]) := (hin 8 52 rfl).trans (congrArg some (show u 8 = .agg #[.int .i64 c.lo, .int .i64 c.hi, .bool c.all] from hd 8 (by decide) (by kernel_rfl)))
      have x53 : A.tmps[53]? = some (.agg #[.int .i64 c.lo, .int .i64 c.hi, .bool c.all]) := (hin 9 53 rfl).trans (congrArg some (show u 9 = .agg #[.int .i64 c.lo, .int .i64 c.hi, .bool c.all] from hd 9 (by decide) (by kernel_rfl)))
      have y7 : A.tmps[51]? = some (.bool true) := (hin 7 51 rfl).trans (congrArg some (show u 7 = .bool true from hd 7 (by decide) (by kernel_rfl)))
      clear hd hev hin
      simp only [List.getElem_cons_succ, List.getElem_cons_zero]
      clear hl
      refine .inr ⟨?_, fun K' hK => ?_⟩
      · simp [Region.wanted, yielded, y7]
      clear y7
      have HK := Lib.hid hK
      clear hK
      go_simp
      exact HK.out (.bool true) _ hJ rfl vkL_same
    · skip
      have x51 : A.tmps[51]? = some (.bool true) := (hin 7 51 rfl).trans (congrArg some (show u 7 = .bool true from hd 7 (by decide) (by kernel_rfl)))
      have x54 : A.tmps[54]? = some (.bool true) := (hin 10 54 rfl).trans (congrArg some (show u 10 = .bool true from hd 10 (by decide) (by kernel_rfl)))
      clear hd hev hin
      simp only [List.getElem_cons_succ, List.getElem_cons_zero]
      clear hl
      refine .inr ⟨rfl, fun K' hK => ?_⟩
      have HK := Lib.hid hK
      clear hK
      go_simp
      exact HK.out (.bool true) _ hJ rfl vkL_same
    · skip
      have x55 : A.tmps[55]? = some (.bool true) := (hin 11 55 rfl).trans (congrArg some (show u 11 = .bool true from hd 11 (by decide) (by kernel_rfl)))
      clear hd hev hin
      simp only [List.getElem_cons_succ, List.getElem_cons_zero]
      clear hl
      refine .inr ⟨rfl, fun K' hK => ?_⟩
      have HK := Lib.hid hK
      clear hK
      go_simp
      exact HK.out (.bool true) _ hJ rfl vkL_same
  intro u W hJm hd
  have e_0 : u 0 = .bool true := hd 0 (by decide)
  have e_1 : u 1 = .bool true := hd 1 (by decide)
  have e_2 : u 2 = .agg #[.int .i64 b.lo, .int .i64 b.hi, .bool b.all] := hd 2 (by decide)
  have e_3 : u 3 = .agg #[.int .i64 a.lo, .int .i64 a.hi, .bool a.all] := hd 3 (by decide)
  have e_4 : u 4 = .agg #[.int .i64 b.lo, .int .i64 b.hi, .bool b.all] := hd 4 (by decide)
  have e_5 : u 5 = .bool true := hd 5 (by decide)
  have e_6 : u 6 = .bool true := hd 6 (by decide)
  have e_7 : u 7 = .bool true := hd 7 (by decide)
  have e_8 : u 8 = .agg #[.int .i64 c.lo, .int .i64 c.hi, .bool c.all] := hd 8 (by decide)
  have e_9 : u 9 = .agg #[.int .i64 c.lo, .int .i64 c.hi, .bool c.all] := hd 9 (by decide)
  have e_10 : u 10 = .bool true := hd 10 (by decide)
  have e_11 : u 11 = .bool true := hd 11 (by decide)
  have e_12 : u 12 = .bool true := hd 12 (by decide)
  clear hd
  simp only [layS, Act.put, List.setIfInBounds_toArray, List.set_cons_succ, List.set_cons_zero, Nat.zero_add, Nat.reduceAdd, List.drop_succ_cons, List.drop_zero, List.drop_nil, e_0, e_1, e_2, e_3, e_4, e_5, e_6, e_7, e_8, e_9, e_10, e_11, e_12]
  clear e_0 e_1 e_2 e_3 e_4 e_5 e_6 e_7 e_8 e_9 e_10 e_11 e_12
  replace hJ := hJm.bl
  clear hM8
  clear hJm
  generalize hZ : W = Z12 at *
  clear hZ
  have hJf := hJ.below
  go_wp2
  go_ret
  exact ⟨rfl, hJf⟩
set_option maxRecDepth 100000 in
set_option maxHeartbeats 12800000 in
theorem Even_3 (k : Int) (a n b c : Sp) (hHaw : ∀ W : World, Calls Try.prog 28 #[] W (PVal (.bool true) W)) (hHa : ∀ W : World, Calls Try.prog 36 #[.agg #[.int .i64 k, .int .i64 k, .bool false]] W (PSp a W)) (hHn : ∀ W : World, Calls Try.prog 22 #[.agg #[.int .i64 k, .int .i64 k, .bool false]] W (PSp n W)) (hHb : ∀ W : World, Calls Try.prog 36 #[.agg #[.int .i64 n.lo, .int .i64 n.hi, .bool n.all]] W (PSp b W)) (hHc : ∀ W : World, Calls Try.prog 37 #[.agg #[.int .i64 k, .int .i64 k, .bool false]] W (PSp c W)) (hHd : ∀ W : World, Calls Try.prog 37 #[.agg #[.int .i64 n.lo, .int .i64 n.hi, .bool n.all]] W (PSp c W)) (hHna : ∀ W : World, Calls Try.prog 22 #[.agg #[.int .i64 a.lo, .int .i64 a.hi, .bool a.all]] W (PSp b W)) (d2 : decide (k < -2097152) = false) (d3 : decide (2097152 < k) = true) (w : World) : Calls Try.prog 11 #[.agg #[.int .i64 k, .int .i64 k, .bool false]] w (PVal (.bool true) w) := by
  have Haw := Lib.hid hHaw
  have Ha := Lib.hid hHa
  have Hn := Lib.hid hHn
  have Hb := Lib.hid hHb
  have Hc := Lib.hid hHc
  have Hd := Lib.hid hHd
  have Hna := Lib.hid hHna
  clear hHaw hHa hHn hHb hHc hHd hHna
  have hqb : eqS b.lo b.hi b.all b.lo b.hi b.all = true := eqS_same _ _ _
  have hqc : eqS c.lo c.hi c.all c.lo c.hi c.all = true := eqS_same _ _ _
  have hJ := bl_nil w
  go_enter Try.func11, Try.ntmps11
  go_wp2_with fail
  replace hJ := hJ.new (⟨k, k, false⟩ : Sp)
  generalize hW0 : (w).alloc (.cells #[.int .i64 k, .int .i64 k, .bool false] 23) = V0 at *
  clear hW0
  generalize w.heap.size = b0 at *
  refine (Haw.out _).mono ?_
  rintro e W1 ⟨rfl, hB⟩
  replace hJ := hJ.later hB
  clear hB
  have f0_0 : W1.cell? ⟨b0, 0, none⟩ = some (.int .i64 k) := (hJ.at' (b0, (⟨k, k, false⟩ : Sp)) (.head _)).cells.1
  have f0_1 : W1.cell? ⟨b0, 1, none⟩ = some (.int .i64 k) := (hJ.at' (b0, (⟨k, k, false⟩ : Sp)) (.head _)).cells.2.1
  have f0_2 : W1.cell? ⟨b0, 2, none⟩ = some (.bool false) := (hJ.at' (b0, (⟨k, k, false⟩ : Sp)) (.head _)).cells.2.2.1
  have fl0 : b0 < W1.heap.size := hJ.lt (b0, (⟨k, k, false⟩ : Sp)) (.head _)
  go_wp2_with fail
  refine (Ha.out _).mono ?_
  rintro e W2 ⟨rfl, hB⟩
  replace hJ := hJ.later hB
  clear hB f0_0 f0_1 f0_2 fl0
  have f0_0 : W2.cell? ⟨b0, 0, none⟩ = some (.int .i64 k) := (hJ.at' (b0, (⟨k, k, false⟩ : Sp)) (.head _)).cells.1
  have f0_1 : W2.cell? ⟨b0, 1, none⟩ = some (.int .i64 k) := (hJ.at' (b0, (⟨k, k, false⟩ : Sp)) (.head _)).cells.2.1
  have f0_2 : W2.cell? ⟨b0, 2, none⟩ = some (.bool false) := (hJ.at' (b0, (⟨k, k, false⟩ : Sp)) (.head _)).cells.2.2.1
  have fl0 : b0 < W2.heap.size := hJ.lt (b0, (⟨k, k, false⟩ : Sp)) (.head _)
  go_wp2_with fail
  clear f0_0 f0_1 f0_2 fl0
  replace hJ := hJ.new a
  generalize hW3 : W2.alloc (.cells #[.int .i64 a.lo, .int .i64 a.hi, .bool a.all] 23) = V3 at *
  clear hW3
  generalize W2.heap.size = b1 at *
  refine (Hn.out _).mono ?_
  rintro e W4 ⟨rfl, hB⟩
  replace hJ := hJ.later hB
  clear hB
  go_wp2_with fail
  refine (Hb.out _).mono ?_
  rintro e W5 ⟨rfl, hB⟩
  replace hJ := hJ.later hB
  clear hB
  have f1_0 : W5.cell? ⟨b0, 0, none⟩ = some (.int .i64 k) := (hJ.at' (b0, (⟨k, k, false⟩ : Sp)) (.tail _ (.head _))).cells.1
  have f1_1 : W5.cell? ⟨b0, 1, none⟩ = some (.int .i64 k) := (hJ.at' (b0, (⟨k, k, false⟩ : Sp)) (.tail _ (.head _))).cells.2.1
  have f1_2 : W5.cell? ⟨b0, 2, none⟩ = some (.bool false) := (hJ.at' (b0, (⟨k, k, false⟩ : Sp)) (.tail _ (.head _))).cells.2.2.1
  have fl1 : b0 < W5.heap.size := hJ.lt (b0, (⟨k, k, false⟩ : Sp)) (.tail _ (.head _))
  go_wp2_with fail
  clear f1_0 f1_1 f1_2 fl1
  replace hJ := hJ.new b
  generalize hW6 : W5.alloc (.cells #[.int .i64 b.lo, .int .i64 b.hi, .bool b.all] 23) = V6 at *
  clear hW6
  generalize W5.heap.size = b2 at *
  refine (Hc.out _).mono ?_
  rintro e W7 ⟨rfl, hB⟩
  replace hJ := hJ.later hB
  clear hB
  have f2_0 : W7.cell? ⟨b0, 0, none⟩ = some (.int .i64 k) := (hJ.at' (b0, (⟨k, k, false⟩ : Sp)) (.tail _ (.tail _ (.head _)))).cells.1
  have f2_1 : W7.cell? ⟨b0, 1, none⟩ = some (.int .i64 k) := (hJ.at' (b0, (⟨k, k, false⟩ : Sp)) (.tail _ (.tail _ (.head _)))).cells.2.1
  have f2_2 : W7.cell? ⟨b0, 2, none⟩ = some (.bool false) := (hJ.at' (b0, (⟨k, k, false⟩ : Sp)) (.tail _ (.tail _ (.head _)))).cells.2.2.1
  have fl2 : b0 < W7.heap.size := hJ.lt (b0, (⟨k, k, false⟩ : Sp)) (.tail _ (.tail _ (.head _)))
  go_wp2_with fail
  clear f2_0 f2_1 f2_2 fl2
  replace hJ := hJ.new c
  generalize hW8 : W7.alloc (.cells #[.int .i64 c.lo, .int .i64 c.hi, .bool c.all] 23) = V8 at *
  clear hW8
  generalize W7.heap.size = b3 at *
  refine (Hn.out _).mono ?_
  rintro e W9 ⟨rfl, hB⟩
  replace hJ := hJ.later hB
  clear hB
  go_wp2_with fail
  refine (Hd.out _).mono ?_
  rintro e W10 ⟨rfl, hB⟩
  replace hJ := hJ.later hB
  clear hB
  have f3_0 : W10.cell? ⟨b0, 0, none⟩ = some (.int .i64 k) := (hJ.at' (b0, (⟨k, k, false⟩ : Sp)) (.tail _ (.tail _ (.tail _ (.head _))))).cells.1
  have f3_1 : W10.cell? ⟨b0, 1, none⟩ = some (.int .i64 k) := (hJ.at' (b0, (⟨k, k, false⟩ : Sp)) (.tail _ (.tail _ (.tail _ (.head _))))).cells.2.1
  have f3_2 : W10.cell? ⟨b0, 2, none⟩ = some (.bool false) := (hJ.at' (b0, (⟨k, k, false⟩ : Sp)) (.tail _ (.tail _ (.tail _ (.head _))))).cells.2.2.1
  have fl3 : b0 < W10.heap.size := hJ.lt (b0, (⟨k, k, false⟩ : Sp)) (.tail _ (.tail _ (.tail _ (.head _))))
  go_wp2
  clear f3_0 f3_1 f3_2 fl3
  replace hJ := hJ.new c
  generalize hW11 : W10.alloc (.cells #[.int .i64 c.lo, .int .i64 c.hi, .bool c.all] 23) = V11 at *
  clear hW11
  generalize W10.heap.size = b4 at *
  obtain ⟨m8, hm8⟩ : ∃ m, m = V11.heap.size := ⟨_, rfl⟩
  have hM8 := hJ.bm
  rw [← hm8] at hM8
  refine wp_region_z 13 [some 44, some 45, some 46, some 47, some 48, some 49, some 50, some 51, some 52, some 53, some 54, some 55, some 2] (vkL m8 [.eq (.bool true), .eq (.bool true), .eq (.agg #[.int .i64 b.lo, .int .i64 b.hi, .bool b.all]), .eq (.agg #[.int .i64 a.lo, .int .i64 a.hi, .bool a.all]), .eq (.agg #[.int .i64 b.lo, .int .i64 b.hi, .bool b.all]), .eq (.bool true), .eq (.bool true), .eq (.bool true), .eq (.agg #[.int .i64 c.lo, .int .i64 c.hi, .bool c.all]), .eq (.agg #[.int .i64 c.lo, .int .i64 c.hi, .bool c.all]), .eq (.bool true), .eq (.bool true), .eq (.bool true)]) (Bm w m8 [(b4, c), (b3, c), (b2, b), (b1, a), (b0, (⟨k, k, false⟩ : Sp))]) (by kernel_rfl) (by kernel_rfl) (by rfl) (by decide) (by rfl) hM8 ?_ ?_
  · intro i hl hi u W A hJ hd hev hin
    obtain rfl | rfl | rfl | rfl | rfl | rfl | rfl | rfl | rfl | rfl | rfl | rfl | rfl : i = 0 ∨ i = 1 ∨ i = 2 ∨ i = 3 ∨ i = 4 ∨ i = 5 ∨ i = 6 ∨ i = 7 ∨ i = 8 ∨ i = 9 ∨ i = 10 ∨ i = 11 ∨ i = 12 := by omega
    · skip
      have x3 : A.tmps[3]? = some (.bool true) := (hev 3 (by decide)).trans rfl
      clear hd hev hin
      simp only [List.getElem_cons_succ, List.getElem_cons_zero]
      clear hl
      refine .inr ⟨rfl, fun K' hK => ?_⟩
      have HK := Lib.hid hK
      clear hK
      go_simp
      exact HK.out (.bool true) _ hJ rfl vkL_same
    · skip
      have x44 : A.tmps[44]? = some (.bool true) := (hin 0 44 rfl).trans (congrArg some (show u 0 = .bool true from hd 0 (by decide) (by kernel_rfl)))
      clear hd hev hin
      simp only [List.getElem_cons_succ, List.getElem_cons_zero]
      clear hl
      refine .inr ⟨rfl, fun K' hK => ?_⟩
      have HK := Lib.hid hK
      clear hK
      go_simp
      exact HK.out (.bool true) _ hJ rfl vkL_same
    · skip
      have x5 : A.tmps[5]? = some (.pointer (some ⟨b2, 0, none⟩)) := (hev 5 (by decide)).trans rfl
      have y1 : A.tmps[45]? = some (.bool true) := (hin 1 45 rfl).trans (congrArg some (show u 1 = .bool true from hd 1 (by decide) (by kernel_rfl)))
      clear hd hev hin
      simp only [List.getElem_cons_succ, List.getElem_cons_zero]
      clear hl
      refine .inr ⟨?_, fun K' hK => ?_⟩
      · simp [Region.wanted, yielded, y1]
      clear y1
      have HK := Lib.hid hK
      clear hK
      have f2_0 := (hJ.bl.at' (b2, b) (.tail _ (.tail _ (.head _)))).cells.1
      have f2_1 := (hJ.bl.at' (b2, b) (.tail _ (.tail _ (.head _)))).cells.2.1
      have f2_2 := (hJ.bl.at' (b2, b) (.tail _ (.tail _ (.head _)))).cells.2.2.1
      go_simp
      exact HK.out (.agg #[.int .i64 b.lo, .int .i64 b.hi, .bool b.all]) _ hJ rfl vkL_same
    · skip
      have x4 : A.tmps[4]? = some (.pointer (some ⟨b1, 0, none⟩)) := (hev 4 (by decide)).trans rfl
      have y1 : A.tmps[45]? = some (.bool true) := (hin 1 45 rfl).trans (congrArg some (show u 1 = .bool true from hd 1 (by decide) (by kernel_rfl)))
      clear hd hev hin
      simp only [List.getElem_cons_succ, List.getElem_cons_zero]
      clear hl
      refine .inr ⟨?_, fun K' hK => ?_⟩
      · simp [Region.wanted, yielded, y1]
      clear y1
      have HK := Lib.hid hK
      clear hK
      have f3_0 := (hJ.bl.at' (b1, a) (.tail _ (.tail _ (.tail _ (.head _))))).cells.1
      have f3_1 := (hJ.bl.at' (b1, a) (.tail _ (.tail _ (.tail _ (.head _))))).cells.2.1
      have f3_2 := (hJ.bl.at' (b1, a) (.tail _ (.tail _ (.tail _ (.head _))))).cells.2.2.1
      go_simp
      exact HK.out (.agg #[.int .i64 a.lo, .int .i64 a.hi, .bool a.all]) _ hJ rfl vkL_same
    · skip
      have x47 : A.tmps[47]? = some (.agg #[.int .i64 a.lo, .int .i64 a.hi, .bool a.all]) := (hin 3 47 rfl).trans (congrArg some (show u 3 = .agg #[.int .i64 a.lo, .int .i64 a.hi, .bool a.all] from hd 3 (by decide) (by kernel_rfl)))
      have y1 : A.tmps[45]? = some (.bool true) := (hin 1 45 rfl).trans (congrArg some (show u 1 = .bool true from hd 1 (by decide) (by kernel_rfl)))
      clear hd hev hin
      simp only [List.getElem_cons_succ, List.getElem_cons_zero]
      clear hl
      refine .inr ⟨?_, fun K' hK => ?_⟩
      · simp [Region.wanted, yielded, y1]
      clear y1
      have HK := Lib.hid hK
      clear hK
      go_simp
      refine (Hna.out W).mono ?_
      rintro e W' ⟨rfl, hB⟩
      exact HK.out (.agg #[.int .i64 b.lo, .int .i64 b.hi, .bool b.all]) _ (hJ.later hB) rfl (vkL_later hB)
    · skip
      have x46 : A.tmps[46]? = some (.agg #[.int .i64 b.lo, .int .i64 b.hi, .bool b.all]) := (hin 2 46 rfl).trans (congrArg some (show u 2 = .agg #[.int .i64 b.lo, .int .i64 b.hi, .bool b.all] from hd 2 (by decide) (by kernel_rfl)))
      have x48 : A.tmps[48]? = some (.agg #[.int .i64 b.lo, .int .i64 b.hi, .bool b.all]) := (hin 4 48 rfl).trans (congrArg some (show u 4 = .agg #[.int .i64 b.lo, .int .i64 b.hi, .bool b.all] from hd 4 (by decide) (by kernel_rfl)))
      have y1 : A.tmps[45]? = some (.bool true) := (hin 1 45 rfl).trans (congrArg some (show u 1 = .bool true from hd 1 (by decide) (by kernel_rfl)))
      clear hd hev hin
      simp only [List.getElem_cons_succ, List.getElem_cons_zero]
      clear hl
      refine .inr ⟨?_, fun K' hK => ?_⟩
      · simp [Region.wanted, yielded, y1]
      clear y1
      have HK := Lib.hid hK
      clear hK
      go_simp
      exact HK.out (.bool true) _ hJ rfl vkL_same
    · skip
      have x45 : A.tmps[45]? = some (.bool true) := (hin 1 45 rfl).trans (congrArg some (show u 1 = .bool true from hd 1 (by decide) (by kernel_rfl)))
      have x49 : A.tmps[49]? = some (.bool true) := (hin 5 49 rfl).trans (congrArg some (show u 5 = .bool true from hd 5 (by decide) (by kernel_rfl)))
      clear hd hev hin
      simp only [List.getElem_cons_succ, List.getElem_cons_zero]
      clear hl
      refine .inr ⟨rfl, fun K' hK => ?_⟩
      have HK := Lib.hid hK
      clear hK
      go_simp
      exact HK.out (.bool true) _ hJ rfl vkL_same
    · skip
      have x50 : A.tmps[50]? = some (.bool true) := (hin 6 50 rfl).trans (congrArg some (show u 6 = .bool true from hd 6 (by decide) (by kernel_rfl)))
      clear hd hev hin
      simp only [List.getElem_cons_succ, List.getElem_cons_zero]
      clear hl
      refine .inr ⟨rfl, fun K' hK => ?_⟩
      have HK := Lib.hid hK
      clear hK
      go_simp
      exact HK.out (.bool true) _ hJ rfl vkL_same
    · skip
      have x6 : A.tmps[6]? = some (.pointer (some ⟨b3, 0, none⟩)) := (hev 6 (by decide)).trans rfl
      have y7 : A.tmps[51]? = some (.bool true) := (hin 7 51 rfl).trans (congrArg some (show u 7 = .bool true from hd 7 (by decide) (by kernel_rfl)))
      clear hd hev hin
      simp only [List.getElem_cons_succ, List.getElem_cons_zero]
      clear hl
      refine .inr ⟨?_, fun K' hK => ?_⟩
      · simp [Region.wanted, yielded, y7]
      clear y7
      have HK := Lib.hid hK
      clear hK
      have f1_0 := (hJ.bl.at' (b3, c) (.tail _ (.head _))).cells.1
      have f1_1 := (hJ.bl.at' (b3, c) (.tail _ (.head _))).cells.2.1
      have f1_2 := (hJ.bl.at' (b3, c) (.tail _ (.head _))).cells.2.2.1
      go_simp
      exact HK.out (.agg #[.int .i64 c.lo, .int .i64 c.hi, .bool c.all]) _ hJ rfl vkL_same
    · skip
      have x7 : A.tmps[7]? = some (.pointer (some ⟨b4, 0, none⟩)) := (hev 7 (by decide)).trans rfl
      have y7 : A.tmps[51]? = some (.bool true) := (hin 7 51 rfl).trans (congrArg some (show u 7 = .bool true from hd 7 (by decide) (by kernel_rfl)))
      clear hd hev hin
      simp only [List.getElem_cons_succ, List.getElem_cons_zero]
      clear hl
      refine .inr ⟨?_, fun K' hK => ?_⟩
      · simp [Region.wanted, yielded, y7]
      clear y7
      have HK := Lib.hid hK
      clear hK
      have f0_0 := (hJ.bl.at' (b4, c) (.head _)).cells.1
      have f0_1 := (hJ.bl.at' (b4, c) (.head _)).cells.2.1
      have f0_2 := (hJ.bl.at' (b4, c) (.head _)).cells.2.2.1
      go_simp
      exact HK.out (.agg #[.int .i64 c.lo, .int .i64 c.hi, .bool c.all]) _ hJ rfl vkL_same
    · skip
      have x52 : A.tmps[52]? = some (.agg #[.int .i64 c.lo, .int .i64 c.hi, .bool c.all]) := (hin 8 52 rfl).trans (congrArg some (show u 8 = .agg #[.int .i64 c.lo, .int .i64 c.hi, .bool c.all] from hd 8 (by decide) (by kernel_rfl)))
      have x53 : A.tmps[53]? = some (.agg #[.int .i64 c.lo, .int .i64 c.hi, .bool c.all]) := (hin 9 53 rfl).trans (congrArg some (show u 9 = .agg #[.int .i64 c.lo, .int .i64 c.hi, .bool c.all] from hd 9 (by decide) (by kernel_rfl)))
      have y7 : A.tmps[51]? = some (.bool true) := (hin 7 51 rfl).trans (congrArg some (show u 7 = .bool true from hd 7 (by decide) (by kernel_rfl)))
      clear hd hev hin
      simp only [List.getElem_cons_succ, List.getElem_cons_zero]
      clear hl
      refine .inr ⟨?_, fun K' hK => ?_⟩
      · simp [Region.wanted, yielded, y7]
      clear y7
      have HK := Lib.hid hK
      clear hK
      go_simp
      exact HK.out (.bool true) _ hJ rfl vkL_same
    · skip
      have x51 : A.tmps[51]? = some (.bool true) := (hin 7 51 rfl).trans (congrArg some (show u 7 = .bool true from hd 7 (by decide) (by kernel_rfl)))
      have x54 : A.tmps[54]? = some (.bool true) := (hin 10 54 rfl).trans (congrArg some (show u 10 = .bool true from hd 10 (by decide) (by kernel_rfl)))
      clear hd hev hin
      simp only [List.getElem_cons_succ, List.getElem_cons_zero]
      clear hl
      refine .inr ⟨rfl, fun K' hK => ?_⟩
      have HK := Lib.hid hK
      clear hK
      go_simp
      exact HK.out (.bool true) _ hJ rfl vkL_same
    · skip
      have x55 : A.tmps[55]? = some (.bool true) := (hin 11 55 rfl).trans (congrArg some (show u 11 = .bool true from hd 11 (by decide) (by kernel_rfl)))
      clear hd hev hin
      simp only [List.getElem_cons_succ, List.getElem_cons_zero]
      clear hl
      refine .inr ⟨rfl, fun K' hK => ?_⟩
      have HK := Lib.hid hK
      clear hK
      go_simp
      exact HK.out (.bool true) _ hJ rfl vkL_same
  intro u W hJm hd
  have e_0 : u 0 = .bool true := hd 0 (by decide)
  have e_1 : u 1 = .bool true := hd 1 (by decide)
  have e_2 : u 2 = .agg #[.int .i64 b.lo, .int .i64 b.hi, .bool b.all] := hd 2 (by decide)
  have e_3 : u 3 = .agg #[.int .i64 a.lo, .int .i64 a.hi, .bool a.all] := hd 3 (by decide)
  have e_4 : u 4 = .agg #[.int .i64 b.lo, .int .i64 b.hi, .bool b.all] := hd 4 (by decide)
  have e_5 : u 5 = .bool true := hd 5 (by decide)
  have e_6 : u 6 = .bool true := hd 6 (by decide)
  have e_7 : u 7 = .bool true := hd 7 (by decide)
  have e_8 : u 8 = .agg #[.int .i64 c.lo, .int .i64 c.hi, .bool c.all] := hd 8 (by decide)
  have e_9 : u 9 = .agg #[.int .i64 c.lo, .int .i64 c.hi, .bool c.all] := hd 9 (by decide)
  have e_10 : u 10 = .bool true := hd 10 (by decide)
  have e_11 : u 11 = .bool true := hd 11 (by decide)
  have e_12 : u 12 = .bool true := hd 12 (by decide)
  clear hd
  simp only [layS, Act.put, List.setIfInBounds_toArray, List.set_cons_succ, List.set_cons_zero, Nat.zero_add, Nat.reduceAdd, List.drop_succ_cons, List.drop_zero, List.drop_nil, e_0, e_1, e_2, e_3, e_4, e_5, e_6, e_7, e_8, e_9, e_10, e_11, e_12]
  clear e_0 e_1 e_2 e_3 e_4 e_5 e_6 e_7 e_8 e_9 e_10 e_11 e_12
  replace hJ := hJm.bl
  clear hM8
  clear hJm
  generalize hZ : W = Z12 at *
  clear hZ
  have hJf := hJ.below
  go_wp2
  go_ret
  exact ⟨rfl, hJf⟩
end Go.Proofs.Ytohdfialnaegcaa
