/- The walk of the law KernAngles. -/
import Derived.Test.YtpahkpcoinbgcaaGr15
import Derived.Test.YtpahkpcoinbgcaaGr16
import Derived.Test.YtpahkpcoinbgcaaGr11
import Derived.Lib.SmallJoins
import Derived.WalkKit
import Derived.ProofKit
import Derived.OpenShut
namespace Go.Proofs.Ytpahkpcoinbgcaa
open Go Go.RowKit
attribute [local go_sem ↓] run_eqlD run_neqD

set_option maxRecDepth 100000 in
set_option maxHeartbeats 12800000 in
theorem Angles_w (x xa xb : Sp) (hHaw : ∀ W : World, Calls Try.prog 28 #[] W (PVal (.bool true) W)) (hHa : ∀ W : World, Calls Try.prog 36 #[.agg #[.int .i64 x.lo, .int .i64 x.hi, .bool x.all]] W (PSp xa W)) (hHb : ∀ W : World, Calls Try.prog 37 #[.agg #[.int .i64 x.lo, .int .i64 x.hi, .bool x.all]] W (PSp xb W)) (hHda : ∀ W : World, Calls Try.prog 29 #[.agg #[.int .i64 xa.lo, .int .i64 xa.hi, .bool xa.all]] W (PDp xa W)) (hHdb : ∀ W : World, Calls Try.prog 29 #[.agg #[.int .i64 xb.lo, .int .i64 xb.hi, .bool xb.all]] W (PDp xb W)) (hHds : ∀ W : World, Calls Try.prog 29 #[.agg #[.int .i64 x.lo, .int .i64 x.hi, .bool x.all]] W (PDp x W)) (hHra : ∀ W : World, Calls Try.prog 38 #[.agg #[.int .i64 x.lo, .int .i64 x.hi, .bool x.all]] W (PDp xa W)) (hHrb : ∀ W : World, Calls Try.prog 39 #[.agg #[.int .i64 x.lo, .int .i64 x.hi, .bool x.all]] W (PDp xb W))  (w : World) : Calls Try.prog 6 #[.agg #[.int .i64 x.lo, .int .i64 x.hi, .bool x.all]] w (PVal (.bool true) w) := by
  have Haw := Lib.hid hHaw
  have Ha := Lib.hid hHa
  have Hb := Lib.hid hHb
  have Hda := Lib.hid hHda
  have Hdb := Lib.hid hHdb
  have Hds := Lib.hid hHds
  have Hra := Lib.hid hHra
  have Hrb := Lib.hid hHrb
  clear hHaw hHa hHb hHda hHdb hHds hHra hHrb
  have hqxa : eqS xa.lo xa.hi xa.all xa.lo xa.hi xa.all = true := eqS_same _ _ _
  have hqxb : eqS xb.lo xb.hi xb.all xb.lo xb.hi xb.all = true := eqS_same _ _ _
  have hJ := cs_nil w
  go_enter Try.func6, Try.ntmps6
  go_wp2_with fail
  replace hJ := hJ.new #[.int .i64 x.lo, .int .i64 x.hi, .bool x.all] 23
  generalize hW0 : (w).alloc (.cells #[.int .i64 x.lo, .int .i64 x.hi, .bool x.all] 23) = V0 at *
  clear hW0
  generalize w.heap.size = b0 at *
  refine (Haw.out _).mono ?_
  rintro e W1 ⟨rfl, hB⟩
  replace hJ := hJ.later hB
  clear hB
  have f0_0 := (cl3 (hJ.at' (b0, #[.int .i64 x.lo, .int .i64 x.hi, .bool x.all], 23) (.head _))).1
  have f0_1 := (cl3 (hJ.at' (b0, #[.int .i64 x.lo, .int .i64 x.hi, .bool x.all], 23) (.head _))).2.1
  have f0_2 := (cl3 (hJ.at' (b0, #[.int .i64 x.lo, .int .i64 x.hi, .bool x.all], 23) (.head _))).2.2.1
  have fl0 : b0 < W1.heap.size := hJ.lt (b0, #[.int .i64 x.lo, .int .i64 x.hi, .bool x.all], 23) (.head _)
  go_wp2_with fail
  refine (Ha.out _).mono ?_
  rintro e W2 ⟨rfl, hB⟩
  replace hJ := hJ.later hB
  clear hB f0_0 f0_1 f0_2 fl0
  go_wp2_with fail
  refine (Hda.out _).mono ?_
  rintro e W3 ⟨rfl, hB⟩
  replace hJ := hJ.later hB
  clear hB
  have f0_0 := (cl3 (hJ.at' (b0, #[.int .i64 x.lo, .int .i64 x.hi, .bool x.all], 23) (.head _))).1
  have f0_1 := (cl3 (hJ.at' (b0, #[.int .i64 x.lo, .int .i64 x.hi, .bool x.all], 23) (.head _))).2.1
  have f0_2 := (cl3 (hJ.at' (b0, #[.int .i64 x.lo, .int .i64 x.hi, .bool x.all], 23) (.head _))).2.2.1
  have fl0 : b0 < W3.heap.size := hJ.lt (b0, #[.int .i64 x.lo, .int .i64 x.hi, .bool x.all], 23) (.head _)
  go_wp2_with fail
  clear f0_0 f0_1 f0_2 fl0
  replace hJ := hJ.new #[.int .i64 xa.lo, .int .i64 xa.hi, .bool xa.all] 25
  generalize hW4 : W3.alloc (.cells #[.int .i64 xa.lo, .int .i64 xa.hi, .bool xa.all] 25) = V4 at *
  clear hW4
  generalize W3.heap.size = b1 at *
  refine (Hb.out _).mono ?_
  rintro e W5 ⟨rfl, hB⟩
  replace hJ := hJ.later hB
  clear hB
  go_wp2_with fail
  refine (Hdb.out _).mono ?_
  rintro e W6 ⟨rfl, hB⟩
  replace hJ := hJ.later hB
  clear hB
  go_wp2
  replace hJ := hJ.new #[.int .i64 xb.lo, .int .i64 xb.hi, .bool xb.all] 25
  generalize hW7 : W6.alloc (.cells #[.int .i64 xb.lo, .int .i64 xb.hi, .bool xb.all] 25) = V7 at *
  clear hW7
  generalize W6.heap.size = b2 at *
  obtain ⟨m4, hm4⟩ : ∃ m, m = V7.heap.size := ⟨_, rfl⟩
  have hM4 := hJ.cm
  rw [← hm4] at hM4
  refine wp_region_z 16 [some 13, some 14, some 15, some 16, some 17, some 18, some 19, some 20, some 21, some 22, some 23, some 24, some 25, some 26, some 27, some 2] (vkL m4 [.eq (.bool true), .eq (.bool true), .eq (.agg #[.int .i64 xa.lo, .int .i64 xa.hi, .bool xa.all]), .eq (.agg #[.int .i64 x.lo, .int .i64 x.hi, .bool x.all]), .eq (.agg #[.int .i64 x.lo, .int .i64 x.hi, .bool x.all]), .eq (.agg #[.int .i64 xa.lo, .int .i64 xa.hi, .bool xa.all]), .eq (.bool true), .eq (.bool true), .eq (.bool true), .eq (.agg #[.int .i64 xb.lo, .int .i64 xb.hi, .bool xb.all]), .eq (.agg #[.int .i64 x.lo, .int .i64 x.hi, .bool x.all]), .eq (.agg #[.int .i64 x.lo, .int .i64 x.hi, .bool x.all]), .eq (.agg #[.int .i64 xb.lo, .int .i64 xb.hi, .bool xb.all]), .eq (.bool true), .eq (.bool true), .eq (.bool true)]) (Cm w m4 [(b2, #[.int .i64 xb.lo, .int .i64 xb.hi, .bool xb.all], 25), (b1, #[.int .i64 xa.lo, .int .i64 xa.hi, .bool xa.all], 25), (b0, #[.int .i64 x.lo, .int .i64 x.hi, .bool x.all], 23)] []) (by kernel_rfl) (by kernel_rfl) (by rfl) (by decide) (by rfl) hM4 ?_ ?_
  · intro i hl hi u W A hJ hd hev hin
    obtain rfl | rfl | rfl | rfl | rfl | rfl | rfl | rfl | rfl | rfl | rfl | rfl | rfl | rfl | rfl | rfl : i = 0 ∨ i = 1 ∨ i = 2 ∨ i = 3 ∨ i = 4 ∨ i = 5 ∨ i = 6 ∨ i = 7 ∨ i = 8 ∨ i = 9 ∨ i = 10 ∨ i = 11 ∨ i = 12 ∨ i = 13 ∨ i = 14 ∨ i = 15 := by omega
    · skip
      have x3 : A.tmps[3]? = some (.bool true) := (hev 3 (by decide)).trans rfl
      clear hd hev hin
      simp only [List.getElem_cons_succ, List.getElem_cons_zero]
      clear hl
      refine .inr ⟨rfl, fun K' hK => ?_⟩
      have HK := Lib.hid hK
      clear hK
      go_simp
      exact HK.out (.bool true) _ hJ rfl vkL_same
    · skip
      have x13 : A.tmps[13]? = some (.bool true) := (hin 0 13 rfl).trans (congrArg some (show u 0 = .bool true from hd 0 (by decide) (by kernel_rfl)))
      clear hd hev hin
      simp only [List.getElem_cons_succ, List.getElem_cons_zero]
      clear hl
      refine .inr ⟨rfl, fun K' hK => ?_⟩
      have HK := Lib.hid hK
      clear hK
      go_simp
      exact HK.out (.bool true) _ hJ rfl vkL_same
    · skip
      have x4 : A.tmps[4]? = some (.pointer (some ⟨b1, 0, none⟩)) := (hev 4 (by decide)).trans rfl
      have y1 : A.tmps[14]? = some (.bool true) := (hin 1 14 rfl).trans (congrArg some (show u 1 = .bool true from hd 1 (by decide) (by kernel_rfl)))
      clear hd hev hin
      simp only [List.getElem_cons_succ, List.getElem_cons_zero]
      clear hl
      refine .inr ⟨?_, fun K' hK => ?_⟩
      · simp [Region.wanted, yielded, y1]
      clear y1
      have HK := Lib.hid hK
      clear hK
      have f1_0 := (cl3 (hJ.cs.at' (b1, #[.int .i64 xa.lo, .int .i64 xa.hi, .bool xa.all], 25) (.tail _ (.head _)))).1
      have f1_1 := (cl3 (hJ.cs.at' (b1, #[.int .i64 xa.lo, .int .i64 xa.hi, .bool xa.all], 25) (.tail _ (.head _)))).2.1
      have f1_2 := (cl3 (hJ.cs.at' (b1, #[.int .i64 xa.lo, .int .i64 xa.hi, .bool xa.all], 25) (.tail _ (.head _)))).2.2.1
      go_simp
      exact HK.out (.agg #[.int .i64 xa.lo, .int .i64 xa.hi, .bool xa.all]) _ hJ rfl vkL_same
    · skip
      have x1 : A.tmps[1]? = some (.pointer (some ⟨b0, 0, none⟩)) := (hev 1 (by decide)).trans rfl
      have y1 : A.tmps[14]? = some (.bool true) := (hin 1 14 rfl).trans (congrArg some (show u 1 = .bool true from hd 1 (by decide) (by kernel_rfl)))
      clear hd hev hin
      simp only [List.getElem_cons_succ, List.getElem_cons_zero]
      clear hl
      refine .inr ⟨?_, fun K' hK => ?_⟩
      · simp [Region.wanted, yielded, y1]
      clear y1
      have HK := Lib.hid hK
      clear hK
      have f2_0 := (cl3 (hJ.cs.at' (b0, #[.int .i64 x.lo, .int .i64 x.hi, .bool x.all], 23) (.tail _ (.tail _ (.head _))))).1
      have f2_1 := (cl3 (hJ.cs.at' (b0, #[.int .i64 x.lo, .int .i64 x.hi, .bool x.all], 23) (.tail _ (.tail _ (.head _))))).2.1
      have f2_2 := (cl3 (hJ.cs.at' (b0, #[.int .i64 x.lo, .int .i64 x.hi, .bool x.all], 23) (.tail _ (.tail _ (.head _))))).2.2.1
      go_simp
      exact HK.out (.agg #[.int .i64 x.lo, .int .i64 x.hi, .bool x.all]) _ hJ rfl vkL_same
    · skip
      have x16 : A.tmps[16]? = some (.agg #[.int .i64 x.lo, .int .i64 x.hi, .bool x.all]) := (hin 3 16 rfl).trans (congrArg some (show u 3 = .agg #[.int .i64 x.lo, .int .i64 x.hi, .bool x.all] from hd 3 (by decide) (by kernel_rfl)))
      have y1 : A.tmps[14]? = some (.bool true) := (hin 1 14 rfl).trans (congrArg some (show u 1 = .bool true from hd 1 (by decide) (by kernel_rfl)))
      clear hd hev hin
      simp only [List.getElem_cons_succ, List.getElem_cons_zero]
      clear hl
      refine .inr ⟨?_, fun K' hK => ?_⟩
      · simp [Region.wanted, yielded, y1]
      clear y1
      have HK := Lib.hid hK
      clear hK
      go_simp
      refine (Hds.out W).mono ?_
      rintro e W' ⟨rfl, hB⟩
      exact HK.out (.agg #[.int .i64 x.lo, .int .i64 x.hi, .bool x.all]) _ (hJ.later hB) rfl (vkL_later hB)
    · skip
      have x17 : A.tmps[17]? = some (.agg #[.int .i64 x.lo, .int .i64 x.hi, .bool x.all]) := (hin 4 17 rfl).trans (congrArg some (show u 4 = .agg #[.int .i64 x.lo, .int .i64 x.hi, .bool x.all] from hd 4 (by decide) (by kernel_rfl)))
      have y1 : A.tmps[14]? = some (.bool true) := (hin 1 14 rfl).trans (congrArg some (show u 1 = .bool true from hd 1 (by decide) (by kernel_rfl)))
      clear hd hev hin
      simp only [List.getElem_cons_succ, List.getElem_cons_zero]
      clear hl
      refine .inr ⟨?_, fun K' hK => ?_⟩
      · simp [Region.wanted, yielded, y1]
      clear y1
      have HK := Lib.hid hK
      clear hK
      go_simp
      refine (Hra.out W).mono ?_
      rintro e W' ⟨rfl, hB⟩
      exact HK.out (.agg #[.int .i64 xa.lo, .int .i64 xa.hi, .bool xa.all]) _ (hJ.later hB) rfl (vkL_later hB)
    · skip
      have x15 : A.tmps[15]? = some (.agg #[.int .i64 xa.lo, .int .i64 xa.hi, .bool xa.all]) := (hin 2 15 rfl).trans (congrArg some (show u 2 = .agg #[.int .i64 xa.lo, .int .i64 xa.hi, .bool xa.all] from hd 2 (by decide) (by kernel_rfl)))
      have x18 : A.tmps[18]? = some (.agg #[.int .i64 xa.lo, .int .i64 xa.hi, .bool xa.all]) := (hin 5 18 rfl).trans (congrArg some (show u 5 = .agg #[.int .i64 xa.lo, .int .i64 xa.hi, .bool xa.all] from hd 5 (by decide) (by kernel_rfl)))
      have y1 : A.tmps[14]? = some (.bool true) := (hin 1 14 rfl).trans (congrArg some (show u 1 = .bool true from hd 1 (by decide) (by kernel_rfl)))
      clear hd hev hin
      simp only [List.getElem_cons_succ, List.getElem_cons_zero]
      clear hl
      refine .inr ⟨?_, fun K' hK => ?_⟩
      · simp [Region.wanted, yielded, y1]
      clear y1
      have HK := Lib.hid hK
      clear hK
      go_simp
      exact HK.out (.bool true) _ hJ rfl vkL_same
    · skip
      have x14 : A.tmps[14]? = some (.bool true) := (hin 1 14 rfl).trans (congrArg some (show u 1 = .bool true from hd 1 (by decide) (by kernel_rfl)))
      have x19 : A.tmps[19]? = some (.bool true) := (hin 6 19 rfl).trans (congrArg some (show u 6 = .bool true from hd 6 (by decide) (by kernel_rfl)))
      clear hd hev hin
      simp only [List.getElem_cons_succ, List.getElem_cons_zero]
      clear hl
      refine .inr ⟨rfl, fun K' hK => ?_⟩
      have HK := Lib.hid hK
      clear hK
      go_simp
      exact HK.out (.bool true) _ hJ rfl vkL_same
    · skip
      have x20 : A.tmps[20]? = some (.bool true) := (hin 7 20 rfl).trans (congrArg some (show u 7 = .bool true from hd 7 (by decide) (by kernel_rfl)))
      clear hd hev hin
      simp only [List.getElem_cons_succ, List.getElem_cons_zero]
      clear hl
      refine .inr ⟨rfl, fun K' hK => ?_⟩
      have HK := Lib.hid hK
      clear hK
      go_simp
      exact HK.out (.bool true) _ hJ rfl vkL_same
    · skip
      have x5 : A.tmps[5]? = some (.pointer (some ⟨b2, 0, none⟩)) := (hev 5 (by decide)).trans rfl
      have y8 : A.tmps[21]? = some (.bool true) := (hin 8 21 rfl).trans (congrArg some (show u 8 = .bool true from hd 8 (by decide) (by kernel_rfl)))
      clear hd hev hin
      simp only [List.getElem_cons_succ, List.getElem_cons_zero]
      clear hl
      refine .inr ⟨?_, fun K' hK => ?_⟩
      · simp [Region.wanted, yielded, y8]
      clear y8
      have HK := Lib.hid hK
      clear hK
      have f0_0 := (cl3 (hJ.cs.at' (b2, #[.int .i64 xb.lo, .int .i64 xb.hi, .bool xb.all], 25) (.head _))).1
      have f0_1 := (cl3 (hJ.cs.at' (b2, #[.int .i64 xb.lo, .int .i64 xb.hi, .bool xb.all], 25) (.head _))).2.1
      have f0_2 := (cl3 (hJ.cs.at' (b2, #[.int .i64 xb.lo, .int .i64 xb.hi, .bool xb.all], 25) (.head _))).2.2.1
      go_simp
      exact HK.out (.agg #[.int .i64 xb.lo, .int .i64 xb.hi, .bool xb.all]) _ hJ rfl vkL_same
    · skip
      have x1 : A.tmps[1]? = some (.pointer (some ⟨b0, 0, none⟩)) := (hev 1 (by decide)).trans rfl
      have y8 : A.tmps[21]? = some (.bool true) := (hin 8 21 rfl).trans (congrArg some (show u 8 = .bool true from hd 8 (by decide) (by kernel_rfl)))
      clear hd hev hin
      simp only [List.getElem_cons_succ, List.getElem_cons_zero]
      clear hl
      refine .inr ⟨?_, fun K' hK => ?_⟩
      · simp [Region.wanted, yielded, y8]
      clear y8
      have HK := Lib.hid hK
      clear hK
      have f2_0 := (cl3 (hJ.cs.at' (b0, #[.int .i64 x.lo, .int .i64 x.hi, .bool x.all], 23) (.tail _ (.tail _ (.head _))))).1
      have f2_1 := (cl3 (hJ.cs.at' (b0, #[.int .i64 x.lo, .int .i64 x.hi, .bool x.all], 23) (.tail _ (.tail _ (.head _))))).2.1
      have f2_2 := (cl3 (hJ.cs.at' (b0, #[.int .i64 x.lo, .int .i64 x.hi, .bool x.all], 23) (.tail _ (.tail _ (.head _))))).2.2.1
      go_simp
      exact HK.out (.agg #[.int .i64 x.lo, .int .i64 x.hi, .bool x.all]) _ hJ rfl vkL_same
    · skip
      have x23 : A.tmps[23]? = some (.agg #[.int .i64 x.lo, .int .i64 x.hi, .bool x.all]) := (hin 10 23 rfl).trans (congrArg some (show u 10 = .agg #[.int .i64 x.lo, .int .i64 x.hi, .bool x.all] from hd 10 (by decide) (by kernel_rfl)))
      have y8 : A.tmps[21]? = some (.bool true) := (hin 8 21 rfl).trans (congrArg some (show u 8 = .bool true from hd 8 (by decide) (by kernel_rfl)))
      clear hd hev hin
      simp only [List.getElem_cons_succ, List.getElem_cons_zero]
      clear hl
      refine .inr ⟨?_, fun K' hK => ?_⟩
      · simp [Region.wanted, yielded, y8]
      clear y8
      have HK := Lib.hid hK
      clear hK
      go_simp
      refine (Hds.out W).mono ?_
      rintro e W' ⟨rfl, hB⟩
      exact HK.out (.agg #[.int .i64 x.lo, .int .i64 x.hi, .bool x.all]) _ (hJ.later hB) rfl (vkL_later hB)
    · skip
      have x24 : A.tmps[24]? = some (.agg #[.int .i64 x.lo, .int .i64 x.hi, .bool x.all]) := (hin 11 24 rfl).trans (congrArg some (show u 11 = .agg #[.int .i64 x.lo, .int .i64 x.hi, .bool x.all] from hd 11 (by decide) (by kernel_rfl)))
      have y8 : A.tmps[21]? = some (.bool true) := (hin 8 21 rfl).trans (congrArg some (show u 8 = .bool true from hd 8 (by decide) (by kernel_rfl)))
      clear hd hev hin
      simp only [List.getElem_cons_succ, List.getElem_cons_zero]
      clear hl
      refine .inr ⟨?_, fun K' hK => ?_⟩
      · simp [Region.wanted, yielded, y8]
      clear y8
      have HK := Lib.hid hK
      clear hK
      go_simp
      refine (Hrb.out W).mono ?_
      rintro e W' ⟨rfl, hB⟩
      exact HK.out (.agg #[.int .i64 xb.lo, .int .i64 xb.hi, .bool xb.all]) _ (hJ.later hB) rfl (vkL_later hB)
    · skip
      have x22 : A.tmps[22]? = some (.agg #[.int .i64 xb.lo, .int .i64 xb.hi, .bool xb.all]) := (hin 9 22 rfl).trans (congrArg some (show u 9 = .agg #[.int .i64 xb.lo, .int .i64 xb.hi, .bool xb.all] from hd 9 (by decide) (by kernel_rfl)))
      have x25 : A.tmps[25]? = some (.agg #[.int .i64 xb.lo, .int .i64 xb.hi, .bool xb.all]) := (hin 12 25 rfl).trans (congrArg some (show u 12 = .agg #[.int .i64 xb.lo, .int .i64 xb.hi, .bool xb.all] from hd 12 (by decide) (by kernel_rfl)))
      have y8 : A.tmps[21]? = some (.bool true) := (hin 8 21 rfl).trans (congrArg some (show u 8 = .bool true from hd 8 (by decide) (by kernel_rfl)))
      clear hd hev hin
      simp only [List.getElem_cons_succ, List.getElem_cons_zero]
      clear hl
      refine .inr ⟨?_, fun K' hK => ?_⟩
      · simp [Region.wanted, yielded, y8]
      clear y8
      have HK := Lib.hid hK
      clear hK
      go_simp
      exact HK.out (.bool true) _ hJ rfl vkL_same
    · skip
      have x21 : A.tmps[21]? = some (.bool true) := (hin 8 21 rfl).trans (congrArg some (show u 8 = .bool true from hd 8 (by decide) (by kernel_rfl)))
      have x26 : A.tmps[26]? = some (.bool true) := (hin 13 26 rfl).trans (congrArg some (show u 13 = .bool true from hd 13 (by decide) (by kernel_rfl)))
      clear hd hev hin
      simp only [List.getElem_cons_succ, List.getElem_cons_zero]
      clear hl
      refine .inr ⟨rfl, fun K' hK => ?_⟩
      have HK := Lib.hid hK
      clear hK
      go_simp
      exact HK.out (.bool true) _ hJ rfl vkL_same
    · skip
      have x27 : A.tmps[27]? = some (.bool true) := (hin 14 27 rfl).trans (congrArg some (show u 14 = .bool true from hd 14 (by decide) (by kernel_rfl)))
      clear hd hev hin
      simp only [List.getElem_cons_succ, List.getElem_cons_zero]
      clear hl
      refine .inr ⟨rfl, fun K' hK => ?_⟩
      have HK := Lib.hid hK
      clear hK
      go_simp
      exact HK.out (.bool true) _ hJ rfl vkL_same
  intro u W hJm hd
  have e_0 : u 0 = .bool true := hd 0 (by decide)
  have e_1 : u 1 = .bool true := hd 1 (by decide)
  have e_2 : u 2 = .agg #[.int .i64 xa.lo, .int .i64 xa.hi, .bool xa.all] := hd 2 (by decide)
  have e_3 : u 3 = .agg #[.int .i64 x.lo, .int .i64 x.hi, .bool x.all] := hd 3 (by decide)
  have e_4 : u 4 = .agg #[.int .i64 x.lo, .int .i64 x.hi, .bool x.all] := hd 4 (by decide)
  have e_5 : u 5 = .agg #[.int .i64 xa.lo, .int .i64 xa.hi, .bool xa.all] := hd 5 (by decide)
  have e_6 : u 6 = .bool true := hd 6 (by decide)
  have e_7 : u 7 = .bool true := hd 7 (by decide)
  have e_8 : u 8 = .bool true := hd 8 (by decide)
  have e_9 : u 9 = .agg #[.int .i64 xb.lo, .int .i64 xb.hi, .bool xb.all] := hd 9 (by decide)
  have e_10 : u 10 = .agg #[.int .i64 x.lo, .int .i64 x.hi, .bool x.all] := hd 10 (by decide)
  have e_11 : u 11 = .agg #[.int .i64 x.lo, .int .i64 x.hi, .bool x.all] := hd 11 (by decide)
  have e_12 : u 12 = .agg #[.int .i64 xb.lo, .int .i64 xb.hi, .bool xb.all] := hd 12 (by decide)
  have e_13 : u 13 = .bool true := hd 13 (by decide)
  have e_14 : u 14 = .bool true := hd 14 (by decide)
  have e_15 : u 15 = .bool true := hd 15 (by decide)
  clear hd
  simp only [layS, Act.put, List.setIfInBounds_toArray, List.set_cons_succ, List.set_cons_zero, Nat.zero_add, Nat.reduceAdd, List.drop_succ_cons, List.drop_zero, List.drop_nil, e_0, e_1, e_2, e_3, e_4, e_5, e_6, e_7, e_8, e_9, e_10, e_11, e_12, e_13, e_14, e_15]
  clear e_0 e_1 e_2 e_3 e_4 e_5 e_6 e_7 e_8 e_9 e_10 e_11 e_12 e_13 e_14 e_15
  replace hJ := hJm.cs
  clear hM4
  clear hJm
  generalize hZ : W = Z8 at *
  clear hZ
  have hJf := hJ.below
  go_wp2
  go_ret
  exact ⟨rfl, hJf⟩
theorem KernAngles_any (x : Sp) (w : World) : Calls Try.prog 6 #[.agg #[.int .i64 x.lo, .int .i64 x.hi, .bool x.all]] w (PVal (.bool true) w) :=
  Angles_w x _ _ kawake_any (kSin_any x) (kCos_any x) (kdoc_any _) (kdoc_any _) (kdoc_any x) (rdSin_any x) (rdCos_any x) w
end Go.Proofs.Ytpahkpcoinbgcaa

/- How a span that comes in reads, for the rows of package span's laws. -/
namespace Go.Proofs.Ytpahkpcoinbgcaa
open Go.Joins Go.ChangeShapes Go.WideShapes Go.RowKit Go.Deep

/-- A span, as it reads. -/
def spD {H : Type} (x : Sp) : DataW H := .agg [.lit (.int .i64 x.lo), .lit (.int .i64 x.hi), .lit (.bool x.all)]
section
variable {H : Type} {enc : TypeId × Value → H} {w : World} {base : Nat} {spare : Nat → Bool} {held : Bool}
set_option maxRecDepth 100000 in
theorem open_span {r : Reach} {b0 : Nat} {v : Value} {d : DataW H} {p : List MemPlace} (hv : Value.okWide Try.prog w r b0 23 v) (h : DataW.Trod enc Try.prog w base spare held 23 v d p) :
    ∃ x : Sp, v = .agg #[.int .i64 x.lo, .int .i64 x.hi, .bool x.all] ∧ d = spD x ∧ p = [] ∧ (Lit.int .i64 x.lo).wf = true ∧ (Lit.int .i64 x.hi).wf = true := by
  obtain ⟨v0, v1, v2, y0, y1, y2, n, rfl, rfl, rfl, h0, h1, h2⟩ := open_agg3 Try.underlying23 (by kernel_rfl) (by kernel_rfl) hv h
  obtain ⟨a, ha, rfl, wa⟩ := DataW.trod_int Try.underlying2 h0
  obtain ⟨b, hb, rfl, wb⟩ := DataW.trod_int Try.underlying2 h1
  obtain ⟨c, hc, rfl⟩ := DataW.trod_bool Try.underlying4 h2
  cases ha
  cases hb
  cases hc
  exact ⟨⟨a, b, c⟩, rfl, rfl, rfl, wa, wb⟩
set_option maxRecDepth 100000 in
theorem shut_span {x : Sp} (wa : (Lit.int .i64 x.lo).wf = true) (wb : (Lit.int .i64 x.hi).wf = true) : DataW.Trod enc Try.prog w base spare held 23 (.agg #[.int .i64 x.lo, .int .i64 x.hi, .bool x.all]) (spD x) [] :=
  shut_agg3 (y0 := (.lit (.int .i64 x.lo), [])) (y1 := (.lit (.int .i64 x.hi), [])) (y2 := (.lit (.bool x.all), [])) Try.underlying23 (by kernel_rfl) (by kernel_rfl)
    (field_of_Trod (shut_int Try.underlying2 wa) rfl) (field_of_Trod (shut_int Try.underlying2 wb) rfl) (field_of_Trod (shut_bool Try.underlying4 _) rfl)
end
end Go.Proofs.Ytpahkpcoinbgcaa
