/- The walk of the law KernAdds. -/
import Derived.Test.YtohdfialnaegcaaKe
import Derived.Test.YtohdfialnaegcaaKb
namespace Go.Proofs.Ytohdfialnaegcaa
open Go.RowKit
attribute [local go_sem ↓] run_eqlS run_neqS

set_option maxRecDepth 100000 in
set_option maxHeartbeats 12800000 in
theorem Adds_0 (x y : Int) (hHaw : ∀ W : World, Calls Try.prog 28 #[] W (PVal (.bool true) W)) (d0 : decide (x < -2097152) = true) (w : World) : Calls Try.prog 10 #[.int .i64 x, .int .i64 y] w (PVal (.bool true) w) := by
  have Haw := Lib.hid hHaw
  clear hHaw
  have hJ := bl_nil w
  go_enter Try.func10, Try.ntmps10
  go_wp2_with fail
  refine (Haw.out _).mono ?_
  rintro e W1 ⟨rfl, hB⟩
  replace hJ := hJ.later hB
  clear hB
  have hJf := hJ.below
  go_wp2
  go_ret
  exact ⟨rfl, hJf⟩
set_option maxRecDepth 100000 in
set_option maxHeartbeats 12800000 in
theorem Adds_1 (x y : Int) (hHaw : ∀ W : World, Calls Try.prog 28 #[] W (PVal (.bool true) W)) (d0 : decide (x < -2097152) = false) (d1 : decide (2097152 < x) = true) (w : World) : Calls Try.prog 10 #[.int .i64 x, .int .i64 y] w (PVal (.bool true) w) := by
  have Haw := Lib.hid hHaw
  clear hHaw
  have hJ := bl_nil w
  go_enter Try.func10, Try.ntmps10
  go_wp2_with fail
  refine (Haw.out _).mono ?_
  rintro e W1 ⟨rfl, hB⟩
  replace hJ := hJ.later hB
  clear hB
  have hJf := hJ.below
  go_wp2
  go_ret
  exact ⟨rfl, hJf⟩
set_option maxRecDepth 100000 in
set_option maxHeartbeats 12800000 in
theorem Adds_2 (x y : Int) (hHaw : ∀ W : World, Calls Try.prog 28 #[] W (PVal (.bool true) W)) (d0 : decide (x < -2097152) = false) (d1 : decide (2097152 < x) = false) (d2 : decide (y < -2097152) = true) (w : World) : Calls Try.prog 10 #[.int .i64 x, .int .i64 y] w (PVal (.bool true) w) := by
  have Haw := Lib.hid hHaw
  clear hHaw
  have hJ := bl_nil w
  go_enter Try.func10, Try.ntmps10
  go_wp2_with fail
  refine (Haw.out _).mono ?_
  rintro e W1 ⟨rfl, hB⟩
  replace hJ := hJ.later hB
  clear hB
  have hJf := hJ.below
  go_wp2
  go_ret
  exact ⟨rfl, hJf⟩
set_option maxRecDepth 100000 in
set_option maxHeartbeats 12800000 in
theorem Adds_3 (x y : Int) (hHaw : ∀ W : World, Calls Try.prog 28 #[] W (PVal (.bool true) W)) (d0 : decide (x < -2097152) = false) (d1 : decide (2097152 < x) = false) (d2 : decide (y < -2097152) = false) (d3 : decide (2097152 < y) = true) (w : World) : Calls Try.prog 10 #[.int .i64 x, .int .i64 y] w (PVal (.bool true) w) := by
  have Haw := Lib.hid hHaw
  clear hHaw
  have hJ := bl_nil w
  go_enter Try.func10, Try.ntmps10
  go_wp2_with fail
  refine (Haw.out _).mono ?_
  rintro e W1 ⟨rfl, hB⟩
  replace hJ := hJ.later hB
  clear hB
  have hJf := hJ.below
  go_wp2
  go_ret
  exact ⟨rfl, hJf⟩
set_option maxRecDepth 100000 in
set_option maxHeartbeats 12800000 in
theorem Adds_4 (x y : Int) (a b sa cb ca sb m1 m2 ss m3 m4 cc g sg cg z1 z2 : Sp) (hHaw : ∀ W : World, Calls Try.prog 28 #[] W (PVal (.bool true) W)) (hHa : ∀ W : World, Calls Try.prog 40 #[.int .i64 x, .int .i64 x] W (PSp a W)) (hHb : ∀ W : World, Calls Try.prog 40 #[.int .i64 y, .int .i64 y] W (PSp b W)) (hHsa : ∀ W : World, Calls Try.prog 36 #[.agg #[.int .i64 a.lo, .int .i64 a.hi, .bool a.all]] W (PSp sa W)) (hHcb : ∀ W : World, Calls Try.prog 37 #[.agg #[.int .i64 b.lo, .int .i64 b.hi, .bool b.all]] W (PSp cb W)) (hHca : ∀ W : World, Calls Try.prog 37 #[.agg #[.int .i64 a.lo, .int .i64 a.hi, .bool a.all]] W (PSp ca W)) (hHsb : ∀ W : World, Calls Try.prog 36 #[.agg #[.int .i64 b.lo, .int .i64 b.hi, .bool b.all]] W (PSp sb W)) (hHm1 : ∀ W : World, Calls Try.prog 16 #[.agg #[.int .i64 sa.lo, .int .i64 sa.hi, .bool sa.all], .agg #[.int .i64 cb.lo, .int .i64 cb.hi, .bool cb.all]] W (PSp m1 W)) (hHm2 : ∀ W : World, Calls Try.prog 16 #[.agg #[.int .i64 ca.lo, .int .i64 ca.hi, .bool ca.all], .agg #[.int .i64 sb.lo, .int .i64 sb.hi, .bool sb.all]] W (PSp m2 W)) (hHs : ∀ W : World, Calls Try.prog 14 #[.agg #[.int .i64 m1.lo, .int .i64 m1.hi, .bool m1.all], .agg #[.int .i64 m2.lo, .int .i64 m2.hi, .bool m2.all]] W (PSp ss W)) (hHm3 : ∀ W : World, Calls Try.prog 16 #[.agg #[.int .i64 ca.lo, .int .i64 ca.hi, .bool ca.all], .agg #[.int .i64 cb.lo, .int .i64 cb.hi, .bool cb.all]] W (PSp m3 W)) (hHm4 : ∀ W : World, Calls Try.prog 16 #[.agg #[.int .i64 sa.lo, .int .i64 sa.hi, .bool sa.all], .agg #[.int .i64 sb.lo, .int .i64 sb.hi, .bool sb.all]] W (PSp m4 W)) (hHc : ∀ W : World, Calls Try.prog 15 #[.agg #[.int .i64 m3.lo, .int .i64 m3.hi, .bool m3.all], .agg #[.int .i64 m4.lo, .int .i64 m4.hi, .bool m4.all]] W (PSp cc W)) (hHxy : ∀ W : World, Calls Try.prog 40 #[.int .i64 (x + y), .int .i64 (x + y)] W (PSp g W)) (hHsg : ∀ W : World, Calls Try.prog 36 #[.agg #[.int .i64 g.lo, .int .i64 g.hi, .bool g.all]] W (PSp sg W)) (hHcg : ∀ W : World, Calls Try.prog 37 #[.agg #[.int .i64 g.lo, .int .i64 g.hi, .bool g.all]] W (PSp cg W)) (hHme1 : ∀ W : World, Calls Try.prog 42 #[.agg #[.int .i64 ss.lo, .int .i64 ss.hi, .bool ss.all], .agg #[.int .i64 sg.lo, .int .i64 sg.hi, .bool sg.all]] W (PSp2 z1 true W)) (hHme2 : ∀ W : World, Calls Try.prog 42 #[.agg #[.int .i64 cc.lo, .int .i64 cc.hi, .bool cc.all], .agg #[.int .i64 cg.lo, .int .i64 cg.hi, .bool cg.all]] W (PSp2 z2 true W)) (d0 : decide (x < -2097152) = false) (d1 : decide (2097152 < x) = false) (d2 : decide (y < -2097152) = false) (d3 : decide (2097152 < y) = false) (hw : IntKind.i64.wrap (x + y) = x + y) (w : World) : Calls Try.prog 10 #[.int .i64 x, .int .i64 y] w (PVal (.bool true) w) := by
  have Haw := Lib.hid hHaw
  have Ha := Lib.hid hHa
  have Hb := Lib.hid hHb
  have Hsa := Lib.hid hHsa
  have Hcb := Lib.hid hHcb
  have Hca := Lib.hid hHca
  have Hsb := Lib.hid hHsb
  have Hm1 := Lib.hid hHm1
  have Hm2 := Lib.hid hHm2
  have Hs := Lib.hid hHs
  have Hm3 := Lib.hid hHm3
  have Hm4 := Lib.hid hHm4
  have Hc := Lib.hid hHc
  have Hxy := Lib.hid hHxy
  have Hsg := Lib.hid hHsg
  have Hcg := Lib.hid hHcg
  have Hme1 := Lib.hid hHme1
  have Hme2 := Lib.hid hHme2
  clear hHaw hHa hHb hHsa hHcb hHca hHsb hHm1 hHm2 hHs hHm3 hHm4 hHc hHxy hHsg hHcg hHme1 hHme2
  have hJ := bl_nil w
  go_enter Try.func10, Try.ntmps10
  go_wp2_with fail
  refine (Haw.out _).mono ?_
  rintro e W1 ⟨rfl, hB⟩
  replace hJ := hJ.later hB
  clear hB
  go_wp2_with fail
  refine (Ha.out _).mono ?_
  rintro e W2 ⟨rfl, hB⟩
  replace hJ := hJ.later hB
  clear hB
  go_wp2_with fail
  replace hJ := hJ.new a
  generalize hW3 : W2.alloc (.cells #[.int .i64 a.lo, .int .i64 a.hi, .bool a.all] 23) = V3 at *
  clear hW3
  generalize W2.heap.size = b0 at *
  refine (Hb.out _).mono ?_
  rintro e W4 ⟨rfl, hB⟩
  replace hJ := hJ.later hB
  clear hB
  go_wp2
  replace hJ := hJ.new b
  generalize hW5 : W4.alloc (.cells #[.int .i64 b.lo, .int .i64 b.hi, .bool b.all] 23) = V5 at *
  clear hW5
  generalize W4.heap.size = b1 at *
  obtain ⟨m6, hm6⟩ : ∃ m, m = V5.heap.size := ⟨_, rfl⟩
  have hM6 := hJ.bm
  rw [← hm6] at hM6
  refine wp_region_z 12 [some 36, some 37, some 38, some 39, some 40, some 41, some 42, some 43, some 44, some 45, some 46, some 8] (vkL m6 [.eq (.agg #[.int .i64 a.lo, .int .i64 a.hi, .bool a.all]), .eq (.agg #[.int .i64 sa.lo, .int .i64 sa.hi, .bool sa.all]), .eq (.agg #[.int .i64 b.lo, .int .i64 b.hi, .bool b.all]), .eq (.agg #[.int .i64 cb.lo, .int .i64 cb.hi, .bool cb.all]), .eq (.agg #[.int .i64 m1.lo, .int .i64 m1.hi, .bool m1.all]), .eq (.agg #[.int .i64 a.lo, .int .i64 a.hi, .bool a.all]), .eq (.agg #[.int .i64 ca.lo, .int .i64 ca.hi, .bool ca.all]), .eq (.agg #[.int .i64 b.lo, .int .i64 b.hi, .bool b.all]), .eq (.agg #[.int .i64 sb.lo, .int .i64 sb.hi, .bool sb.all]), .eq (.agg #[.int .i64 m2.lo, .int .i64 m2.hi, .bool m2.all]), .eq (.agg #[.int .i64 ss.lo, .int .i64 ss.hi, .bool ss.all]), .box]) (Bm w m6 [(b1, b), (b0, a)]) (by kernel_rfl) (by kernel_rfl) (by rfl) (by decide) (by rfl) hM6 ?_ ?_
  · intro i hl hi u W A hJ hd hev hin
    obtain rfl | rfl | rfl | rfl | rfl | rfl | rfl | rfl | rfl | rfl | rfl | rfl : i = 0 ∨ i = 1 ∨ i = 2 ∨ i = 3 ∨ i = 4 ∨ i = 5 ∨ i = 6 ∨ i = 7 ∨ i = 8 ∨ i = 9 ∨ i = 10 ∨ i = 11 := by omega
    · skip
      have x6 : A.tmps[6]? = some (.pointer (some ⟨b0, 0, none⟩)) := (hev 6 (by decide)).trans rfl
      clear hd hev hin
      simp only [List.getElem_cons_succ, List.getElem_cons_zero]
      clear hl
      refine .inr ⟨rfl, fun K' hK => ?_⟩
      have HK := Lib.hid hK
      clear hK
      have f1_0 := (hJ.bl.at' (b0, a) (.tail _ (.head _))).cells.1
      have f1_1 := (hJ.bl.at' (b0, a) (.tail _ (.head _))).cells.2.1
      have f1_2 := (hJ.bl.at' (b0, a) (.tail _ (.head _))).cells.2.2.1
      go_simp
      exact HK.out (.agg #[.int .i64 a.lo, .int .i64 a.hi, .bool a.all]) _ hJ rfl vkL_same
    · skip
      have x36 : A.tmps[36]? = some (.agg #[.int .i64 a.lo, .int .i64 a.hi, .bool a.all]) := (hin 0 36 rfl).trans (congrArg some (show u 0 = .agg #[.int .i64 a.lo, .int .i64 a.hi, .bool a.all] from hd 0 (by decide) (by kernel_rfl)))
      clear hd hev hin
      simp only [List.getElem_cons_succ, List.getElem_cons_zero]
      clear hl
      refine .inr ⟨rfl, fun K' hK => ?_⟩
      have HK := Lib.hid hK
      clear hK
      go_simp
      refine (Hsa.out W).mono ?_
      rintro e W' ⟨rfl, hB⟩
      exact HK.out (.agg #[.int .i64 sa.lo, .int .i64 sa.hi, .bool sa.all]) _ (hJ.later hB) rfl (vkL_later hB)
    · skip
      have x7 : A.tmps[7]? = some (.pointer (some ⟨b1, 0, none⟩)) := (hev 7 (by decide)).trans rfl
      clear hd hev hin
      simp only [List.getElem_cons_succ, List.getElem_cons_zero]
      clear hl
      refine .inr ⟨rfl, fun K' hK => ?_⟩
      have HK := Lib.hid hK
      clear hK
      have f0_0 := (hJ.bl.at' (b1, b) (.head _)).cells.1
      have f0_1 := (hJ.bl.at' (b1, b) (.head _)).cells.2.1
      have f0_2 := (hJ.bl.at' (b1, b) (.head _)).cells.2.2.1
      go_simp
      exact HK.out (.agg #[.int .i64 b.lo, .int .i64 b.hi, .bool b.all]) _ hJ rfl vkL_same
    · skip
      have x38 : A.tmps[38]? = some (.agg #[.int .i64 b.lo, .int .i64 b.hi, .bool b.all]) := (hin 2 38 rfl).trans (congrArg some (show u 2 = .agg #[.int .i64 b.lo, .int .i64 b.hi, .bool b.all] from hd 2 (by decide) (by kernel_rfl)))
      clear hd hev hin
      simp only [List.getElem_cons_succ, List.getElem_cons_zero]
      clear hl
      refine .inr ⟨rfl, fun K' hK => ?_⟩
      have HK := Lib.hid hK
      clear hK
      go_simp
      refine (Hcb.out W).mono ?_
      rintro e W' ⟨rfl, hB⟩
      exact HK.out (.agg #[.int .i64 cb.lo, .int .i64 cb.hi, .bool cb.all]) _ (hJ.later hB) rfl (vkL_later hB)
    · skip
      have x37 : A.tmps[37]? = some (.agg #[.int .i64 sa.lo, .int .i64 sa.hi, .bool sa.all]) := (hin 1 37 rfl).trans (congrArg some (show u 1 = .agg #[.int .i64 sa.lo, .int .i64 sa.hi, .bool sa.all] from hd 1 (by decide) (by kernel_rfl)))
      have x39 : A.tmps[39]? = some (.agg #[.int .i64 cb.lo, .int .i64 cb.hi, .bool cb.all]) := (hin 3 39 rfl).trans (congrArg some (show u 3 = .agg #[.int .i64 cb.lo, .int .i64 cb.hi, .bool cb.all] from hd 3 (by decide) (by kernel_rfl)))
      clear hd hev hin
      simp only [List.getElem_cons_succ, List.getElem_cons_zero]
      clear hl
      refine .inr ⟨rfl, fun K' hK => ?_⟩
      have HK := Lib.hid hK
      clear hK
      go_simp
      refine (Hm1.out W).mono ?_
      rintro e W' ⟨rfl, hB⟩
      exact HK.out (.agg #[.int .i64 m1.lo, .int .i64 m1.hi, .bool m1.all]) _ (hJ.later hB) rfl (vkL_later hB)
    · skip
      have x6 : A.tmps[6]? = some (.pointer (some ⟨b0, 0, none⟩)) := (hev 6 (by decide)).trans rfl
      clear hd hev hin
      simp only [List.getElem_cons_succ, List.getElem_cons_zero]
      clear hl
      refine .inr ⟨rfl, fun K' hK => ?_⟩
      have HK := Lib.hid hK
      clear hK
      have f1_0 := (hJ.bl.at' (b0, a) (.tail _ (.head _))).cells.1
      have f1_1 := (hJ.bl.at' (b0, a) (.tail _ (.head _))).cells.2.1
      have f1_2 := (hJ.bl.at' (b0, a) (.tail _ (.head _))).cells.2.2.1
      go_simp
      exact HK.out (.agg #[.int .i64 a.lo, .int .i64 a.hi, .bool a.all]) _ hJ rfl vkL_same
    · skip
      have x41 : A.tmps[41]? = some (.agg #[.int .i64 a.lo, .int .i64 a.hi, .bool a.all]) := (hin 5 41 rfl).trans (congrArg some (show u 5 = .agg #[.int .i64 a.lo, .int .i64 a.hi, .bool a.all] from hd 5 (by decide) (by kernel_rfl)))
      clear hd hev hin
      simp only [List.getElem_cons_succ, List.getElem_cons_zero]
      clear hl
      refine .inr ⟨rfl, fun K' hK => ?_⟩
      have HK := Lib.hid hK
      clear hK
      go_simp
      refine (Hca.out W).mono ?_
      rintro e W' ⟨rfl, hB⟩
      exact HK.out (.agg #[.int .i64 ca.lo, .int .i64 ca.hi, .bool ca.all]) _ (hJ.later hB) rfl (vkL_later hB)
    · skip
      have x7 : A.tmps[7]? = some (.pointer (some ⟨b1, 0, none⟩)) := (hev 7 (by decide)).trans rfl
      clear hd hev hin
      simp only [List.getElem_cons_succ, List.getElem_cons_zero]
      clear hl
      refine .inr ⟨rfl, fun K' hK => ?_⟩
      have HK := Lib.hid hK
      clear hK
      have f0_0 := (hJ.bl.at' (b1, b) (.head _)).cells.1
      have f0_1 := (hJ.bl.at' (b1, b) (.head _)).cells.2.1
      have f0_2 := (hJ.bl.at' (b1, b) (.head _)).cells.2.2.1
      go_simp
      exact HK.out (.agg #[.int .i64 b.lo, .int .i64 b.hi, .bool b.all]) _ hJ rfl vkL_same
    · skip
      have x43 : A.tmps[43]? = some (.agg #[.int .i64 b.lo, .int .i64 b.hi, .bool b.all]) := (hin 7 43 rfl).trans (congrArg some (show u 7 = .agg #[.int .i64 b.lo, .int .i64 b.hi, .bool b.all] from hd 7 (by decide) (by kernel_rfl)))
      clear hd hev hin
      simp only [List.getElem_cons_succ, List.getElem_cons_zero]
      clear hl
      refine .inr ⟨rfl, fun K' hK => ?_⟩
      have HK := Lib.hid hK
      clear hK
      go_simp
      refine (Hsb.out W).mono ?_
      rintro e W' ⟨rfl, hB⟩
      exact HK.out (.agg #[.int .i64 sb.lo, .int .i64 sb.hi, .bool sb.all]) _ (hJ.later hB) rfl (vkL_later hB)
    · skip
      have x42 : A.tmps[42]? = some (.agg #[.int .i64 ca.lo, .int .i64 ca.hi, .bool ca.all]) := (hin 6 42 rfl).trans (congrArg some (show u 6 = .agg #[.int .i64 ca.lo, .int .i64 ca.hi, .bool ca.all] from hd 6 (by decide) (by kernel_rfl)))
      have x44 : A.tmps[44]? = some (.agg #[.int .i64 sb.lo, .int .i64 sb.hi, .bool sb.all]) := (hin 8 44 rfl).trans (congrArg some (show u 8 = .agg #[.int .i64 sb.lo, .int .i64 sb.hi, .bool sb.all] from hd 8 (by decide) (by kernel_rfl)))
      clear hd hev hin
      simp only [List.getElem_cons_succ, List.getElem_cons_zero]
      clear hl
      refine .inr ⟨rfl, fun K' hK => ?_⟩
      have HK := Lib.hid hK
      clear hK
      go_simp
      refine (Hm2.out W).mono ?_
      rintro e W' ⟨rfl, hB⟩
      exact HK.out (.agg #[.int .i64 m2.lo, .int .i64 m2.hi, .bool m2.all]) _ (hJ.later hB) rfl (vkL_later hB)
    · skip
      have x40 : A.tmps[40]? = some (.agg #[.int .i64 m1.lo, .int .i64 m1.hi, .bool m1.all]) := (hin 4 40 rfl).trans (congrArg some (show u 4 = .agg #[.int .i64 m1.lo, .int .i64 m1.hi, .bool m1.all] from hd 4 (by decide) (by kernel_rfl)))
      have x45 : A.tmps[45]? = some (.agg #[.int .i64 m2.lo, .int .i64 m2.hi, .bool m2.all]) := (hin 9 45 rfl).trans (congrArg some (show u 9 = .agg #[.int .i64 m2.lo, .int .i64 m2.hi, .bool m2.all] from hd 9 (by decide) (by kernel_rfl)))
      clear hd hev hin
      simp only [List.getElem_cons_succ, List.getElem_cons_zero]
      clear hl
      refine .inr ⟨rfl, fun K' hK => ?_⟩
      have HK := Lib.hid hK
      clear hK
      go_simp
      refine (Hs.out W).mono ?_
      rintro e W' ⟨rfl, hB⟩
      exact HK.out (.agg #[.int .i64 ss.lo, .int .i64 ss.hi, .bool ss.all]) _ (hJ.later hB) rfl (vkL_later hB)
    · skip
      clear hd hev hin
      simp only [List.getElem_cons_succ, List.getElem_cons_zero]
      clear hl
      refine .inr ⟨rfl, fun K' hK => ?_⟩
      have HK := Lib.hid hK
      clear hK
      go_simp
      exact HK.out (.pointer (some ⟨W.heap.size, 0, none⟩)) _ (hJ.later ((Below.refl _ _).alloc (Nat.le_refl _) _)) (pbox_new hJ.le) (vkL_later ((Below.refl _ _).alloc (Nat.le_refl _) _))
  intro u W hJm hd
  have e_0 : u 0 = .agg #[.int .i64 a.lo, .int .i64 a.hi, .bool a.all] := hd 0 (by decide)
  have e_1 : u 1 = .agg #[.int .i64 sa.lo, .int .i64 sa.hi, .bool sa.all] := hd 1 (by decide)
  have e_2 : u 2 = .agg #[.int .i64 b.lo, .int .i64 b.hi, .bool b.all] := hd 2 (by decide)
  have e_3 : u 3 = .agg #[.int .i64 cb.lo, .int .i64 cb.hi, .bool cb.all] := hd 3 (by decide)
  have e_4 : u 4 = .agg #[.int .i64 m1.lo, .int .i64 m1.hi, .bool m1.all] := hd 4 (by decide)
  have e_5 : u 5 = .agg #[.int .i64 a.lo, .int .i64 a.hi, .bool a.all] := hd 5 (by decide)
  have e_6 : u 6 = .agg #[.int .i64 ca.lo, .int .i64 ca.hi, .bool ca.all] := hd 6 (by decide)
  have e_7 : u 7 = .agg #[.int .i64 b.lo, .int .i64 b.hi, .bool b.all] := hd 7 (by decide)
  have e_8 : u 8 = .agg #[.int .i64 sb.lo, .int .i64 sb.hi, .bool sb.all] := hd 8 (by decide)
  have e_9 : u 9 = .agg #[.int .i64 m2.lo, .int .i64 m2.hi, .bool m2.all] := hd 9 (by decide)
  have e_10 : u 10 = .agg #[.int .i64 ss.lo, .int .i64 ss.hi, .bool ss.all] := hd 10 (by decide)
  obtain ⟨nb6, nx6, e_11, nge6, nB6⟩ := (show Pbox m6 (u 11) W from hd 11 (by decide))
  clear hd
  simp only [layS, Act.put, List.setIfInBounds_toArray, List.set_cons_succ, List.set_cons_zero, Nat.zero_add, Nat.reduceAdd, List.drop_succ_cons, List.drop_zero, List.drop_nil, e_0, e_1, e_2, e_3, e_4, e_5, e_6, e_7, e_8, e_9, e_10, e_11]
  clear e_0 e_1 e_2 e_3 e_4 e_5 e_6 e_7 e_8 e_9 e_10 e_11
  replace hJ := hJm.bl
  clear hM6
  have nc0 := nB6.cells.1
  have nc1 := nB6.cells.2.1
  have nc2 := nB6.cells.2.2.1
  have nc3 := nB6.cells.2.2.2.1
  have nc4 := nB6.cells.2.2.2.2.1
  have nc5 := nB6.cells.2.2.2.2.2
  have hN : Bl w (((W.setCell ⟨nb6, 0, none⟩ (.int .i64 ss.lo)).setCell ⟨nb6, 1, none⟩ (.int .i64 ss.hi)).setCell ⟨nb6, 2, none⟩ (.bool ss.all)) ((nb6, ss) :: [(b1, b), (b0, a)]) := bl_put hJm nge6 nB6 ss
  skip
  clear hJ hJm
  have hJ := hN
  clear hN
  go_wp2
  clear nc0 nc1 nc2 nc3 nc4 nc5 nB6 nge6
  generalize hZ : (((W.setCell ⟨nb6, 0, none⟩ (.int .i64 ss.lo)).setCell ⟨nb6, 1, none⟩ (.int .i64 ss.hi)).setCell ⟨nb6, 2, none⟩ (.bool ss.all)) = Z6 at *
  clear hZ
  obtain ⟨m7, hm7⟩ : ∃ m, m = Z6.heap.size := ⟨_, rfl⟩
  have hM7 := hJ.bm
  rw [← hm7] at hM7
  refine wp_region_z 12 [some 47, some 48, some 49, some 50, some 51, some 52, some 53, some 54, some 55, some 56, some 57, some 9] (vkL m7 [.eq (.agg #[.int .i64 a.lo, .int .i64 a.hi, .bool a.all]), .eq (.agg #[.int .i64 ca.lo, .int .i64 ca.hi, .bool ca.all]), .eq (.agg #[.int .i64 b.lo, .int .i64 b.hi, .bool b.all]), .eq (.agg #[.int .i64 cb.lo, .int .i64 cb.hi, .bool cb.all]), .eq (.agg #[.int .i64 m3.lo, .int .i64 m3.hi, .bool m3.all]), .eq (.agg #[.int .i64 a.lo, .int .i64 a.hi, .bool a.all]), .eq (.agg #[.int .i64 sa.lo, .int .i64 sa.hi, .bool sa.all]), .eq (.agg #[.int .i64 b.lo, .int .i64 b.hi, .bool b.all]), .eq (.agg #[.int .i64 sb.lo, .int .i64 sb.hi, .bool sb.all]), .eq (.agg #[.int .i64 m4.lo, .int .i64 m4.hi, .bool m4.all]), .eq (.agg #[.int .i64 cc.lo, .int .i64 cc.hi, .bool cc.all]), .box]) (Bm w m7 [(nb6, ss), (b1, b), (b0, a)]) (by kernel_rfl) (by kernel_rfl) (by rfl) (by decide) (by rfl) hM7 ?_ ?_
  · intro i hl hi u W A hJ hd hev hin
    obtain rfl | rfl | rfl | rfl | rfl | rfl | rfl | rfl | rfl | rfl | rfl | rfl : i = 0 ∨ i = 1 ∨ i = 2 ∨ i = 3 ∨ i = 4 ∨ i = 5 ∨ i = 6 ∨ i = 7 ∨ i = 8 ∨ i = 9 ∨ i = 10 ∨ i = 11 := by omega
    · skip
      have x6 : A.tmps[6]? = some (.pointer (some ⟨b0, 0, none⟩)) := (hev 6 (by decide)).trans rfl
      clear hd hev hin
      simp only [List.getElem_cons_succ, List.getElem_cons_zero]
      clear hl
      refine .inr ⟨rfl, fun K' hK => ?_⟩
      have HK := Lib.hid hK
      clear hK
      have f2_0 := (hJ.bl.at' (b0, a) (.tail _ (.tail _ (.head _)))).cells.1
      have f2_1 := (hJ.bl.at' (b0, a) (.tail _ (.tail _ (.head _)))).cells.2.1
      have f2_2 := (hJ.bl.at' (b0, a) (.tail _ (.tail _ (.head _)))).cells.2.2.1
      go_simp
      exact HK.out (.agg #[.int .i64 a.lo, .int .i64 a.hi, .bool a.all]) _ hJ rfl vkL_same
    · skip
      have x47 : A.tmps[47]? = some (.agg #[.int .i64 a.lo, .int .i64 a.hi, .bool a.all]) := (hin 0 47 rfl).trans (congrArg some (show u 0 = .agg #[.int .i64 a.lo, .int .i64 a.hi, .bool a.all] from hd 0 (by decide) (by kernel_rfl)))
      clear hd hev hin
      simp only [List.getElem_cons_succ, List.getElem_cons_zero]
      clear hl
      refine .inr ⟨rfl, fun K' hK => ?_⟩
      have HK := Lib.hid hK
      clear hK
      go_simp
      refine (Hca.out W).mono ?_
      rintro e W' ⟨rfl, hB⟩
      exact HK.out (.agg #[.int .i64 ca.lo, .int .i64 ca.hi, .bool ca.all]) _ (hJ.later hB) rfl (vkL_later hB)
    · skip
      have x7 : A.tmps[7]? = some (.pointer (some ⟨b1, 0, none⟩)) := (hev 7 (by decide)).trans rfl
      clear hd hev hin
      simp only [List.getElem_cons_succ, List.getElem_cons_zero]
      clear hl
      refine .inr ⟨rfl, fun K' hK => ?_⟩
      have HK := Lib.hid hK
      clear hK
      have f1_0 := (hJ.bl.at' (b1, b) (.tail _ (.head _))).cells.1
      have f1_1 := (hJ.bl.at' (b1, b) (.tail _ (.head _))).cells.2.1
      have f1_2 := (hJ.bl.at' (b1, b) (.tail _ (.head _))).cells.2.2.1
      go_simp
      exact HK.out (.agg #[.int .i64 b.lo, .int .i64 b.hi, .bool b.all]) _ hJ rfl vkL_same
    · skip
      have x49 : A.tmps[49]? = some (.agg #[.int .i64 b.lo, .int .i64 b.hi, .bool b.all]) := (hin 2 49 rfl).trans (congrArg some (show u 2 = .agg #[.int .i64 b.lo, .int .i64 b.hi, .bool b.all] from hd 2 (by decide) (by kernel_rfl)))
      clear hd hev hin
      simp only [List.getElem_cons_succ, List.getElem_cons_zero]
      clear hl
      refine .inr ⟨rfl, fun K' hK => ?_⟩
      have HK := Lib.hid hK
      clear hK
      go_simp
      refine (Hcb.out W).mono ?_
      rintro e W' ⟨rfl, hB⟩
      exact HK.out (.agg #[.int .i64 cb.lo, .int .i64 cb.hi, .bool cb.all]) _ (hJ.later hB) rfl (vkL_later hB)
    · skip
      have x48 : A.tmps[48]? = some (.agg #[.int .i64 ca.lo, .int .i64 ca.hi, .bool ca.all]) := (hin 1 48 rfl).trans (congrArg some (show u 1 = .agg #[.int .i64 ca.lo, .int .i64 ca.hi, .bool ca.all] from hd 1 (by decide) (by kernel_rfl)))
      have x50 : A.tmps[50]? = some (.agg #[.int .i64 cb.lo, .int .i64 cb.hi, .bool cb.all]) := (hin 3 50 rfl).trans (congrArg some (show u 3 = .agg #[.int .i64 cb.lo, .int .i64 cb.hi, .bool cb.all] from hd 3 (by decide) (by kernel_rfl)))
      clear hd hev hin
      simp only [List.getElem_cons_succ, List.getElem_cons_zero]
      clear hl
      refine .inr ⟨rfl, fun K' hK => ?_⟩
      have HK := Lib.hid hK
      clear hK
      go_simp
      refine (Hm3.out W).mono ?_
      rintro e W' ⟨rfl, hB⟩
      exact HK.out (.agg #[.int .i64 m3.lo, .int .i64 m3.hi, .bool m3.all]) _ (hJ.later hB) rfl (vkL_later hB)
    · skip
      have x6 : A.tmps[6]? = some (.pointer (some ⟨b0, 0, none⟩)) := (hev 6 (by decide)).trans rfl
      clear hd hev hin
      simp only [List.getElem_cons_succ, List.getElem_cons_zero]
      clear hl
      refine .inr ⟨rfl, fun K' hK => ?_⟩
      have HK := Lib.hid hK
      clear hK
      have f2_0 := (hJ.bl.at' (b0, a) (.tail _ (.tail _ (.head _)))).cells.1
      have f2_1 := (hJ.bl.at' (b0, a) (.tail _ (.tail _ (.head _)))).cells.2.1
      have f2_2 := (hJ.bl.at' (b0, a) (.tail _ (.tail _ (.head _)))).cells.2.2.1
      go_simp
      exact HK.out (.agg #[.int .i64 a.lo, .int .i64 a.hi, .bool a.all]) _ hJ rfl vkL_same
    · skip
      have x52 : A.tmps[52]? = some (.agg #[.int .i64 a.lo, .int .i64 a.hi, .bool a.all]) := (hin 5 52 rfl).trans (congrArg some (show u 5 = .agg #[.int .i64 a.lo, .int .i64 a.hi, .bool a.all] from hd 5 (by decide) (by kernel_rfl)))
      clear hd hev hin
      simp only [List.getElem_cons_succ, List.getElem_cons_zero]
      clear hl
      refine .inr ⟨rfl, fun K' hK => ?_⟩
      have HK := Lib.hid hK
      clear hK
      go_simp
      refine (Hsa.out W).mono ?_
      rintro e W' ⟨rfl, hB⟩
      exact HK.out (.agg #[.int .i64 sa.lo, .int .i64 sa.hi, .bool sa.all]) _ (hJ.later hB) rfl (vkL_later hB)
    · skip
      have x7 : A.tmps[7]? = some (.pointer (some ⟨b1, 0, none⟩)) := (hev 7 (by decide)).trans rfl
      clear hd hev hin
      simp only [List.getElem_cons_succ, List.getElem_cons_zero]
      clear hl
      refine .inr ⟨rfl, fun K' hK => ?_⟩
      have HK := Lib.hid hK
      clear hK
      have f1_0 := (hJ.bl.at' (b1, b) (.tail _ (.head _))).cells.1
      have f1_1 := (hJ.bl.at' (b1, b) (.tail _ (.head _))).cells.2.1
      have f1_2 := (hJ.bl.at' (b1, b) (.tail _ (.head _))).cells.2.2.1
      go_simp
      exact HK.out (.agg #[.int .i64 b.lo, .int .i64 b.hi, .bool b.all]) _ hJ rfl vkL_same
    · skip
      have x54 : A.tmps[54]? = some (.agg #[.int .i64 b.lo, .int .i64 b.hi, .bool b.all]) := (hin 7 54 rfl).trans (congrArg some (show u 7 = .agg #[.int .i64 b.lo, .int .i64 b.hi, .bool b.all] from hd 7 (by decide) (by kernel_rfl)))
      clear hd hev hin
      simp only [List.getElem_cons_succ, List.getElem_cons_zero]
      clear hl
      refine .inr ⟨rfl, fun K' hK => ?_⟩
      have HK := Lib.hid hK
      clear hK
      go_simp
      refine (Hsb.out W).mono ?_
      rintro e W' ⟨rfl, hB⟩
      exact HK.out (.agg #[.int .i64 sb.lo, .int .i64 sb.hi, .bool sb.all]) _ (hJ.later hB) rfl (vkL_later hB)
    · skip
      have x53 : A.tmps[53]? = some (.agg #[.int .i64 sa.lo, .int .i64 sa.hi, .bool sa.all]) := (hin 6 53 rfl).trans (congrArg some (show u 6 = .agg #[.int .i64 sa.lo, .int .i64 sa.hi, .bool sa.all] from hd 6 (by decide) (by kernel_rfl)))
      have x55 : A.tmps[55]? = some (.agg #[.int .i64 sb.lo, .int .i64 sb.hi, .bool sb.all]) := (hin 8 55 rfl).trans (congrArg some (show u 8 = .agg #[.int .i64 sb.lo, .int .i64 sb.hi, .bool sb.all] from hd 8 (by decide) (by kernel_rfl)))
      clear hd hev hin
      simp only [List.getElem_cons_succ, List.getElem_cons_zero]
      clear hl
      refine .inr ⟨rfl, fun K' hK => ?_⟩
      have HK := Lib.hid hK
      clear hK
      go_simp
      refine (Hm4.out W).mono ?_
      rintro e W' ⟨rfl, hB⟩
      exact HK.out (.agg #[.int .i64 m4.lo, .int .i64 m4.hi, .bool m4.all]) _ (hJ.later hB) rfl (vkL_later hB)
    · skip
      have x51 : A.tmps[51]? = some (.agg #[.int .i64 m3.lo, .int .i64 m3.hi, .bool m3.all]) := (hin 4 51 rfl).trans (congrArg some (show u 4 = .agg #[.int .i64 m3.lo, .int .i64 m3.hi, .bool m3.all] from hd 4 (by decide) (by kernel_rfl)))
      have x56 : A.tmps[56]? = some (.agg #[.int .i64 m4.lo, .int .i64 m4.hi, .bool m4.all]) := (hin 9 56 rfl).trans (congrArg some (show u 9 = .agg #[.int .i64 m4.lo, .int .i64 m4.hi, .bool m4.all] from hd 9 (by decide) (by kernel_rfl)))
      clear hd hev hin
      simp only [List.getElem_cons_succ, List.getElem_cons_zero]
      clear hl
      refine .inr ⟨rfl, fun K' hK => ?_⟩
      have HK := Lib.hid hK
      clear hK
      go_simp
      refine (Hc.out W).mono ?_
      rintro e W' ⟨rfl, hB⟩
      exact HK.out (.agg #[.int .i64 cc.lo, .int .i64 cc.hi, .bool cc.all]) _ (hJ.later hB) rfl (vkL_later hB)
    · skip
      clear hd hev hin
      simp only [List.getElem_cons_succ, List.getElem_cons_zero]
      clear hl
      refine .inr ⟨rfl, fun K' hK => ?_⟩
      have HK := Lib.hid hK
      clear hK
      go_simp
      exact HK.out (.pointer (some ⟨W.heap.size, 0, none⟩)) _ (hJ.later ((Below.refl _ _).alloc (Nat.le_refl _) _)) (pbox_new hJ.le) (vkL_later ((Below.refl _ _).alloc (Nat.le_refl _) _))
  intro u W hJm hd
  have e_0 : u 0 = .agg #[.int .i64 a.lo, .int .i64 a.hi, .bool a.all] := hd 0 (by decide)
  have e_1 : u 1 = .agg #[.int .i64 ca.lo, .int .i64 ca.hi, .bool ca.all] := hd 1 (by decide)
  have e_2 : u 2 = .agg #[.int .i64 b.lo, .int .i64 b.hi, .bool b.all] := hd 2 (by decide)
  have e_3 : u 3 = .agg #[.int .i64 cb.lo, .int .i64 cb.hi, .bool cb.all] := hd 3 (by decide)
  have e_4 : u 4 = .agg #[.int .i64 m3.lo, .int .i64 m3.hi, .bool m3.all] := hd 4 (by decide)
  have e_5 : u 5 = .agg #[.int .i64 a.lo, .int .i64 a.hi, .bool a.all] := hd 5 (by decide)
  have e_6 : u 6 = .agg #[.int .i64 sa.lo, .int .i64 sa.hi, .bool sa.all] := hd 6 (by decide)
  have e_7 : u 7 = .agg #[.int .i64 b.lo, .int .i64 b.hi, .bool b.all] := hd 7 (by decide)
  have e_8 : u 8 = .agg #[.int .i64 sb.lo, .int .i64 sb.hi, .bool sb.all] := hd 8 (by decide)
  have e_9 : u 9 = .agg #[.int .i64 m4.lo, .int .i64 m4.hi, .bool m4.all] := hd 9 (by decide)
  have e_10 : u 10 = .agg #[.int .i64 cc.lo, .int .i64 cc.hi, .bool cc.all] := hd 10 (by decide)
  obtain ⟨nb7, nx7, e_11, nge7, nB7⟩ := (show Pbox m7 (u 11) W from hd 11 (by decide))
  clear hd
  simp only [layS, Act.put, List.setIfInBounds_toArray, List.set_cons_succ, List.set_cons_zero, Nat.zero_add, Nat.reduceAdd, List.drop_succ_cons, List.drop_zero, List.drop_nil, e_0, e_1, e_2, e_3, e_4, e_5, e_6, e_7, e_8, e_9, e_10, e_11]
  clear e_0 e_1 e_2 e_3 e_4 e_5 e_6 e_7 e_8 e_9 e_10 e_11
  replace hJ := hJm.bl
  clear hM7
  have nc0 := nB7.cells.1
  have nc1 := nB7.cells.2.1
  have nc2 := nB7.cells.2.2.1
  have nc3 := nB7.cells.2.2.2.1
  have nc4 := nB7.cells.2.2.2.2.1
  have nc5 := nB7.cells.2.2.2.2.2
  have hN : Bl w (((W.setCell ⟨nb7, 0, none⟩ (.int .i64 cc.lo)).setCell ⟨nb7, 1, none⟩ (.int .i64 cc.hi)).setCell ⟨nb7, 2, none⟩ (.bool cc.all)) ((nb7, cc) :: [(nb6, ss), (b1, b), (b0, a)]) := bl_put hJm nge7 nB7 cc
  skip
  clear hJ hJm
  have hJ := hN
  clear hN
  go_wp2
  clear nc0 nc1 nc2 nc3 nc4 nc5 nB7 nge7
  generalize hZ : (((W.setCell ⟨nb7, 0, none⟩ (.int .i64 cc.lo)).setCell ⟨nb7, 1, none⟩ (.int .i64 cc.hi)).setCell ⟨nb7, 2, none⟩ (.bool cc.all)) = Z7 at *
  clear hZ
  obtain ⟨m8, hm8⟩ : ∃ m, m = Z7.heap.size := ⟨_, rfl⟩
  have hM8 := hJ.bm
  rw [← hm8] at hM8
  refine wp_region_z 16 [some 59, some 60, some 61, some 62, some 63, some 64, some 65, some 66, some 67, some 68, some 58, some 69, some 70, some 10, none, some 11] (vkL m8 [.eq (.agg #[.int .i64 ss.lo, .int .i64 ss.hi, .bool ss.all]), .eq (.int .i64 x), .eq (.int .i64 y), .eq (.int .i64 (x + y)), .eq (.int .i64 x), .eq (.int .i64 y), .eq (.int .i64 (x + y)), .eq (.agg #[.int .i64 g.lo, .int .i64 g.hi, .bool g.all]), .eq (.agg #[.int .i64 sg.lo, .int .i64 sg.hi, .bool sg.all]), .eq (.tuple #[.agg #[.int .i64 z1.lo, .int .i64 z1.hi, .bool z1.all], .bool true]), .eq (.tuple #[.agg #[.int .i64 z1.lo, .int .i64 z1.hi, .bool z1.all], .bool true]), .eq (.agg #[.int .i64 z1.lo, .int .i64 z1.hi, .bool z1.all]), .eq (.bool true), .box, .any, .eq (.bool true)]) (Bm w m8 [(nb7, cc), (nb6, ss), (b1, b), (b0, a)]) (by kernel_rfl) (by kernel_rfl) (by rfl) (by decide) (by rfl) hM8 ?_ ?_
  · intro i hl hi u W A hJ hd hev hin
    obtain rfl | rfl | rfl | rfl | rfl | rfl | rfl | rfl | rfl | rfl | rfl | rfl | rfl | rfl | rfl | rfl : i = 0 ∨ i = 1 ∨ i = 2 ∨ i = 3 ∨ i = 4 ∨ i = 5 ∨ i = 6 ∨ i = 7 ∨ i = 8 ∨ i = 9 ∨ i = 10 ∨ i = 11 ∨ i = 12 ∨ i = 13 ∨ i = 14 ∨ i = 15 := by omega
    · skip
      have x8 : A.tmps[8]? = some (.pointer (some ⟨nb6, 0, none⟩)) := (hev 8 (by decide)).trans rfl
      clear hd hev hin
      simp only [List.getElem_cons_succ, List.getElem_cons_zero]
      clear hl
      refine .inr ⟨rfl, fun K' hK => ?_⟩
      have HK := Lib.hid hK
      clear hK
      have f1_0 := (hJ.bl.at' (nb6, ss) (.tail _ (.head _))).cells.1
      have f1_1 := (hJ.bl.at' (nb6, ss) (.tail _ (.head _))).cells.2.1
      have f1_2 := (hJ.bl.at' (nb6, ss) (.tail _ (.head _))).cells.2.2.1
      go_simp
      exact HK.out (.agg #[.int .i64 ss.lo, .int .i64 ss.hi, .bool ss.all]) _ hJ rfl vkL_same
    · skip
      have x0 : A.tmps[0]? = some (.int .i64 x) := (hev 0 (by decide)).trans rfl
      clear hd hev hin
      simp only [List.getElem_cons_succ, List.getElem_cons_zero]
      clear hl
      refine .inr ⟨rfl, fun K' hK => ?_⟩
      have HK := Lib.hid hK
      clear hK
      go_simp
      exact HK.out (.int .i64 x) _ hJ rfl vkL_same
    · skip
      have x1 : A.tmps[1]? = some (.int .i64 y) := (hev 1 (by decide)).trans rfl
      clear hd hev hin
      simp only [List.getElem_cons_succ, List.getElem_cons_zero]
      clear hl
      refine .inr ⟨rfl, fun K' hK => ?_⟩
      have HK := Lib.hid hK
      clear hK
      go_simp
      exact HK.out (.int .i64 y) _ hJ rfl vkL_same
    · skip
      have x60 : A.tmps[60]? = some (.int .i64 x) := (hin 1 60 rfl).trans (congrArg some (show u 1 = .int .i64 x from hd 1 (by decide) (by kernel_rfl)))
      have x61 : A.tmps[61]? = some (.int .i64 y) := (hin 2 61 rfl).trans (congrArg some (show u 2 = .int .i64 y from hd 2 (by decide) (by kernel_rfl)))
      clear hd hev hin
      simp only [List.getElem_cons_succ, List.getElem_cons_zero]
      clear hl
      refine .inr ⟨rfl, fun K' hK => ?_⟩
      have HK := Lib.hid hK
      clear hK
      go_simp
      exact HK.out (.int .i64 (x + y)) _ hJ rfl vkL_same
    · skip
      have x0 : A.tmps[0]? = some (.int .i64 x) := (hev 0 (by decide)).trans rfl
      clear hd hev hin
      simp only [List.getElem_cons_succ, List.getElem_cons_zero]
      clear hl
      refine .inr ⟨rfl, fun K' hK => ?_⟩
      have HK := Lib.hid hK
      clear hK
      go_simp
      exact HK.out (.int .i64 x) _ hJ rfl vkL_same
    · skip
      have x1 : A.tmps[1]? = some (.int .i64 y) := (hev 1 (by decide)).trans rfl
      clear hd hev hin
      simp only [List.getElem_cons_succ, List.getElem_cons_zero]
      clear hl
      refine .inr ⟨rfl, fun K' hK => ?_⟩
      have HK := Lib.hid hK
      clear hK
      go_simp
      exact HK.out (.int .i64 y) _ hJ rfl vkL_same
    · skip
      have x63 : A.tmps[63]? = some (.int .i64 x) := (hin 4 63 rfl).trans (congrArg some (show u 4 = .int .i64 x from hd 4 (by decide) (by kernel_rfl)))
      have x64 : A.tmps[64]? = some (.int .i64 y) := (hin 5 64 rfl).trans (congrArg some (show u 5 = .int .i64 y from hd 5 (by decide) (by kernel_rfl)))
      clear hd hev hin
      simp only [List.getElem_cons_succ, List.getElem_cons_zero]
      clear hl
      refine .inr ⟨rfl, fun K' hK => ?_⟩
      have HK := Lib.hid hK
      clear hK
      go_simp
      exact HK.out (.int .i64 (x + y)) _ hJ rfl vkL_same
    · skip
      have x62 : A.tmps[62]? = some (.int .i64 (x + y)) := (hin 3 62 rfl).trans (congrArg some (show u 3 = .int .i64 (x + y) from hd 3 (by decide) (by kernel_rfl)))
      have x65 : A.tmps[65]? = some (.int .i64 (x + y)) := (hin 6 65 rfl).trans (congrArg some (show u 6 = .int .i64 (x + y) from hd 6 (by decide) (by kernel_rfl)))
      clear hd hev hin
      simp only [List.getElem_cons_succ, List.getElem_cons_zero]
      clear hl
      refine .inr ⟨rfl, fun K' hK => ?_⟩
      have HK := Lib.hid hK
      clear hK
      go_simp
      refine (Hxy.out W).mono ?_
      rintro e W' ⟨rfl, hB⟩
      exact HK.out (.agg #[.int .i64 g.lo, .int .i64 g.hi, .bool g.all]) _ (hJ.later hB) rfl (vkL_later hB)
    · skip
      have x66 : A.tmps[66]? = some (.agg #[.int .i64 g.lo, .int .i64 g.hi, .bool g.all]) := (hin 7 66 rfl).trans (congrArg some (show u 7 = .agg #[.int .i64 g.lo, .int .i64 g.hi, .bool g.all] from hd 7 (by decide) (by kernel_rfl)))
      clear hd hev hin
      simp only [List.getElem_cons_succ, List.getElem_cons_zero]
      clear hl
      refine .inr ⟨rfl, fun K' hK => ?_⟩
      have HK := Lib.hid hK
      clear hK
      go_simp
      refine (Hsg.out W).mono ?_
      rintro e W' ⟨rfl, hB⟩
      exact HK.out (.agg #[.int .i64 sg.lo, .int .i64 sg.hi, .bool sg.all]) _ (hJ.later hB) rfl (vkL_later hB)
    · skip
      have x59 : A.tmps[59]? = some (.agg #[.int .i64 ss.lo, .int .i64 ss.hi, .bool ss.all]) := (hin 0 59 rfl).trans (congrArg some (show u 0 = .agg #[.int .i64 ss.lo, .int .i64 ss.hi, .bool ss.all] from hd 0 (by decide) (by kernel_rfl)))
      have x67 : A.tmps[67]? = some (.agg #[.int .i64 sg.lo, .int .i64 sg.hi, .bool sg.all]) := (hin 8 67 rfl).trans (congrArg some (show u 8 = .agg #[.int .i64 sg.lo, .int .i64 sg.hi, .bool sg.all] from hd 8 (by decide) (by kernel_rfl)))
      clear hd hev hin
      simp only [List.getElem_cons_succ, List.getElem_cons_zero]
      clear hl
      refine .inr ⟨rfl, fun K' hK => ?_⟩
      have HK := Lib.hid hK
      clear hK
      go_simp
      refine (Hme1.out W).mono ?_
      rintro e W' ⟨rfl, hB⟩
      exact HK.out (.tuple #[.agg #[.int .i64 z1.lo, .int .i64 z1.hi, .bool z1.all], .bool true]) _ (hJ.later hB) rfl (vkL_later hB)
    · skip
      have x68 : A.tmps[68]? = some (.tuple #[.agg #[.int .i64 z1.lo, .int .i64 z1.hi, .bool z1.all], .bool true]) := (hin 9 68 rfl).trans (congrArg some (show u 9 = .tuple #[.agg #[.int .i64 z1.lo, .int .i64 z1.hi, .bool z1.all], .bool true] from hd 9 (by decide) (by kernel_rfl)))
      clear hd hev hin
      simp only [List.getElem_cons_succ, List.getElem_cons_zero]
      clear hl
      refine .inr ⟨rfl, fun K' hK => ?_⟩
      have HK := Lib.hid hK
      clear hK
      go_simp
      exact HK.out (.tuple #[.agg #[.int .i64 z1.lo, .int .i64 z1.hi, .bool z1.all], .bool true]) _ hJ rfl vkL_same
    · skip
      have x58 : A.tmps[58]? = some (.tuple #[.agg #[.int .i64 z1.lo, .int .i64 z1.hi, .bool z1.all], .bool true]) := (hin 10 58 rfl).trans (congrArg some (show u 10 = .tuple #[.agg #[.int .i64 z1.lo, .int .i64 z1.hi, .bool z1.all], .bool true] from hd 10 (by decide) (by kernel_rfl)))
      clear hd hev hin
      simp only [List.getElem_cons_succ, List.getElem_cons_zero]
      clear hl
      refine .inr ⟨rfl, fun K' hK => ?_⟩
      have HK := Lib.hid hK
      clear hK
      go_simp
      exact HK.out (.agg #[.int .i64 z1.lo, .int .i64 z1.hi, .bool z1.all]) _ hJ rfl vkL_same
    · skip
      have x58 : A.tmps[58]? = some (.tuple #[.agg #[.int .i64 z1.lo, .int .i64 z1.hi, .bool z1.all], .bool true]) := (hin 10 58 rfl).trans (congrArg some (show u 10 = .tuple #[.agg #[.int .i64 z1.lo, .int .i64 z1.hi, .bool z1.all], .bool true] from hd 10 (by decide) (by kernel_rfl)))
      clear hd hev hin
      simp only [List.getElem_cons_succ, List.getElem_cons_zero]
      clear hl
      refine .inr ⟨rfl, fun K' hK => ?_⟩
      have HK := Lib.hid hK
      clear hK
      go_simp
      exact HK.out (.bool true) _ hJ rfl vkL_same
    · skip
      clear hd hev hin
      simp only [List.getElem_cons_succ, List.getElem_cons_zero]
      clear hl
      refine .inr ⟨rfl, fun K' hK => ?_⟩
      have HK := Lib.hid hK
      clear hK
      go_simp
      exact HK.out (.pointer (some ⟨W.heap.size, 0, none⟩)) _ (hJ.later ((Below.refl _ _).alloc (Nat.le_refl _) _)) (pbox_new hJ.le) (vkL_later ((Below.refl _ _).alloc (Nat.le_refl _) _))
    · skip
      obtain ⟨nb, nx, ne, nge, nB⟩ := (show Pbox m8 (u 13) W from hd 13 (by decide) (by kernel_rfl))
      have x10 : A.tmps[10]? = some (.pointer (some ⟨nb, 0, none⟩)) := (hin 13 10 rfl).trans (congrArg some ne)
      have x69 : A.tmps[69]? = some (.agg #[.int .i64 z1.lo, .int .i64 z1.hi, .bool z1.all]) := (hin 11 69 rfl).trans (congrArg some (show u 11 = .agg #[.int .i64 z1.lo, .int .i64 z1.hi, .bool z1.all] from hd 11 (by decide) (by kernel_rfl)))
      clear hd hev hin
      simp only [List.getElem_cons_succ, List.getElem_cons_zero]
      clear hl
      refine .inr ⟨rfl, fun K' hK => ?_⟩
      have HK := Lib.hid hK
      clear hK
      have nc0 := nB.cells.1
      have nc1 := nB.cells.2.1
      have nc2 := nB.cells.2.2.1
      have nc3 := nB.cells.2.2.2.1
      have nc4 := nB.cells.2.2.2.2.1
      have nc5 := nB.cells.2.2.2.2.2
      go_simp
      exact HK.out undef _ (hJ.far nge _ _ _) trivial (vkL_store nB z1)
    · skip
      have x70 : A.tmps[70]? = some (.bool true) := (hin 12 70 rfl).trans (congrArg some (show u 12 = .bool true from hd 12 (by decide) (by kernel_rfl)))
      clear hd hev hin
      simp only [List.getElem_cons_succ, List.getElem_cons_zero]
      clear hl
      refine .inr ⟨rfl, fun K' hK => ?_⟩
      have HK := Lib.hid hK
      clear hK
      go_simp
      exact HK.out (.bool true) _ hJ rfl vkL_same
  intro u W hJm hd
  have e_0 : u 0 = .agg #[.int .i64 ss.lo, .int .i64 ss.hi, .bool ss.all] := hd 0 (by decide)
  have e_1 : u 1 = .int .i64 x := hd 1 (by decide)
  have e_2 : u 2 = .int .i64 y := hd 2 (by decide)
  have e_3 : u 3 = .int .i64 (x + y) := hd 3 (by decide)
  have e_4 : u 4 = .int .i64 x := hd 4 (by decide)
  have e_5 : u 5 = .int .i64 y := hd 5 (by decide)
  have e_6 : u 6 = .int .i64 (x + y) := hd 6 (by decide)
  have e_7 : u 7 = .agg #[.int .i64 g.lo, .int .i64 g.hi, .bool g.all] := hd 7 (by decide)
  have e_8 : u 8 = .agg #[.int .i64 sg.lo, .int .i64 sg.hi, .bool sg.all] := hd 8 (by decide)
  have e_9 : u 9 = .tuple #[.agg #[.int .i64 z1.lo, .int .i64 z1.hi, .bool z1.all], .bool true] := hd 9 (by decide)
  have e_10 : u 10 = .tuple #[.agg #[.int .i64 z1.lo, .int .i64 z1.hi, .bool z1.all], .bool true] := hd 10 (by decide)
  have e_11 : u 11 = .agg #[.int .i64 z1.lo, .int .i64 z1.hi, .bool z1.all] := hd 11 (by decide)
  have e_12 : u 12 = .bool true := hd 12 (by decide)
  obtain ⟨nb8, nx8, e_13, nge8, nB8⟩ := (show Pbox m8 (u 13) W from hd 13 (by decide))
  have e_15 : u 15 = .bool true := hd 15 (by decide)
  clear hd
  simp only [layS, Act.put, List.setIfInBounds_toArray, List.set_cons_succ, List.set_cons_zero, Nat.zero_add, Nat.reduceAdd, List.drop_succ_cons, List.drop_zero, List.drop_nil, e_0, e_1, e_2, e_3, e_4, e_5, e_6, e_7, e_8, e_9, e_10, e_11, e_12, e_13, e_15]
  clear e_0 e_1 e_2 e_3 e_4 e_5 e_6 e_7 e_8 e_9 e_10 e_11 e_12 e_13 e_15
  replace hJ := hJm.bl
  clear hM8
  clear hJm nge8 nB8
  generalize hZ : W = Z8 at *
  clear hZ
  go_wp2
  obtain ⟨m9, hm9⟩ : ∃ m, m = Z8.heap.size := ⟨_, rfl⟩
  have hM9 := hJ.bm
  rw [← hm9] at hM9
  refine wp_region_z 16 [some 72, some 73, some 74, some 75, some 76, some 77, some 78, some 79, some 80, some 81, some 71, some 82, some 83, some 12, none, some 13] (vkL m9 [.eq (.agg #[.int .i64 cc.lo, .int .i64 cc.hi, .bool cc.all]), .eq (.int .i64 x), .eq (.int .i64 y), .eq (.int .i64 (x + y)), .eq (.int .i64 x), .eq (.int .i64 y), .eq (.int .i64 (x + y)), .eq (.agg #[.int .i64 g.lo, .int .i64 g.hi, .bool g.all]), .eq (.agg #[.int .i64 cg.lo, .int .i64 cg.hi, .bool cg.all]), .eq (.tuple #[.agg #[.int .i64 z2.lo, .int .i64 z2.hi, .bool z2.all], .bool true]), .eq (.tuple #[.agg #[.int .i64 z2.lo, .int .i64 z2.hi, .bool z2.all], .bool true]), .eq (.agg #[.int .i64 z2.lo, .int .i64 z2.hi, .bool z2.all]), .eq (.bool true), .box, .any, .eq (.bool true)]) (Bm w m9 [(nb7, cc), (nb6, ss), (b1, b), (b0, a)]) (by kernel_rfl) (by kernel_rfl) (by rfl) (by decide) (by rfl) hM9 ?_ ?_
  · intro i hl hi u W A hJ hd hev hin
    obtain rfl | rfl | rfl | rfl | rfl | rfl | rfl | rfl | rfl | rfl | rfl | rfl | rfl | rfl | rfl | rfl : i = 0 ∨ i = 1 ∨ i = 2 ∨ i = 3 ∨ i = 4 ∨ i = 5 ∨ i = 6 ∨ i = 7 ∨ i = 8 ∨ i = 9 ∨ i = 10 ∨ i = 11 ∨ i = 12 ∨ i = 13 ∨ i = 14 ∨ i = 15 := by omega
    · skip
      have x9 : A.tmps[9]? = some (.pointer (some ⟨nb7, 0, none⟩)) := (hev 9 (by decide)).trans rfl
      clear hd hev hin
      simp only [List.getElem_cons_succ, List.getElem_cons_zero]
      clear hl
      refine .inr ⟨rfl, fun K' hK => ?_⟩
      have HK := Lib.hid hK
      clear hK
      have f0_0 := (hJ.bl.at' (nb7, cc) (.head _)).cells.1
      have f0_1 := (hJ.bl.at' (nb7, cc) (.head _)).cells.2.1
      have f0_2 := (hJ.bl.at' (nb7, cc) (.head _)).cells.2.2.1
      go_simp
      exact HK.out (.agg #[.int .i64 cc.lo, .int .i64 cc.hi, .bool cc.all]) _ hJ rfl vkL_same
    · skip
      have x0 : A.tmps[0]? = some (.int .i64 x) := (hev 0 (by decide)).trans rfl
      clear hd hev hin
      simp only [List.getElem_cons_succ, List.getElem_cons_zero]
      clear hl
      refine .inr ⟨rfl, fun K' hK => ?_⟩
      have HK := Lib.hid hK
      clear hK
      go_simp
      exact HK.out (.int .i64 x) _ hJ rfl vkL_same
    · skip
      have x1 : A.tmps[1]? = some (.int .i64 y) := (hev 1 (by decide)).trans rfl
      clear hd hev hin
      simp only [List.getElem_cons_succ, List.getElem_cons_zero]
      clear hl
      refine .inr ⟨rfl, fun K' hK => ?_⟩
      have HK := Lib.hid hK
      clear hK
      go_simp
      exact HK.out (.int .i64 y) _ hJ rfl vkL_same
    · skip
      have x73 : A.tmps[73]? = some (.int .i64 x) := (hin 1 73 rfl).trans (congrArg some (show u 1 = .int .i64 x from hd 1 (by decide) (by kernel_rfl)))
      have x74 : A.tmps[74]? = some (.int .i64 y) := (hin 2 74 rfl).trans (congrArg some (show u 2 = .int .i64 y from hd 2 (by decide) (by kernel_rfl)))
      clear hd hev hin
      simp only [List.getElem_cons_succ, List.getElem_cons_zero]
      clear hl
      refine .inr ⟨rfl, fun K' hK => ?_⟩
      have HK := Lib.hid hK
      clear hK
      go_simp
      exact HK.out (.int .i64 (x + y)) _ hJ rfl vkL_same
    · skip
      have x0 : A.tmps[0]? = some (.int .i64 x) := (hev 0 (by decide)).trans rfl
      clear hd hev hin
      simp only [List.getElem_cons_succ, List.getElem_cons_zero]
      clear hl
      refine .inr ⟨rfl, fun K' hK => ?_⟩
      have HK := Lib.hid hK
      clear hK
      go_simp
      exact HK.out (.int .i64 x) _ hJ rfl vkL_same
    · skip
      have x1 : A.tmps[1]? = some (.int .i64 y) := (hev 1 (by decide)).trans rfl
      clear hd hev hin
      simp only [List.getElem_cons_succ, List.getElem_cons_zero]
      clear hl
      refine .inr ⟨rfl, fun K' hK => ?_⟩
      have HK := Lib.hid hK
      clear hK
      go_simp
      exact HK.out (.int .i64 y) _ hJ rfl vkL_same
    · skip
      have x76 : A.tmps[76]? = some (.int .i64 x) := (hin 4 76 rfl).trans (congrArg some (show u 4 = .int .i64 x from hd 4 (by decide) (by kernel_rfl)))
      have x77 : A.tmps[77]? = some (.int .i64 y) := (hin 5 77 rfl).trans (congrArg some (show u 5 = .int .i64 y from hd 5 (by decide) (by kernel_rfl)))
      clear hd hev hin
      simp only [List.getElem_cons_succ, List.getElem_cons_zero]
      clear hl
      refine .inr ⟨rfl, fun K' hK => ?_⟩
      have HK := Lib.hid hK
      clear hK
      go_simp
      exact HK.out (.int .i64 (x + y)) _ hJ rfl vkL_same
    · skip
      have x75 : A.tmps[75]? = some (.int .i64 (x + y)) := (hin 3 75 rfl).trans (congrArg some (show u 3 = .int .i64 (x + y) from hd 3 (by decide) (by kernel_rfl)))
      have x78 : A.tmps[78]? = some (.int .i64 (x + y)) := (hin 6 78 rfl).trans (congrArg some (show u 6 = .int .i64 (x + y) from hd 6 (by decide) (by kernel_rfl)))
      clear hd hev hin
      simp only [List.getElem_cons_succ, List.getElem_cons_zero]
      clear hl
      refine .inr ⟨rfl, fun K' hK => ?_⟩
      have HK := Lib.hid hK
      clear hK
      go_simp
      refine (Hxy.out W).mono ?_
      rintro e W' ⟨rfl, hB⟩
      exact HK.out (.agg #[.int .i64 g.lo, .int .i64 g.hi, .bool g.all]) _ (hJ.later hB) rfl (vkL_later hB)
    · skip
      have x79 : A.tmps[79]? = some (.agg #[.int .i64 g.lo, .int .i64 g.hi, .bool g.all]) := (hin 7 79 rfl).trans (congrArg some (show u 7 = .agg #[.int .i64 g.lo, .int .i64 g.hi, .bool g.all] from hd 7 (by decide) (by kernel_rfl)))
      clear hd hev hin
      simp only [List.getElem_cons_succ, List.getElem_cons_zero]
      clear hl
      refine .inr ⟨rfl, fun K' hK => ?_⟩
      have HK := Lib.hid hK
      clear hK
      go_simp
      refine (Hcg.out W).mono ?_
      rintro e W' ⟨rfl, hB⟩
      exact HK.out (.agg #[.int .i64 cg.lo, .int .i64 cg.hi, .bool cg.all]) _ (hJ.later hB) rfl (vkL_later hB)
    · skip
      have x72 : A.tmps[72]? = some (.agg #[.int .i64 cc.lo, .int .i64 cc.hi, .bool cc.all]) := (hin 0 72 rfl).trans (congrArg some (show u 0 = .agg #[.int .i64 cc.lo, .int .i64 cc.hi, .bool cc.all] from hd 0 (by decide) (by kernel_rfl)))
      have x80 : A.tmps[80]? = some (.agg #[.int .i64 cg.lo, .int .i64 cg.hi, .bool cg.all]) := (hin 8 80 rfl).trans (congrArg some (show u 8 = .agg #[.int .i64 cg.lo, .int .i64 cg.hi, .bool cg.all] from hd 8 (by decide) (by kernel_rfl)))
      clear hd hev hin
      simp only [List.getElem_cons_succ, List.getElem_cons_zero]
      clear hl
      refine .inr ⟨rfl, fun K' hK => ?_⟩
      have HK := Lib.hid hK
      clear hK
      go_simp
      refine (Hme2.out W).mono ?_
      rintro e W' ⟨rfl, hB⟩
      exact HK.out (.tuple #[.agg #[.int .i64 z2.lo, .int .i64 z2.hi, .bool z2.all], .bool true]) _ (hJ.later hB) rfl (vkL_later hB)
    · skip
      have x81 : A.tmps[81]? = some (.tuple #[.agg #[.int .i64 z2.lo, .int .i64 z2.hi, .bool z2.all], .bool true]) := (hin 9 81 rfl).trans (congrArg some (show u 9 = .tuple #[.agg #[.int .i64 z2.lo, .int .i64 z2.hi, .bool z2.all], .bool true] from hd 9 (by decide) (by kernel_rfl)))
      clear hd hev hin
      simp only [List.getElem_cons_succ, List.getElem_cons_zero]
      clear hl
      refine .inr ⟨rfl, fun K' hK => ?_⟩
      have HK := Lib.hid hK
      clear hK
      go_simp
      exact HK.out (.tuple #[.agg #[.int .i64 z2.lo, .int .i64 z2.hi, .bool z2.all], .bool true]) _ hJ rfl vkL_same
    · skip
      have x71 : A.tmps[71]? = some (.tuple #[.agg #[.int .i64 z2.lo, .int .i64 z2.hi, .bool z2.all], .bool true]) := (hin 10 71 rfl).trans (congrArg some (show u 10 = .tuple #[.agg #[.int .i64 z2.lo, .int .i64 z2.hi, .bool z2.all], .bool true] from hd 10 (by decide) (by kernel_rfl)))
      clear hd hev hin
      simp only [List.getElem_cons_succ, List.getElem_cons_zero]
      clear hl
      refine .inr ⟨rfl, fun K' hK => ?_⟩
      have HK := Lib.hid hK
      clear hK
      go_simp
      exact HK.out (.agg #[.int .i64 z2.lo, .int .i64 z2.hi, .bool z2.all]) _ hJ rfl vkL_same
    · skip
      have x71 : A.tmps[71]? = some (.tuple #[.agg #[.int .i64 z2.lo, .int .i64 z2.hi, .bool z2.all], .bool true]) := (hin 10 71 rfl).trans (congrArg some (show u 10 = .tuple #[.agg #[.int .i64 z2.lo, .int .i64 z2.hi, .bool z2.all], .bool true] from hd 10 (by decide) (by kernel_rfl)))
      clear hd hev hin
      simp only [List.getElem_cons_succ, List.getElem_cons_zero]
      clear hl
      refine .inr ⟨rfl, fun K' hK => ?_⟩
      have HK := Lib.hid hK
      clear hK
      go_simp
      exact HK.out (.bool true) _ hJ rfl vkL_same
    · skip
      clear hd hev hin
      simp only [List.getElem_cons_succ, List.getElem_cons_zero]
      clear hl
      refine .inr ⟨rfl, fun K' hK => ?_⟩
      have HK := Lib.hid hK
      clear hK
      go_simp
      exact HK.out (.pointer (some ⟨W.heap.size, 0, none⟩)) _ (hJ.later ((Below.refl _ _).alloc (Nat.le_refl _) _)) (pbox_new hJ.le) (vkL_later ((Below.refl _ _).alloc (Nat.le_refl _) _))
    · skip
      obtain ⟨nb, nx, ne, nge, nB⟩ := (show Pbox m9 (u 13) W from hd 13 (by decide) (by kernel_rfl))
      have x12 : A.tmps[12]? = some (.pointer (some ⟨nb, 0, none⟩)) := (hin 13 12 rfl).trans (congrArg some ne)
      have x82 : A.tmps[82]? = some (.agg #[.int .i64 z2.lo, .int .i64 z2.hi, .bool z2.all]) := (hin 11 82 rfl).trans (congrArg some (show u 11 = .agg #[.int .i64 z2.lo, .int .i64 z2.hi, .bool z2.all] from hd 11 (by decide) (by kernel_rfl)))
      clear hd hev hin
      simp only [List.getElem_cons_succ, List.getElem_cons_zero]
      clear hl
      refine .inr ⟨rfl, fun K' hK => ?_⟩
      have HK := Lib.hid hK
      clear hK
      have nc0 := nB.cells.1
      have nc1 := nB.cells.2.1
      have nc2 := nB.cells.2.2.1
      have nc3 := nB.cells.2.2.2.1
      have nc4 := nB.cells.2.2.2.2.1
      have nc5 := nB.cells.2.2.2.2.2
      go_simp
      exact HK.out undef _ (hJ.far nge _ _ _) trivial (vkL_store nB z2)
    · skip
      have x83 : A.tmps[83]? = some (.bool true) := (hin 12 83 rfl).trans (congrArg some (show u 12 = .bool true from hd 12 (by decide) (by kernel_rfl)))
      clear hd hev hin
      simp only [List.getElem_cons_succ, List.getElem_cons_zero]
      clear hl
      refine .inr ⟨rfl, fun K' hK => ?_⟩
      have HK := Lib.hid hK
      clear hK
      go_simp
      exact HK.out (.bool true) _ hJ rfl vkL_same
  intro u W hJm hd
  have e_0 : u 0 = .agg #[.int .i64 cc.lo, .int .i64 cc.hi, .bool cc.all] := hd 0 (by decide)
  have e_1 : u 1 = .int .i64 x := hd 1 (by decide)
  have e_2 : u 2 = .int .i64 y := hd 2 (by decide)
  have e_3 : u 3 = .int .i64 (x + y) := hd 3 (by decide)
  have e_4 : u 4 = .int .i64 x := hd 4 (by decide)
  have e_5 : u 5 = .int .i64 y := hd 5 (by decide)
  have e_6 : u 6 = .int .i64 (x + y) := hd 6 (by decide)
  have e_7 : u 7 = .agg #[.int .i64 g.lo, .int .i64 g.hi, .bool g.all] := hd 7 (by decide)
  have e_8 : u 8 = .agg #[.int .i64 cg.lo, .int .i64 cg.hi, .bool cg.all] := hd 8 (by decide)
  have e_9 : u 9 = .tuple #[.agg #[.int .i64 z2.lo, .int .i64 z2.hi, .bool z2.all], .bool true] := hd 9 (by decide)
  have e_10 : u 10 = .tuple #[.agg #[.int .i64 z2.lo, .int .i64 z2.hi, .bool z2.all], .bool true] := hd 10 (by decide)
  have e_11 : u 11 = .agg #[.int .i64 z2.lo, .int .i64 z2.hi, .bool z2.all] := hd 11 (by decide)
  have e_12 : u 12 = .bool true := hd 12 (by decide)
  obtain ⟨nb9, nx9, e_13, nge9, nB9⟩ := (show Pbox m9 (u 13) W from hd 13 (by decide))
  have e_15 : u 15 = .bool true := hd 15 (by decide)
  clear hd
  simp only [layS, Act.put, List.setIfInBounds_toArray, List.set_cons_succ, List.set_cons_zero, Nat.zero_add, Nat.reduceAdd, List.drop_succ_cons, List.drop_zero, List.drop_nil, e_0, e_1, e_2, e_3, e_4, e_5, e_6, e_7, e_8, e_9, e_10, e_11, e_12, e_13, e_15]
  clear e_0 e_1 e_2 e_3 e_4 e_5 e_6 e_7 e_8 e_9 e_10 e_11 e_12 e_13 e_15
  replace hJ := hJm.bl
  clear hM9
  clear hJm nge9 nB9
  generalize hZ : W = Z9 at *
  clear hZ
  have hJf := hJ.below
  go_wp2
  go_ret
  exact ⟨rfl, hJf⟩
end Go.Proofs.Ytohdfialnaegcaa
