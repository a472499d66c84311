/- The walk of the law KernCircle. -/
import Derived.Test.YtohdfialnaegcaaKe
import Derived.Test.YtohdfialnaegcaaKb
namespace Go.Proofs.Ytohdfialnaegcaa
open Go.RowKit
attribute [local go_sem ↓] run_eqlS run_neqS

set_option maxRecDepth 100000 in
set_option maxHeartbeats 12800000 in
theorem Circle_w (s x : Int) (p a c c2 a2 m e q sn cs sn2 cs2 e2 : Sp) (hHaw : ∀ W : World, Calls Try.prog 28 #[] W (PVal (.bool true) W)) (hHp : ∀ W : World, Calls Try.prog 40 #[.int .i64 s, .int .i64 s] W (PSp p W)) (hHa : ∀ W : World, Calls Try.prog 30 #[.agg #[.int .i64 p.lo, .int .i64 p.hi, .bool p.all]] W (PSp a W)) (hHc : ∀ W : World, Calls Try.prog 32 #[.agg #[.int .i64 p.lo, .int .i64 p.hi, .bool p.all]] W (PSp c W)) (hHc2 : ∀ W : World, Calls Try.prog 23 #[.agg #[.int .i64 c.lo, .int .i64 c.hi, .bool c.all]] W (PSp c2 W)) (hHa2 : ∀ W : World, Calls Try.prog 23 #[.agg #[.int .i64 a.lo, .int .i64 a.hi, .bool a.all]] W (PSp a2 W)) (hHm : ∀ W : World, Calls Try.prog 16 #[.agg #[.int .i64 p.lo, .int .i64 p.hi, .bool p.all], .agg #[.int .i64 a2.lo, .int .i64 a2.hi, .bool a2.all]] W (PSp m W)) (hHsum : ∀ W : World, Calls Try.prog 14 #[.agg #[.int .i64 c2.lo, .int .i64 c2.hi, .bool c2.all], .agg #[.int .i64 m.lo, .int .i64 m.hi, .bool m.all]] W (PSp e W)) (hHhas : ∀ W : World, Calls Try.prog 41 #[.agg #[.int .i64 e.lo, .int .i64 e.hi, .bool e.all], .int .i64 1048576] W (PVal (.bool true) W)) (hHq : ∀ W : World, Calls Try.prog 40 #[.int .i64 x, .int .i64 x] W (PSp q W)) (hHsn : ∀ W : World, Calls Try.prog 36 #[.agg #[.int .i64 q.lo, .int .i64 q.hi, .bool q.all]] W (PSp sn W)) (hHcs : ∀ W : World, Calls Try.prog 37 #[.agg #[.int .i64 q.lo, .int .i64 q.hi, .bool q.all]] W (PSp cs W)) (hHsn2 : ∀ W : World, Calls Try.prog 23 #[.agg #[.int .i64 sn.lo, .int .i64 sn.hi, .bool sn.all]] W (PSp sn2 W)) (hHcs2 : ∀ W : World, Calls Try.prog 23 #[.agg #[.int .i64 cs.lo, .int .i64 cs.hi, .bool cs.all]] W (PSp cs2 W)) (hHsum2 : ∀ W : World, Calls Try.prog 14 #[.agg #[.int .i64 sn2.lo, .int .i64 sn2.hi, .bool sn2.all], .agg #[.int .i64 cs2.lo, .int .i64 cs2.hi, .bool cs2.all]] W (PSp e2 W)) (hHhas2 : ∀ W : World, Calls Try.prog 41 #[.agg #[.int .i64 e2.lo, .int .i64 e2.hi, .bool e2.all], .int .i64 1048576] W (PVal (.bool true) W))  (w : World) : Calls Try.prog 7 #[.int .i64 s, .int .i64 x] w (PVal (.bool true) w) := by
  have Haw := Lib.hid hHaw
  have Hp := Lib.hid hHp
  have Ha := Lib.hid hHa
  have Hc := Lib.hid hHc
  have Hc2 := Lib.hid hHc2
  have Ha2 := Lib.hid hHa2
  have Hm := Lib.hid hHm
  have Hsum := Lib.hid hHsum
  have Hhas := Lib.hid hHhas
  have Hq := Lib.hid hHq
  have Hsn := Lib.hid hHsn
  have Hcs := Lib.hid hHcs
  have Hsn2 := Lib.hid hHsn2
  have Hcs2 := Lib.hid hHcs2
  have Hsum2 := Lib.hid hHsum2
  have Hhas2 := Lib.hid hHhas2
  clear hHaw hHp hHa hHc hHc2 hHa2 hHm hHsum hHhas hHq hHsn hHcs hHsn2 hHcs2 hHsum2 hHhas2
  have hJ := bl_nil w
  go_enter Try.func7, Try.ntmps7
  go_wp2_with fail
  refine (Haw.out _).mono ?_
  rintro e W1 ⟨rfl, hB⟩
  replace hJ := hJ.later hB
  clear hB
  go_wp2_with fail
  refine (Hp.out _).mono ?_
  rintro e W2 ⟨rfl, hB⟩
  replace hJ := hJ.later hB
  clear hB
  go_wp2_with fail
  replace hJ := hJ.new p
  generalize hW3 : W2.alloc (.cells #[.int .i64 p.lo, .int .i64 p.hi, .bool p.all] 23) = V3 at *
  clear hW3
  generalize W2.heap.size = b0 at *
  refine (Ha.out _).mono ?_
  rintro e W4 ⟨rfl, hB⟩
  replace hJ := hJ.later hB
  clear hB
  have f0_0 := (hJ.at' (b0, p) (.head _)).cells.1
  have f0_1 := (hJ.at' (b0, p) (.head _)).cells.2.1
  have f0_2 := (hJ.at' (b0, p) (.head _)).cells.2.2.1
  have fl0 : b0 < W4.heap.size := hJ.lt (b0, p) (.head _)
  go_wp2_with fail
  clear f0_0 f0_1 f0_2 fl0
  replace hJ := hJ.new a
  generalize hW5 : W4.alloc (.cells #[.int .i64 a.lo, .int .i64 a.hi, .bool a.all] 23) = V5 at *
  clear hW5
  generalize W4.heap.size = b1 at *
  refine (Hc.out _).mono ?_
  rintro e W6 ⟨rfl, hB⟩
  replace hJ := hJ.later hB
  clear hB
  go_wp2
  replace hJ := hJ.new c
  generalize hW7 : W6.alloc (.cells #[.int .i64 c.lo, .int .i64 c.hi, .bool c.all] 23) = V7 at *
  clear hW7
  generalize W6.heap.size = b2 at *
  obtain ⟨m5, hm5⟩ : ∃ m, m = V7.heap.size := ⟨_, rfl⟩
  have hM5 := hJ.bm
  rw [← hm5] at hM5
  refine wp_region_z 9 [some 20, some 21, some 22, some 23, some 24, some 25, some 26, some 27, some 9] (vkL m5 [.eq (.agg #[.int .i64 c.lo, .int .i64 c.hi, .bool c.all]), .eq (.agg #[.int .i64 c2.lo, .int .i64 c2.hi, .bool c2.all]), .eq (.agg #[.int .i64 p.lo, .int .i64 p.hi, .bool p.all]), .eq (.agg #[.int .i64 a.lo, .int .i64 a.hi, .bool a.all]), .eq (.agg #[.int .i64 a2.lo, .int .i64 a2.hi, .bool a2.all]), .eq (.agg #[.int .i64 m.lo, .int .i64 m.hi, .bool m.all]), .eq (.agg #[.int .i64 e.lo, .int .i64 e.hi, .bool e.all]), .eq (.bool true), .eq (.bool true)]) (Bm w m5 [(b2, c), (b1, a), (b0, p)]) (by kernel_rfl) (by kernel_rfl) (by rfl) (by decide) (by rfl) hM5 ?_ ?_
  · intro i hl hi u W A hJ hd hev hin
    obtain rfl | rfl | rfl | rfl | rfl | rfl | rfl | rfl | rfl : i = 0 ∨ i = 1 ∨ i = 2 ∨ i = 3 ∨ i = 4 ∨ i = 5 ∨ i = 6 ∨ i = 7 ∨ i = 8 := by omega
    · skip
      have x8 : A.tmps[8]? = some (.pointer (some ⟨b2, 0, none⟩)) := (hev 8 (by decide)).trans rfl
      clear hd hev hin
      simp only [List.getElem_cons_succ, List.getElem_cons_zero]
      clear hl
      refine .inr ⟨rfl, fun K' hK => ?_⟩
      have HK := Lib.hid hK
      clear hK
      have f0_0 := (hJ.bl.at' (b2, c) (.head _)).cells.1
      have f0_1 := (hJ.bl.at' (b2, c) (.head _)).cells.2.1
      have f0_2 := (hJ.bl.at' (b2, c) (.head _)).cells.2.2.1
      go_simp
      exact HK.out (.agg #[.int .i64 c.lo, .int .i64 c.hi, .bool c.all]) _ hJ rfl vkL_same
    · skip
      have x20 : A.tmps[20]? = some (.agg #[.int .i64 c.lo, .int .i64 c.hi, .bool c.all]) := (hin 0 20 rfl).trans (congrArg some (show u 0 = .agg #[.int .i64 c.lo, .int .i64 c.hi, .bool c.all] from hd 0 (by decide) (by kernel_rfl)))
      clear hd hev hin
      simp only [List.getElem_cons_succ, List.getElem_cons_zero]
      clear hl
      refine .inr ⟨rfl, fun K' hK => ?_⟩
      have HK := Lib.hid hK
      clear hK
      go_simp
      refine (Hc2.out W).mono ?_
      rintro e W' ⟨rfl, hB⟩
      exact HK.out (.agg #[.int .i64 c2.lo, .int .i64 c2.hi, .bool c2.all]) _ (hJ.later hB) rfl (vkL_later hB)
    · skip
      have x6 : A.tmps[6]? = some (.pointer (some ⟨b0, 0, none⟩)) := (hev 6 (by decide)).trans rfl
      clear hd hev hin
      simp only [List.getElem_cons_succ, List.getElem_cons_zero]
      clear hl
      refine .inr ⟨rfl, fun K' hK => ?_⟩
      have HK := Lib.hid hK
      clear hK
      have f2_0 := (hJ.bl.at' (b0, p) (.tail _ (.tail _ (.head _)))).cells.1
      have f2_1 := (hJ.bl.at' (b0, p) (.tail _ (.tail _ (.head _)))).cells.2.1
      have f2_2 := (hJ.bl.at' (b0, p) (.tail _ (.tail _ (.head _)))).cells.2.2.1
      go_simp
      exact HK.out (.agg #[.int .i64 p.lo, .int .i64 p.hi, .bool p.all]) _ hJ rfl vkL_same
    · skip
      have x7 : A.tmps[7]? = some (.pointer (some ⟨b1, 0, none⟩)) := (hev 7 (by decide)).trans rfl
      clear hd hev hin
      simp only [List.getElem_cons_succ, List.getElem_cons_zero]
      clear hl
      refine .inr ⟨rfl, fun K' hK => ?_⟩
      have HK := Lib.hid hK
      clear hK
      have f1_0 := (hJ.bl.at' (b1, a) (.tail _ (.head _))).cells.1
      have f1_1 := (hJ.bl.at' (b1, a) (.tail _ (.head _))).cells.2.1
      have f1_2 := (hJ.bl.at' (b1, a) (.tail _ (.head _))).cells.2.2.1
      go_simp
      exact HK.out (.agg #[.int .i64 a.lo, .int .i64 a.hi, .bool a.all]) _ hJ rfl vkL_same
    · skip
      have x23 : A.tmps[23]? = some (.agg #[.int .i64 a.lo, .int .i64 a.hi, .bool a.all]) := (hin 3 23 rfl).trans (congrArg some (show u 3 = .agg #[.int .i64 a.lo, .int .i64 a.hi, .bool a.all] from hd 3 (by decide) (by kernel_rfl)))
      clear hd hev hin
      simp only [List.getElem_cons_succ, List.getElem_cons_zero]
      clear hl
      refine .inr ⟨rfl, fun K' hK => ?_⟩
      have HK := Lib.hid hK
      clear hK
      go_simp
      refine (Ha2.out W).mono ?_
      rintro e W' ⟨rfl, hB⟩
      exact HK.out (.agg #[.int .i64 a2.lo, .int .i64 a2.hi, .bool a2.all]) _ (hJ.later hB) rfl (vkL_later hB)
    · skip
      have x22 : A.tmps[22]? = some (.agg #[.int .i64 p.lo, .int .i64 p.hi, .bool p.all]) := (hin 2 22 rfl).trans (congrArg some (show u 2 = .agg #[.int .i64 p.lo, .int .i64 p.hi, .bool p.all] from hd 2 (by decide) (by kernel_rfl)))
      have x24 : A.tmps[24]? = some (.agg #[.int .i64 a2.lo, .int .i64 a2.hi, .bool a2.all]) := (hin 4 24 rfl).trans (congrArg some (show u 4 = .agg #[.int .i64 a2.lo, .int .i64 a2.hi, .bool a2.all] from hd 4 (by decide) (by kernel_rfl)))
      clear hd hev hin
      simp only [List.getElem_cons_succ, List.getElem_cons_zero]
      clear hl
      refine .inr ⟨rfl, fun K' hK => ?_⟩
      have HK := Lib.hid hK
      clear hK
      go_simp
      refine (Hm.out W).mono ?_
      rintro e W' ⟨rfl, hB⟩
      exact HK.out (.agg #[.int .i64 m.lo, .int .i64 m.hi, .bool m.all]) _ (hJ.later hB) rfl (vkL_later hB)
    · skip
      have x21 : A.tmps[21]? = some (.agg #[.int .i64 c2.lo, .int .i64 c2.hi, .bool c2.all]) := (hin 1 21 rfl).trans (congrArg some (show u 1 = .agg #[.int .i64 c2.lo, .int .i64 c2.hi, .bool c2.all] from hd 1 (by decide) (by kernel_rfl)))
      have x25 : A.tmps[25]? = some (.agg #[.int .i64 m.lo, .int .i64 m.hi, .bool m.all]) := (hin 5 25 rfl).trans (congrArg some (show u 5 = .agg #[.int .i64 m.lo, .int .i64 m.hi, .bool m.all] from hd 5 (by decide) (by kernel_rfl)))
      clear hd hev hin
      simp only [List.getElem_cons_succ, List.getElem_cons_zero]
      clear hl
      refine .inr ⟨rfl, fun K' hK => ?_⟩
      have HK := Lib.hid hK
      clear hK
      go_simp
      refine (Hsum.out W).mono ?_
      rintro e W' ⟨rfl, hB⟩
      exact HK.out (.agg #[.int .i64 e.lo, .int .i64 e.hi, .bool e.all]) _ (hJ.later hB) rfl (vkL_later hB)
    · skip
      have x26 : A.tmps[26]? = some (.agg #[.int .i64 e.lo, .int .i64 e.hi, .bool e.all]) := (hin 6 26 rfl).trans (congrArg some (show u 6 = .agg #[.int .i64 e.lo, .int .i64 e.hi, .bool e.all] from hd 6 (by decide) (by kernel_rfl)))
      clear hd hev hin
      simp only [List.getElem_cons_succ, List.getElem_cons_zero]
      clear hl
      refine .inr ⟨rfl, fun K' hK => ?_⟩
      have HK := Lib.hid hK
      clear hK
      go_simp
      refine (Hhas.out W).mono ?_
      rintro e W' ⟨rfl, hB⟩
      exact HK.out (.bool true) _ (hJ.later hB) rfl (vkL_later hB)
    · skip
      have x27 : A.tmps[27]? = some (.bool true) := (hin 7 27 rfl).trans (congrArg some (show u 7 = .bool true from hd 7 (by decide) (by kernel_rfl)))
      clear hd hev hin
      simp only [List.getElem_cons_succ, List.getElem_cons_zero]
      clear hl
      refine .inr ⟨rfl, fun K' hK => ?_⟩
      have HK := Lib.hid hK
      clear hK
      go_simp
      exact HK.out (.bool true) _ hJ rfl vkL_same
  intro u W hJm hd
  have e_0 : u 0 = .agg #[.int .i64 c.lo, .int .i64 c.hi, .bool c.all] := hd 0 (by decide)
  have e_1 : u 1 = .agg #[.int .i64 c2.lo, .int .i64 c2.hi, .bool c2.all] := hd 1 (by decide)
  have e_2 : u 2 = .agg #[.int .i64 p.lo, .int .i64 p.hi, .bool p.all] := hd 2 (by decide)
  have e_3 : u 3 = .agg #[.int .i64 a.lo, .int .i64 a.hi, .bool a.all] := hd 3 (by decide)
  have e_4 : u 4 = .agg #[.int .i64 a2.lo, .int .i64 a2.hi, .bool a2.all] := hd 4 (by decide)
  have e_5 : u 5 = .agg #[.int .i64 m.lo, .int .i64 m.hi, .bool m.all] := hd 5 (by decide)
  have e_6 : u 6 = .agg #[.int .i64 e.lo, .int .i64 e.hi, .bool e.all] := hd 6 (by decide)
  have e_7 : u 7 = .bool true := hd 7 (by decide)
  have e_8 : u 8 = .bool true := hd 8 (by decide)
  clear hd
  simp only [layS, Act.put, List.setIfInBounds_toArray, List.set_cons_succ, List.set_cons_zero, Nat.zero_add, Nat.reduceAdd, List.drop_succ_cons, List.drop_zero, List.drop_nil, e_0, e_1, e_2, e_3, e_4, e_5, e_6, e_7, e_8]
  clear e_0 e_1 e_2 e_3 e_4 e_5 e_6 e_7 e_8
  replace hJ := hJm.bl
  clear hM5
  clear hJm
  generalize hZ : W = Z8 at *
  clear hZ
  go_wp2_with fail
  refine (Hq.out _).mono ?_
  rintro e W9 ⟨rfl, hB⟩
  replace hJ := hJ.later hB
  clear hB
  go_wp2
  replace hJ := hJ.new q
  generalize hW10 : W9.alloc (.cells #[.int .i64 q.lo, .int .i64 q.hi, .bool q.all] 23) = V10 at *
  clear hW10
  generalize W9.heap.size = b3 at *
  obtain ⟨m7, hm7⟩ : ∃ m, m = V10.heap.size := ⟨_, rfl⟩
  have hM7 := hJ.bm
  rw [← hm7] at hM7
  refine wp_region_z 9 [some 31, some 32, some 33, some 34, some 35, some 36, some 37, some 38, some 11] (vkL m7 [.eq (.agg #[.int .i64 q.lo, .int .i64 q.hi, .bool q.all]), .eq (.agg #[.int .i64 sn.lo, .int .i64 sn.hi, .bool sn.all]), .eq (.agg #[.int .i64 sn2.lo, .int .i64 sn2.hi, .bool sn2.all]), .eq (.agg #[.int .i64 q.lo, .int .i64 q.hi, .bool q.all]), .eq (.agg #[.int .i64 cs.lo, .int .i64 cs.hi, .bool cs.all]), .eq (.agg #[.int .i64 cs2.lo, .int .i64 cs2.hi, .bool cs2.all]), .eq (.agg #[.int .i64 e2.lo, .int .i64 e2.hi, .bool e2.all]), .eq (.bool true), .eq (.bool true)]) (Bm w m7 [(b3, q), (b2, c), (b1, a), (b0, p)]) (by kernel_rfl) (by kernel_rfl) (by rfl) (by decide) (by rfl) hM7 ?_ ?_
  · intro i hl hi u W A hJ hd hev hin
    obtain rfl | rfl | rfl | rfl | rfl | rfl | rfl | rfl | rfl : i = 0 ∨ i = 1 ∨ i = 2 ∨ i = 3 ∨ i = 4 ∨ i = 5 ∨ i = 6 ∨ i = 7 ∨ i = 8 := by omega
    · skip
      have x10 : A.tmps[10]? = some (.pointer (some ⟨b3, 0, none⟩)) := (hev 10 (by decide)).trans rfl
      clear hd hev hin
      simp only [List.getElem_cons_succ, List.getElem_cons_zero]
      clear hl
      refine .inr ⟨rfl, fun K' hK => ?_⟩
      have HK := Lib.hid hK
      clear hK
      have f0_0 := (hJ.bl.at' (b3, q) (.head _)).cells.1
      have f0_1 := (hJ.bl.at' (b3, q) (.head _)).cells.2.1
      have f0_2 := (hJ.bl.at' (b3, q) (.head _)).cells.2.2.1
      go_simp
      exact HK.out (.agg #[.int .i64 q.lo, .int .i64 q.hi, .bool q.all]) _ hJ rfl vkL_same
    · skip
      have x31 : A.tmps[31]? = some (.agg #[.int .i64 q.lo, .int .i64 q.hi, .bool q.all]) := (hin 0 31 rfl).trans (congrArg some (show u 0 = .agg #[.int .i64 q.lo, .int .i64 q.hi, .bool q.all] from hd 0 (by decide) (by kernel_rfl)))
      clear hd hev hin
      simp only [List.getElem_cons_succ, List.getElem_cons_zero]
      clear hl
      refine .inr ⟨rfl, fun K' hK => ?_⟩
      have HK := Lib.hid hK
      clear hK
      go_simp
      refine (Hsn.out W).mono ?_
      rintro e W' ⟨rfl, hB⟩
      exact HK.out (.agg #[.int .i64 sn.lo, .int .i64 sn.hi, .bool sn.all]) _ (hJ.later hB) rfl (vkL_later hB)
    · skip
      have x32 : A.tmps[32]? = some (.agg #[.int .i64 sn.lo, .int .i64 sn.hi, .bool sn.all]) := (hin 1 32 rfl).trans (congrArg some (show u 1 = .agg #[.int .i64 sn.lo, .int .i64 sn.hi, .bool sn.all] from hd 1 (by decide) (by kernel_rfl)))
      clear hd hev hin
      simp only [List.getElem_cons_succ, List.getElem_cons_zero]
      clear hl
      refine .inr ⟨rfl, fun K' hK => ?_⟩
      have HK := Lib.hid hK
      clear hK
      go_simp
      refine (Hsn2.out W).mono ?_
      rintro e W' ⟨rfl, hB⟩
      exact HK.out (.agg #[.int .i64 sn2.lo, .int .i64 sn2.hi, .bool sn2.all]) _ (hJ.later hB) rfl (vkL_later hB)
    · skip
      have x10 : A.tmps[10]? = some (.pointer (some ⟨b3, 0, none⟩)) := (hev 10 (by decide)).trans rfl
      clear hd hev hin
      simp only [List.getElem_cons_succ, List.getElem_cons_zero]
      clear hl
      refine .inr ⟨rfl, fun K' hK => ?_⟩
      have HK := Lib.hid hK
      clear hK
      have f0_0 := (hJ.bl.at' (b3, q) (.head _)).cells.1
      have f0_1 := (hJ.bl.at' (b3, q) (.head _)).cells.2.1
      have f0_2 := (hJ.bl.at' (b3, q) (.head _)).cells.2.2.1
      go_simp
      exact HK.out (.agg #[.int .i64 q.lo, .int .i64 q.hi, .bool q.all]) _ hJ rfl vkL_same
    · skip
      have x34 : A.tmps[34]? = some (.agg #[.int .i64 q.lo, .int .i64 q.hi, .bool q.all]) := (hin 3 34 rfl).trans (congrArg some (show u 3 = .agg #[.int .i64 q.lo, .int .i64 q.hi, .bool q.all] from hd 3 (by decide) (by kernel_rfl)))
      clear hd hev hin
      simp only [List.getElem_cons_succ, List.getElem_cons_zero]
      clear hl
      refine .inr ⟨rfl, fun K' hK => ?_⟩
      have HK := Lib.hid hK
      clear hK
      go_simp
      refine (Hcs.out W).mono ?_
      rintro e W' ⟨rfl, hB⟩
      exact HK.out (.agg #[.int .i64 cs.lo, .int .i64 cs.hi, .bool cs.all]) _ (hJ.later hB) rfl (vkL_later hB)
    · skip
      have x35 : A.tmps[35]? = some (.agg #[.int .i64 cs.lo, .int .i64 cs.hi, .bool cs.all]) := (hin 4 35 rfl).trans (congrArg some (show u 4 = .agg #[.int .i64 cs.lo, .int .i64 cs.hi, .bool cs.all] from hd 4 (by decide) (by kernel_rfl)))
      clear hd hev hin
      simp only [List.getElem_cons_succ, List.getElem_cons_zero]
      clear hl
      refine .inr ⟨rfl, fun K' hK => ?_⟩
      have HK := Lib.hid hK
      clear hK
      go_simp
      refine (Hcs2.out W).mono ?_
      rintro e W' ⟨rfl, hB⟩
      exact HK.out (.agg #[.int .i64 cs2.lo, .int .i64 cs2.hi, .bool cs2.all]) _ (hJ.later hB) rfl (vkL_later hB)
    · skip
      have x33 : A.tmps[33]? = some (.agg #[.int .i64 sn2.lo, .int .i64 sn2.hi, .bool sn2.all]) := (hin 2 33 rfl).trans (congrArg some (show u 2 = .agg #[.int .i64 sn2.lo, .int .i64 sn2.hi, .bool sn2.all] from hd 2 (by decide) (by kernel_rfl)))
      have x36 : A.tmps[36]? = some (.agg #[.int .i64 cs2.lo, .int .i64 cs2.hi, .bool cs2.all]) := (hin 5 36 rfl).trans (congrArg some (show u 5 = .agg #[.int .i64 cs2.lo, .int .i64 cs2.hi, .bool cs2.all] from hd 5 (by decide) (by kernel_rfl)))
      clear hd hev hin
      simp only [List.getElem_cons_succ, List.getElem_cons_zero]
      clear hl
      refine .inr ⟨rfl, fun K' hK => ?_⟩
      have HK := Lib.hid hK
      clear hK
      go_simp
      refine (Hsum2.out W).mono ?_
      rintro e W' ⟨rfl, hB⟩
      exact HK.out (.agg #[.int .i64 e2.lo, .int .i64 e2.hi, .bool e2.all]) _ (hJ.later hB) rfl (vkL_later hB)
    · skip
      have x37 : A.tmps[37]? = some (.agg #[.int .i64 e2.lo, .int .i64 e2.hi, .bool e2.all]) := (hin 6 37 rfl).trans (congrArg some (show u 6 = .agg #[.int .i64 e2.lo, .int .i64 e2.hi, .bool e2.all] from hd 6 (by decide) (by kernel_rfl)))
      clear hd hev hin
      simp only [List.getElem_cons_succ, List.getElem_cons_zero]
      clear hl
      refine .inr ⟨rfl, fun K' hK => ?_⟩
      have HK := Lib.hid hK
      clear hK
      go_simp
      refine (Hhas2.out W).mono ?_
      rintro e W' ⟨rfl, hB⟩
      exact HK.out (.bool true) _ (hJ.later hB) rfl (vkL_later hB)
    · skip
      have x38 : A.tmps[38]? = some (.bool true) := (hin 7 38 rfl).trans (congrArg some (show u 7 = .bool true from hd 7 (by decide) (by kernel_rfl)))
      clear hd hev hin
      simp only [List.getElem_cons_succ, List.getElem_cons_zero]
      clear hl
      refine .inr ⟨rfl, fun K' hK => ?_⟩
      have HK := Lib.hid hK
      clear hK
      go_simp
      exact HK.out (.bool true) _ hJ rfl vkL_same
  intro u W hJm hd
  have e_0 : u 0 = .agg #[.int .i64 q.lo, .int .i64 q.hi, .bool q.all] := hd 0 (by decide)
  have e_1 : u 1 = .agg #[.int .i64 sn.lo, .int .i64 sn.hi, .bool sn.all] := hd 1 (by decide)
  have e_2 : u 2 = .agg #[.int .i64 sn2.lo, .int .i64 sn2.hi, .bool sn2.all] := hd 2 (by decide)
  have e_3 : u 3 = .agg #[.int .i64 q.lo, .int .i64 q.hi, .bool q.all] := hd 3 (by decide)
  have e_4 : u 4 = .agg #[.int .i64 cs.lo, .int .i64 cs.hi, .bool cs.all] := hd 4 (by decide)
  have e_5 : u 5 = .agg #[.int .i64 cs2.lo, .int .i64 cs2.hi, .bool cs2.all] := hd 5 (by decide)
  have e_6 : u 6 = .agg #[.int .i64 e2.lo, .int .i64 e2.hi, .bool e2.all] := hd 6 (by decide)
  have e_7 : u 7 = .bool true := hd 7 (by decide)
  have e_8 : u 8 = .bool true := hd 8 (by decide)
  clear hd
  simp only [layS, Act.put, List.setIfInBounds_toArray, List.set_cons_succ, List.set_cons_zero, Nat.zero_add, Nat.reduceAdd, List.drop_succ_cons, List.drop_zero, List.drop_nil, e_0, e_1, e_2, e_3, e_4, e_5, e_6, e_7, e_8]
  clear e_0 e_1 e_2 e_3 e_4 e_5 e_6 e_7 e_8
  replace hJ := hJm.bl
  clear hM7
  clear hJm
  generalize hZ : W = Z11 at *
  clear hZ
  have hJf := hJ.below
  go_wp2
  go_ret
  exact ⟨rfl, hJf⟩
end Go.Proofs.Ytohdfialnaegcaa
