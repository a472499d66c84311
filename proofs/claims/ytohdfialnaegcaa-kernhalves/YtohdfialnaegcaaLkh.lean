/- The walk of the law KernHalves. -/
import Derived.Test.YtohdfialnaegcaaKe
import Derived.Test.YtohdfialnaegcaaKb
namespace Go.Proofs.Ytohdfialnaegcaa
open Go.RowKit
attribute [local go_sem ↓] run_eqlS run_neqS

set_option maxRecDepth 100000 in
set_option maxHeartbeats 12800000 in
theorem Halves_w (s : Int) (p c one b m q z : Sp) (hHaw : ∀ W : World, Calls Try.prog 28 #[] W (PVal (.bool true) W)) (hHp : ∀ W : World, Calls Try.prog 40 #[.int .i64 s, .int .i64 s] W (PSp p W)) (hHc : ∀ W : World, Calls Try.prog 32 #[.agg #[.int .i64 p.lo, .int .i64 p.hi, .bool p.all]] W (PSp c W)) (hHone : ∀ W : World, Calls Try.prog 40 #[.int .i64 1048576, .int .i64 1048576] W (PSp one W)) (hHb : ∀ W : World, Calls Try.prog 31 #[.agg #[.int .i64 p.lo, .int .i64 p.hi, .bool p.all]] W (PSp b W)) (hHm : ∀ W : World, Calls Try.prog 16 #[.agg #[.int .i64 p.lo, .int .i64 p.hi, .bool p.all], .agg #[.int .i64 b.lo, .int .i64 b.hi, .bool b.all]] W (PSp m W)) (hHq : ∀ W : World, Calls Try.prog 15 #[.agg #[.int .i64 one.lo, .int .i64 one.hi, .bool one.all], .agg #[.int .i64 m.lo, .int .i64 m.hi, .bool m.all]] W (PSp q W)) (hHz : ∀ W : World, Calls Try.prog 42 #[.agg #[.int .i64 c.lo, .int .i64 c.hi, .bool c.all], .agg #[.int .i64 q.lo, .int .i64 q.hi, .bool q.all]] W (PSp2 z true W))  (w : World) : Calls Try.prog 8 #[.int .i64 s] w (PVal (.bool true) w) := by
  have Haw := Lib.hid hHaw
  have Hp := Lib.hid hHp
  have Hc := Lib.hid hHc
  have Hone := Lib.hid hHone
  have Hb := Lib.hid hHb
  have Hm := Lib.hid hHm
  have Hq := Lib.hid hHq
  have Hz := Lib.hid hHz
  clear hHaw hHp hHc hHone hHb hHm hHq hHz
  have hJ := bl_nil w
  go_enter Try.func8, Try.ntmps8
  go_wp2_with fail
  refine (Haw.out _).mono ?_
  rintro e W1 ⟨rfl, hB⟩
  replace hJ := hJ.later hB
  clear hB
  go_wp2_with fail
  refine (Hp.out _).mono ?_
  rintro e W2 ⟨rfl, hB⟩
  replace hJ := hJ.later hB
  clear hB
  go_wp2
  replace hJ := hJ.new p
  generalize hW3 : W2.alloc (.cells #[.int .i64 p.lo, .int .i64 p.hi, .bool p.all] 23) = V3 at *
  clear hW3
  generalize W2.heap.size = b0 at *
  obtain ⟨m3, hm3⟩ : ∃ m, m = V3.heap.size := ⟨_, rfl⟩
  have hM3 := hJ.bm
  rw [← hm3] at hM3
  refine wp_region_z 15 [some 12, some 13, some 14, some 15, some 16, some 17, some 18, some 19, some 20, some 11, some 21, some 22, some 5, none, some 6] (vkL m3 [.eq (.agg #[.int .i64 p.lo, .int .i64 p.hi, .bool p.all]), .eq (.agg #[.int .i64 c.lo, .int .i64 c.hi, .bool c.all]), .eq (.agg #[.int .i64 one.lo, .int .i64 one.hi, .bool one.all]), .eq (.agg #[.int .i64 p.lo, .int .i64 p.hi, .bool p.all]), .eq (.agg #[.int .i64 p.lo, .int .i64 p.hi, .bool p.all]), .eq (.agg #[.int .i64 b.lo, .int .i64 b.hi, .bool b.all]), .eq (.agg #[.int .i64 m.lo, .int .i64 m.hi, .bool m.all]), .eq (.agg #[.int .i64 q.lo, .int .i64 q.hi, .bool q.all]), .eq (.tuple #[.agg #[.int .i64 z.lo, .int .i64 z.hi, .bool z.all], .bool true]), .eq (.tuple #[.agg #[.int .i64 z.lo, .int .i64 z.hi, .bool z.all], .bool true]), .eq (.agg #[.int .i64 z.lo, .int .i64 z.hi, .bool z.all]), .eq (.bool true), .box, .any, .eq (.bool true)]) (Bm w m3 [(b0, p)]) (by kernel_rfl) (by kernel_rfl) (by rfl) (by decide) (by rfl) hM3 ?_ ?_
  · intro i hl hi u W A hJ hd hev hin
    obtain rfl | rfl | rfl | rfl | rfl | rfl | rfl | rfl | rfl | rfl | rfl | rfl | rfl | rfl | rfl : i = 0 ∨ i = 1 ∨ i = 2 ∨ i = 3 ∨ i = 4 ∨ i = 5 ∨ i = 6 ∨ i = 7 ∨ i = 8 ∨ i = 9 ∨ i = 10 ∨ i = 11 ∨ i = 12 ∨ i = 13 ∨ i = 14 := by omega
    · skip
      have x4 : A.tmps[4]? = some (.pointer (some ⟨b0, 0, none⟩)) := (hev 4 (by decide)).trans rfl
      clear hd hev hin
      simp only [List.getElem_cons_succ, List.getElem_cons_zero]
      clear hl
      refine .inr ⟨rfl, fun K' hK => ?_⟩
      have HK := Lib.hid hK
      clear hK
      have f0_0 := (hJ.bl.at' (b0, p) (.head _)).cells.1
      have f0_1 := (hJ.bl.at' (b0, p) (.head _)).cells.2.1
      have f0_2 := (hJ.bl.at' (b0, p) (.head _)).cells.2.2.1
      go_simp
      exact HK.out (.agg #[.int .i64 p.lo, .int .i64 p.hi, .bool p.all]) _ hJ rfl vkL_same
    · skip
      have x12 : A.tmps[12]? = some (.agg #[.int .i64 p.lo, .int .i64 p.hi, .bool p.all]) := (hin 0 12 rfl).trans (congrArg some (show u 0 = .agg #[.int .i64 p.lo, .int .i64 p.hi, .bool p.all] from hd 0 (by decide) (by kernel_rfl)))
      clear hd hev hin
      simp only [List.getElem_cons_succ, List.getElem_cons_zero]
      clear hl
      refine .inr ⟨rfl, fun K' hK => ?_⟩
      have HK := Lib.hid hK
      clear hK
      go_simp
      refine (Hc.out W).mono ?_
      rintro e W' ⟨rfl, hB⟩
      exact HK.out (.agg #[.int .i64 c.lo, .int .i64 c.hi, .bool c.all]) _ (hJ.later hB) rfl (vkL_later hB)
    · skip
      clear hd hev hin
      simp only [List.getElem_cons_succ, List.getElem_cons_zero]
      clear hl
      refine .inr ⟨rfl, fun K' hK => ?_⟩
      have HK := Lib.hid hK
      clear hK
      go_simp
      refine (Hone.out W).mono ?_
      rintro e W' ⟨rfl, hB⟩
      exact HK.out (.agg #[.int .i64 one.lo, .int .i64 one.hi, .bool one.all]) _ (hJ.later hB) rfl (vkL_later hB)
    · skip
      have x4 : A.tmps[4]? = some (.pointer (some ⟨b0, 0, none⟩)) := (hev 4 (by decide)).trans rfl
      clear hd hev hin
      simp only [List.getElem_cons_succ, List.getElem_cons_zero]
      clear hl
      refine .inr ⟨rfl, fun K' hK => ?_⟩
      have HK := Lib.hid hK
      clear hK
      have f0_0 := (hJ.bl.at' (b0, p) (.head _)).cells.1
      have f0_1 := (hJ.bl.at' (b0, p) (.head _)).cells.2.1
      have f0_2 := (hJ.bl.at' (b0, p) (.head _)).cells.2.2.1
      go_simp
      exact HK.out (.agg #[.int .i64 p.lo, .int .i64 p.hi, .bool p.all]) _ hJ rfl vkL_same
    · skip
      have x4 : A.tmps[4]? = some (.pointer (some ⟨b0, 0, none⟩)) := (hev 4 (by decide)).trans rfl
      clear hd hev hin
      simp only [List.getElem_cons_succ, List.getElem_cons_zero]
      clear hl
      refine .inr ⟨rfl, fun K' hK => ?_⟩
      have HK := Lib.hid hK
      clear hK
      have f0_0 := (hJ.bl.at' (b0, p) (.head _)).cells.1
      have f0_1 := (hJ.bl.at' (b0, p) (.head _)).cells.2.1
      have f0_2 := (hJ.bl.at' (b0, p) (.head _)).cells.2.2.1
      go_simp
      exact HK.out (.agg #[.int .i64 p.lo, .int .i64 p.hi, .bool p.all]) _ hJ rfl vkL_same
    · skip
      have x16 : A.tmps[16]? = some (.agg #[.int .i64 p.lo, .int .i64 p.hi, .bool p.all]) := (hin 4 16 rfl).trans (congrArg some (show u 4 = .agg #[.int .i64 p.lo, .int .i64 p.hi, .bool p.all] from hd 4 (by decide) (by kernel_rfl)))
      clear hd hev hin
      simp only [List.getElem_cons_succ, List.getElem_cons_zero]
      clear hl
      refine .inr ⟨rfl, fun K' hK => ?_⟩
      have HK := Lib.hid hK
      clear hK
      go_simp
      refine (Hb.out W).mono ?_
      rintro e W' ⟨rfl, hB⟩
      exact HK.out (.agg #[.int .i64 b.lo, .int .i64 b.hi, .bool b.all]) _ (hJ.later hB) rfl (vkL_later hB)
    · skip
      have x15 : A.tmps[15]? = some (.agg #[.int .i64 p.lo, .int .i64 p.hi, .bool p.all]) := (hin 3 15 rfl).trans (congrArg some (show u 3 = .agg #[.int .i64 p.lo, .int .i64 p.hi, .bool p.all] from hd 3 (by decide) (by kernel_rfl)))
      have x17 : A.tmps[17]? = some (.agg #[.int .i64 b.lo, .int .i64 b.hi, .bool b.all]) := (hin 5 17 rfl).trans (congrArg some (show u 5 = .agg #[.int .i64 b.lo, .int .i64 b.hi, .bool b.all] from hd 5 (by decide) (by kernel_rfl)))
      clear hd hev hin
      simp only [List.getElem_cons_succ, List.getElem_cons_zero]
      clear hl
      refine .inr ⟨rfl, fun K' hK => ?_⟩
      have HK := Lib.hid hK
      clear hK
      go_simp
      refine (Hm.out W).mono ?_
      rintro e W' ⟨rfl, hB⟩
      exact HK.out (.agg #[.int .i64 m.lo, .int .i64 m.hi, .bool m.all]) _ (hJ.later hB) rfl (vkL_later hB)
    · skip
      have x14 : A.tmps[14]? = some (.agg #[.int .i64 one.lo, .int .i64 one.hi, .bool one.all]) := (hin 2 14 rfl).trans (congrArg some (show u 2 = .agg #[.int .i64 one.lo, .int .i64 one.hi, .bool one.all] from hd 2 (by decide) (by kernel_rfl)))
      have x18 : A.tmps[18]? = some (.agg #[.int .i64 m.lo, .int .i64 m.hi, .bool m.all]) := (hin 6 18 rfl).trans (congrArg some (show u 6 = .agg #[.int .i64 m.lo, .int .i64 m.hi, .bool m.all] from hd 6 (by decide) (by kernel_rfl)))
      clear hd hev hin
      simp only [List.getElem_cons_succ, List.getElem_cons_zero]
      clear hl
      refine .inr ⟨rfl, fun K' hK => ?_⟩
      have HK := Lib.hid hK
      clear hK
      go_simp
      refine (Hq.out W).mono ?_
      rintro e W' ⟨rfl, hB⟩
      exact HK.out (.agg #[.int .i64 q.lo, .int .i64 q.hi, .bool q.all]) _ (hJ.later hB) rfl (vkL_later hB)
    · skip
      have x13 : A.tmps[13]? = some (.agg #[.int .i64 c.lo, .int .i64 c.hi, .bool c.all]) := (hin 1 13 rfl).trans (congrArg some (show u 1 = .agg #[.int .i64 c.lo, .int .i64 c.hi, .bool c.all] from hd 1 (by decide) (by kernel_rfl)))
      have x19 : A.tmps[19]? = some (.agg #[.int .i64 q.lo, .int .i64 q.hi, .bool q.all]) := (hin 7 19 rfl).trans (congrArg some (show u 7 = .agg #[.int .i64 q.lo, .int .i64 q.hi, .bool q.all] from hd 7 (by decide) (by kernel_rfl)))
      clear hd hev hin
      simp only [List.getElem_cons_succ, List.getElem_cons_zero]
      clear hl
      refine .inr ⟨rfl, fun K' hK => ?_⟩
      have HK := Lib.hid hK
      clear hK
      go_simp
      refine (Hz.out W).mono ?_
      rintro e W' ⟨rfl, hB⟩
      exact HK.out (.tuple #[.agg #[.int .i64 z.lo, .int .i64 z.hi, .bool z.all], .bool true]) _ (hJ.later hB) rfl (vkL_later hB)
    · skip
      have x20 : A.tmps[20]? = some (.tuple #[.agg #[.int .i64 z.lo, .int .i64 z.hi, .bool z.all], .bool true]) := (hin 8 20 rfl).trans (congrArg some (show u 8 = .tuple #[.agg #[.int .i64 z.lo, .int .i64 z.hi, .bool z.all], .bool true] from hd 8 (by decide) (by kernel_rfl)))
      clear hd hev hin
      simp only [List.getElem_cons_succ, List.getElem_cons_zero]
      clear hl
      refine .inr ⟨rfl, fun K' hK => ?_⟩
      have HK := Lib.hid hK
      clear hK
      go_simp
      exact HK.out (.tuple #[.agg #[.int .i64 z.lo, .int .i64 z.hi, .bool z.all], .bool true]) _ hJ rfl vkL_same
    · skip
      have x11 : A.tmps[11]? = some (.tuple #[.agg #[.int .i64 z.lo, .int .i64 z.hi, .bool z.all], .bool true]) := (hin 9 11 rfl).trans (congrArg some (show u 9 = .tuple #[.agg #[.int .i64 z.lo, .int .i64 z.hi, .bool z.all], .bool true] from hd 9 (by decide) (by kernel_rfl)))
      clear hd hev hin
      simp only [List.getElem_cons_succ, List.getElem_cons_zero]
      clear hl
      refine .inr ⟨rfl, fun K' hK => ?_⟩
      have HK := Lib.hid hK
      clear hK
      go_simp
      exact HK.out (.agg #[.int .i64 z.lo, .int .i64 z.hi, .bool z.all]) _ hJ rfl vkL_same
    · skip
      have x11 : A.tmps[11]? = some (.tuple #[.agg #[.int .i64 z.lo, .int .i64 z.hi, .bool z.all], .bool true]) := (hin 9 11 rfl).trans (congrArg some (show u 9 = .tuple #[.agg #[.int .i64 z.lo, .int .i64 z.hi, .bool z.all], .bool true] from hd 9 (by decide) (by kernel_rfl)))
      clear hd hev hin
      simp only [List.getElem_cons_succ, List.getElem_cons_zero]
      clear hl
      refine .inr ⟨rfl, fun K' hK => ?_⟩
      have HK := Lib.hid hK
      clear hK
      go_simp
      exact HK.out (.bool true) _ hJ rfl vkL_same
    · skip
      clear hd hev hin
      simp only [List.getElem_cons_succ, List.getElem_cons_zero]
      clear hl
      refine .inr ⟨rfl, fun K' hK => ?_⟩
      have HK := Lib.hid hK
      clear hK
      go_simp
      exact HK.out (.pointer (some ⟨W.heap.size, 0, none⟩)) _ (hJ.later ((Below.refl _ _).alloc (Nat.le_refl _) _)) (pbox_new hJ.le) (vkL_later ((Below.refl _ _).alloc (Nat.le_refl _) _))
    · skip
      obtain ⟨nb, nx, ne, nge, nB⟩ := (show Pbox m3 (u 12) W from hd 12 (by decide) (by kernel_rfl))
      have x5 : A.tmps[5]? = some (.pointer (some ⟨nb, 0, none⟩)) := (hin 12 5 rfl).trans (congrArg some ne)
      have x21 : A.tmps[21]? = some (.agg #[.int .i64 z.lo, .int .i64 z.hi, .bool z.all]) := (hin 10 21 rfl).trans (congrArg some (show u 10 = .agg #[.int .i64 z.lo, .int .i64 z.hi, .bool z.all] from hd 10 (by decide) (by kernel_rfl)))
      clear hd hev hin
      simp only [List.getElem_cons_succ, List.getElem_cons_zero]
      clear hl
      refine .inr ⟨rfl, fun K' hK => ?_⟩
      have HK := Lib.hid hK
      clear hK
      have nc0 := nB.cells.1
      have nc1 := nB.cells.2.1
      have nc2 := nB.cells.2.2.1
      have nc3 := nB.cells.2.2.2.1
      have nc4 := nB.cells.2.2.2.2.1
      have nc5 := nB.cells.2.2.2.2.2
      go_simp
      exact HK.out undef _ (hJ.far nge _ _ _) trivial (vkL_store nB z)
    · skip
      have x22 : A.tmps[22]? = some (.bool true) := (hin 11 22 rfl).trans (congrArg some (show u 11 = .bool true from hd 11 (by decide) (by kernel_rfl)))
      clear hd hev hin
      simp only [List.getElem_cons_succ, List.getElem_cons_zero]
      clear hl
      refine .inr ⟨rfl, fun K' hK => ?_⟩
      have HK := Lib.hid hK
      clear hK
      go_simp
      exact HK.out (.bool true) _ hJ rfl vkL_same
  intro u W hJm hd
  have e0 : u 0 = .agg #[.int .i64 p.lo, .int .i64 p.hi, .bool p.all] := hd 0 (by decide)
  have e1 : u 1 = .agg #[.int .i64 c.lo, .int .i64 c.hi, .bool c.all] := hd 1 (by decide)
  have e2 : u 2 = .agg #[.int .i64 one.lo, .int .i64 one.hi, .bool one.all] := hd 2 (by decide)
  have e3 : u 3 = .agg #[.int .i64 p.lo, .int .i64 p.hi, .bool p.all] := hd 3 (by decide)
  have e4 : u 4 = .agg #[.int .i64 p.lo, .int .i64 p.hi, .bool p.all] := hd 4 (by decide)
  have e5 : u 5 = .agg #[.int .i64 b.lo, .int .i64 b.hi, .bool b.all] := hd 5 (by decide)
  have e6 : u 6 = .agg #[.int .i64 m.lo, .int .i64 m.hi, .bool m.all] := hd 6 (by decide)
  have e7 : u 7 = .agg #[.int .i64 q.lo, .int .i64 q.hi, .bool q.all] := hd 7 (by decide)
  have e8 : u 8 = .tuple #[.agg #[.int .i64 z.lo, .int .i64 z.hi, .bool z.all], .bool true] := hd 8 (by decide)
  have e9 : u 9 = .tuple #[.agg #[.int .i64 z.lo, .int .i64 z.hi, .bool z.all], .bool true] := hd 9 (by decide)
  have e10 : u 10 = .agg #[.int .i64 z.lo, .int .i64 z.hi, .bool z.all] := hd 10 (by decide)
  have e11 : u 11 = .bool true := hd 11 (by decide)
  obtain ⟨nb3, nx3, e12, nge3, nB3⟩ := (show Pbox m3 (u 12) W from hd 12 (by decide))
  have e14 : u 14 = .bool true := hd 14 (by decide)
  clear hd
  simp only [layS, Act.put, List.setIfInBounds_toArray, List.set_cons_succ, List.set_cons_zero, Nat.zero_add, Nat.reduceAdd, List.drop_succ_cons, List.drop_zero, List.drop_nil, e0, e1, e2, e3, e4, e5, e6, e7, e8, e9, e10, e11, e12, e14]
  clear e0 e1 e2 e3 e4 e5 e6 e7 e8 e9 e10 e11 e12 e14
  replace hJ := hJm.bl
  clear hM3
  clear hJm nge3 nB3
  generalize hZ : W = Z4 at *
  clear hZ
  have hJf := hJ.below
  go_wp2
  go_ret
  exact ⟨rfl, hJf⟩
end Go.Proofs.Ytohdfialnaegcaa
