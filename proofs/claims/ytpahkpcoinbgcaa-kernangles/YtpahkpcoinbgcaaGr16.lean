/- Sines and cosines: the walk of the laws' awake. No statement of the seat is proved here. -/
import Derived.Test.YtpahkpcoinbgcaaKe
import Derived.Test.YtpahkpcoinbgcaaGr11
import Derived.Test.YtpahkpcoinbgcaaKr
namespace Go.Proofs.Ytpahkpcoinbgcaa
open Go.RowKit
attribute [local go_sem ↓] run_eqlS run_neqS

set_option maxRecDepth 100000 in
set_option maxHeartbeats 12800000 in
theorem kawake_w (zero one two half d f g mi big : Sp) (hHz : ∀ W : World, Calls Try.prog 67 #[.int .i64 0, .int .i64 0] W (PSp zero W)) (hHo : ∀ W : World, Calls Try.prog 67 #[.int .i64 1048576, .int .i64 1048576] W (PSp one W)) (hHt : ∀ W : World, Calls Try.prog 67 #[.int .i64 2097152, .int .i64 2097152] W (PSp two W)) (hHa : ∀ W : World, Calls Try.prog 30 #[.agg #[.int .i64 zero.lo, .int .i64 zero.hi, .bool zero.all]] W (PSp one W)) (hHb : ∀ W : World, Calls Try.prog 31 #[.agg #[.int .i64 zero.lo, .int .i64 zero.hi, .bool zero.all]] W (PSp half W)) (hHc : ∀ W : World, Calls Try.prog 32 #[.agg #[.int .i64 zero.lo, .int .i64 zero.hi, .bool zero.all]] W (PSp one W)) (hHd : ∀ W : World, Calls Try.prog 30 #[.agg #[.int .i64 one.lo, .int .i64 one.hi, .bool one.all]] W (PSp d W)) (hHe : ∀ W : World, Calls Try.prog 36 #[.agg #[.int .i64 one.lo, .int .i64 one.hi, .bool one.all]] W (PSp d W)) (hHf : ∀ W : World, Calls Try.prog 37 #[.agg #[.int .i64 one.lo, .int .i64 one.hi, .bool one.all]] W (PSp f W)) (hHg : ∀ W : World, Calls Try.prog 37 #[.agg #[.int .i64 two.lo, .int .i64 two.hi, .bool two.all]] W (PSp g W)) (hHm : ∀ W : World, Calls Try.prog 67 #[.int .i64 (-1), .int .i64 0] W (PSp mi W)) (hHh : ∀ W : World, Calls Try.prog 30 #[.agg #[.int .i64 mi.lo, .int .i64 mi.hi, .bool mi.all]] W (PSp lineS W)) (hHn : ∀ W : World, Calls Try.prog 67 #[.int .i64 0, .int .i64 4194305] W (PSp big W)) (hHi : ∀ W : World, Calls Try.prog 30 #[.agg #[.int .i64 big.lo, .int .i64 big.hi, .bool big.all]] W (PSp lineS W)) (hHp : ∀ W : World, Calls Try.prog 67 #[.int .i64 524288, .int .i64 524288] W (PSp half W)) (hHq : ∀ W : World, Calls Try.prog 67 #[.int .i64 882346, .int .i64 882347] W (PSp d W)) (hHr : ∀ W : World, Calls Try.prog 67 #[.int .i64 566548, .int .i64 566549] W (PSp f W)) (hHs : ∀ W : World, Calls Try.prog 67 #[.int .i64 (-436362), .int .i64 (-436361)] W (PSp g W))  (w : World) : Calls Try.prog 28 #[] w (PVal (.bool true) w) := by
  have Hz := Lib.hid hHz
  have Ho := Lib.hid hHo
  have Ht := Lib.hid hHt
  have Ha := Lib.hid hHa
  have Hb := Lib.hid hHb
  have Hc := Lib.hid hHc
  have Hd := Lib.hid hHd
  have He := Lib.hid hHe
  have Hf := Lib.hid hHf
  have Hg := Lib.hid hHg
  have Hm := Lib.hid hHm
  have Hh := Lib.hid hHh
  have Hn := Lib.hid hHn
  have Hi := Lib.hid hHi
  have Hp := Lib.hid hHp
  have Hq := Lib.hid hHq
  have Hr := Lib.hid hHr
  have Hs := Lib.hid hHs
  clear hHz hHo hHt hHa hHb hHc hHd hHe hHf hHg hHm hHh hHn hHi hHp hHq hHr hHs
  have hJ := bl_nil w
  go_enter Try.func28, Try.ntmps28
  have hqone : eqS one.lo one.hi one.all one.lo one.hi one.all = true := eqS_same _ _ _
  have hqhalf : eqS half.lo half.hi half.all half.lo half.hi half.all = true := eqS_same _ _ _
  have hqd : eqS d.lo d.hi d.all d.lo d.hi d.all = true := eqS_same _ _ _
  have hqf : eqS f.lo f.hi f.all f.lo f.hi f.all = true := eqS_same _ _ _
  have hqg : eqS g.lo g.hi g.all g.lo g.hi g.all = true := eqS_same _ _ _
  go_wp2_with fail
  refine (Hz.out _).mono ?_
  rintro e W1 ⟨rfl, hB⟩
  replace hJ := hJ.later hB
  clear hB
  go_wp2_with fail
  replace hJ := hJ.new zero
  generalize hW2 : W1.alloc (.cells #[.int .i64 zero.lo, .int .i64 zero.hi, .bool zero.all] 23) = V2 at *
  clear hW2
  generalize W1.heap.size = b0 at *
  refine (Ho.out _).mono ?_
  rintro e W3 ⟨rfl, hB⟩
  replace hJ := hJ.later hB
  clear hB
  go_wp2_with fail
  replace hJ := hJ.new one
  generalize hW4 : W3.alloc (.cells #[.int .i64 one.lo, .int .i64 one.hi, .bool one.all] 23) = V4 at *
  clear hW4
  generalize W3.heap.size = b1 at *
  refine (Ht.out _).mono ?_
  rintro e W5 ⟨rfl, hB⟩
  replace hJ := hJ.later hB
  clear hB
  have f1_0 := (hJ.at' (b0, zero) (.tail _ (.head _))).cells.1
  have f1_1 := (hJ.at' (b0, zero) (.tail _ (.head _))).cells.2.1
  have f1_2 := (hJ.at' (b0, zero) (.tail _ (.head _))).cells.2.2.1
  have fl1 : b0 < W5.heap.size := hJ.lt (b0, zero) (.tail _ (.head _))
  go_wp2_with fail
  clear f1_0 f1_1 f1_2 fl1
  replace hJ := hJ.new two
  generalize hW6 : W5.alloc (.cells #[.int .i64 two.lo, .int .i64 two.hi, .bool two.all] 23) = V6 at *
  clear hW6
  generalize W5.heap.size = b2 at *
  refine (Ha.out _).mono ?_
  rintro e W7 ⟨rfl, hB⟩
  replace hJ := hJ.later hB
  clear hB
  have f2_0 := (hJ.at' (b0, zero) (.tail _ (.tail _ (.head _)))).cells.1
  have f2_1 := (hJ.at' (b0, zero) (.tail _ (.tail _ (.head _)))).cells.2.1
  have f2_2 := (hJ.at' (b0, zero) (.tail _ (.tail _ (.head _)))).cells.2.2.1
  have fl2 : b0 < W7.heap.size := hJ.lt (b0, zero) (.tail _ (.tail _ (.head _)))
  go_wp2_with fail
  clear f2_0 f2_1 f2_2 fl2
  replace hJ := hJ.new one
  generalize hW8 : W7.alloc (.cells #[.int .i64 one.lo, .int .i64 one.hi, .bool one.all] 23) = V8 at *
  clear hW8
  generalize W7.heap.size = b3 at *
  refine (Hb.out _).mono ?_
  rintro e W9 ⟨rfl, hB⟩
  replace hJ := hJ.later hB
  clear hB
  have f3_0 := (hJ.at' (b0, zero) (.tail _ (.tail _ (.tail _ (.head _))))).cells.1
  have f3_1 := (hJ.at' (b0, zero) (.tail _ (.tail _ (.tail _ (.head _))))).cells.2.1
  have f3_2 := (hJ.at' (b0, zero) (.tail _ (.tail _ (.tail _ (.head _))))).cells.2.2.1
  have fl3 : b0 < W9.heap.size := hJ.lt (b0, zero) (.tail _ (.tail _ (.tail _ (.head _))))
  go_wp2_with fail
  clear f3_0 f3_1 f3_2 fl3
  replace hJ := hJ.new half
  generalize hW10 : W9.alloc (.cells #[.int .i64 half.lo, .int .i64 half.hi, .bool half.all] 23) = V10 at *
  clear hW10
  generalize W9.heap.size = b4 at *
  refine (Hc.out _).mono ?_
  rintro e W11 ⟨rfl, hB⟩
  replace hJ := hJ.later hB
  clear hB
  have f3_0 := (hJ.at' (b1, one) (.tail _ (.tail _ (.tail _ (.head _))))).cells.1
  have f3_1 := (hJ.at' (b1, one) (.tail _ (.tail _ (.tail _ (.head _))))).cells.2.1
  have f3_2 := (hJ.at' (b1, one) (.tail _ (.tail _ (.tail _ (.head _))))).cells.2.2.1
  have fl3 : b1 < W11.heap.size := hJ.lt (b1, one) (.tail _ (.tail _ (.tail _ (.head _))))
  go_wp2_with fail
  clear f3_0 f3_1 f3_2 fl3
  replace hJ := hJ.new one
  generalize hW12 : W11.alloc (.cells #[.int .i64 one.lo, .int .i64 one.hi, .bool one.all] 23) = V12 at *
  clear hW12
  generalize W11.heap.size = b5 at *
  refine (Hd.out _).mono ?_
  rintro e W13 ⟨rfl, hB⟩
  replace hJ := hJ.later hB
  clear hB
  have f4_0 := (hJ.at' (b1, one) (.tail _ (.tail _ (.tail _ (.tail _ (.head _)))))).cells.1
  have f4_1 := (hJ.at' (b1, one) (.tail _ (.tail _ (.tail _ (.tail _ (.head _)))))).cells.2.1
  have f4_2 := (hJ.at' (b1, one) (.tail _ (.tail _ (.tail _ (.tail _ (.head _)))))).cells.2.2.1
  have fl4 : b1 < W13.heap.size := hJ.lt (b1, one) (.tail _ (.tail _ (.tail _ (.tail _ (.head _)))))
  go_wp2_with fail
  clear f4_0 f4_1 f4_2 fl4
  replace hJ := hJ.new d
  generalize hW14 : W13.alloc (.cells #[.int .i64 d.lo, .int .i64 d.hi, .bool d.all] 23) = V14 at *
  clear hW14
  generalize W13.heap.size = b6 at *
  refine (He.out _).mono ?_
  rintro e W15 ⟨rfl, hB⟩
  replace hJ := hJ.later hB
  clear hB
  have f5_0 := (hJ.at' (b1, one) (.tail _ (.tail _ (.tail _ (.tail _ (.tail _ (.head _))))))).cells.1
  have f5_1 := (hJ.at' (b1, one) (.tail _ (.tail _ (.tail _ (.tail _ (.tail _ (.head _))))))).cells.2.1
  have f5_2 := (hJ.at' (b1, one) (.tail _ (.tail _ (.tail _ (.tail _ (.tail _ (.head _))))))).cells.2.2.1
  have fl5 : b1 < W15.heap.size := hJ.lt (b1, one) (.tail _ (.tail _ (.tail _ (.tail _ (.tail _ (.head _))))))
  go_wp2_with fail
  clear f5_0 f5_1 f5_2 fl5
  replace hJ := hJ.new d
  generalize hW16 : W15.alloc (.cells #[.int .i64 d.lo, .int .i64 d.hi, .bool d.all] 23) = V16 at *
  clear hW16
  generalize W15.heap.size = b7 at *
  refine (Hf.out _).mono ?_
  rintro e W17 ⟨rfl, hB⟩
  replace hJ := hJ.later hB
  clear hB
  have f5_0 := (hJ.at' (b2, two) (.tail _ (.tail _ (.tail _ (.tail _ (.tail _ (.head _))))))).cells.1
  have f5_1 := (hJ.at' (b2, two) (.tail _ (.tail _ (.tail _ (.tail _ (.tail _ (.head _))))))).cells.2.1
  have f5_2 := (hJ.at' (b2, two) (.tail _ (.tail _ (.tail _ (.tail _ (.tail _ (.head _))))))).cells.2.2.1
  have fl5 : b2 < W17.heap.size := hJ.lt (b2, two) (.tail _ (.tail _ (.tail _ (.tail _ (.tail _ (.head _))))))
  go_wp2_with fail
  clear f5_0 f5_1 f5_2 fl5
  replace hJ := hJ.new f
  generalize hW18 : W17.alloc (.cells #[.int .i64 f.lo, .int .i64 f.hi, .bool f.all] 23) = V18 at *
  clear hW18
  generalize W17.heap.size = b8 at *
  refine (Hg.out _).mono ?_
  rintro e W19 ⟨rfl, hB⟩
  replace hJ := hJ.later hB
  clear hB
  go_wp2_with fail
  replace hJ := hJ.new g
  generalize hW20 : W19.alloc (.cells #[.int .i64 g.lo, .int .i64 g.hi, .bool g.all] 23) = V20 at *
  clear hW20
  generalize W19.heap.size = b9 at *
  refine (Hm.out _).mono ?_
  rintro e W21 ⟨rfl, hB⟩
  replace hJ := hJ.later hB
  clear hB
  go_wp2_with fail
  refine (Hh.out _).mono ?_
  rintro e W22 ⟨rfl, hB⟩
  replace hJ := hJ.later hB
  clear hB
  go_wp2_with fail
  replace hJ := hJ.new lineS
  generalize hW23 : W22.alloc (.cells #[.int .i64 lineS.lo, .int .i64 lineS.hi, .bool lineS.all] 23) = V23 at *
  clear hW23
  generalize W22.heap.size = b10 at *
  refine (Hn.out _).mono ?_
  rintro e W24 ⟨rfl, hB⟩
  replace hJ := hJ.later hB
  clear hB
  go_wp2_with fail
  refine (Hi.out _).mono ?_
  rintro e W25 ⟨rfl, hB⟩
  replace hJ := hJ.later hB
  clear hB
  go_wp2
  replace hJ := hJ.new lineS
  generalize hW26 : W25.alloc (.cells #[.int .i64 lineS.lo, .int .i64 lineS.hi, .bool lineS.all] 23) = V26 at *
  clear hW26
  generalize W25.heap.size = b11 at *
  obtain ⟨m13, hm13⟩ : ∃ m, m = V26.heap.size := ⟨_, rfl⟩
  have hM13 := hJ.bm
  rw [← hm13] at hM13
  refine wp_region_z 42 [some 34, some 35, some 36, some 37, some 38, some 39, some 40, some 41, some 42, some 43, some 44, some 45, some 46, some 47, some 48, some 49, some 50, some 51, some 52, some 53, some 54, some 55, some 56, some 57, some 58, some 59, some 60, some 61, some 62, some 63, some 64, some 65, some 66, some 67, some 68, some 69, some 70, some 71, some 72, some 73, some 74, some 0] (vkL m13 [.eq (.agg #[.int .i64 one.lo, .int .i64 one.hi, .bool one.all]), .eq (.agg #[.int .i64 one.lo, .int .i64 one.hi, .bool one.all]), .eq (.bool true), .eq (.bool true), .eq (.agg #[.int .i64 half.lo, .int .i64 half.hi, .bool half.all]), .eq (.agg #[.int .i64 half.lo, .int .i64 half.hi, .bool half.all]), .eq (.bool true), .eq (.bool true), .eq (.bool true), .eq (.agg #[.int .i64 one.lo, .int .i64 one.hi, .bool one.all]), .eq (.agg #[.int .i64 one.lo, .int .i64 one.hi, .bool one.all]), .eq (.bool true), .eq (.bool true), .eq (.bool true), .eq (.agg #[.int .i64 d.lo, .int .i64 d.hi, .bool d.all]), .eq (.agg #[.int .i64 d.lo, .int .i64 d.hi, .bool d.all]), .eq (.bool true), .eq (.bool true), .eq (.bool true), .eq (.agg #[.int .i64 d.lo, .int .i64 d.hi, .bool d.all]), .eq (.agg #[.int .i64 d.lo, .int .i64 d.hi, .bool d.all]), .eq (.bool true), .eq (.bool true), .eq (.bool true), .eq (.agg #[.int .i64 f.lo, .int .i64 f.hi, .bool f.all]), .eq (.agg #[.int .i64 f.lo, .int .i64 f.hi, .bool f.all]), .eq (.bool true), .eq (.bool true), .eq (.bool true), .eq (.agg #[.int .i64 g.lo, .int .i64 g.hi, .bool g.all]), .eq (.agg #[.int .i64 g.lo, .int .i64 g.hi, .bool g.all]), .eq (.bool true), .eq (.bool true), .eq (.bool true), .eq (.pointer (some ⟨b10, 2, none⟩)), .eq (.bool true), .eq (.bool true), .eq (.bool true), .eq (.pointer (some ⟨b11, 2, none⟩)), .eq (.bool true), .eq (.bool true), .eq (.bool true)]) (Bm w m13 [(b11, lineS), (b10, lineS), (b9, g), (b8, f), (b7, d), (b6, d), (b5, one), (b4, half), (b3, one), (b2, two), (b1, one), (b0, zero)]) (by kernel_rfl) (by kernel_rfl) (by rfl) (by decide) (by rfl) hM13 ?_ ?_
  · intro i hl hi u W A hJ hd hev hin
    obtain rfl | rfl | rfl | rfl | rfl | rfl | rfl | rfl | rfl | rfl | rfl | rfl | rfl | rfl | rfl | rfl | rfl | rfl | rfl | rfl | rfl | rfl | rfl | rfl | rfl | rfl | rfl | rfl | rfl | rfl | rfl | rfl | rfl | rfl | rfl | rfl | rfl | rfl | rfl | rfl | rfl | rfl : i = 0 ∨ i = 1 ∨ i = 2 ∨ i = 3 ∨ i = 4 ∨ i = 5 ∨ i = 6 ∨ i = 7 ∨ i = 8 ∨ i = 9 ∨ i = 10 ∨ i = 11 ∨ i = 12 ∨ i = 13 ∨ i = 14 ∨ i = 15 ∨ i = 16 ∨ i = 17 ∨ i = 18 ∨ i = 19 ∨ i = 20 ∨ i = 21 ∨ i = 22 ∨ i = 23 ∨ i = 24 ∨ i = 25 ∨ i = 26 ∨ i = 27 ∨ i = 28 ∨ i = 29 ∨ i = 30 ∨ i = 31 ∨ i = 32 ∨ i = 33 ∨ i = 34 ∨ i = 35 ∨ i = 36 ∨ i = 37 ∨ i = 38 ∨ i = 39 ∨ i = 40 ∨ i = 41 := by omega
    · skip
      have x4 : A.tmps[4]? = some (.pointer (some ⟨b3, 0, none⟩)) := (hev 4 (by decide)).trans rfl
      clear hd hev hin
      simp only [List.getElem_cons_succ, List.getElem_cons_zero]
      clear hl
      refine .inr ⟨rfl, fun K' hK => ?_⟩
      have HK := Lib.hid hK
      clear hK
      have f8_0 := (hJ.bl.at' (b3, one) (.tail _ (.tail _ (.tail _ (.tail _ (.tail _ (.tail _ (.tail _ (.tail _ (.head _)))))))))).cells.1
      have f8_1 := (hJ.bl.at' (b3, one) (.tail _ (.tail _ (.tail _ (.tail _ (.tail _ (.tail _ (.tail _ (.tail _ (.head _)))))))))).cells.2.1
      have f8_2 := (hJ.bl.at' (b3, one) (.tail _ (.tail _ (.tail _ (.tail _ (.tail _ (.tail _ (.tail _ (.tail _ (.head _)))))))))).cells.2.2.1
      go_simp
      exact HK.out (.agg #[.int .i64 one.lo, .int .i64 one.hi, .bool one.all]) _ hJ rfl vkL_same
    · skip
      have x2 : A.tmps[2]? = some (.pointer (some ⟨b1, 0, none⟩)) := (hev 2 (by decide)).trans rfl
      clear hd hev hin
      simp only [List.getElem_cons_succ, List.getElem_cons_zero]
      clear hl
      refine .inr ⟨rfl, fun K' hK => ?_⟩
      have HK := Lib.hid hK
      clear hK
      have f10_0 := (hJ.bl.at' (b1, one) (.tail _ (.tail _ (.tail _ (.tail _ (.tail _ (.tail _ (.tail _ (.tail _ (.tail _ (.tail _ (.head _)))))))))))).cells.1
      have f10_1 := (hJ.bl.at' (b1, one) (.tail _ (.tail _ (.tail _ (.tail _ (.tail _ (.tail _ (.tail _ (.tail _ (.tail _ (.tail _ (.head _)))))))))))).cells.2.1
      have f10_2 := (hJ.bl.at' (b1, one) (.tail _ (.tail _ (.tail _ (.tail _ (.tail _ (.tail _ (.tail _ (.tail _ (.tail _ (.tail _ (.head _)))))))))))).cells.2.2.1
      go_simp
      exact HK.out (.agg #[.int .i64 one.lo, .int .i64 one.hi, .bool one.all]) _ hJ rfl vkL_same
    · skip
      have x34 : A.tmps[34]? = some (.agg #[.int .i64 one.lo, .int .i64 one.hi, .bool one.all]) := (hin 0 34 rfl).trans (congrArg some (show u 0 = .agg #[.int .i64 one.lo, .int .i64 one.hi, .bool one.all] from hd 0 (by decide) (by kernel_rfl)))
      have x35 : A.tmps[35]? = some (.agg #[.int .i64 one.lo, .int .i64 one.hi, .bool one.all]) := (hin 1 35 rfl).trans (congrArg some (show u 1 = .agg #[.int .i64 one.lo, .int .i64 one.hi, .bool one.all] from hd 1 (by decide) (by kernel_rfl)))
      clear hd hev hin
      simp only [List.getElem_cons_succ, List.getElem_cons_zero]
      clear hl
      refine .inr ⟨rfl, fun K' hK => ?_⟩
      have HK := Lib.hid hK
      clear hK
      go_simp
      exact HK.out (.bool true) _ hJ rfl vkL_same
    · skip
      have x36 : A.tmps[36]? = some (.bool true) := (hin 2 36 rfl).trans (congrArg some (show u 2 = .bool true from hd 2 (by decide) (by kernel_rfl)))
      clear hd hev hin
      simp only [List.getElem_cons_succ, List.getElem_cons_zero]
      clear hl
      refine .inr ⟨rfl, fun K' hK => ?_⟩
      have HK := Lib.hid hK
      clear hK
      go_simp
      exact HK.out (.bool true) _ hJ rfl vkL_same
    · skip
      have x5 : A.tmps[5]? = some (.pointer (some ⟨b4, 0, none⟩)) := (hev 5 (by decide)).trans rfl
      have y3 : A.tmps[37]? = some (.bool true) := (hin 3 37 rfl).trans (congrArg some (show u 3 = .bool true from hd 3 (by decide) (by kernel_rfl)))
      clear hd hev hin
      simp only [List.getElem_cons_succ, List.getElem_cons_zero]
      clear hl
      refine .inr ⟨?_, fun K' hK => ?_⟩
      · simp [Region.wanted, yielded, y3]
      clear y3
      have HK := Lib.hid hK
      clear hK
      have f7_0 := (hJ.bl.at' (b4, half) (.tail _ (.tail _ (.tail _ (.tail _ (.tail _ (.tail _ (.tail _ (.head _))))))))).cells.1
      have f7_1 := (hJ.bl.at' (b4, half) (.tail _ (.tail _ (.tail _ (.tail _ (.tail _ (.tail _ (.tail _ (.head _))))))))).cells.2.1
      have f7_2 := (hJ.bl.at' (b4, half) (.tail _ (.tail _ (.tail _ (.tail _ (.tail _ (.tail _ (.tail _ (.head _))))))))).cells.2.2.1
      go_simp
      exact HK.out (.agg #[.int .i64 half.lo, .int .i64 half.hi, .bool half.all]) _ hJ rfl vkL_same
    · skip
      have y3 : A.tmps[37]? = some (.bool true) := (hin 3 37 rfl).trans (congrArg some (show u 3 = .bool true from hd 3 (by decide) (by kernel_rfl)))
      clear hd hev hin
      simp only [List.getElem_cons_succ, List.getElem_cons_zero]
      clear hl
      refine .inr ⟨?_, fun K' hK => ?_⟩
      · simp [Region.wanted, yielded, y3]
      clear y3
      have HK := Lib.hid hK
      clear hK
      go_simp
      refine (Hp.out W).mono ?_
      rintro e W' ⟨rfl, hB⟩
      exact HK.out (.agg #[.int .i64 half.lo, .int .i64 half.hi, .bool half.all]) _ (hJ.later hB) rfl (vkL_later hB)
    · skip
      have x38 : A.tmps[38]? = some (.agg #[.int .i64 half.lo, .int .i64 half.hi, .bool half.all]) := (hin 4 38 rfl).trans (congrArg some (show u 4 = .agg #[.int .i64 half.lo, .int .i64 half.hi, .bool half.all] from hd 4 (by decide) (by kernel_rfl)))
      have x39 : A.tmps[39]? = some (.agg #[.int .i64 half.lo, .int .i64 half.hi, .bool half.all]) := (hin 5 39 rfl).trans (congrArg some (show u 5 = .agg #[.int .i64 half.lo, .int .i64 half.hi, .bool half.all] from hd 5 (by decide) (by kernel_rfl)))
      have y3 : A.tmps[37]? = some (.bool true) := (hin 3 37 rfl).trans (congrArg some (show u 3 = .bool true from hd 3 (by decide) (by kernel_rfl)))
      clear hd hev hin
      simp only [List.getElem_cons_succ, List.getElem_cons_zero]
      clear hl
      refine .inr ⟨?_, fun K' hK => ?_⟩
      · simp [Region.wanted, yielded, y3]
      clear y3
      have HK := Lib.hid hK
      clear hK
      go_simp
      exact HK.out (.bool true) _ hJ rfl vkL_same
    · skip
      have x37 : A.tmps[37]? = some (.bool true) := (hin 3 37 rfl).trans (congrArg some (show u 3 = .bool true from hd 3 (by decide) (by kernel_rfl)))
      have x40 : A.tmps[40]? = some (.bool true) := (hin 6 40 rfl).trans (congrArg some (show u 6 = .bool true from hd 6 (by decide) (by kernel_rfl)))
      clear hd hev hin
      simp only [List.getElem_cons_succ, List.getElem_cons_zero]
      clear hl
      refine .inr ⟨rfl, fun K' hK => ?_⟩
      have HK := Lib.hid hK
      clear hK
      go_simp
      exact HK.out (.bool true) _ hJ rfl vkL_same
    · skip
      have x41 : A.tmps[41]? = some (.bool true) := (hin 7 41 rfl).trans (congrArg some (show u 7 = .bool true from hd 7 (by decide) (by kernel_rfl)))
      clear hd hev hin
      simp only [List.getElem_cons_succ, List.getElem_cons_zero]
      clear hl
      refine .inr ⟨rfl, fun K' hK => ?_⟩
      have HK := Lib.hid hK
      clear hK
      go_simp
      exact HK.out (.bool true) _ hJ rfl vkL_same
    · skip
      have x6 : A.tmps[6]? = some (.pointer (some ⟨b5, 0, none⟩)) := (hev 6 (by decide)).trans rfl
      have y8 : A.tmps[42]? = some (.bool true) := (hin 8 42 rfl).trans (congrArg some (show u 8 = .bool true from hd 8 (by decide) (by kernel_rfl)))
      clear hd hev hin
      simp only [List.getElem_cons_succ, List.getElem_cons_zero]
      clear hl
      refine .inr ⟨?_, fun K' hK => ?_⟩
      · simp [Region.wanted, yielded, y8]
      clear y8
      have HK := Lib.hid hK
      clear hK
      have f6_0 := (hJ.bl.at' (b5, one) (.tail _ (.tail _ (.tail _ (.tail _ (.tail _ (.tail _ (.head _)))))))).cells.1
      have f6_1 := (hJ.bl.at' (b5, one) (.tail _ (.tail _ (.tail _ (.tail _ (.tail _ (.tail _ (.head _)))))))).cells.2.1
      have f6_2 := (hJ.bl.at' (b5, one) (.tail _ (.tail _ (.tail _ (.tail _ (.tail _ (.tail _ (.head _)))))))).cells.2.2.1
      go_simp
      exact HK.out (.agg #[.int .i64 one.lo, .int .i64 one.hi, .bool one.all]) _ hJ rfl vkL_same
    · skip
      have x2 : A.tmps[2]? = some (.pointer (some ⟨b1, 0, none⟩)) := (hev 2 (by decide)).trans rfl
      have y8 : A.tmps[42]? = some (.bool true) := (hin 8 42 rfl).trans (congrArg some (show u 8 = .bool true from hd 8 (by decide) (by kernel_rfl)))
      clear hd hev hin
      simp only [List.getElem_cons_succ, List.getElem_cons_zero]
      clear hl
      refine .inr ⟨?_, fun K' hK => ?_⟩
      · simp [Region.wanted, yielded, y8]
      clear y8
      have HK := Lib.hid hK
      clear hK
      have f10_0 := (hJ.bl.at' (b1, one) (.tail _ (.tail _ (.tail _ (.tail _ (.tail _ (.tail _ (.tail _ (.tail _ (.tail _ (.tail _ (.head _)))))))))))).cells.1
      have f10_1 := (hJ.bl.at' (b1, one) (.tail _ (.tail _ (.tail _ (.tail _ (.tail _ (.tail _ (.tail _ (.tail _ (.tail _ (.tail _ (.head _)))))))))))).cells.2.1
      have f10_2 := (hJ.bl.at' (b1, one) (.tail _ (.tail _ (.tail _ (.tail _ (.tail _ (.tail _ (.tail _ (.tail _ (.tail _ (.tail _ (.head _)))))))))))).cells.2.2.1
      go_simp
      exact HK.out (.agg #[.int .i64 one.lo, .int .i64 one.hi, .bool one.all]) _ hJ rfl vkL_same
    · skip
      have x43 : A.tmps[43]? = some (.agg #[.int .i64 one.lo, .int .i64 one.hi, .bool one.all]) := (hin 9 43 rfl).trans (congrArg some (show u 9 = .agg #[.int .i64 one.lo, .int .i64 one.hi, .bool one.all] from hd 9 (by decide) (by kernel_rfl)))
      have x44 : A.tmps[44]? = some (.agg #[.int .i64 one.lo, .int .i64 one.hi, .bool one.all]) := (hin 10 44 rfl).trans (congrArg some (show u 10 = .agg #[.int .i64 one.lo, .int .i64 one.hi, .bool one.all] from hd 10 (by decide) (by kernel_rfl)))
      have y8 : A.tmps[42]? = some (.bool true) := (hin 8 42 rfl).trans (congrArg some (show u 8 = .bool true from hd 8 (by decide) (by kernel_rfl)))
      clear hd hev hin
      simp only [List.getElem_cons_succ, List.getElem_cons_zero]
      clear hl
      refine .inr ⟨?_, fun K' hK => ?_⟩
      · simp [Region.wanted, yielded, y8]
      clear y8
      have HK := Lib.hid hK
      clear hK
      go_simp
      exact HK.out (.bool true) _ hJ rfl vkL_same
    · skip
      have x42 : A.tmps[42]? = some (.bool true) := (hin 8 42 rfl).trans (congrArg some (show u 8 = .bool true from hd 8 (by decide) (by kernel_rfl)))
      have x45 : A.tmps[45]? = some (.bool true) := (hin 11 45 rfl).trans (congrArg some (show u 11 = .bool true from hd 11 (by decide) (by kernel_rfl)))
      clear hd hev hin
      simp only [List.getElem_cons_succ, List.getElem_cons_zero]
      clear hl
      refine .inr ⟨rfl, fun K' hK => ?_⟩
      have HK := Lib.hid hK
      clear hK
      go_simp
      exact HK.out (.bool true) _ hJ rfl vkL_same
    · skip
      have x46 : A.tmps[46]? = some (.bool true) := (hin 12 46 rfl).trans (congrArg some (show u 12 = .bool true from hd 12 (by decide) (by kernel_rfl)))
      clear hd hev hin
      simp only [List.getElem_cons_succ, List.getElem_cons_zero]
      clear hl
      refine .inr ⟨rfl, fun K' hK => ?_⟩
      have HK := Lib.hid hK
      clear hK
      go_simp
      exact HK.out (.bool true) _ hJ rfl vkL_same
    · skip
      have x7 : A.tmps[7]? = some (.pointer (some ⟨b6, 0, none⟩)) := (hev 7 (by decide)).trans rfl
      have y13 : A.tmps[47]? = some (.bool true) := (hin 13 47 rfl).trans (congrArg some (show u 13 = .bool true from hd 13 (by decide) (by kernel_rfl)))
      clear hd hev hin
      simp only [List.getElem_cons_succ, List.getElem_cons_zero]
      clear hl
      refine .inr ⟨?_, fun K' hK => ?_⟩
      · simp [Region.wanted, yielded, y13]
      clear y13
      have HK := Lib.hid hK
      clear hK
      have f5_0 := (hJ.bl.at' (b6, d) (.tail _ (.tail _ (.tail _ (.tail _ (.tail _ (.head _))))))).cells.1
      have f5_1 := (hJ.bl.at' (b6, d) (.tail _ (.tail _ (.tail _ (.tail _ (.tail _ (.head _))))))).cells.2.1
      have f5_2 := (hJ.bl.at' (b6, d) (.tail _ (.tail _ (.tail _ (.tail _ (.tail _ (.head _))))))).cells.2.2.1
      go_simp
      exact HK.out (.agg #[.int .i64 d.lo, .int .i64 d.hi, .bool d.all]) _ hJ rfl vkL_same
    · skip
      have y13 : A.tmps[47]? = some (.bool true) := (hin 13 47 rfl).trans (congrArg some (show u 13 = .bool true from hd 13 (by decide) (by kernel_rfl)))
      clear hd hev hin
      simp only [List.getElem_cons_succ, List.getElem_cons_zero]
      clear hl
      refine .inr ⟨?_, fun K' hK => ?_⟩
      · simp [Region.wanted, yielded, y13]
      clear y13
      have HK := Lib.hid hK
      clear hK
      go_simp
      refine (Hq.out W).mono ?_
      rintro e W' ⟨rfl, hB⟩
      exact HK.out (.agg #[.int .i64 d.lo, .int .i64 d.hi, .bool d.all]) _ (hJ.later hB) rfl (vkL_later hB)
    · skip
      have x48 : A.tmps[48]? = some (.agg #[.int .i64 d.lo, .int .i64 d.hi, .bool d.all]) := (hin 14 48 rfl).trans (congrArg some (show u 14 = .agg #[.int .i64 d.lo, .int .i64 d.hi, .bool d.all] from hd 14 (by decide) (by kernel_rfl)))
      have x49 : A.tmps[49]? = some (.agg #[.int .i64 d.lo, .int .i64 d.hi, .bool d.all]) := (hin 15 49 rfl).trans (congrArg some (show u 15 = .agg #[.int .i64 d.lo, .int .i64 d.hi, .bool d.all] from hd 15 (by decide) (by kernel_rfl)))
      have y13 : A.tmps[47]? = some (.bool true) := (hin 13 47 rfl).trans (congrArg some (show u 13 = .bool true from hd 13 (by decide) (by kernel_rfl)))
      clear hd hev hin
      simp only [List.getElem_cons_succ, List.getElem_cons_zero]
      clear hl
      refine .inr ⟨?_, fun K' hK => ?_⟩
      · simp [Region.wanted, yielded, y13]
      clear y13
      have HK := Lib.hid hK
      clear hK
      go_simp
      exact HK.out (.bool true) _ hJ rfl vkL_same
    · skip
      have x47 : A.tmps[47]? = some (.bool true) := (hin 13 47 rfl).trans (congrArg some (show u 13 = .bool true from hd 13 (by decide) (by kernel_rfl)))
      have x50 : A.tmps[50]? = some (.bool true) := (hin 16 50 rfl).trans (congrArg some (show u 16 = .bool true from hd 16 (by decide) (by kernel_rfl)))
      clear hd hev hin
      simp only [List.getElem_cons_succ, List.getElem_cons_zero]
      clear hl
      refine .inr ⟨rfl, fun K' hK => ?_⟩
      have HK := Lib.hid hK
      clear hK
      go_simp
      exact HK.out (.bool true) _ hJ rfl vkL_same
    · skip
      have x51 : A.tmps[51]? = some (.bool true) := (hin 17 51 rfl).trans (congrArg some (show u 17 = .bool true from hd 17 (by decide) (by kernel_rfl)))
      clear hd hev hin
      simp only [List.getElem_cons_succ, List.getElem_cons_zero]
      clear hl
      refine .inr ⟨rfl, fun K' hK => ?_⟩
      have HK := Lib.hid hK
      clear hK
      go_simp
      exact HK.out (.bool true) _ hJ rfl vkL_same
    · skip
      have x8 : A.tmps[8]? = some (.pointer (some ⟨b7, 0, none⟩)) := (hev 8 (by decide)).trans rfl
      have y18 : A.tmps[52]? = some (.bool true) := (hin 18 52 rfl).trans (congrArg some (show u 18 = .bool true from hd 18 (by decide) (by kernel_rfl)))
      clear hd hev hin
      simp only [List.getElem_cons_succ, List.getElem_cons_zero]
      clear hl
      refine .inr ⟨?_, fun K' hK => ?_⟩
      · simp [Region.wanted, yielded, y18]
      clear y18
      have HK := Lib.hid hK
      clear hK
      have f4_0 := (hJ.bl.at' (b7, d) (.tail _ (.tail _ (.tail _ (.tail _ (.head _)))))).cells.1
      have f4_1 := (hJ.bl.at' (b7, d) (.tail _ (.tail _ (.tail _ (.tail _ (.head _)))))).cells.2.1
      have f4_2 := (hJ.bl.at' (b7, d) (.tail _ (.tail _ (.tail _ (.tail _ (.head _)))))).cells.2.2.1
      go_simp
      exact HK.out (.agg #[.int .i64 d.lo, .int .i64 d.hi, .bool d.all]) _ hJ rfl vkL_same
    · skip
      have y18 : A.tmps[52]? = some (.bool true) := (hin 18 52 rfl).trans (congrArg some (show u 18 = .bool true from hd 18 (by decide) (by kernel_rfl)))
      clear hd hev hin
      simp only [List.getElem_cons_succ, List.getElem_cons_zero]
      clear hl
      refine .inr ⟨?_, fun K' hK => ?_⟩
      · simp [Region.wanted, yielded, y18]
      clear y18
      have HK := Lib.hid hK
      clear hK
      go_simp
      refine (Hq.out W).mono ?_
      rintro e W' ⟨rfl, hB⟩
      exact HK.out (.agg #[.int .i64 d.lo, .int .i64 d.hi, .bool d.all]) _ (hJ.later hB) rfl (vkL_later hB)
    · skip
      have x53 : A.tmps[53]? = some (.agg #[.int .i64 d.lo, .int .i64 d.hi, .bool d.all]) := (hin 19 53 rfl).trans (congrArg some (show u 19 = .agg #[.int .i64 d.lo, .int .i64 d.hi, .bool d.all] from hd 19 (by decide) (by kernel_rfl)))
      have x54 : A.tmps[54]? = some (.agg #[.int .i64 d.lo, .int .i64 d.hi, .bool d.all]) := (hin 20 54 rfl).trans (congrArg some (show u 20 = .agg #[.int .i64 d.lo, .int .i64 d.hi, .bool d.all] from hd 20 (by decide) (by kernel_rfl)))
      have y18 : A.tmps[52]? = some (.bool true) := (hin 18 52 rfl).trans (congrArg some (show u 18 = .bool true from hd 18 (by decide) (by kernel_rfl)))
      clear hd hev hin
      simp only [List.getElem_cons_succ, List.getElem_cons_zero]
      clear hl
      refine .inr ⟨?_, fun K' hK => ?_⟩
      · simp [Region.wanted, yielded, y18]
      clear y18
      have HK := Lib.hid hK
      clear hK
      go_simp
      exact HK.out (.bool true) _ hJ rfl vkL_same
    · skip
      have x52 : A.tmps[52]? = some (.bool true) := (hin 18 52 rfl).trans (congrArg some (show u 18 = .bool true from hd 18 (by decide) (by kernel_rfl)))
      have x55 : A.tmps[55]? = some (.bool true) := (hin 21 55 rfl).trans (congrArg some (show u 21 = .bool true from hd 21 (by decide) (by kernel_rfl)))
      clear hd hev hin
      simp only [List.getElem_cons_succ, List.getElem_cons_zero]
      clear hl
      refine .inr ⟨rfl, fun K' hK => ?_⟩
      have HK := Lib.hid hK
      clear hK
      go_simp
      exact HK.out (.bool true) _ hJ rfl vkL_same
    · skip
      have x56 : A.tmps[56]? = some (.bool true) := (hin 22 56 rfl).trans (congrArg some (show u 22 = .bool true from hd 22 (by decide) (by kernel_rfl)))
      clear hd hev hin
      simp only [List.getElem_cons_succ, List.getElem_cons_zero]
      clear hl
      refine .inr ⟨rfl, fun K' hK => ?_⟩
      have HK := Lib.hid hK
      clear hK
      go_simp
      exact HK.out (.bool true) _ hJ rfl vkL_same
    · skip
      have x9 : A.tmps[9]? = some (.pointer (some ⟨b8, 0, none⟩)) := (hev 9 (by decide)).trans rfl
      have y23 : A.tmps[57]? = some (.bool true) := (hin 23 57 rfl).trans (congrArg some (show u 23 = .bool true from hd 23 (by decide) (by kernel_rfl)))
      clear hd hev hin
      simp only [List.getElem_cons_succ, List.getElem_cons_zero]
      clear hl
      refine .inr ⟨?_, fun K' hK => ?_⟩
      · simp [Region.wanted, yielded, y23]
      clear y23
      have HK := Lib.hid hK
      clear hK
      have f3_0 := (hJ.bl.at' (b8, f) (.tail _ (.tail _ (.tail _ (.head _))))).cells.1
      have f3_1 := (hJ.bl.at' (b8, f) (.tail _ (.tail _ (.tail _ (.head _))))).cells.2.1
      have f3_2 := (hJ.bl.at' (b8, f) (.tail _ (.tail _ (.tail _ (.head _))))).cells.2.2.1
      go_simp
      exact HK.out (.agg #[.int .i64 f.lo, .int .i64 f.hi, .bool f.all]) _ hJ rfl vkL_same
    · skip
      have y23 : A.tmps[57]? = some (.bool true) := (hin 23 57 rfl).trans (congrArg some (show u 23 = .bool true from hd 23 (by decide) (by kernel_rfl)))
      clear hd hev hin
      simp only [List.getElem_cons_succ, List.getElem_cons_zero]
      clear hl
      refine .inr ⟨?_, fun K' hK => ?_⟩
      · simp [Region.wanted, yielded, y23]
      clear y23
      have HK := Lib.hid hK
      clear hK
      go_simp
      refine (Hr.out W).mono ?_
      rintro e W' ⟨rfl, hB⟩
      exact HK.out (.agg #[.int .i64 f.lo, .int .i64 f.hi, .bool f.all]) _ (hJ.later hB) rfl (vkL_later hB)
    · skip
      have x58 : A.tmps[58]? = some (.agg #[.int .i64 f.lo, .int .i64 f.hi, .bool f.all]) := (hin 24 58 rfl).trans (congrArg some (show u 24 = .agg #[.int .i64 f.lo, .int .i64 f.hi, .bool f.all] from hd 24 (by decide) (by kernel_rfl)))
      have x59 : A.tmps[59]? = some (.agg #[.int .i64 f.lo, .int .i64 f.hi, .bool f.all]) := (hin 25 59 rfl).trans (congrArg some (show u 25 = .agg #[.int .i64 f.lo, .int .i64 f.hi, .bool f.all] from hd 25 (by decide) (by kernel_rfl)))
      have y23 : A.tmps[57]? = some (.bool true) := (hin 23 57 rfl).trans (congrArg some (show u 23 = .bool true from hd 23 (by decide) (by kernel_rfl)))
      clear hd hev hin
      simp only [List.getElem_cons_succ, List.getElem_cons_zero]
      clear hl
      refine .inr ⟨?_, fun K' hK => ?_⟩
      · simp [Region.wanted, yielded, y23]
      clear y23
      have HK := Lib.hid hK
      clear hK
      go_simp
      exact HK.out (.bool true) _ hJ rfl vkL_same
    · skip
      have x57 : A.tmps[57]? = some (.bool true) := (hin 23 57 rfl).trans (congrArg some (show u 23 = .bool true from hd 23 (by decide) (by kernel_rfl)))
      have x60 : A.tmps[60]? = some (.bool true) := (hin 26 60 rfl).trans (congrArg some (show u 26 = .bool true from hd 26 (by decide) (by kernel_rfl)))
      clear hd hev hin
      simp only [List.getElem_cons_succ, List.getElem_cons_zero]
      clear hl
      refine .inr ⟨rfl, fun K' hK => ?_⟩
      have HK := Lib.hid hK
      clear hK
      go_simp
      exact HK.out (.bool true) _ hJ rfl vkL_same
    · skip
      have x61 : A.tmps[61]? = some (.bool true) := (hin 27 61 rfl).trans (congrArg some (show u 27 = .bool true from hd 27 (by decide) (by kernel_rfl)))
      clear hd hev hin
      simp only [List.getElem_cons_succ, List.getElem_cons_zero]
      clear hl
      refine .inr ⟨rfl, fun K' hK => ?_⟩
      have HK := Lib.hid hK
      clear hK
      go_simp
      exact HK.out (.bool true) _ hJ rfl vkL_same
    · skip
      have x10 : A.tmps[10]? = some (.pointer (some ⟨b9, 0, none⟩)) := (hev 10 (by decide)).trans rfl
      have y28 : A.tmps[62]? = some (.bool true) := (hin 28 62 rfl).trans (congrArg some (show u 28 = .bool true from hd 28 (by decide) (by kernel_rfl)))
      clear hd hev hin
      simp only [List.getElem_cons_succ, List.getElem_cons_zero]
      clear hl
      refine .inr ⟨?_, fun K' hK => ?_⟩
      · simp [Region.wanted, yielded, y28]
      clear y28
      have HK := Lib.hid hK
      clear hK
      have f2_0 := (hJ.bl.at' (b9, g) (.tail _ (.tail _ (.head _)))).cells.1
      have f2_1 := (hJ.bl.at' (b9, g) (.tail _ (.tail _ (.head _)))).cells.2.1
      have f2_2 := (hJ.bl.at' (b9, g) (.tail _ (.tail _ (.head _)))).cells.2.2.1
      go_simp
      exact HK.out (.agg #[.int .i64 g.lo, .int .i64 g.hi, .bool g.all]) _ hJ rfl vkL_same
    · skip
      have y28 : A.tmps[62]? = some (.bool true) := (hin 28 62 rfl).trans (congrArg some (show u 28 = .bool true from hd 28 (by decide) (by kernel_rfl)))
      clear hd hev hin
      simp only [List.getElem_cons_succ, List.getElem_cons_zero]
      clear hl
      refine .inr ⟨?_, fun K' hK => ?_⟩
      · simp [Region.wanted, yielded, y28]
      clear y28
      have HK := Lib.hid hK
      clear hK
      go_simp
      refine (Hs.out W).mono ?_
      rintro e W' ⟨rfl, hB⟩
      exact HK.out (.agg #[.int .i64 g.lo, .int .i64 g.hi, .bool g.all]) _ (hJ.later hB) rfl (vkL_later hB)
    · skip
      have x63 : A.tmps[63]? = some (.agg #[.int .i64 g.lo, .int .i64 g.hi, .bool g.all]) := (hin 29 63 rfl).trans (congrArg some (show u 29 = .agg #[.int .i64 g.lo, .int .i64 g.hi, .bool g.all] from hd 29 (by decide) (by kernel_rfl)))
      have x64 : A.tmps[64]? = some (.agg #[.int .i64 g.lo, .int .i64 g.hi, .bool g.all]) := (hin 30 64 rfl).trans (congrArg some (show u 30 = .agg #[.int .i64 g.lo, .int .i64 g.hi, .bool g.all] from hd 30 (by decide) (by kernel_rfl)))
      have y28 : A.tmps[62]? = some (.bool true) := (hin 28 62 rfl).trans (congrArg some (show u 28 = .bool true from hd 28 (by decide) (by kernel_rfl)))
      clear hd hev hin
      simp only [List.getElem_cons_succ, List.getElem_cons_zero]
      clear hl
      refine .inr ⟨?_, fun K' hK => ?_⟩
      · simp [Region.wanted, yielded, y28]
      clear y28
      have HK := Lib.hid hK
      clear hK
      go_simp
      exact HK.out (.bool true) _ hJ rfl vkL_same
    · skip
      have x62 : A.tmps[62]? = some (.bool true) := (hin 28 62 rfl).trans (congrArg some (show u 28 = .bool true from hd 28 (by decide) (by kernel_rfl)))
      have x65 : A.tmps[65]? = some (.bool true) := (hin 31 65 rfl).trans (congrArg some (show u 31 = .bool true from hd 31 (by decide) (by kernel_rfl)))
      clear hd hev hin
      simp only [List.getElem_cons_succ, List.getElem_cons_zero]
      clear hl
      refine .inr ⟨rfl, fun K' hK => ?_⟩
      have HK := Lib.hid hK
      clear hK
      go_simp
      exact HK.out (.bool true) _ hJ rfl vkL_same
    · skip
      have x66 : A.tmps[66]? = some (.bool true) := (hin 32 66 rfl).trans (congrArg some (show u 32 = .bool true from hd 32 (by decide) (by kernel_rfl)))
      clear hd hev hin
      simp only [List.getElem_cons_succ, List.getElem_cons_zero]
      clear hl
      refine .inr ⟨rfl, fun K' hK => ?_⟩
      have HK := Lib.hid hK
      clear hK
      go_simp
      exact HK.out (.bool true) _ hJ rfl vkL_same
    · skip
      have x11 : A.tmps[11]? = some (.pointer (some ⟨b10, 0, none⟩)) := (hev 11 (by decide)).trans rfl
      have y33 : A.tmps[67]? = some (.bool true) := (hin 33 67 rfl).trans (congrArg some (show u 33 = .bool true from hd 33 (by decide) (by kernel_rfl)))
      clear hd hev hin
      simp only [List.getElem_cons_succ, List.getElem_cons_zero]
      clear hl
      refine .inr ⟨?_, fun K' hK => ?_⟩
      · simp [Region.wanted, yielded, y33]
      clear y33
      have HK := Lib.hid hK
      clear hK
      go_simp
      exact HK.out (.pointer (some ⟨b10, 2, none⟩)) _ hJ rfl vkL_same
    · skip
      have x68 : A.tmps[68]? = some (.pointer (some ⟨b10, 2, none⟩)) := (hin 34 68 rfl).trans (congrArg some (show u 34 = .pointer (some ⟨b10, 2, none⟩) from hd 34 (by decide) (by kernel_rfl)))
      have y33 : A.tmps[67]? = some (.bool true) := (hin 33 67 rfl).trans (congrArg some (show u 33 = .bool true from hd 33 (by decide) (by kernel_rfl)))
      clear hd hev hin
      simp only [List.getElem_cons_succ, List.getElem_cons_zero]
      clear hl
      refine .inr ⟨?_, fun K' hK => ?_⟩
      · simp [Region.wanted, yielded, y33]
      clear y33
      have HK := Lib.hid hK
      clear hK
      have f1_0 := (hJ.bl.at' (b10, lineS) (.tail _ (.head _))).cells.1
      have f1_1 := (hJ.bl.at' (b10, lineS) (.tail _ (.head _))).cells.2.1
      have f1_2 := (hJ.bl.at' (b10, lineS) (.tail _ (.head _))).cells.2.2.1
      rw [show lineS.all = true from rfl] at f1_2
      go_simp
      exact HK.out (.bool true) _ hJ rfl vkL_same
    · skip
      have x67 : A.tmps[67]? = some (.bool true) := (hin 33 67 rfl).trans (congrArg some (show u 33 = .bool true from hd 33 (by decide) (by kernel_rfl)))
      have x69 : A.tmps[69]? = some (.bool true) := (hin 35 69 rfl).trans (congrArg some (show u 35 = .bool true from hd 35 (by decide) (by kernel_rfl)))
      clear hd hev hin
      simp only [List.getElem_cons_succ, List.getElem_cons_zero]
      clear hl
      refine .inr ⟨rfl, fun K' hK => ?_⟩
      have HK := Lib.hid hK
      clear hK
      go_simp
      exact HK.out (.bool true) _ hJ rfl vkL_same
    · skip
      have x70 : A.tmps[70]? = some (.bool true) := (hin 36 70 rfl).trans (congrArg some (show u 36 = .bool true from hd 36 (by decide) (by kernel_rfl)))
      clear hd hev hin
      simp only [List.getElem_cons_succ, List.getElem_cons_zero]
      clear hl
      refine .inr ⟨rfl, fun K' hK => ?_⟩
      have HK := Lib.hid hK
      clear hK
      go_simp
      exact HK.out (.bool true) _ hJ rfl vkL_same
    · skip
      have x12 : A.tmps[12]? = some (.pointer (some ⟨b11, 0, none⟩)) := (hev 12 (by decide)).trans rfl
      have y37 : A.tmps[71]? = some (.bool true) := (hin 37 71 rfl).trans (congrArg some (show u 37 = .bool true from hd 37 (by decide) (by kernel_rfl)))
      clear hd hev hin
      simp only [List.getElem_cons_succ, List.getElem_cons_zero]
      clear hl
      refine .inr ⟨?_, fun K' hK => ?_⟩
      · simp [Region.wanted, yielded, y37]
      clear y37
      have HK := Lib.hid hK
      clear hK
      go_simp
      exact HK.out (.pointer (some ⟨b11, 2, none⟩)) _ hJ rfl vkL_same
    · skip
      have x72 : A.tmps[72]? = some (.pointer (some ⟨b11, 2, none⟩)) := (hin 38 72 rfl).trans (congrArg some (show u 38 = .pointer (some ⟨b11, 2, none⟩) from hd 38 (by decide) (by kernel_rfl)))
      have y37 : A.tmps[71]? = some (.bool true) := (hin 37 71 rfl).trans (congrArg some (show u 37 = .bool true from hd 37 (by decide) (by kernel_rfl)))
      clear hd hev hin
      simp only [List.getElem_cons_succ, List.getElem_cons_zero]
      clear hl
      refine .inr ⟨?_, fun K' hK => ?_⟩
      · simp [Region.wanted, yielded, y37]
      clear y37
      have HK := Lib.hid hK
      clear hK
      have f0_0 := (hJ.bl.at' (b11, lineS) (.head _)).cells.1
      have f0_1 := (hJ.bl.at' (b11, lineS) (.head _)).cells.2.1
      have f0_2 := (hJ.bl.at' (b11, lineS) (.head _)).cells.2.2.1
      rw [show lineS.all = true from rfl] at f0_2
      go_simp
      exact HK.out (.bool true) _ hJ rfl vkL_same
    · skip
      have x71 : A.tmps[71]? = some (.bool true) := (hin 37 71 rfl).trans (congrArg some (show u 37 = .bool true from hd 37 (by decide) (by kernel_rfl)))
      have x73 : A.tmps[73]? = some (.bool true) := (hin 39 73 rfl).trans (congrArg some (show u 39 = .bool true from hd 39 (by decide) (by kernel_rfl)))
      clear hd hev hin
      simp only [List.getElem_cons_succ, List.getElem_cons_zero]
      clear hl
      refine .inr ⟨rfl, fun K' hK => ?_⟩
      have HK := Lib.hid hK
      clear hK
      go_simp
      exact HK.out (.bool true) _ hJ rfl vkL_same
    · skip
      have x74 : A.tmps[74]? = some (.bool true) := (hin 40 74 rfl).trans (congrArg some (show u 40 = .bool true from hd 40 (by decide) (by kernel_rfl)))
      clear hd hev hin
      simp only [List.getElem_cons_succ, List.getElem_cons_zero]
      clear hl
      refine .inr ⟨rfl, fun K' hK => ?_⟩
      have HK := Lib.hid hK
      clear hK
      go_simp
      exact HK.out (.bool true) _ hJ rfl vkL_same
  intro u W hJm hd
  have e0 : u 0 = .agg #[.int .i64 one.lo, .int .i64 one.hi, .bool one.all] := hd 0 (by decide)
  have e1 : u 1 = .agg #[.int .i64 one.lo, .int .i64 one.hi, .bool one.all] := hd 1 (by decide)
  have e2 : u 2 = .bool true := hd 2 (by decide)
  have e3 : u 3 = .bool true := hd 3 (by decide)
  have e4 : u 4 = .agg #[.int .i64 half.lo, .int .i64 half.hi, .bool half.all] := hd 4 (by decide)
  have e5 : u 5 = .agg #[.int .i64 half.lo, .int .i64 half.hi, .bool half.all] := hd 5 (by decide)
  have e6 : u 6 = .bool true := hd 6 (by decide)
  have e7 : u 7 = .bool true := hd 7 (by decide)
  have e8 : u 8 = .bool true := hd 8 (by decide)
  have e9 : u 9 = .agg #[.int .i64 one.lo, .int .i64 one.hi, .bool one.all] := hd 9 (by decide)
  have e10 : u 10 = .agg #[.int .i64 one.lo, .int .i64 one.hi, .bool one.all] := hd 10 (by decide)
  have e11 : u 11 = .bool true := hd 11 (by decide)
  have e12 : u 12 = .bool true := hd 12 (by decide)
  have e13 : u 13 = .bool true := hd 13 (by decide)
  have e14 : u 14 = .agg #[.int .i64 d.lo, .int .i64 d.hi, .bool d.all] := hd 14 (by decide)
  have e15 : u 15 = .agg #[.int .i64 d.lo, .int .i64 d.hi, .bool d.all] := hd 15 (by decide)
  have e16 : u 16 = .bool true := hd 16 (by decide)
  have e17 : u 17 = .bool true := hd 17 (by decide)
  have e18 : u 18 = .bool true := hd 18 (by decide)
  have e19 : u 19 = .agg #[.int .i64 d.lo, .int .i64 d.hi, .bool d.all] := hd 19 (by decide)
  have e20 : u 20 = .agg #[.int .i64 d.lo, .int .i64 d.hi, .bool d.all] := hd 20 (by decide)
  have e21 : u 21 = .bool true := hd 21 (by decide)
  have e22 : u 22 = .bool true := hd 22 (by decide)
  have e23 : u 23 = .bool true := hd 23 (by decide)
  have e24 : u 24 = .agg #[.int .i64 f.lo, .int .i64 f.hi, .bool f.all] := hd 24 (by decide)
  have e25 : u 25 = .agg #[.int .i64 f.lo, .int .i64 f.hi, .bool f.all] := hd 25 (by decide)
  have e26 : u 26 = .bool true := hd 26 (by decide)
  have e27 : u 27 = .bool true := hd 27 (by decide)
  have e28 : u 28 = .bool true := hd 28 (by decide)
  have e29 : u 29 = .agg #[.int .i64 g.lo, .int .i64 g.hi, .bool g.all] := hd 29 (by decide)
  have e30 : u 30 = .agg #[.int .i64 g.lo, .int .i64 g.hi, .bool g.all] := hd 30 (by decide)
  have e31 : u 31 = .bool true := hd 31 (by decide)
  have e32 : u 32 = .bool true := hd 32 (by decide)
  have e33 : u 33 = .bool true := hd 33 (by decide)
  have e34 : u 34 = .pointer (some ⟨b10, 2, none⟩) := hd 34 (by decide)
  have e35 : u 35 = .bool true := hd 35 (by decide)
  have e36 : u 36 = .bool true := hd 36 (by decide)
  have e37 : u 37 = .bool true := hd 37 (by decide)
  have e38 : u 38 = .pointer (some ⟨b11, 2, none⟩) := hd 38 (by decide)
  have e39 : u 39 = .bool true := hd 39 (by decide)
  have e40 : u 40 = .bool true := hd 40 (by decide)
  have e41 : u 41 = .bool true := hd 41 (by decide)
  clear hd
  simp only [layS, Act.put, List.setIfInBounds_toArray, List.set_cons_succ, List.set_cons_zero, Nat.zero_add, Nat.reduceAdd, List.drop_succ_cons, List.drop_zero, List.drop_nil, e0, e1, e2, e3, e4, e5, e6, e7, e8, e9, e10, e11, e12, e13, e14, e15, e16, e17, e18, e19, e20, e21, e22, e23, e24, e25, e26, e27, e28, e29, e30, e31, e32, e33, e34, e35, e36, e37, e38, e39, e40, e41]
  clear e0 e1 e2 e3 e4 e5 e6 e7 e8 e9 e10 e11 e12 e13 e14 e15 e16 e17 e18 e19 e20 e21 e22 e23 e24 e25 e26 e27 e28 e29 e30 e31 e32 e33 e34 e35 e36 e37 e38 e39 e40 e41
  replace hJ := hJm.bl
  clear hM13
  clear hJm
  generalize hZ : W = Z27 at *
  clear hZ
  have hJf := hJ.below
  go_wp2
  go_ret
  exact ⟨rfl, hJf⟩
end Go.Proofs.Ytpahkpcoinbgcaa

/- Sines and cosines: the laws' awake holds. No statement of the seat is proved here. -/
namespace Go.Proofs.Ytpahkpcoinbgcaa
open Go.RowKit

theorem kOf_at {a b : Int} {z : Sp} (h : ofS a b = z) (w : World) : Calls Try.prog 67 #[.int .i64 a, .int .i64 b] w (PSp z w) := h ▸ sOf_any a b w
theorem kA_at {s z : Sp} (h : encS 1 s = z) (w : World) : Calls Try.prog 30 #[.agg #[.int .i64 s.lo, .int .i64 s.hi, .bool s.all]] w (PSp z w) := h ▸ kA_any s w
theorem kB_at {s z : Sp} (h : encS 2 s = z) (w : World) : Calls Try.prog 31 #[.agg #[.int .i64 s.lo, .int .i64 s.hi, .bool s.all]] w (PSp z w) := h ▸ kB_any s w
theorem kC_at {s z : Sp} (h : encS 0 s = z) (w : World) : Calls Try.prog 32 #[.agg #[.int .i64 s.lo, .int .i64 s.hi, .bool s.all]] w (PSp z w) := h ▸ kC_any s w
theorem kSin_at {s z : Sp} (h : sinS s = z) (w : World) : Calls Try.prog 36 #[.agg #[.int .i64 s.lo, .int .i64 s.hi, .bool s.all]] w (PSp z w) := h ▸ kSin_any s w
theorem kCos_at {s z : Sp} (h : cosS s = z) (w : World) : Calls Try.prog 37 #[.agg #[.int .i64 s.lo, .int .i64 s.hi, .bool s.all]] w (PSp z w) := h ▸ kCos_any s w
theorem kIn_at {x y : Sp} {b : Bool} (h : inB x y = b) (w : World) : Calls Try.prog 66 #[.agg #[.int .i64 x.lo, .int .i64 x.hi, .bool x.all], .agg #[.int .i64 y.lo, .int .i64 y.hi, .bool y.all]] w (PVal (.bool b) w) := h ▸ In_any x y w
theorem kHas_at {x : Sp} {n : Int} {b : Bool} (h : hasB x n = b) (w : World) : Calls Try.prog 63 #[.agg #[.int .i64 x.lo, .int .i64 x.hi, .bool x.all], .int .i64 n] w (PVal (.bool b) w) := h ▸ Has_any x n w
theorem kMeet_at {x y : Sp} {b : Bool} (h' : meetB x y = b) (w : World) : Calls Try.prog 65 #[.agg #[.int .i64 x.lo, .int .i64 x.hi, .bool x.all], .agg #[.int .i64 y.lo, .int .i64 y.hi, .bool y.all]] w (PSp2 (meetS x y) b w) := h' ▸ Meet_any x y w
theorem kNeg_at {s z : Sp} (h : negS s = z) (w : World) : Calls Try.prog 22 #[.agg #[.int .i64 s.lo, .int .i64 s.hi, .bool s.all]] w (PSp z w) := h ▸ sNeg_any s w
theorem kawake_any (w : World) : Calls Try.prog 28 #[] w (PVal (.bool true) w) :=
  kawake_w ⟨0, 0, false⟩ ⟨1048576, 1048576, false⟩ ⟨2097152, 2097152, false⟩ ⟨524288, 524288, false⟩ ⟨882346, 882347, false⟩ ⟨566548, 566549, false⟩ ⟨-436362, -436361, false⟩ ⟨-1, 0, false⟩ ⟨0, 4194305, false⟩
    (kOf_at (by kernel_rfl)) (kOf_at (by kernel_rfl)) (kOf_at (by kernel_rfl)) (kA_at (by kernel_rfl)) (kB_at (by kernel_rfl)) (kC_at (by kernel_rfl)) (kA_at (by kernel_rfl)) (kSin_at (by kernel_rfl)) (kCos_at (by kernel_rfl)) (kCos_at (by kernel_rfl))
    (kOf_at (by kernel_rfl)) (kA_at (by kernel_rfl)) (kOf_at (by kernel_rfl)) (kA_at (by kernel_rfl)) (kOf_at (by kernel_rfl)) (kOf_at (by kernel_rfl)) (kOf_at (by kernel_rfl)) (kOf_at (by kernel_rfl)) w
end Go.Proofs.Ytpahkpcoinbgcaa
