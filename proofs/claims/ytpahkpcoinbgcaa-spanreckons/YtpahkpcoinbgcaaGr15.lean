/- The walk of the law SpanReckons. -/
import Derived.Test.YtpahkpcoinbgcaaKdd
import Derived.Test.YtpahkpcoinbgcaaSh
import Derived.Test.YtpahkpcoinbgcaaGr11
import Derived.Lib.SmallJoins
import Derived.WalkKit
import Derived.ProofKit
import Derived.OpenShut
namespace Go.Proofs.Ytpahkpcoinbgcaa
open Go Go.RowKit
attribute [local go_sem ↓] run_eqlD run_neqD

set_option maxRecDepth 100000 in
set_option maxHeartbeats 12800000 in
theorem Reckons_w (x y za zs zm zd : Sp) (hHaw : ∀ W : World, Calls Try.prog 12 #[] W (PVal (.bool true) W)) (hHdx : ∀ W : World, Calls Try.prog 13 #[.agg #[.int .i64 x.lo, .int .i64 x.hi, .bool x.all]] W (PDp x W)) (hHdy : ∀ W : World, Calls Try.prog 13 #[.agg #[.int .i64 y.lo, .int .i64 y.hi, .bool y.all]] W (PDp y W)) (hHAdd : ∀ W : World, Calls Try.prog 14 #[.agg #[.int .i64 x.lo, .int .i64 x.hi, .bool x.all], .agg #[.int .i64 y.lo, .int .i64 y.hi, .bool y.all]] W (PSp za W)) (hHdAdd : ∀ W : World, Calls Try.prog 13 #[.agg #[.int .i64 za.lo, .int .i64 za.hi, .bool za.all]] W (PDp za W)) (hHrAdd : ∀ W : World, Calls Try.prog 18 #[.agg #[.int .i64 x.lo, .int .i64 x.hi, .bool x.all], .agg #[.int .i64 y.lo, .int .i64 y.hi, .bool y.all]] W (PDp za W)) (hHSub : ∀ W : World, Calls Try.prog 15 #[.agg #[.int .i64 x.lo, .int .i64 x.hi, .bool x.all], .agg #[.int .i64 y.lo, .int .i64 y.hi, .bool y.all]] W (PSp zs W)) (hHdSub : ∀ W : World, Calls Try.prog 13 #[.agg #[.int .i64 zs.lo, .int .i64 zs.hi, .bool zs.all]] W (PDp zs W)) (hHrSub : ∀ W : World, Calls Try.prog 19 #[.agg #[.int .i64 x.lo, .int .i64 x.hi, .bool x.all], .agg #[.int .i64 y.lo, .int .i64 y.hi, .bool y.all]] W (PDp zs W)) (hHMul : ∀ W : World, Calls Try.prog 16 #[.agg #[.int .i64 x.lo, .int .i64 x.hi, .bool x.all], .agg #[.int .i64 y.lo, .int .i64 y.hi, .bool y.all]] W (PSp zm W)) (hHdMul : ∀ W : World, Calls Try.prog 13 #[.agg #[.int .i64 zm.lo, .int .i64 zm.hi, .bool zm.all]] W (PDp zm W)) (hHrMul : ∀ W : World, Calls Try.prog 20 #[.agg #[.int .i64 x.lo, .int .i64 x.hi, .bool x.all], .agg #[.int .i64 y.lo, .int .i64 y.hi, .bool y.all]] W (PDp zm W)) (hHDiv : ∀ W : World, Calls Try.prog 17 #[.agg #[.int .i64 x.lo, .int .i64 x.hi, .bool x.all], .agg #[.int .i64 y.lo, .int .i64 y.hi, .bool y.all]] W (PSp zd W)) (hHdDiv : ∀ W : World, Calls Try.prog 13 #[.agg #[.int .i64 zd.lo, .int .i64 zd.hi, .bool zd.all]] W (PDp zd W)) (hHrDiv : ∀ W : World, Calls Try.prog 21 #[.agg #[.int .i64 x.lo, .int .i64 x.hi, .bool x.all], .agg #[.int .i64 y.lo, .int .i64 y.hi, .bool y.all]] W (PDp zd W))  (w : World) : Calls Try.prog 3 #[.agg #[.int .i64 x.lo, .int .i64 x.hi, .bool x.all], .agg #[.int .i64 y.lo, .int .i64 y.hi, .bool y.all]] w (PVal (.bool true) w) := by
  have Haw := Lib.hid hHaw
  have Hdx := Lib.hid hHdx
  have Hdy := Lib.hid hHdy
  have HAdd := Lib.hid hHAdd
  have HdAdd := Lib.hid hHdAdd
  have HrAdd := Lib.hid hHrAdd
  have HSub := Lib.hid hHSub
  have HdSub := Lib.hid hHdSub
  have HrSub := Lib.hid hHrSub
  have HMul := Lib.hid hHMul
  have HdMul := Lib.hid hHdMul
  have HrMul := Lib.hid hHrMul
  have HDiv := Lib.hid hHDiv
  have HdDiv := Lib.hid hHdDiv
  have HrDiv := Lib.hid hHrDiv
  clear hHaw hHdx hHdy hHAdd hHdAdd hHrAdd hHSub hHdSub hHrSub hHMul hHdMul hHrMul hHDiv hHdDiv hHrDiv
  have hqza : eqS za.lo za.hi za.all za.lo za.hi za.all = true := eqS_same _ _ _
  have hqzs : eqS zs.lo zs.hi zs.all zs.lo zs.hi zs.all = true := eqS_same _ _ _
  have hqzm : eqS zm.lo zm.hi zm.all zm.lo zm.hi zm.all = true := eqS_same _ _ _
  have hqzd : eqS zd.lo zd.hi zd.all zd.lo zd.hi zd.all = true := eqS_same _ _ _
  have hJ := cs_nil w
  go_enter Try.func3, Try.ntmps3
  go_wp2_with fail
  replace hJ := hJ.new #[.int .i64 x.lo, .int .i64 x.hi, .bool x.all] 23
  replace hJ := hJ.new #[.int .i64 y.lo, .int .i64 y.hi, .bool y.all] 23
  rw [show ((w).alloc (.cells #[.int .i64 x.lo, .int .i64 x.hi, .bool x.all] 23)).heap.size = w.heap.size + 1 by simp] at hJ
  generalize hW0 : ((w).alloc (.cells #[.int .i64 x.lo, .int .i64 x.hi, .bool x.all] 23)).alloc (.cells #[.int .i64 y.lo, .int .i64 y.hi, .bool y.all] 23) = V0 at *
  clear hW0
  generalize w.heap.size = b0 at *
  refine (Haw.out _).mono ?_
  rintro e W1 ⟨rfl, hB⟩
  replace hJ := hJ.later hB
  clear hB
  have f1_0 := (cl3 (hJ.at' (b0, #[.int .i64 x.lo, .int .i64 x.hi, .bool x.all], 23) (.tail _ (.head _)))).1
  have f1_1 := (cl3 (hJ.at' (b0, #[.int .i64 x.lo, .int .i64 x.hi, .bool x.all], 23) (.tail _ (.head _)))).2.1
  have f1_2 := (cl3 (hJ.at' (b0, #[.int .i64 x.lo, .int .i64 x.hi, .bool x.all], 23) (.tail _ (.head _)))).2.2.1
  have fl1 : b0 < W1.heap.size := hJ.lt (b0, #[.int .i64 x.lo, .int .i64 x.hi, .bool x.all], 23) (.tail _ (.head _))
  go_wp2_with fail
  refine (Hdx.out _).mono ?_
  rintro e W2 ⟨rfl, hB⟩
  replace hJ := hJ.later hB
  clear hB f1_0 f1_1 f1_2 fl1
  have f0_0 := (cl3 (hJ.at' (b0 + 1, #[.int .i64 y.lo, .int .i64 y.hi, .bool y.all], 23) (.head _))).1
  have f0_1 := (cl3 (hJ.at' (b0 + 1, #[.int .i64 y.lo, .int .i64 y.hi, .bool y.all], 23) (.head _))).2.1
  have f0_2 := (cl3 (hJ.at' (b0 + 1, #[.int .i64 y.lo, .int .i64 y.hi, .bool y.all], 23) (.head _))).2.2.1
  have fl0 : b0 + 1 < W2.heap.size := hJ.lt (b0 + 1, #[.int .i64 y.lo, .int .i64 y.hi, .bool y.all], 23) (.head _)
  go_wp2_with fail
  clear f0_0 f0_1 f0_2 fl0
  replace hJ := hJ.new #[.int .i64 x.lo, .int .i64 x.hi, .bool x.all] 25
  generalize hW3 : W2.alloc (.cells #[.int .i64 x.lo, .int .i64 x.hi, .bool x.all] 25) = V3 at *
  clear hW3
  generalize W2.heap.size = b2 at *
  refine (Hdy.out _).mono ?_
  rintro e W4 ⟨rfl, hB⟩
  replace hJ := hJ.later hB
  clear hB
  have f2_0 := (cl3 (hJ.at' (b0, #[.int .i64 x.lo, .int .i64 x.hi, .bool x.all], 23) (.tail _ (.tail _ (.head _))))).1
  have f2_1 := (cl3 (hJ.at' (b0, #[.int .i64 x.lo, .int .i64 x.hi, .bool x.all], 23) (.tail _ (.tail _ (.head _))))).2.1
  have f2_2 := (cl3 (hJ.at' (b0, #[.int .i64 x.lo, .int .i64 x.hi, .bool x.all], 23) (.tail _ (.tail _ (.head _))))).2.2.1
  have fl2 : b0 < W4.heap.size := hJ.lt (b0, #[.int .i64 x.lo, .int .i64 x.hi, .bool x.all], 23) (.tail _ (.tail _ (.head _)))
  have f1_0 := (cl3 (hJ.at' (b0 + 1, #[.int .i64 y.lo, .int .i64 y.hi, .bool y.all], 23) (.tail _ (.head _)))).1
  have f1_1 := (cl3 (hJ.at' (b0 + 1, #[.int .i64 y.lo, .int .i64 y.hi, .bool y.all], 23) (.tail _ (.head _)))).2.1
  have f1_2 := (cl3 (hJ.at' (b0 + 1, #[.int .i64 y.lo, .int .i64 y.hi, .bool y.all], 23) (.tail _ (.head _)))).2.2.1
  have fl1 : b0 + 1 < W4.heap.size := hJ.lt (b0 + 1, #[.int .i64 y.lo, .int .i64 y.hi, .bool y.all], 23) (.tail _ (.head _))
  go_wp2_with fail
  clear f2_0 f2_1 f2_2 fl2 f1_0 f1_1 f1_2 fl1
  replace hJ := hJ.new #[.int .i64 y.lo, .int .i64 y.hi, .bool y.all] 25
  generalize hW5 : W4.alloc (.cells #[.int .i64 y.lo, .int .i64 y.hi, .bool y.all] 25) = V5 at *
  clear hW5
  generalize W4.heap.size = b3 at *
  refine (HAdd.out _).mono ?_
  rintro e W6 ⟨rfl, hB⟩
  replace hJ := hJ.later hB
  clear hB
  go_wp2_with fail
  refine (HdAdd.out _).mono ?_
  rintro e W7 ⟨rfl, hB⟩
  replace hJ := hJ.later hB
  clear hB
  have f3_0 := (cl3 (hJ.at' (b0, #[.int .i64 x.lo, .int .i64 x.hi, .bool x.all], 23) (.tail _ (.tail _ (.tail _ (.head _)))))).1
  have f3_1 := (cl3 (hJ.at' (b0, #[.int .i64 x.lo, .int .i64 x.hi, .bool x.all], 23) (.tail _ (.tail _ (.tail _ (.head _)))))).2.1
  have f3_2 := (cl3 (hJ.at' (b0, #[.int .i64 x.lo, .int .i64 x.hi, .bool x.all], 23) (.tail _ (.tail _ (.tail _ (.head _)))))).2.2.1
  have fl3 : b0 < W7.heap.size := hJ.lt (b0, #[.int .i64 x.lo, .int .i64 x.hi, .bool x.all], 23) (.tail _ (.tail _ (.tail _ (.head _))))
  have f2_0 := (cl3 (hJ.at' (b0 + 1, #[.int .i64 y.lo, .int .i64 y.hi, .bool y.all], 23) (.tail _ (.tail _ (.head _))))).1
  have f2_1 := (cl3 (hJ.at' (b0 + 1, #[.int .i64 y.lo, .int .i64 y.hi, .bool y.all], 23) (.tail _ (.tail _ (.head _))))).2.1
  have f2_2 := (cl3 (hJ.at' (b0 + 1, #[.int .i64 y.lo, .int .i64 y.hi, .bool y.all], 23) (.tail _ (.tail _ (.head _))))).2.2.1
  have fl2 : b0 + 1 < W7.heap.size := hJ.lt (b0 + 1, #[.int .i64 y.lo, .int .i64 y.hi, .bool y.all], 23) (.tail _ (.tail _ (.head _)))
  go_wp2_with fail
  clear f3_0 f3_1 f3_2 fl3 f2_0 f2_1 f2_2 fl2
  replace hJ := hJ.new #[.int .i64 za.lo, .int .i64 za.hi, .bool za.all] 25
  generalize hW8 : W7.alloc (.cells #[.int .i64 za.lo, .int .i64 za.hi, .bool za.all] 25) = V8 at *
  clear hW8
  generalize W7.heap.size = b4 at *
  refine (HSub.out _).mono ?_
  rintro e W9 ⟨rfl, hB⟩
  replace hJ := hJ.later hB
  clear hB
  go_wp2_with fail
  refine (HdSub.out _).mono ?_
  rintro e W10 ⟨rfl, hB⟩
  replace hJ := hJ.later hB
  clear hB
  have f4_0 := (cl3 (hJ.at' (b0, #[.int .i64 x.lo, .int .i64 x.hi, .bool x.all], 23) (.tail _ (.tail _ (.tail _ (.tail _ (.head _))))))).1
  have f4_1 := (cl3 (hJ.at' (b0, #[.int .i64 x.lo, .int .i64 x.hi, .bool x.all], 23) (.tail _ (.tail _ (.tail _ (.tail _ (.head _))))))).2.1
  have f4_2 := (cl3 (hJ.at' (b0, #[.int .i64 x.lo, .int .i64 x.hi, .bool x.all], 23) (.tail _ (.tail _ (.tail _ (.tail _ (.head _))))))).2.2.1
  have fl4 : b0 < W10.heap.size := hJ.lt (b0, #[.int .i64 x.lo, .int .i64 x.hi, .bool x.all], 23) (.tail _ (.tail _ (.tail _ (.tail _ (.head _)))))
  have f3_0 := (cl3 (hJ.at' (b0 + 1, #[.int .i64 y.lo, .int .i64 y.hi, .bool y.all], 23) (.tail _ (.tail _ (.tail _ (.head _)))))).1
  have f3_1 := (cl3 (hJ.at' (b0 + 1, #[.int .i64 y.lo, .int .i64 y.hi, .bool y.all], 23) (.tail _ (.tail _ (.tail _ (.head _)))))).2.1
  have f3_2 := (cl3 (hJ.at' (b0 + 1, #[.int .i64 y.lo, .int .i64 y.hi, .bool y.all], 23) (.tail _ (.tail _ (.tail _ (.head _)))))).2.2.1
  have fl3 : b0 + 1 < W10.heap.size := hJ.lt (b0 + 1, #[.int .i64 y.lo, .int .i64 y.hi, .bool y.all], 23) (.tail _ (.tail _ (.tail _ (.head _))))
  go_wp2_with fail
  clear f4_0 f4_1 f4_2 fl4 f3_0 f3_1 f3_2 fl3
  replace hJ := hJ.new #[.int .i64 zs.lo, .int .i64 zs.hi, .bool zs.all] 25
  generalize hW11 : W10.alloc (.cells #[.int .i64 zs.lo, .int .i64 zs.hi, .bool zs.all] 25) = V11 at *
  clear hW11
  generalize W10.heap.size = b5 at *
  refine (HMul.out _).mono ?_
  rintro e W12 ⟨rfl, hB⟩
  replace hJ := hJ.later hB
  clear hB
  go_wp2_with fail
  refine (HdMul.out _).mono ?_
  rintro e W13 ⟨rfl, hB⟩
  replace hJ := hJ.later hB
  clear hB
  have f5_0 := (cl3 (hJ.at' (b0, #[.int .i64 x.lo, .int .i64 x.hi, .bool x.all], 23) (.tail _ (.tail _ (.tail _ (.tail _ (.tail _ (.head _)))))))).1
  have f5_1 := (cl3 (hJ.at' (b0, #[.int .i64 x.lo, .int .i64 x.hi, .bool x.all], 23) (.tail _ (.tail _ (.tail _ (.tail _ (.tail _ (.head _)))))))).2.1
  have f5_2 := (cl3 (hJ.at' (b0, #[.int .i64 x.lo, .int .i64 x.hi, .bool x.all], 23) (.tail _ (.tail _ (.tail _ (.tail _ (.tail _ (.head _)))))))).2.2.1
  have fl5 : b0 < W13.heap.size := hJ.lt (b0, #[.int .i64 x.lo, .int .i64 x.hi, .bool x.all], 23) (.tail _ (.tail _ (.tail _ (.tail _ (.tail _ (.head _))))))
  have f4_0 := (cl3 (hJ.at' (b0 + 1, #[.int .i64 y.lo, .int .i64 y.hi, .bool y.all], 23) (.tail _ (.tail _ (.tail _ (.tail _ (.head _))))))).1
  have f4_1 := (cl3 (hJ.at' (b0 + 1, #[.int .i64 y.lo, .int .i64 y.hi, .bool y.all], 23) (.tail _ (.tail _ (.tail _ (.tail _ (.head _))))))).2.1
  have f4_2 := (cl3 (hJ.at' (b0 + 1, #[.int .i64 y.lo, .int .i64 y.hi, .bool y.all], 23) (.tail _ (.tail _ (.tail _ (.tail _ (.head _))))))).2.2.1
  have fl4 : b0 + 1 < W13.heap.size := hJ.lt (b0 + 1, #[.int .i64 y.lo, .int .i64 y.hi, .bool y.all], 23) (.tail _ (.tail _ (.tail _ (.tail _ (.head _)))))
  go_wp2_with fail
  clear f5_0 f5_1 f5_2 fl5 f4_0 f4_1 f4_2 fl4
  replace hJ := hJ.new #[.int .i64 zm.lo, .int .i64 zm.hi, .bool zm.all] 25
  generalize hW14 : W13.alloc (.cells #[.int .i64 zm.lo, .int .i64 zm.hi, .bool zm.all] 25) = V14 at *
  clear hW14
  generalize W13.heap.size = b6 at *
  refine (HDiv.out _).mono ?_
  rintro e W15 ⟨rfl, hB⟩
  replace hJ := hJ.later hB
  clear hB
  go_wp2_with fail
  refine (HdDiv.out _).mono ?_
  rintro e W16 ⟨rfl, hB⟩
  replace hJ := hJ.later hB
  clear hB
  go_wp2
  replace hJ := hJ.new #[.int .i64 zd.lo, .int .i64 zd.hi, .bool zd.all] 25
  generalize hW17 : W16.alloc (.cells #[.int .i64 zd.lo, .int .i64 zd.hi, .bool zd.all] 25) = V17 at *
  clear hW17
  generalize W16.heap.size = b7 at *
  obtain ⟨m8, hm8⟩ : ∃ m, m = V17.heap.size := ⟨_, rfl⟩
  have hM8 := hJ.cm
  rw [← hm8] at hM8
  refine wp_region_z 30 [some 33, some 34, some 35, some 36, some 37, some 38, some 39, some 40, some 41, some 42, some 43, some 44, some 45, some 46, some 47, some 48, some 49, some 50, some 51, some 52, some 53, some 54, some 55, some 56, some 57, some 58, some 59, some 60, some 61, some 4] (vkL m8 [.eq (.bool true), .eq (.bool true), .eq (.agg #[.int .i64 za.lo, .int .i64 za.hi, .bool za.all]), .eq (.agg #[.int .i64 x.lo, .int .i64 x.hi, .bool x.all]), .eq (.agg #[.int .i64 y.lo, .int .i64 y.hi, .bool y.all]), .eq (.agg #[.int .i64 za.lo, .int .i64 za.hi, .bool za.all]), .eq (.bool true), .eq (.bool true), .eq (.bool true), .eq (.agg #[.int .i64 zs.lo, .int .i64 zs.hi, .bool zs.all]), .eq (.agg #[.int .i64 x.lo, .int .i64 x.hi, .bool x.all]), .eq (.agg #[.int .i64 y.lo, .int .i64 y.hi, .bool y.all]), .eq (.agg #[.int .i64 zs.lo, .int .i64 zs.hi, .bool zs.all]), .eq (.bool true), .eq (.bool true), .eq (.bool true), .eq (.agg #[.int .i64 zm.lo, .int .i64 zm.hi, .bool zm.all]), .eq (.agg #[.int .i64 x.lo, .int .i64 x.hi, .bool x.all]), .eq (.agg #[.int .i64 y.lo, .int .i64 y.hi, .bool y.all]), .eq (.agg #[.int .i64 zm.lo, .int .i64 zm.hi, .bool zm.all]), .eq (.bool true), .eq (.bool true), .eq (.bool true), .eq (.agg #[.int .i64 zd.lo, .int .i64 zd.hi, .bool zd.all]), .eq (.agg #[.int .i64 x.lo, .int .i64 x.hi, .bool x.all]), .eq (.agg #[.int .i64 y.lo, .int .i64 y.hi, .bool y.all]), .eq (.agg #[.int .i64 zd.lo, .int .i64 zd.hi, .bool zd.all]), .eq (.bool true), .eq (.bool true), .eq (.bool true)]) (Cm w m8 [(b7, #[.int .i64 zd.lo, .int .i64 zd.hi, .bool zd.all], 25), (b6, #[.int .i64 zm.lo, .int .i64 zm.hi, .bool zm.all], 25), (b5, #[.int .i64 zs.lo, .int .i64 zs.hi, .bool zs.all], 25), (b4, #[.int .i64 za.lo, .int .i64 za.hi, .bool za.all], 25), (b3, #[.int .i64 y.lo, .int .i64 y.hi, .bool y.all], 25), (b2, #[.int .i64 x.lo, .int .i64 x.hi, .bool x.all], 25), (b0 + 1, #[.int .i64 y.lo, .int .i64 y.hi, .bool y.all], 23), (b0, #[.int .i64 x.lo, .int .i64 x.hi, .bool x.all], 23)] []) (by kernel_rfl) (by kernel_rfl) (by rfl) (by decide) (by rfl) hM8 ?_ ?_
  · intro i hl hi u W A hJ hd hev hin
    obtain rfl | rfl | rfl | rfl | rfl | rfl | rfl | rfl | rfl | rfl | rfl | rfl | rfl | rfl | rfl | rfl | rfl | rfl | rfl | rfl | rfl | rfl | rfl | rfl | rfl | rfl | rfl | rfl | rfl | rfl : i = 0 ∨ i = 1 ∨ i = 2 ∨ i = 3 ∨ i = 4 ∨ i = 5 ∨ i = 6 ∨ i = 7 ∨ i = 8 ∨ i = 9 ∨ i = 10 ∨ i = 11 ∨ i = 12 ∨ i = 13 ∨ i = 14 ∨ i = 15 ∨ i = 16 ∨ i = 17 ∨ i = 18 ∨ i = 19 ∨ i = 20 ∨ i = 21 ∨ i = 22 ∨ i = 23 ∨ i = 24 ∨ i = 25 ∨ i = 26 ∨ i = 27 ∨ i = 28 ∨ i = 29 := by omega
    · skip
      have x5 : A.tmps[5]? = some (.bool true) := (hev 5 (by decide)).trans rfl
      clear hd hev hin
      simp only [List.getElem_cons_succ, List.getElem_cons_zero]
      clear hl
      refine .inr ⟨rfl, fun K' hK => ?_⟩
      have HK := Lib.hid hK
      clear hK
      go_simp
      exact HK.out (.bool true) _ hJ rfl vkL_same
    · skip
      have x33 : A.tmps[33]? = some (.bool true) := (hin 0 33 rfl).trans (congrArg some (show u 0 = .bool true from hd 0 (by decide) (by kernel_rfl)))
      clear hd hev hin
      simp only [List.getElem_cons_succ, List.getElem_cons_zero]
      clear hl
      refine .inr ⟨rfl, fun K' hK => ?_⟩
      have HK := Lib.hid hK
      clear hK
      go_simp
      exact HK.out (.bool true) _ hJ rfl vkL_same
    · skip
      have x8 : A.tmps[8]? = some (.pointer (some ⟨b4, 0, none⟩)) := (hev 8 (by decide)).trans rfl
      have y1 : A.tmps[34]? = some (.bool true) := (hin 1 34 rfl).trans (congrArg some (show u 1 = .bool true from hd 1 (by decide) (by kernel_rfl)))
      clear hd hev hin
      simp only [List.getElem_cons_succ, List.getElem_cons_zero]
      clear hl
      refine .inr ⟨?_, fun K' hK => ?_⟩
      · simp [Region.wanted, yielded, y1]
      clear y1
      have HK := Lib.hid hK
      clear hK
      have f3_0 := (cl3 (hJ.cs.at' (b4, #[.int .i64 za.lo, .int .i64 za.hi, .bool za.all], 25) (.tail _ (.tail _ (.tail _ (.head _)))))).1
      have f3_1 := (cl3 (hJ.cs.at' (b4, #[.int .i64 za.lo, .int .i64 za.hi, .bool za.all], 25) (.tail _ (.tail _ (.tail _ (.head _)))))).2.1
      have f3_2 := (cl3 (hJ.cs.at' (b4, #[.int .i64 za.lo, .int .i64 za.hi, .bool za.all], 25) (.tail _ (.tail _ (.tail _ (.head _)))))).2.2.1
      go_simp
      exact HK.out (.agg #[.int .i64 za.lo, .int .i64 za.hi, .bool za.all]) _ hJ rfl vkL_same
    · skip
      have x6 : A.tmps[6]? = some (.pointer (some ⟨b2, 0, none⟩)) := (hev 6 (by decide)).trans rfl
      have y1 : A.tmps[34]? = some (.bool true) := (hin 1 34 rfl).trans (congrArg some (show u 1 = .bool true from hd 1 (by decide) (by kernel_rfl)))
      clear hd hev hin
      simp only [List.getElem_cons_succ, List.getElem_cons_zero]
      clear hl
      refine .inr ⟨?_, fun K' hK => ?_⟩
      · simp [Region.wanted, yielded, y1]
      clear y1
      have HK := Lib.hid hK
      clear hK
      have f5_0 := (cl3 (hJ.cs.at' (b2, #[.int .i64 x.lo, .int .i64 x.hi, .bool x.all], 25) (.tail _ (.tail _ (.tail _ (.tail _ (.tail _ (.head _)))))))).1
      have f5_1 := (cl3 (hJ.cs.at' (b2, #[.int .i64 x.lo, .int .i64 x.hi, .bool x.all], 25) (.tail _ (.tail _ (.tail _ (.tail _ (.tail _ (.head _)))))))).2.1
      have f5_2 := (cl3 (hJ.cs.at' (b2, #[.int .i64 x.lo, .int .i64 x.hi, .bool x.all], 25) (.tail _ (.tail _ (.tail _ (.tail _ (.tail _ (.head _)))))))).2.2.1
      go_simp
      exact HK.out (.agg #[.int .i64 x.lo, .int .i64 x.hi, .bool x.all]) _ hJ rfl vkL_same
    · skip
      have x7 : A.tmps[7]? = some (.pointer (some ⟨b3, 0, none⟩)) := (hev 7 (by decide)).trans rfl
      have y1 : A.tmps[34]? = some (.bool true) := (hin 1 34 rfl).trans (congrArg some (show u 1 = .bool true from hd 1 (by decide) (by kernel_rfl)))
      clear hd hev hin
      simp only [List.getElem_cons_succ, List.getElem_cons_zero]
      clear hl
      refine .inr ⟨?_, fun K' hK => ?_⟩
      · simp [Region.wanted, yielded, y1]
      clear y1
      have HK := Lib.hid hK
      clear hK
      have f4_0 := (cl3 (hJ.cs.at' (b3, #[.int .i64 y.lo, .int .i64 y.hi, .bool y.all], 25) (.tail _ (.tail _ (.tail _ (.tail _ (.head _))))))).1
      have f4_1 := (cl3 (hJ.cs.at' (b3, #[.int .i64 y.lo, .int .i64 y.hi, .bool y.all], 25) (.tail _ (.tail _ (.tail _ (.tail _ (.head _))))))).2.1
      have f4_2 := (cl3 (hJ.cs.at' (b3, #[.int .i64 y.lo, .int .i64 y.hi, .bool y.all], 25) (.tail _ (.tail _ (.tail _ (.tail _ (.head _))))))).2.2.1
      go_simp
      exact HK.out (.agg #[.int .i64 y.lo, .int .i64 y.hi, .bool y.all]) _ hJ rfl vkL_same
    · skip
      have x36 : A.tmps[36]? = some (.agg #[.int .i64 x.lo, .int .i64 x.hi, .bool x.all]) := (hin 3 36 rfl).trans (congrArg some (show u 3 = .agg #[.int .i64 x.lo, .int .i64 x.hi, .bool x.all] from hd 3 (by decide) (by kernel_rfl)))
      have x37 : A.tmps[37]? = some (.agg #[.int .i64 y.lo, .int .i64 y.hi, .bool y.all]) := (hin 4 37 rfl).trans (congrArg some (show u 4 = .agg #[.int .i64 y.lo, .int .i64 y.hi, .bool y.all] from hd 4 (by decide) (by kernel_rfl)))
      have y1 : A.tmps[34]? = some (.bool true) := (hin 1 34 rfl).trans (congrArg some (show u 1 = .bool true from hd 1 (by decide) (by kernel_rfl)))
      clear hd hev hin
      simp only [List.getElem_cons_succ, List.getElem_cons_zero]
      clear hl
      refine .inr ⟨?_, fun K' hK => ?_⟩
      · simp [Region.wanted, yielded, y1]
      clear y1
      have HK := Lib.hid hK
      clear hK
      go_simp
      refine (HrAdd.out W).mono ?_
      rintro e W' ⟨rfl, hB⟩
      exact HK.out (.agg #[.int .i64 za.lo, .int .i64 za.hi, .bool za.all]) _ (hJ.later hB) rfl (vkL_later hB)
    · skip
      have x35 : A.tmps[35]? = some (.agg #[.int .i64 za.lo, .int .i64 za.hi, .bool za.all]) := (hin 2 35 rfl).trans (congrArg some (show u 2 = .agg #[.int .i64 za.lo, .int .i64 za.hi, .bool za.all] from hd 2 (by decide) (by kernel_rfl)))
      have x38 : A.tmps[38]? = some (.agg #[.int .i64 za.lo, .int .i64 za.hi, .bool za.all]) := (hin 5 38 rfl).trans (congrArg some (show u 5 = .agg #[.int .i64 za.lo, .int .i64 za.hi, .bool za.all] from hd 5 (by decide) (by kernel_rfl)))
      have y1 : A.tmps[34]? = some (.bool true) := (hin 1 34 rfl).trans (congrArg some (show u 1 = .bool true from hd 1 (by decide) (by kernel_rfl)))
      clear hd hev hin
      simp only [List.getElem_cons_succ, List.getElem_cons_zero]
      clear hl
      refine .inr ⟨?_, fun K' hK => ?_⟩
      · simp [Region.wanted, yielded, y1]
      clear y1
      have HK := Lib.hid hK
      clear hK
      go_simp
      exact HK.out (.bool true) _ hJ rfl vkL_same
    · skip
      have x34 : A.tmps[34]? = some (.bool true) := (hin 1 34 rfl).trans (congrArg some (show u 1 = .bool true from hd 1 (by decide) (by kernel_rfl)))
      have x39 : A.tmps[39]? = some (.bool true) := (hin 6 39 rfl).trans (congrArg some (show u 6 = .bool true from hd 6 (by decide) (by kernel_rfl)))
      clear hd hev hin
      simp only [List.getElem_cons_succ, List.getElem_cons_zero]
      clear hl
      refine .inr ⟨rfl, fun K' hK => ?_⟩
      have HK := Lib.hid hK
      clear hK
      go_simp
      exact HK.out (.bool true) _ hJ rfl vkL_same
    · skip
      have x40 : A.tmps[40]? = some (.bool true) := (hin 7 40 rfl).trans (congrArg some (show u 7 = .bool true from hd 7 (by decide) (by kernel_rfl)))
      clear hd hev hin
      simp only [List.getElem_cons_succ, List.getElem_cons_zero]
      clear hl
      refine .inr ⟨rfl, fun K' hK => ?_⟩
      have HK := Lib.hid hK
      clear hK
      go_simp
      exact HK.out (.bool true) _ hJ rfl vkL_same
    · skip
      have x9 : A.tmps[9]? = some (.pointer (some ⟨b5, 0, none⟩)) := (hev 9 (by decide)).trans rfl
      have y8 : A.tmps[41]? = some (.bool true) := (hin 8 41 rfl).trans (congrArg some (show u 8 = .bool true from hd 8 (by decide) (by kernel_rfl)))
      clear hd hev hin
      simp only [List.getElem_cons_succ, List.getElem_cons_zero]
      clear hl
      refine .inr ⟨?_, fun K' hK => ?_⟩
      · simp [Region.wanted, yielded, y8]
      clear y8
      have HK := Lib.hid hK
      clear hK
      have f2_0 := (cl3 (hJ.cs.at' (b5, #[.int .i64 zs.lo, .int .i64 zs.hi, .bool zs.all], 25) (.tail _ (.tail _ (.head _))))).1
      have f2_1 := (cl3 (hJ.cs.at' (b5, #[.int .i64 zs.lo, .int .i64 zs.hi, .bool zs.all], 25) (.tail _ (.tail _ (.head _))))).2.1
      have f2_2 := (cl3 (hJ.cs.at' (b5, #[.int .i64 zs.lo, .int .i64 zs.hi, .bool zs.all], 25) (.tail _ (.tail _ (.head _))))).2.2.1
      go_simp
      exact HK.out (.agg #[.int .i64 zs.lo, .int .i64 zs.hi, .bool zs.all]) _ hJ rfl vkL_same
    · skip
      have x6 : A.tmps[6]? = some (.pointer (some ⟨b2, 0, none⟩)) := (hev 6 (by decide)).trans rfl
      have y8 : A.tmps[41]? = some (.bool true) := (hin 8 41 rfl).trans (congrArg some (show u 8 = .bool true from hd 8 (by decide) (by kernel_rfl)))
      clear hd hev hin
      simp only [List.getElem_cons_succ, List.getElem_cons_zero]
      clear hl
      refine .inr ⟨?_, fun K' hK => ?_⟩
      · simp [Region.wanted, yielded, y8]
      clear y8
      have HK := Lib.hid hK
      clear hK
      have f5_0 := (cl3 (hJ.cs.at' (b2, #[.int .i64 x.lo, .int .i64 x.hi, .bool x.all], 25) (.tail _ (.tail _ (.tail _ (.tail _ (.tail _ (.head _)))))))).1
      have f5_1 := (cl3 (hJ.cs.at' (b2, #[.int .i64 x.lo, .int .i64 x.hi, .bool x.all], 25) (.tail _ (.tail _ (.tail _ (.tail _ (.tail _ (.head _)))))))).2.1
      have f5_2 := (cl3 (hJ.cs.at' (b2, #[.int .i64 x.lo, .int .i64 x.hi, .bool x.all], 25) (.tail _ (.tail _ (.tail _ (.tail _ (.tail _ (.head _)))))))).2.2.1
      go_simp
      exact HK.out (.agg #[.int .i64 x.lo, .int .i64 x.hi, .bool x.all]) _ hJ rfl vkL_same
    · skip
      have x7 : A.tmps[7]? = some (.pointer (some ⟨b3, 0, none⟩)) := (hev 7 (by decide)).trans rfl
      have y8 : A.tmps[41]? = some (.bool true) := (hin 8 41 rfl).trans (congrArg some (show u 8 = .bool true from hd 8 (by decide) (by kernel_rfl)))
      clear hd hev hin
      simp only [List.getElem_cons_succ, List.getElem_cons_zero]
      clear hl
      refine .inr ⟨?_, fun K' hK => ?_⟩
      · simp [Region.wanted, yielded, y8]
      clear y8
      have HK := Lib.hid hK
      clear hK
      have f4_0 := (cl3 (hJ.cs.at' (b3, #[.int .i64 y.lo, .int .i64 y.hi, .bool y.all], 25) (.tail _ (.tail _ (.tail _ (.tail _ (.head _))))))).1
      have f4_1 := (cl3 (hJ.cs.at' (b3, #[.int .i64 y.lo, .int .i64 y.hi, .bool y.all], 25) (.tail _ (.tail _ (.tail _ (.tail _ (.head _))))))).2.1
      have f4_2 := (cl3 (hJ.cs.at' (b3, #[.int .i64 y.lo, .int .i64 y.hi, .bool y.all], 25) (.tail _ (.tail _ (.tail _ (.tail _ (.head _))))))).2.2.1
      go_simp
      exact HK.out (.agg #[.int .i64 y.lo, .int .i64 y.hi, .bool y.all]) _ hJ rfl vkL_same
    · skip
      have x43 : A.tmps[43]? = some (.agg #[.int .i64 x.lo, .int .i64 x.hi, .bool x.all]) := (hin 10 43 rfl).trans (congrArg some (show u 10 = .agg #[.int .i64 x.lo, .int .i64 x.hi, .bool x.all] from hd 10 (by decide) (by kernel_rfl)))
      have x44 : A.tmps[44]? = some (.agg #[.int .i64 y.lo, .int .i64 y.hi, .bool y.all]) := (hin 11 44 rfl).trans (congrArg some (show u 11 = .agg #[.int .i64 y.lo, .int .i64 y.hi, .bool y.all] from hd 11 (by decide) (by kernel_rfl)))
      have y8 : A.tmps[41]? = some (.bool true) := (hin 8 41 rfl).trans (congrArg some (show u 8 = .bool true from hd 8 (by decide) (by kernel_rfl)))
      clear hd hev hin
      simp only [List.getElem_cons_succ, List.getElem_cons_zero]
      clear hl
      refine .inr ⟨?_, fun K' hK => ?_⟩
      · simp [Region.wanted, yielded, y8]
      clear y8
      have HK := Lib.hid hK
      clear hK
      go_simp
      refine (HrSub.out W).mono ?_
      rintro e W' ⟨rfl, hB⟩
      exact HK.out (.agg #[.int .i64 zs.lo, .int .i64 zs.hi, .bool zs.all]) _ (hJ.later hB) rfl (vkL_later hB)
    · skip
      have x42 : A.tmps[42]? = some (.agg #[.int .i64 zs.lo, .int .i64 zs.hi, .bool zs.all]) := (hin 9 42 rfl).trans (congrArg some (show u 9 = .agg #[.int .i64 zs.lo, .int .i64 zs.hi, .bool zs.all] from hd 9 (by decide) (by kernel_rfl)))
      have x45 : A.tmps[45]? = some (.agg #[.int .i64 zs.lo, .int .i64 zs.hi, .bool zs.all]) := (hin 12 45 rfl).trans (congrArg some (show u 12 = .agg #[.int .i64 zs.lo, .int .i64 zs.hi, .bool zs.all] from hd 12 (by decide) (by kernel_rfl)))
      have y8 : A.tmps[41]? = some (.bool true) := (hin 8 41 rfl).trans (congrArg some (show u 8 = .bool true from hd 8 (by decide) (by kernel_rfl)))
      clear hd hev hin
      simp only [List.getElem_cons_succ, List.getElem_cons_zero]
      clear hl
      refine .inr ⟨?_, fun K' hK => ?_⟩
      · simp [Region.wanted, yielded, y8]
      clear y8
      have HK := Lib.hid hK
      clear hK
      go_simp
      exact HK.out (.bool true) _ hJ rfl vkL_same
    · skip
      have x41 : A.tmps[41]? = some (.bool true) := (hin 8 41 rfl).trans (congrArg some (show u 8 = .bool true from hd 8 (by decide) (by kernel_rfl)))
      have x46 : A.tmps[46]? = some (.bool true) := (hin 13 46 rfl).trans (congrArg some (show u 13 = .bool true from hd 13 (by decide) (by kernel_rfl)))
      clear hd hev hin
      simp only [List.getElem_cons_succ, List.getElem_cons_zero]
      clear hl
      refine .inr ⟨rfl, fun K' hK => ?_⟩
      have HK := Lib.hid hK
      clear hK
      go_simp
      exact HK.out (.bool true) _ hJ rfl vkL_same
    · skip
      have x47 : A.tmps[47]? = some (.bool true) := (hin 14 47 rfl).trans (congrArg some (show u 14 = .bool true from hd 14 (by decide) (by kernel_rfl)))
      clear hd hev hin
      simp only [List.getElem_cons_succ, List.getElem_cons_zero]
      clear hl
      refine .inr ⟨rfl, fun K' hK => ?_⟩
      have HK := Lib.hid hK
      clear hK
      go_simp
      exact HK.out (.bool true) _ hJ rfl vkL_same
    · skip
      have x10 : A.tmps[10]? = some (.pointer (some ⟨b6, 0, none⟩)) := (hev 10 (by decide)).trans rfl
      have y15 : A.tmps[48]? = some (.bool true) := (hin 15 48 rfl).trans (congrArg some (show u 15 = .bool true from hd 15 (by decide) (by kernel_rfl)))
      clear hd hev hin
      simp only [List.getElem_cons_succ, List.getElem_cons_zero]
      clear hl
      refine .inr ⟨?_, fun K' hK => ?_⟩
      · simp [Region.wanted, yielded, y15]
      clear y15
      have HK := Lib.hid hK
      clear hK
      have f1_0 := (cl3 (hJ.cs.at' (b6, #[.int .i64 zm.lo, .int .i64 zm.hi, .bool zm.all], 25) (.tail _ (.head _)))).1
      have f1_1 := (cl3 (hJ.cs.at' (b6, #[.int .i64 zm.lo, .int .i64 zm.hi, .bool zm.all], 25) (.tail _ (.head _)))).2.1
      have f1_2 := (cl3 (hJ.cs.at' (b6, #[.int .i64 zm.lo, .int .i64 zm.hi, .bool zm.all], 25) (.tail _ (.head _)))).2.2.1
      go_simp
      exact HK.out (.agg #[.int .i64 zm.lo, .int .i64 zm.hi, .bool zm.all]) _ hJ rfl vkL_same
    · skip
      have x6 : A.tmps[6]? = some (.pointer (some ⟨b2, 0, none⟩)) := (hev 6 (by decide)).trans rfl
      have y15 : A.tmps[48]? = some (.bool true) := (hin 15 48 rfl).trans (congrArg some (show u 15 = .bool true from hd 15 (by decide) (by kernel_rfl)))
      clear hd hev hin
      simp only [List.getElem_cons_succ, List.getElem_cons_zero]
      clear hl
      refine .inr ⟨?_, fun K' hK => ?_⟩
      · simp [Region.wanted, yielded, y15]
      clear y15
      have HK := Lib.hid hK
      clear hK
      have f5_0 := (cl3 (hJ.cs.at' (b2, #[.int .i64 x.lo, .int .i64 x.hi, .bool x.all], 25) (.tail _ (.tail _ (.tail _ (.tail _ (.tail _ (.head _)))))))).1
      have f5_1 := (cl3 (hJ.cs.at' (b2, #[.int .i64 x.lo, .int .i64 x.hi, .bool x.all], 25) (.tail _ (.tail _ (.tail _ (.tail _ (.tail _ (.head _)))))))).2.1
      have f5_2 := (cl3 (hJ.cs.at' (b2, #[.int .i64 x.lo, .int .i64 x.hi, .bool x.all], 25) (.tail _ (.tail _ (.tail _ (.tail _ (.tail _ (.head _)))))))).2.2.1
      go_simp
      exact HK.out (.agg #[.int .i64 x.lo, .int .i64 x.hi, .bool x.all]) _ hJ rfl vkL_same
    · skip
      have x7 : A.tmps[7]? = some (.pointer (some ⟨b3, 0, none⟩)) := (hev 7 (by decide)).trans rfl
      have y15 : A.tmps[48]? = some (.bool true) := (hin 15 48 rfl).trans (congrArg some (show u 15 = .bool true from hd 15 (by decide) (by kernel_rfl)))
      clear hd hev hin
      simp only [List.getElem_cons_succ, List.getElem_cons_zero]
      clear hl
      refine .inr ⟨?_, fun K' hK => ?_⟩
      · simp [Region.wanted, yielded, y15]
      clear y15
      have HK := Lib.hid hK
      clear hK
      have f4_0 := (cl3 (hJ.cs.at' (b3, #[.int .i64 y.lo, .int .i64 y.hi, .bool y.all], 25) (.tail _ (.tail _ (.tail _ (.tail _ (.head _))))))).1
      have f4_1 := (cl3 (hJ.cs.at' (b3, #[.int .i64 y.lo, .int .i64 y.hi, .bool y.all], 25) (.tail _ (.tail _ (.tail _ (.tail _ (.head _))))))).2.1
      have f4_2 := (cl3 (hJ.cs.at' (b3, #[.int .i64 y.lo, .int .i64 y.hi, .bool y.all], 25) (.tail _ (.tail _ (.tail _ (.tail _ (.head _))))))).2.2.1
      go_simp
      exact HK.out (.agg #[.int .i64 y.lo, .int .i64 y.hi, .bool y.all]) _ hJ rfl vkL_same
    · skip
      have x50 : A.tmps[50]? = some (.agg #[.int .i64 x.lo, .int .i64 x.hi, .bool x.all]) := (hin 17 50 rfl).trans (congrArg some (show u 17 = .agg #[.int .i64 x.lo, .int .i64 x.hi, .bool x.all] from hd 17 (by decide) (by kernel_rfl)))
      have x51 : A.tmps[51]? = some (.agg #[.int .i64 y.lo, .int .i64 y.hi, .bool y.all]) := (hin 18 51 rfl).trans (congrArg some (show u 18 = .agg #[.int .i64 y.lo, .int .i64 y.hi, .bool y.all] from hd 18 (by decide) (by kernel_rfl)))
      have y15 : A.tmps[48]? = some (.bool true) := (hin 15 48 rfl).trans (congrArg some (show u 15 = .bool true from hd 15 (by decide) (by kernel_rfl)))
      clear hd hev hin
      simp only [List.getElem_cons_succ, List.getElem_cons_zero]
      clear hl
      refine .inr ⟨?_, fun K' hK => ?_⟩
      · simp [Region.wanted, yielded, y15]
      clear y15
      have HK := Lib.hid hK
      clear hK
      go_simp
      refine (HrMul.out W).mono ?_
      rintro e W' ⟨rfl, hB⟩
      exact HK.out (.agg #[.int .i64 zm.lo, .int .i64 zm.hi, .bool zm.all]) _ (hJ.later hB) rfl (vkL_later hB)
    · skip
      have x49 : A.tmps[49]? = some (.agg #[.int .i64 zm.lo, .int .i64 zm.hi, .bool zm.all]) := (hin 16 49 rfl).trans (congrArg some (show u 16 = .agg #[.int .i64 zm.lo, .int .i64 zm.hi, .bool zm.all] from hd 16 (by decide) (by kernel_rfl)))
      have x52 : A.tmps[52]? = some (.agg #[.int .i64 zm.lo, .int .i64 zm.hi, .bool zm.all]) := (hin 19 52 rfl).trans (congrArg some (show u 19 = .agg #[.int .i64 zm.lo, .int .i64 zm.hi, .bool zm.all] from hd 19 (by decide) (by kernel_rfl)))
      have y15 : A.tmps[48]? = some (.bool true) := (hin 15 48 rfl).trans (congrArg some (show u 15 = .bool true from hd 15 (by decide) (by kernel_rfl)))
      clear hd hev hin
      simp only [List.getElem_cons_succ, List.getElem_cons_zero]
      clear hl
      refine .inr ⟨?_, fun K' hK => ?_⟩
      · simp [Region.wanted, yielded, y15]
      clear y15
      have HK := Lib.hid hK
      clear hK
      go_simp
      exact HK.out (.bool true) _ hJ rfl vkL_same
    · skip
      have x48 : A.tmps[48]? = some (.bool true) := (hin 15 48 rfl).trans (congrArg some (show u 15 = .bool true from hd 15 (by decide) (by kernel_rfl)))
      have x53 : A.tmps[53]? = some (.bool true) := (hin 20 53 rfl).trans (congrArg some (show u 20 = .bool true from hd 20 (by decide) (by kernel_rfl)))
      clear hd hev hin
      simp only [List.getElem_cons_succ, List.getElem_cons_zero]
      clear hl
      refine .inr ⟨rfl, fun K' hK => ?_⟩
      have HK := Lib.hid hK
      clear hK
      go_simp
      exact HK.out (.bool true) _ hJ rfl vkL_same
    · skip
      have x54 : A.tmps[54]? = some (.bool true) := (hin 21 54 rfl).trans (congrArg some (show u 21 = .bool true from hd 21 (by decide) (by kernel_rfl)))
      clear hd hev hin
      simp only [List.getElem_cons_succ, List.getElem_cons_zero]
      clear hl
      refine .inr ⟨rfl, fun K' hK => ?_⟩
      have HK := Lib.hid hK
      clear hK
      go_simp
      exact HK.out (.bool true) _ hJ rfl vkL_same
    · skip
      have x11 : A.tmps[11]? = some (.pointer (some ⟨b7, 0, none⟩)) := (hev 11 (by decide)).trans rfl
      have y22 : A.tmps[55]? = some (.bool true) := (hin 22 55 rfl).trans (congrArg some (show u 22 = .bool true from hd 22 (by decide) (by kernel_rfl)))
      clear hd hev hin
      simp only [List.getElem_cons_succ, List.getElem_cons_zero]
      clear hl
      refine .inr ⟨?_, fun K' hK => ?_⟩
      · simp [Region.wanted, yielded, y22]
      clear y22
      have HK := Lib.hid hK
      clear hK
      have f0_0 := (cl3 (hJ.cs.at' (b7, #[.int .i64 zd.lo, .int .i64 zd.hi, .bool zd.all], 25) (.head _))).1
      have f0_1 := (cl3 (hJ.cs.at' (b7, #[.int .i64 zd.lo, .int .i64 zd.hi, .bool zd.all], 25) (.head _))).2.1
      have f0_2 := (cl3 (hJ.cs.at' (b7, #[.int .i64 zd.lo, .int .i64 zd.hi, .bool zd.all], 25) (.head _))).2.2.1
      go_simp
      exact HK.out (.agg #[.int .i64 zd.lo, .int .i64 zd.hi, .bool zd.all]) _ hJ rfl vkL_same
    · skip
      have x6 : A.tmps[6]? = some (.pointer (some ⟨b2, 0, none⟩)) := (hev 6 (by decide)).trans rfl
      have y22 : A.tmps[55]? = some (.bool true) := (hin 22 55 rfl).trans (congrArg some (show u 22 = .bool true from hd 22 (by decide) (by kernel_rfl)))
      clear hd hev hin
      simp only [List.getElem_cons_succ, List.getElem_cons_zero]
      clear hl
      refine .inr ⟨?_, fun K' hK => ?_⟩
      · simp [Region.wanted, yielded, y22]
      clear y22
      have HK := Lib.hid hK
      clear hK
      have f5_0 := (cl3 (hJ.cs.at' (b2, #[.int .i64 x.lo, .int .i64 x.hi, .bool x.all], 25) (.tail _ (.tail _ (.tail _ (.tail _ (.tail _ (.head _)))))))).1
      have f5_1 := (cl3 (hJ.cs.at' (b2, #[.int .i64 x.lo, .int .i64 x.hi, .bool x.all], 25) (.tail _ (.tail _ (.tail _ (.tail _ (.tail _ (.head _)))))))).2.1
      have f5_2 := (cl3 (hJ.cs.at' (b2, #[.int .i64 x.lo, .int .i64 x.hi, .bool x.all], 25) (.tail _ (.tail _ (.tail _ (.tail _ (.tail _ (.head _)))))))).2.2.1
      go_simp
      exact HK.out (.agg #[.int .i64 x.lo, .int .i64 x.hi, .bool x.all]) _ hJ rfl vkL_same
    · skip
      have x7 : A.tmps[7]? = some (.pointer (some ⟨b3, 0, none⟩)) := (hev 7 (by decide)).trans rfl
      have y22 : A.tmps[55]? = some (.bool true) := (hin 22 55 rfl).trans (congrArg some (show u 22 = .bool true from hd 22 (by decide) (by kernel_rfl)))
      clear hd hev hin
      simp only [List.getElem_cons_succ, List.getElem_cons_zero]
      clear hl
      refine .inr ⟨?_, fun K' hK => ?_⟩
      · simp [Region.wanted, yielded, y22]
      clear y22
      have HK := Lib.hid hK
      clear hK
      have f4_0 := (cl3 (hJ.cs.at' (b3, #[.int .i64 y.lo, .int .i64 y.hi, .bool y.all], 25) (.tail _ (.tail _ (.tail _ (.tail _ (.head _))))))).1
      have f4_1 := (cl3 (hJ.cs.at' (b3, #[.int .i64 y.lo, .int .i64 y.hi, .bool y.all], 25) (.tail _ (.tail _ (.tail _ (.tail _ (.head _))))))).2.1
      have f4_2 := (cl3 (hJ.cs.at' (b3, #[.int .i64 y.lo, .int .i64 y.hi, .bool y.all], 25) (.tail _ (.tail _ (.tail _ (.tail _ (.head _))))))).2.2.1
      go_simp
      exact HK.out (.agg #[.int .i64 y.lo, .int .i64 y.hi, .bool y.all]) _ hJ rfl vkL_same
    · skip
      have x57 : A.tmps[57]? = some (.agg #[.int .i64 x.lo, .int .i64 x.hi, .bool x.all]) := (hin 24 57 rfl).trans (congrArg some (show u 24 = .agg #[.int .i64 x.lo, .int .i64 x.hi, .bool x.all] from hd 24 (by decide) (by kernel_rfl)))
      have x58 : A.tmps[58]? = some (.agg #[.int .i64 y.lo, .int .i64 y.hi, .bool y.all]) := (hin 25 58 rfl).trans (congrArg some (show u 25 = .agg #[.int .i64 y.lo, .int .i64 y.hi, .bool y.all] from hd 25 (by decide) (by kernel_rfl)))
      have y22 : A.tmps[55]? = some (.bool true) := (hin 22 55 rfl).trans (congrArg some (show u 22 = .bool true from hd 22 (by decide) (by kernel_rfl)))
      clear hd hev hin
      simp only [List.getElem_cons_succ, List.getElem_cons_zero]
      clear hl
      refine .inr ⟨?_, fun K' hK => ?_⟩
      · simp [Region.wanted, yielded, y22]
      clear y22
      have HK := Lib.hid hK
      clear hK
      go_simp
      refine (HrDiv.out W).mono ?_
      rintro e W' ⟨rfl, hB⟩
      exact HK.out (.agg #[.int .i64 zd.lo, .int .i64 zd.hi, .bool zd.all]) _ (hJ.later hB) rfl (vkL_later hB)
    · skip
      have x56 : A.tmps[56]? = some (.agg #[.int .i64 zd.lo, .int .i64 zd.hi, .bool zd.all]) := (hin 23 56 rfl).trans (congrArg some (show u 23 = .agg #[.int .i64 zd.lo, .int .i64 zd.hi, .bool zd.all] from hd 23 (by decide) (by kernel_rfl)))
      have x59 : A.tmps[59]? = some (.agg #[.int .i64 zd.lo, .int .i64 zd.hi, .bool zd.all]) := (hin 26 59 rfl).trans (congrArg some (show u 26 = .agg #[.int .i64 zd.lo, .int .i64 zd.hi, .bool zd.all] from hd 26 (by decide) (by kernel_rfl)))
      have y22 : A.tmps[55]? = some (.bool true) := (hin 22 55 rfl).trans (congrArg some (show u 22 = .bool true from hd 22 (by decide) (by kernel_rfl)))
      clear hd hev hin
      simp only [List.getElem_cons_succ, List.getElem_cons_zero]
      clear hl
      refine .inr ⟨?_, fun K' hK => ?_⟩
      · simp [Region.wanted, yielded, y22]
      clear y22
      have HK := Lib.hid hK
      clear hK
      go_simp
      exact HK.out (.bool true) _ hJ rfl vkL_same
    · skip
      have x55 : A.tmps[55]? = some (.bool true) := (hin 22 55 rfl).trans (congrArg some (show u 22 = .bool true from hd 22 (by decide) (by kernel_rfl)))
      have x60 : A.tmps[60]? = some (.bool true) := (hin 27 60 rfl).trans (congrArg some (show u 27 = .bool true from hd 27 (by decide) (by kernel_rfl)))
      clear hd hev hin
      simp only [List.getElem_cons_succ, List.getElem_cons_zero]
      clear hl
      refine .inr ⟨rfl, fun K' hK => ?_⟩
      have HK := Lib.hid hK
      clear hK
      go_simp
      exact HK.out (.bool true) _ hJ rfl vkL_same
    · skip
      have x61 : A.tmps[61]? = some (.bool true) := (hin 28 61 rfl).trans (congrArg some (show u 28 = .bool true from hd 28 (by decide) (by kernel_rfl)))
      clear hd hev hin
      simp only [List.getElem_cons_succ, List.getElem_cons_zero]
      clear hl
      refine .inr ⟨rfl, fun K' hK => ?_⟩
      have HK := Lib.hid hK
      clear hK
      go_simp
      exact HK.out (.bool true) _ hJ rfl vkL_same
  intro u W hJm hd
  have e_0 : u 0 = .bool true := hd 0 (by decide)
  have e_1 : u 1 = .bool true := hd 1 (by decide)
  have e_2 : u 2 = .agg #[.int .i64 za.lo, .int .i64 za.hi, .bool za.all] := hd 2 (by decide)
  have e_3 : u 3 = .agg #[.int .i64 x.lo, .int .i64 x.hi, .bool x.all] := hd 3 (by decide)
  have e_4 : u 4 = .agg #[.int .i64 y.lo, .int .i64 y.hi, .bool y.all] := hd 4 (by decide)
  have e_5 : u 5 = .agg #[.int .i64 za.lo, .int .i64 za.hi, .bool za.all] := hd 5 (by decide)
  have e_6 : u 6 = .bool true := hd 6 (by decide)
  have e_7 : u 7 = .bool true := hd 7 (by decide)
  have e_8 : u 8 = .bool true := hd 8 (by decide)
  have e_9 : u 9 = .agg #[.int .i64 zs.lo, .int .i64 zs.hi, .bool zs.all] := hd 9 (by decide)
  have e_10 : u 10 = .agg #[.int .i64 x.lo, .int .i64 x.hi, .bool x.all] := hd 10 (by decide)
  have e_11 : u 11 = .agg #[.int .i64 y.lo, .int .i64 y.hi, .bool y.all] := hd 11 (by decide)
  have e_12 : u 12 = .agg #[.int .i64 zs.lo, .int .i64 zs.hi, .bool zs.all] := hd 12 (by decide)
  have e_13 : u 13 = .bool true := hd 13 (by decide)
  have e_14 : u 14 = .bool true := hd 14 (by decide)
  have e_15 : u 15 = .bool true := hd 15 (by decide)
  have e_16 : u 16 = .agg #[.int .i64 zm.lo, .int .i64 zm.hi, .bool zm.all] := hd 16 (by decide)
  have e_17 : u 17 = .agg #[.int .i64 x.lo, .int .i64 x.hi, .bool x.all] := hd 17 (by decide)
  have e_18 : u 18 = .agg #[.int .i64 y.lo, .int .i64 y.hi, .bool y.all] := hd 18 (by decide)
  have e_19 : u 19 = .agg #[.int .i64 zm.lo, .int .i64 zm.hi, .bool zm.all] := hd 19 (by decide)
  have e_20 : u 20 = .bool true := hd 20 (by decide)
  have e_21 : u 21 = .bool true := hd 21 (by decide)
  have e_22 : u 22 = .bool true := hd 22 (by decide)
  have e_23 : u 23 = .agg #[.int .i64 zd.lo, .int .i64 zd.hi, .bool zd.all] := hd 23 (by decide)
  have e_24 : u 24 = .agg #[.int .i64 x.lo, .int .i64 x.hi, .bool x.all] := hd 24 (by decide)
  have e_25 : u 25 = .agg #[.int .i64 y.lo, .int .i64 y.hi, .bool y.all] := hd 25 (by decide)
  have e_26 : u 26 = .agg #[.int .i64 zd.lo, .int .i64 zd.hi, .bool zd.all] := hd 26 (by decide)
  have e_27 : u 27 = .bool true := hd 27 (by decide)
  have e_28 : u 28 = .bool true := hd 28 (by decide)
  have e_29 : u 29 = .bool true := hd 29 (by decide)
  clear hd
  simp only [layS, Act.put, List.setIfInBounds_toArray, List.set_cons_succ, List.set_cons_zero, Nat.zero_add, Nat.reduceAdd, List.drop_succ_cons, List.drop_zero, List.drop_nil, e_0, e_1, e_2, e_3, e_4, e_5, e_6, e_7, e_8, e_9, e_10, e_11, e_12, e_13, e_14, e_15, e_16, e_17, e_18, e_19, e_20, e_21, e_22, e_23, e_24, e_25, e_26, e_27, e_28, e_29]
  clear e_0 e_1 e_2 e_3 e_4 e_5 e_6 e_7 e_8 e_9 e_10 e_11 e_12 e_13 e_14 e_15 e_16 e_17 e_18 e_19 e_20 e_21 e_22 e_23 e_24 e_25 e_26 e_27 e_28 e_29
  replace hJ := hJm.cs
  clear hM8
  clear hJm
  generalize hZ : W = Z18 at *
  clear hZ
  have hJf := hJ.below
  go_wp2
  go_ret
  exact ⟨rfl, hJf⟩
theorem SpanReckons_any (x y : Sp) (w : World) : Calls Try.prog 3 #[.agg #[.int .i64 x.lo, .int .i64 x.hi, .bool x.all], .agg #[.int .i64 y.lo, .int .i64 y.hi, .bool y.all]] w (PVal (.bool true) w) :=
  Reckons_w x y _ _ _ _ sawake_any (doc_any x) (doc_any y) (sAdd_any x y) (doc_any _) (rdAdd_any x y) (sSub_any x y) (doc_any _) (rdSub_any x y) (sMul_any x y) (doc_any _) (rdMul_any x y) (sDiv_any x y) (doc_any _) (rdDiv_any x y) w
end Go.Proofs.Ytpahkpcoinbgcaa

/- How a span that comes in reads, for the rows of package span's laws. -/
namespace Go.Proofs.Ytpahkpcoinbgcaa
open Go.Joins Go.ChangeShapes Go.WideShapes Go.RowKit Go.Deep

/-- A span, as it reads. -/
def spD {H : Type} (x : Sp) : DataW H := .agg [.lit (.int .i64 x.lo), .lit (.int .i64 x.hi), .lit (.bool x.all)]
section
variable {H : Type} {enc : TypeId × Value → H} {w : World} {base : Nat} {spare : Nat → Bool} {held : Bool}
set_option maxRecDepth 100000 in
theorem open_span {r : Reach} {b0 : Nat} {v : Value} {d : DataW H} {p : List MemPlace} (hv : Value.okWide Try.prog w r b0 23 v) (h : DataW.Trod enc Try.prog w base spare held 23 v d p) :
    ∃ x : Sp, v = .agg #[.int .i64 x.lo, .int .i64 x.hi, .bool x.all] ∧ d = spD x ∧ p = [] ∧ (Lit.int .i64 x.lo).wf = true ∧ (Lit.int .i64 x.hi).wf = true := by
  obtain ⟨v0, v1, v2, y0, y1, y2, n, rfl, rfl, rfl, h0, h1, h2⟩ := open_agg3 Try.underlying23 (by kernel_rfl) (by kernel_rfl) hv h
  obtain ⟨a, ha, rfl, wa⟩ := DataW.trod_int Try.underlying2 h0
  obtain ⟨b, hb, rfl, wb⟩ := DataW.trod_int Try.underlying2 h1
  obtain ⟨c, hc, rfl⟩ := DataW.trod_bool Try.underlying4 h2
  cases ha
  cases hb
  cases hc
  exact ⟨⟨a, b, c⟩, rfl, rfl, rfl, wa, wb⟩
set_option maxRecDepth 100000 in
theorem shut_span {x : Sp} (wa : (Lit.int .i64 x.lo).wf = true) (wb : (Lit.int .i64 x.hi).wf = true) : DataW.Trod enc Try.prog w base spare held 23 (.agg #[.int .i64 x.lo, .int .i64 x.hi, .bool x.all]) (spD x) [] :=
  shut_agg3 (y0 := (.lit (.int .i64 x.lo), [])) (y1 := (.lit (.int .i64 x.hi), [])) (y2 := (.lit (.bool x.all), [])) Try.underlying23 (by kernel_rfl) (by kernel_rfl)
    (field_of_Trod (shut_int Try.underlying2 wa) rfl) (field_of_Trod (shut_int Try.underlying2 wb) rfl) (field_of_Trod (shut_bool Try.underlying4 _) rfl)
end
end Go.Proofs.Ytpahkpcoinbgcaa
