/- Parts of the proof. -/
import Derived.Test.YtdochhhepmlapaaGb32
import Derived.Test.YtdochhhepmlapaaGb34
/- The walk of the law VecTells. -/
namespace Go.Proofs.Ytdochhhepmlapaa
open Go Go.RowKit
attribute [local go_sem ↓] run_eqlSs run_eqlDs run_eqlV run_eqlW run_eqlI
set_option maxRecDepth 100000 in
set_option maxHeartbeats 12800000 in
theorem Tells_w (v u f : Vc) (x y z r m0 m1 m2 : Int) (b : Bool) (hHaw : ∀ W : World, Calls Try.prog 10 #[] W (PVal (.bool true) W)) (hHda : ∀ W : World, Calls Try.prog 11 #[.agg #[.int .i64 v.x.lo, .int .i64 v.x.hi, .bool v.x.all, .int .i64 v.y.lo, .int .i64 v.y.hi, .bool v.y.all, .int .i64 v.z.lo, .int .i64 v.z.hi, .bool v.z.all]] W (PVal (.agg #[.int .i64 v.x.lo, .int .i64 v.x.hi, .bool v.x.all, .int .i64 v.y.lo, .int .i64 v.y.hi, .bool v.y.all, .int .i64 v.z.lo, .int .i64 v.z.hi, .bool v.z.all]) W)) (hHin : ∀ W : World, Calls Try.prog 25 #[.agg #[.int .i64 v.x.lo, .int .i64 v.x.hi, .bool v.x.all, .int .i64 v.y.lo, .int .i64 v.y.hi, .bool v.y.all, .int .i64 v.z.lo, .int .i64 v.z.hi, .bool v.z.all], .agg #[.int .i64 u.x.lo, .int .i64 u.x.hi, .bool u.x.all, .int .i64 u.y.lo, .int .i64 u.y.hi, .bool u.y.all, .int .i64 u.z.lo, .int .i64 u.z.hi, .bool u.z.all]] W (PVal (.bool b) W)) (hHmid : ∀ W : World, Calls Try.prog 26 #[.agg #[.int .i64 v.x.lo, .int .i64 v.x.hi, .bool v.x.all, .int .i64 v.y.lo, .int .i64 v.y.hi, .bool v.y.all, .int .i64 v.z.lo, .int .i64 v.z.hi, .bool v.z.all]] W (PVal (.agg #[.int .i64 m0, .int .i64 m1, .int .i64 m2]) W)) (hHrad : ∀ W : World, Calls Try.prog 27 #[.agg #[.int .i64 v.x.lo, .int .i64 v.x.hi, .bool v.x.all, .int .i64 v.y.lo, .int .i64 v.y.hi, .bool v.y.all, .int .i64 v.z.lo, .int .i64 v.z.hi, .bool v.z.all]] W (PVal (.int .i64 r) W)) (hHof : ∀ W : World, Calls Try.prog 28 #[.int .i64 x, .int .i64 y, .int .i64 z] W (PVal (.agg #[.int .i64 f.x.lo, .int .i64 f.x.hi, .bool f.x.all, .int .i64 f.y.lo, .int .i64 f.y.hi, .bool f.y.all, .int .i64 f.z.lo, .int .i64 f.z.hi, .bool f.z.all]) W)) (hHdo : ∀ W : World, Calls Try.prog 11 #[.agg #[.int .i64 f.x.lo, .int .i64 f.x.hi, .bool f.x.all, .int .i64 f.y.lo, .int .i64 f.y.hi, .bool f.y.all, .int .i64 f.z.lo, .int .i64 f.z.hi, .bool f.z.all]] W (PVal (.agg #[.int .i64 f.x.lo, .int .i64 f.x.hi, .bool f.x.all, .int .i64 f.y.lo, .int .i64 f.y.hi, .bool f.y.all, .int .i64 f.z.lo, .int .i64 f.z.hi, .bool f.z.all]) W)) (hHdu : ∀ W : World, Calls Try.prog 11 #[.agg #[.int .i64 u.x.lo, .int .i64 u.x.hi, .bool u.x.all, .int .i64 u.y.lo, .int .i64 u.y.hi, .bool u.y.all, .int .i64 u.z.lo, .int .i64 u.z.hi, .bool u.z.all]] W (PVal (.agg #[.int .i64 u.x.lo, .int .i64 u.x.hi, .bool u.x.all, .int .i64 u.y.lo, .int .i64 u.y.hi, .bool u.y.all, .int .i64 u.z.lo, .int .i64 u.z.hi, .bool u.z.all]) W)) (hHrin : ∀ W : World, Calls Try.prog 29 #[.agg #[.int .i64 v.x.lo, .int .i64 v.x.hi, .bool v.x.all, .int .i64 v.y.lo, .int .i64 v.y.hi, .bool v.y.all, .int .i64 v.z.lo, .int .i64 v.z.hi, .bool v.z.all], .agg #[.int .i64 u.x.lo, .int .i64 u.x.hi, .bool u.x.all, .int .i64 u.y.lo, .int .i64 u.y.hi, .bool u.y.all, .int .i64 u.z.lo, .int .i64 u.z.hi, .bool u.z.all]] W (PVal (.bool b) W)) (hHrm : ∀ W : World, Calls Try.prog 30 #[.agg #[.int .i64 v.x.lo, .int .i64 v.x.hi, .bool v.x.all, .int .i64 v.y.lo, .int .i64 v.y.hi, .bool v.y.all, .int .i64 v.z.lo, .int .i64 v.z.hi, .bool v.z.all]] W (PVal (.agg #[.int .i64 m0, .int .i64 m1, .int .i64 m2]) W)) (hHrr : ∀ W : World, Calls Try.prog 31 #[.agg #[.int .i64 v.x.lo, .int .i64 v.x.hi, .bool v.x.all, .int .i64 v.y.lo, .int .i64 v.y.hi, .bool v.y.all, .int .i64 v.z.lo, .int .i64 v.z.hi, .bool v.z.all]] W (PVal (.int .i64 r) W)) (hHro : ∀ W : World, Calls Try.prog 32 #[.int .i64 x, .int .i64 y, .int .i64 z] W (PVal (.agg #[.int .i64 f.x.lo, .int .i64 f.x.hi, .bool f.x.all, .int .i64 f.y.lo, .int .i64 f.y.hi, .bool f.y.all, .int .i64 f.z.lo, .int .i64 f.z.hi, .bool f.z.all]) W))  (w : World) : Calls Try.prog 4 #[.agg #[.int .i64 v.x.lo, .int .i64 v.x.hi, .bool v.x.all, .int .i64 v.y.lo, .int .i64 v.y.hi, .bool v.y.all, .int .i64 v.z.lo, .int .i64 v.z.hi, .bool v.z.all], .agg #[.int .i64 u.x.lo, .int .i64 u.x.hi, .bool u.x.all, .int .i64 u.y.lo, .int .i64 u.y.hi, .bool u.y.all, .int .i64 u.z.lo, .int .i64 u.z.hi, .bool u.z.all], .int .i64 x, .int .i64 y, .int .i64 z] w (PVal (.bool true) w) := by
 have Haw := Lib.hid hHaw
 have Hda := Lib.hid hHda
 have Hin := Lib.hid hHin
 have Hmid := Lib.hid hHmid
 have Hrad := Lib.hid hHrad
 have Hof := Lib.hid hHof
 have Hdo := Lib.hid hHdo
 have Hdu := Lib.hid hHdu
 have Hrin := Lib.hid hHrin
 have Hrm := Lib.hid hHrm
 have Hrr := Lib.hid hHrr
 have Hro := Lib.hid hHro
 clear hHaw hHda hHin hHmid hHrad hHof hHdo hHdu hHrin hHrm hHrr hHro
 have hJ0 := es_nil w
 go_enter Try.func4, Try.ntmps4
 go_wp2_with (refine stop_box 25 (.tmp 0) #[.int .i64 v.x.lo, .int .i64 v.x.hi, .bool v.x.all, .int .i64 v.y.lo, .int .i64 v.y.hi, .bool v.y.all, .int .i64 v.z.lo, .int .i64 v.z.hi, .bool v.z.all] rfl rfl rfl hJ0 (fun b1 W1 hJ1 => ?_))
 clear hJ0
 unfold Stop
 try simp only [Act.put, List.setIfInBounds_toArray, List.set_cons_succ, List.set_cons_zero]
 go_wp2_with (refine stop_box 25 (.tmp 1) #[.int .i64 u.x.lo, .int .i64 u.x.hi, .bool u.x.all, .int .i64 u.y.lo, .int .i64 u.y.hi, .bool u.y.all, .int .i64 u.z.lo, .int .i64 u.z.hi, .bool u.z.all] rfl rfl rfl hJ1 (fun b2 W2 hJ2 => ?_))
 clear hJ1
 unfold Stop
 try simp only [Act.put, List.setIfInBounds_toArray, List.set_cons_succ, List.set_cons_zero]
 go_wp2_with fail
 refine (Haw.out _).mono ?_
 rintro e W3 ⟨rfl, hB⟩
 have hJ3 := hJ2.later hB
 clear hB
 clear hJ2
 have f0 : W3.cell? ⟨b1, 0, none⟩ = some (.int .i64 v.x.lo) := hJ3.cell 1 rfl 0 rfl
 have f1 : W3.cell? ⟨b1, 1, none⟩ = some (.int .i64 v.x.hi) := hJ3.cell 1 rfl 1 rfl
 have f2 : W3.cell? ⟨b1, 2, none⟩ = some (.bool v.x.all) := hJ3.cell 1 rfl 2 rfl
 have f3 : W3.cell? ⟨b1, 3, none⟩ = some (.int .i64 v.y.lo) := hJ3.cell 1 rfl 3 rfl
 have f4 : W3.cell? ⟨b1, 4, none⟩ = some (.int .i64 v.y.hi) := hJ3.cell 1 rfl 4 rfl
 have f5 : W3.cell? ⟨b1, 5, none⟩ = some (.bool v.y.all) := hJ3.cell 1 rfl 5 rfl
 have f6 : W3.cell? ⟨b1, 6, none⟩ = some (.int .i64 v.z.lo) := hJ3.cell 1 rfl 6 rfl
 have f7 : W3.cell? ⟨b1, 7, none⟩ = some (.int .i64 v.z.hi) := hJ3.cell 1 rfl 7 rfl
 have f8 : W3.cell? ⟨b1, 8, none⟩ = some (.bool v.z.all) := hJ3.cell 1 rfl 8 rfl
 go_wp2_with fail
 refine (Hda.out _).mono ?_
 rintro e W4 ⟨rfl, hB⟩
 have hJ4 := hJ3.later hB
 clear hB
 clear f0 f1 f2 f3 f4 f5 f6 f7 f8
 clear hJ3
 go_wp2_with (refine stop_alloc 29 #[.int .i64 0, .int .i64 0, .bool false, .int .i64 0, .int .i64 0, .bool false, .int .i64 0, .int .i64 0, .bool false] (.agg #[.int .i64 0, .int .i64 0, .bool false, .int .i64 0, .int .i64 0, .bool false, .int .i64 0, .int .i64 0, .bool false]) rfl rfl zv29 rfl hJ4 (fun b3 W5 hJ5 => ?_))
 clear hJ4
 unfold Stop
 try simp only [Act.put, List.setIfInBounds_toArray, List.set_cons_succ, List.set_cons_zero]
 go_wp2_with (refine stop_store 29 (.tmp 12) (.tmp 19) 0 b3 0 #[.int .i64 0, .int .i64 0, .bool false, .int .i64 0, .int .i64 0, .bool false, .int .i64 0, .int .i64 0, .bool false] 29 9 [.int .i64 v.x.lo, .int .i64 v.x.hi, .bool v.x.all, .int .i64 v.y.lo, .int .i64 v.y.hi, .bool v.y.all, .int .i64 v.z.lo, .int .i64 v.z.hi, .bool v.z.all] #[.int .i64 v.x.lo, .int .i64 v.x.hi, .bool v.x.all, .int .i64 v.y.lo, .int .i64 v.y.hi, .bool v.y.all, .int .i64 v.z.lo, .int .i64 v.z.hi, .bool v.z.all] [(b3, #[.int .i64 v.x.lo, .int .i64 v.x.hi, .bool v.x.all, .int .i64 v.y.lo, .int .i64 v.y.hi, .bool v.y.all, .int .i64 v.z.lo, .int .i64 v.z.hi, .bool v.z.all], 29), (b2, #[.int .i64 u.x.lo, .int .i64 u.x.hi, .bool u.x.all, .int .i64 u.y.lo, .int .i64 u.y.hi, .bool u.y.all, .int .i64 u.z.lo, .int .i64 u.z.hi, .bool u.z.all], 25), (b1, #[.int .i64 v.x.lo, .int .i64 v.x.hi, .bool v.x.all, .int .i64 v.y.lo, .int .i64 v.y.hi, .bool v.y.all, .int .i64 v.z.lo, .int .i64 v.z.hi, .bool v.z.all], 25)] rfl rfl rfl rfl sz29 hJ5 rfl rfl (Nat.le_of_ble_eq_true (by kernel_rfl)) (by kernel_rfl) (by kernel_rfl) (by kernel_rfl) (fun W6 hJ6 => ?_))
 clear hJ5
 unfold Stop
 try simp only [Act.put, List.setIfInBounds_toArray, List.set_cons_succ, List.set_cons_zero]
 have f0 : W6.cell? ⟨b1, 0, none⟩ = some (.int .i64 v.x.lo) := hJ6.cell 2 rfl 0 rfl
 have f1 : W6.cell? ⟨b1, 1, none⟩ = some (.int .i64 v.x.hi) := hJ6.cell 2 rfl 1 rfl
 have f2 : W6.cell? ⟨b1, 2, none⟩ = some (.bool v.x.all) := hJ6.cell 2 rfl 2 rfl
 have f3 : W6.cell? ⟨b1, 3, none⟩ = some (.int .i64 v.y.lo) := hJ6.cell 2 rfl 3 rfl
 have f4 : W6.cell? ⟨b1, 4, none⟩ = some (.int .i64 v.y.hi) := hJ6.cell 2 rfl 4 rfl
 have f5 : W6.cell? ⟨b1, 5, none⟩ = some (.bool v.y.all) := hJ6.cell 2 rfl 5 rfl
 have f6 : W6.cell? ⟨b1, 6, none⟩ = some (.int .i64 v.z.lo) := hJ6.cell 2 rfl 6 rfl
 have f7 : W6.cell? ⟨b1, 7, none⟩ = some (.int .i64 v.z.hi) := hJ6.cell 2 rfl 7 rfl
 have f8 : W6.cell? ⟨b1, 8, none⟩ = some (.bool v.z.all) := hJ6.cell 2 rfl 8 rfl
 have f9 : W6.cell? ⟨b2, 0, none⟩ = some (.int .i64 u.x.lo) := hJ6.cell 1 rfl 0 rfl
 have f10 : W6.cell? ⟨b2, 1, none⟩ = some (.int .i64 u.x.hi) := hJ6.cell 1 rfl 1 rfl
 have f11 : W6.cell? ⟨b2, 2, none⟩ = some (.bool u.x.all) := hJ6.cell 1 rfl 2 rfl
 have f12 : W6.cell? ⟨b2, 3, none⟩ = some (.int .i64 u.y.lo) := hJ6.cell 1 rfl 3 rfl
 have f13 : W6.cell? ⟨b2, 4, none⟩ = some (.int .i64 u.y.hi) := hJ6.cell 1 rfl 4 rfl
 have f14 : W6.cell? ⟨b2, 5, none⟩ = some (.bool u.y.all) := hJ6.cell 1 rfl 5 rfl
 have f15 : W6.cell? ⟨b2, 6, none⟩ = some (.int .i64 u.z.lo) := hJ6.cell 1 rfl 6 rfl
 have f16 : W6.cell? ⟨b2, 7, none⟩ = some (.int .i64 u.z.hi) := hJ6.cell 1 rfl 7 rfl
 have f17 : W6.cell? ⟨b2, 8, none⟩ = some (.bool u.z.all) := hJ6.cell 1 rfl 8 rfl
 go_wp2_with fail
 refine (Hin.out _).mono ?_
 rintro e W7 ⟨rfl, hB⟩
 have hJ7 := hJ6.later hB
 clear hB
 clear f0 f1 f2 f3 f4 f5 f6 f7 f8 f9 f10 f11 f12 f13 f14 f15 f16 f17
 clear hJ6
 have f0 : W7.cell? ⟨b1, 0, none⟩ = some (.int .i64 v.x.lo) := hJ7.cell 2 rfl 0 rfl
 have f1 : W7.cell? ⟨b1, 1, none⟩ = some (.int .i64 v.x.hi) := hJ7.cell 2 rfl 1 rfl
 have f2 : W7.cell? ⟨b1, 2, none⟩ = some (.bool v.x.all) := hJ7.cell 2 rfl 2 rfl
 have f3 : W7.cell? ⟨b1, 3, none⟩ = some (.int .i64 v.y.lo) := hJ7.cell 2 rfl 3 rfl
 have f4 : W7.cell? ⟨b1, 4, none⟩ = some (.int .i64 v.y.hi) := hJ7.cell 2 rfl 4 rfl
 have f5 : W7.cell? ⟨b1, 5, none⟩ = some (.bool v.y.all) := hJ7.cell 2 rfl 5 rfl
 have f6 : W7.cell? ⟨b1, 6, none⟩ = some (.int .i64 v.z.lo) := hJ7.cell 2 rfl 6 rfl
 have f7 : W7.cell? ⟨b1, 7, none⟩ = some (.int .i64 v.z.hi) := hJ7.cell 2 rfl 7 rfl
 have f8 : W7.cell? ⟨b1, 8, none⟩ = some (.bool v.z.all) := hJ7.cell 2 rfl 8 rfl
 go_wp2_with fail
 refine (Hmid.out _).mono ?_
 rintro e W8 ⟨rfl, hB⟩
 have hJ8 := hJ7.later hB
 clear hB
 clear f0 f1 f2 f3 f4 f5 f6 f7 f8
 clear hJ7
 go_wp2_with (refine stop_alloc 42 #[.int .i64 0, .int .i64 0, .int .i64 0] (.agg #[.int .i64 0, .int .i64 0, .int .i64 0]) rfl rfl zv42 rfl hJ8 (fun b4 W9 hJ9 => ?_))
 clear hJ8
 unfold Stop
 try simp only [Act.put, List.setIfInBounds_toArray, List.set_cons_succ, List.set_cons_zero]
 go_wp2_with (refine stop_store 42 (.tmp 14) (.tmp 24) 0 b4 0 #[.int .i64 0, .int .i64 0, .int .i64 0] 42 3 [.int .i64 m0, .int .i64 m1, .int .i64 m2] #[.int .i64 m0, .int .i64 m1, .int .i64 m2] [(b4, #[.int .i64 m0, .int .i64 m1, .int .i64 m2], 42), (b3, #[.int .i64 v.x.lo, .int .i64 v.x.hi, .bool v.x.all, .int .i64 v.y.lo, .int .i64 v.y.hi, .bool v.y.all, .int .i64 v.z.lo, .int .i64 v.z.hi, .bool v.z.all], 29), (b2, #[.int .i64 u.x.lo, .int .i64 u.x.hi, .bool u.x.all, .int .i64 u.y.lo, .int .i64 u.y.hi, .bool u.y.all, .int .i64 u.z.lo, .int .i64 u.z.hi, .bool u.z.all], 25), (b1, #[.int .i64 v.x.lo, .int .i64 v.x.hi, .bool v.x.all, .int .i64 v.y.lo, .int .i64 v.y.hi, .bool v.y.all, .int .i64 v.z.lo, .int .i64 v.z.hi, .bool v.z.all], 25)] rfl rfl rfl rfl sz42 hJ9 rfl rfl (Nat.le_of_ble_eq_true (by kernel_rfl)) (by kernel_rfl) (by kernel_rfl) (by kernel_rfl) (fun W10 hJ10 => ?_))
 clear hJ9
 unfold Stop
 try simp only [Act.put, List.setIfInBounds_toArray, List.set_cons_succ, List.set_cons_zero]
 have f0 : W10.cell? ⟨b1, 0, none⟩ = some (.int .i64 v.x.lo) := hJ10.cell 3 rfl 0 rfl
 have f1 : W10.cell? ⟨b1, 1, none⟩ = some (.int .i64 v.x.hi) := hJ10.cell 3 rfl 1 rfl
 have f2 : W10.cell? ⟨b1, 2, none⟩ = some (.bool v.x.all) := hJ10.cell 3 rfl 2 rfl
 have f3 : W10.cell? ⟨b1, 3, none⟩ = some (.int .i64 v.y.lo) := hJ10.cell 3 rfl 3 rfl
 have f4 : W10.cell? ⟨b1, 4, none⟩ = some (.int .i64 v.y.hi) := hJ10.cell 3 rfl 4 rfl
 have f5 : W10.cell? ⟨b1, 5, none⟩ = some (.bool v.y.all) := hJ10.cell 3 rfl 5 rfl
 have f6 : W10.cell? ⟨b1, 6, none⟩ = some (.int .i64 v.z.lo) := hJ10.cell 3 rfl 6 rfl
 have f7 : W10.cell? ⟨b1, 7, none⟩ = some (.int .i64 v.z.hi) := hJ10.cell 3 rfl 7 rfl
 have f8 : W10.cell? ⟨b1, 8, none⟩ = some (.bool v.z.all) := hJ10.cell 3 rfl 8 rfl
 go_wp2_with fail
 refine (Hrad.out _).mono ?_
 rintro e W11 ⟨rfl, hB⟩
 have hJ11 := hJ10.later hB
 clear hB
 clear f0 f1 f2 f3 f4 f5 f6 f7 f8
 clear hJ10
 go_wp2_with fail
 refine (Hof.out _).mono ?_
 rintro e W12 ⟨rfl, hB⟩
 have hJ12 := hJ11.later hB
 clear hB
 clear hJ11
 go_wp2_with fail
 refine (Hdo.out _).mono ?_
 rintro e W13 ⟨rfl, hB⟩
 have hJ13 := hJ12.later hB
 clear hB
 clear hJ12
 go_wp2_with (refine stop_alloc 29 #[.int .i64 0, .int .i64 0, .bool false, .int .i64 0, .int .i64 0, .bool false, .int .i64 0, .int .i64 0, .bool false] (.agg #[.int .i64 0, .int .i64 0, .bool false, .int .i64 0, .int .i64 0, .bool false, .int .i64 0, .int .i64 0, .bool false]) rfl rfl zv29 rfl hJ13 (fun b5 W14 hJ14 => ?_))
 clear hJ13
 unfold Stop
 try simp only [Act.put, List.setIfInBounds_toArray, List.set_cons_succ, List.set_cons_zero]
 go_wp2_with (refine stop_store 29 (.tmp 16) (.tmp 31) 0 b5 0 #[.int .i64 0, .int .i64 0, .bool false, .int .i64 0, .int .i64 0, .bool false, .int .i64 0, .int .i64 0, .bool false] 29 9 [.int .i64 f.x.lo, .int .i64 f.x.hi, .bool f.x.all, .int .i64 f.y.lo, .int .i64 f.y.hi, .bool f.y.all, .int .i64 f.z.lo, .int .i64 f.z.hi, .bool f.z.all] #[.int .i64 f.x.lo, .int .i64 f.x.hi, .bool f.x.all, .int .i64 f.y.lo, .int .i64 f.y.hi, .bool f.y.all, .int .i64 f.z.lo, .int .i64 f.z.hi, .bool f.z.all] [(b5, #[.int .i64 f.x.lo, .int .i64 f.x.hi, .bool f.x.all, .int .i64 f.y.lo, .int .i64 f.y.hi, .bool f.y.all, .int .i64 f.z.lo, .int .i64 f.z.hi, .bool f.z.all], 29), (b4, #[.int .i64 m0, .int .i64 m1, .int .i64 m2], 42), (b3, #[.int .i64 v.x.lo, .int .i64 v.x.hi, .bool v.x.all, .int .i64 v.y.lo, .int .i64 v.y.hi, .bool v.y.all, .int .i64 v.z.lo, .int .i64 v.z.hi, .bool v.z.all], 29), (b2, #[.int .i64 u.x.lo, .int .i64 u.x.hi, .bool u.x.all, .int .i64 u.y.lo, .int .i64 u.y.hi, .bool u.y.all, .int .i64 u.z.lo, .int .i64 u.z.hi, .bool u.z.all], 25), (b1, #[.int .i64 v.x.lo, .int .i64 v.x.hi, .bool v.x.all, .int .i64 v.y.lo, .int .i64 v.y.hi, .bool v.y.all, .int .i64 v.z.lo, .int .i64 v.z.hi, .bool v.z.all], 25)] rfl rfl rfl rfl sz29 hJ14 rfl rfl (Nat.le_of_ble_eq_true (by kernel_rfl)) (by kernel_rfl) (by kernel_rfl) (by kernel_rfl) (fun W15 hJ15 => ?_))
 clear hJ14
 unfold Stop
 try simp only [Act.put, List.setIfInBounds_toArray, List.set_cons_succ, List.set_cons_zero]
 go_wp2
 obtain ⟨m7_15, hm⟩ : ∃ m, m = W15.heap.size := ⟨_, rfl⟩
 have hM := hJ15.em
 rw [← hm] at hM
 clear hm hJ15
 refine wp_region_z 30 [some 32, some 33, some 34, some 35, some 36, some 37, some 38, some 39, some 40, some 41, some 42, some 43, some 44, some 45, some 46, some 47, some 48, some 49, some 50, some 51, some 52, some 53, some 54, some 55, some 56, some 57, some 58, some 59, some 60, some 10] (veL m7_15 [.eq (.bool true), .eq (.bool true), .eq (.bool b), .eq (.agg #[.int .i64 v.x.lo, .int .i64 v.x.hi, .bool v.x.all, .int .i64 v.y.lo, .int .i64 v.y.hi, .bool v.y.all, .int .i64 v.z.lo, .int .i64 v.z.hi, .bool v.z.all]), .eq (.agg #[.int .i64 u.x.lo, .int .i64 u.x.hi, .bool u.x.all, .int .i64 u.y.lo, .int .i64 u.y.hi, .bool u.y.all, .int .i64 u.z.lo, .int .i64 u.z.hi, .bool u.z.all]), .eq (.agg #[.int .i64 u.x.lo, .int .i64 u.x.hi, .bool u.x.all, .int .i64 u.y.lo, .int .i64 u.y.hi, .bool u.y.all, .int .i64 u.z.lo, .int .i64 u.z.hi, .bool u.z.all]), .eq (.bool b), .eq (.bool true), .eq (.bool true), .eq (.bool true), .eq (.agg #[.int .i64 m0, .int .i64 m1, .int .i64 m2]), .eq (.agg #[.int .i64 v.x.lo, .int .i64 v.x.hi, .bool v.x.all, .int .i64 v.y.lo, .int .i64 v.y.hi, .bool v.y.all, .int .i64 v.z.lo, .int .i64 v.z.hi, .bool v.z.all]), .eq (.agg #[.int .i64 m0, .int .i64 m1, .int .i64 m2]), .eq (.bool true), .eq (.bool true), .eq (.bool true), .eq (.int .i64 r), .eq (.agg #[.int .i64 v.x.lo, .int .i64 v.x.hi, .bool v.x.all, .int .i64 v.y.lo, .int .i64 v.y.hi, .bool v.y.all, .int .i64 v.z.lo, .int .i64 v.z.hi, .bool v.z.all]), .eq (.int .i64 r), .eq (.bool true), .eq (.bool true), .eq (.bool true), .eq (.agg #[.int .i64 f.x.lo, .int .i64 f.x.hi, .bool f.x.all, .int .i64 f.y.lo, .int .i64 f.y.hi, .bool f.y.all, .int .i64 f.z.lo, .int .i64 f.z.hi, .bool f.z.all]), .eq (.int .i64 x), .eq (.int .i64 y), .eq (.int .i64 z), .eq (.agg #[.int .i64 f.x.lo, .int .i64 f.x.hi, .bool f.x.all, .int .i64 f.y.lo, .int .i64 f.y.hi, .bool f.y.all, .int .i64 f.z.lo, .int .i64 f.z.hi, .bool f.z.all]), .eq (.bool true), .eq (.bool true), .eq (.bool true)]) (Em w m7_15 [(b5, #[.int .i64 f.x.lo, .int .i64 f.x.hi, .bool f.x.all, .int .i64 f.y.lo, .int .i64 f.y.hi, .bool f.y.all, .int .i64 f.z.lo, .int .i64 f.z.hi, .bool f.z.all], 29), (b4, #[.int .i64 m0, .int .i64 m1, .int .i64 m2], 42), (b3, #[.int .i64 v.x.lo, .int .i64 v.x.hi, .bool v.x.all, .int .i64 v.y.lo, .int .i64 v.y.hi, .bool v.y.all, .int .i64 v.z.lo, .int .i64 v.z.hi, .bool v.z.all], 29), (b2, #[.int .i64 u.x.lo, .int .i64 u.x.hi, .bool u.x.all, .int .i64 u.y.lo, .int .i64 u.y.hi, .bool u.y.all, .int .i64 u.z.lo, .int .i64 u.z.hi, .bool u.z.all], 25), (b1, #[.int .i64 v.x.lo, .int .i64 v.x.hi, .bool v.x.all, .int .i64 v.y.lo, .int .i64 v.y.hi, .bool v.y.all, .int .i64 v.z.lo, .int .i64 v.z.hi, .bool v.z.all], 25)]) (by kernel_rfl) (by kernel_rfl) (by rfl) (by decide) (by rfl) hM ?_ ?_
 ·
  intro i hl hi uu ww aa hJ hd hev hin
  clear hM
  obtain rfl | rfl | rfl | rfl | rfl | rfl | rfl | rfl | rfl | rfl | rfl | rfl | rfl | rfl | rfl | rfl | rfl | rfl | rfl | rfl | rfl | rfl | rfl | rfl | rfl | rfl | rfl | rfl | rfl | rfl : i = 0 ∨ i = 1 ∨ i = 2 ∨ i = 3 ∨ i = 4 ∨ i = 5 ∨ i = 6 ∨ i = 7 ∨ i = 8 ∨ i = 9 ∨ i = 10 ∨ i = 11 ∨ i = 12 ∨ i = 13 ∨ i = 14 ∨ i = 15 ∨ i = 16 ∨ i = 17 ∨ i = 18 ∨ i = 19 ∨ i = 20 ∨ i = 21 ∨ i = 22 ∨ i = 23 ∨ i = 24 ∨ i = 25 ∨ i = 26 ∨ i = 27 ∨ i = 28 ∨ i = 29 := by omega
  ·
   have x11 : aa.tmps[11]? = some (.bool true) := (hev 11 (by decide)).trans rfl
   clear hd hev hin
   simp only [List.getElem_cons_succ, List.getElem_cons_zero]
   clear hl
   refine .inr ⟨rfl, fun K' hK => ?_⟩
   have HK := Lib.hid hK
   clear hK
   go_simp
   exact HK.out (.bool true) _ hJ rfl veL_same
  ·
   have x32 : aa.tmps[32]? = some (.bool true) := (hin 0 32 rfl).trans (congrArg some (show uu 0 = .bool true from hd 0 (by decide) (by kernel_rfl)))
   clear hd hev hin
   simp only [List.getElem_cons_succ, List.getElem_cons_zero]
   clear hl
   refine .inr ⟨rfl, fun K' hK => ?_⟩
   have HK := Lib.hid hK
   clear hK
   go_simp
   exact HK.out (.bool true) _ hJ rfl veL_same
  ·
   have x13 : aa.tmps[13]? = some (.bool b) := (hev 13 (by decide)).trans rfl
   have y1 : aa.tmps[33]? = some (.bool true) := (hin 1 33 rfl).trans (congrArg some (show uu 1 = .bool true from hd 1 (by decide) (by kernel_rfl)))
   clear hd hev hin
   simp only [List.getElem_cons_succ, List.getElem_cons_zero]
   clear hl
   refine .inr ⟨?_, fun K' hK => ?_⟩
   ·
    simp [Region.wanted, yielded, y1]
   clear y1
   have HK := Lib.hid hK
   clear hK
   go_simp
   exact HK.out (.bool b) _ hJ rfl veL_same
  ·
   have x12 : aa.tmps[12]? = some (.pointer (some ⟨b3, 0, none⟩)) := (hev 12 (by decide)).trans rfl
   have y1 : aa.tmps[33]? = some (.bool true) := (hin 1 33 rfl).trans (congrArg some (show uu 1 = .bool true from hd 1 (by decide) (by kernel_rfl)))
   clear hd hev hin
   simp only [List.getElem_cons_succ, List.getElem_cons_zero]
   clear hl
   refine .inr ⟨?_, fun K' hK => ?_⟩
   ·
    simp [Region.wanted, yielded, y1]
   clear y1
   have HK := Lib.hid hK
   clear hK
   have f0 : ww.cell? ⟨b3, 0, none⟩ = some (.int .i64 v.x.lo) := hJ.es.cell 2 rfl 0 rfl
   have f1 : ww.cell? ⟨b3, 1, none⟩ = some (.int .i64 v.x.hi) := hJ.es.cell 2 rfl 1 rfl
   have f2 : ww.cell? ⟨b3, 2, none⟩ = some (.bool v.x.all) := hJ.es.cell 2 rfl 2 rfl
   have f3 : ww.cell? ⟨b3, 3, none⟩ = some (.int .i64 v.y.lo) := hJ.es.cell 2 rfl 3 rfl
   have f4 : ww.cell? ⟨b3, 4, none⟩ = some (.int .i64 v.y.hi) := hJ.es.cell 2 rfl 4 rfl
   have f5 : ww.cell? ⟨b3, 5, none⟩ = some (.bool v.y.all) := hJ.es.cell 2 rfl 5 rfl
   have f6 : ww.cell? ⟨b3, 6, none⟩ = some (.int .i64 v.z.lo) := hJ.es.cell 2 rfl 6 rfl
   have f7 : ww.cell? ⟨b3, 7, none⟩ = some (.int .i64 v.z.hi) := hJ.es.cell 2 rfl 7 rfl
   have f8 : ww.cell? ⟨b3, 8, none⟩ = some (.bool v.z.all) := hJ.es.cell 2 rfl 8 rfl
   go_simp
   exact HK.out (.agg #[.int .i64 v.x.lo, .int .i64 v.x.hi, .bool v.x.all, .int .i64 v.y.lo, .int .i64 v.y.hi, .bool v.y.all, .int .i64 v.z.lo, .int .i64 v.z.hi, .bool v.z.all]) _ hJ rfl veL_same
  ·
   have x6 : aa.tmps[6]? = some (.pointer (some ⟨b2, 0, none⟩)) := (hev 6 (by decide)).trans rfl
   have y1 : aa.tmps[33]? = some (.bool true) := (hin 1 33 rfl).trans (congrArg some (show uu 1 = .bool true from hd 1 (by decide) (by kernel_rfl)))
   clear hd hev hin
   simp only [List.getElem_cons_succ, List.getElem_cons_zero]
   clear hl
   refine .inr ⟨?_, fun K' hK => ?_⟩
   ·
    simp [Region.wanted, yielded, y1]
   clear y1
   have HK := Lib.hid hK
   clear hK
   have f0 : ww.cell? ⟨b2, 0, none⟩ = some (.int .i64 u.x.lo) := hJ.es.cell 3 rfl 0 rfl
   have f1 : ww.cell? ⟨b2, 1, none⟩ = some (.int .i64 u.x.hi) := hJ.es.cell 3 rfl 1 rfl
   have f2 : ww.cell? ⟨b2, 2, none⟩ = some (.bool u.x.all) := hJ.es.cell 3 rfl 2 rfl
   have f3 : ww.cell? ⟨b2, 3, none⟩ = some (.int .i64 u.y.lo) := hJ.es.cell 3 rfl 3 rfl
   have f4 : ww.cell? ⟨b2, 4, none⟩ = some (.int .i64 u.y.hi) := hJ.es.cell 3 rfl 4 rfl
   have f5 : ww.cell? ⟨b2, 5, none⟩ = some (.bool u.y.all) := hJ.es.cell 3 rfl 5 rfl
   have f6 : ww.cell? ⟨b2, 6, none⟩ = some (.int .i64 u.z.lo) := hJ.es.cell 3 rfl 6 rfl
   have f7 : ww.cell? ⟨b2, 7, none⟩ = some (.int .i64 u.z.hi) := hJ.es.cell 3 rfl 7 rfl
   have f8 : ww.cell? ⟨b2, 8, none⟩ = some (.bool u.z.all) := hJ.es.cell 3 rfl 8 rfl
   go_simp
   exact HK.out (.agg #[.int .i64 u.x.lo, .int .i64 u.x.hi, .bool u.x.all, .int .i64 u.y.lo, .int .i64 u.y.hi, .bool u.y.all, .int .i64 u.z.lo, .int .i64 u.z.hi, .bool u.z.all]) _ hJ rfl veL_same
  ·
   have x36 : aa.tmps[36]? = some (.agg #[.int .i64 u.x.lo, .int .i64 u.x.hi, .bool u.x.all, .int .i64 u.y.lo, .int .i64 u.y.hi, .bool u.y.all, .int .i64 u.z.lo, .int .i64 u.z.hi, .bool u.z.all]) := (hin 4 36 rfl).trans (congrArg some (show uu 4 = .agg #[.int .i64 u.x.lo, .int .i64 u.x.hi, .bool u.x.all, .int .i64 u.y.lo, .int .i64 u.y.hi, .bool u.y.all, .int .i64 u.z.lo, .int .i64 u.z.hi, .bool u.z.all] from hd 4 (by decide) (by kernel_rfl)))
   have y1 : aa.tmps[33]? = some (.bool true) := (hin 1 33 rfl).trans (congrArg some (show uu 1 = .bool true from hd 1 (by decide) (by kernel_rfl)))
   clear hd hev hin
   simp only [List.getElem_cons_succ, List.getElem_cons_zero]
   clear hl
   refine .inr ⟨?_, fun K' hK => ?_⟩
   ·
    simp [Region.wanted, yielded, y1]
   clear y1
   have HK := Lib.hid hK
   clear hK
   go_simp
   refine (Hdu.out ww).mono ?_
   rintro e W' ⟨rfl, hB⟩
   exact HK.out (.agg #[.int .i64 u.x.lo, .int .i64 u.x.hi, .bool u.x.all, .int .i64 u.y.lo, .int .i64 u.y.hi, .bool u.y.all, .int .i64 u.z.lo, .int .i64 u.z.hi, .bool u.z.all]) _ (hJ.later hB) rfl (veL_later hB)
  ·
   have x35 : aa.tmps[35]? = some (.agg #[.int .i64 v.x.lo, .int .i64 v.x.hi, .bool v.x.all, .int .i64 v.y.lo, .int .i64 v.y.hi, .bool v.y.all, .int .i64 v.z.lo, .int .i64 v.z.hi, .bool v.z.all]) := (hin 3 35 rfl).trans (congrArg some (show uu 3 = .agg #[.int .i64 v.x.lo, .int .i64 v.x.hi, .bool v.x.all, .int .i64 v.y.lo, .int .i64 v.y.hi, .bool v.y.all, .int .i64 v.z.lo, .int .i64 v.z.hi, .bool v.z.all] from hd 3 (by decide) (by kernel_rfl)))
   have x37 : aa.tmps[37]? = some (.agg #[.int .i64 u.x.lo, .int .i64 u.x.hi, .bool u.x.all, .int .i64 u.y.lo, .int .i64 u.y.hi, .bool u.y.all, .int .i64 u.z.lo, .int .i64 u.z.hi, .bool u.z.all]) := (hin 5 37 rfl).trans (congrArg some (show uu 5 = .agg #[.int .i64 u.x.lo, .int .i64 u.x.hi, .bool u.x.all, .int .i64 u.y.lo, .int .i64 u.y.hi, .bool u.y.all, .int .i64 u.z.lo, .int .i64 u.z.hi, .bool u.z.all] from hd 5 (by decide) (by kernel_rfl)))
   have y1 : aa.tmps[33]? = some (.bool true) := (hin 1 33 rfl).trans (congrArg some (show uu 1 = .bool true from hd 1 (by decide) (by kernel_rfl)))
   clear hd hev hin
   simp only [List.getElem_cons_succ, List.getElem_cons_zero]
   clear hl
   refine .inr ⟨?_, fun K' hK => ?_⟩
   ·
    simp [Region.wanted, yielded, y1]
   clear y1
   have HK := Lib.hid hK
   clear hK
   go_simp
   refine (Hrin.out ww).mono ?_
   rintro e W' ⟨rfl, hB⟩
   exact HK.out (.bool b) _ (hJ.later hB) rfl (veL_later hB)
  ·
   have x34 : aa.tmps[34]? = some (.bool b) := (hin 2 34 rfl).trans (congrArg some (show uu 2 = .bool b from hd 2 (by decide) (by kernel_rfl)))
   have x38 : aa.tmps[38]? = some (.bool b) := (hin 6 38 rfl).trans (congrArg some (show uu 6 = .bool b from hd 6 (by decide) (by kernel_rfl)))
   have y1 : aa.tmps[33]? = some (.bool true) := (hin 1 33 rfl).trans (congrArg some (show uu 1 = .bool true from hd 1 (by decide) (by kernel_rfl)))
   clear hd hev hin
   simp only [List.getElem_cons_succ, List.getElem_cons_zero]
   clear hl
   refine .inr ⟨?_, fun K' hK => ?_⟩
   ·
    simp [Region.wanted, yielded, y1]
   clear y1
   have HK := Lib.hid hK
   clear hK
   go_simp
   exact HK.out (.bool true) _ hJ rfl veL_same
  ·
   have x33 : aa.tmps[33]? = some (.bool true) := (hin 1 33 rfl).trans (congrArg some (show uu 1 = .bool true from hd 1 (by decide) (by kernel_rfl)))
   have x39 : aa.tmps[39]? = some (.bool true) := (hin 7 39 rfl).trans (congrArg some (show uu 7 = .bool true from hd 7 (by decide) (by kernel_rfl)))
   clear hd hev hin
   simp only [List.getElem_cons_succ, List.getElem_cons_zero]
   clear hl
   refine .inr ⟨rfl, fun K' hK => ?_⟩
   have HK := Lib.hid hK
   clear hK
   go_simp
   exact HK.out (.bool true) _ hJ rfl veL_same
  ·
   have x40 : aa.tmps[40]? = some (.bool true) := (hin 8 40 rfl).trans (congrArg some (show uu 8 = .bool true from hd 8 (by decide) (by kernel_rfl)))
   clear hd hev hin
   simp only [List.getElem_cons_succ, List.getElem_cons_zero]
   clear hl
   refine .inr ⟨rfl, fun K' hK => ?_⟩
   have HK := Lib.hid hK
   clear hK
   go_simp
   exact HK.out (.bool true) _ hJ rfl veL_same
  ·
   have x14 : aa.tmps[14]? = some (.pointer (some ⟨b4, 0, none⟩)) := (hev 14 (by decide)).trans rfl
   have y9 : aa.tmps[41]? = some (.bool true) := (hin 9 41 rfl).trans (congrArg some (show uu 9 = .bool true from hd 9 (by decide) (by kernel_rfl)))
   clear hd hev hin
   simp only [List.getElem_cons_succ, List.getElem_cons_zero]
   clear hl
   refine .inr ⟨?_, fun K' hK => ?_⟩
   ·
    simp [Region.wanted, yielded, y9]
   clear y9
   have HK := Lib.hid hK
   clear hK
   have f0 : ww.cell? ⟨b4, 0, none⟩ = some (.int .i64 m0) := hJ.es.cell 1 rfl 0 rfl
   have f1 : ww.cell? ⟨b4, 1, none⟩ = some (.int .i64 m1) := hJ.es.cell 1 rfl 1 rfl
   have f2 : ww.cell? ⟨b4, 2, none⟩ = some (.int .i64 m2) := hJ.es.cell 1 rfl 2 rfl
   go_simp
   exact HK.out (.agg #[.int .i64 m0, .int .i64 m1, .int .i64 m2]) _ hJ rfl veL_same
  ·
   have x12 : aa.tmps[12]? = some (.pointer (some ⟨b3, 0, none⟩)) := (hev 12 (by decide)).trans rfl
   have y9 : aa.tmps[41]? = some (.bool true) := (hin 9 41 rfl).trans (congrArg some (show uu 9 = .bool true from hd 9 (by decide) (by kernel_rfl)))
   clear hd hev hin
   simp only [List.getElem_cons_succ, List.getElem_cons_zero]
   clear hl
   refine .inr ⟨?_, fun K' hK => ?_⟩
   ·
    simp [Region.wanted, yielded, y9]
   clear y9
   have HK := Lib.hid hK
   clear hK
   have f0 : ww.cell? ⟨b3, 0, none⟩ = some (.int .i64 v.x.lo) := hJ.es.cell 2 rfl 0 rfl
   have f1 : ww.cell? ⟨b3, 1, none⟩ = some (.int .i64 v.x.hi) := hJ.es.cell 2 rfl 1 rfl
   have f2 : ww.cell? ⟨b3, 2, none⟩ = some (.bool v.x.all) := hJ.es.cell 2 rfl 2 rfl
   have f3 : ww.cell? ⟨b3, 3, none⟩ = some (.int .i64 v.y.lo) := hJ.es.cell 2 rfl 3 rfl
   have f4 : ww.cell? ⟨b3, 4, none⟩ = some (.int .i64 v.y.hi) := hJ.es.cell 2 rfl 4 rfl
   have f5 : ww.cell? ⟨b3, 5, none⟩ = some (.bool v.y.all) := hJ.es.cell 2 rfl 5 rfl
   have f6 : ww.cell? ⟨b3, 6, none⟩ = some (.int .i64 v.z.lo) := hJ.es.cell 2 rfl 6 rfl
   have f7 : ww.cell? ⟨b3, 7, none⟩ = some (.int .i64 v.z.hi) := hJ.es.cell 2 rfl 7 rfl
   have f8 : ww.cell? ⟨b3, 8, none⟩ = some (.bool v.z.all) := hJ.es.cell 2 rfl 8 rfl
   go_simp
   exact HK.out (.agg #[.int .i64 v.x.lo, .int .i64 v.x.hi, .bool v.x.all, .int .i64 v.y.lo, .int .i64 v.y.hi, .bool v.y.all, .int .i64 v.z.lo, .int .i64 v.z.hi, .bool v.z.all]) _ hJ rfl veL_same
  ·
   have x43 : aa.tmps[43]? = some (.agg #[.int .i64 v.x.lo, .int .i64 v.x.hi, .bool v.x.all, .int .i64 v.y.lo, .int .i64 v.y.hi, .bool v.y.all, .int .i64 v.z.lo, .int .i64 v.z.hi, .bool v.z.all]) := (hin 11 43 rfl).trans (congrArg some (show uu 11 = .agg #[.int .i64 v.x.lo, .int .i64 v.x.hi, .bool v.x.all, .int .i64 v.y.lo, .int .i64 v.y.hi, .bool v.y.all, .int .i64 v.z.lo, .int .i64 v.z.hi, .bool v.z.all] from hd 11 (by decide) (by kernel_rfl)))
   have y9 : aa.tmps[41]? = some (.bool true) := (hin 9 41 rfl).trans (congrArg some (show uu 9 = .bool true from hd 9 (by decide) (by kernel_rfl)))
   clear hd hev hin
   simp only [List.getElem_cons_succ, List.getElem_cons_zero]
   clear hl
   refine .inr ⟨?_, fun K' hK => ?_⟩
   ·
    simp [Region.wanted, yielded, y9]
   clear y9
   have HK := Lib.hid hK
   clear hK
   go_simp
   refine (Hrm.out ww).mono ?_
   rintro e W' ⟨rfl, hB⟩
   exact HK.out (.agg #[.int .i64 m0, .int .i64 m1, .int .i64 m2]) _ (hJ.later hB) rfl (veL_later hB)
  ·
   have x42 : aa.tmps[42]? = some (.agg #[.int .i64 m0, .int .i64 m1, .int .i64 m2]) := (hin 10 42 rfl).trans (congrArg some (show uu 10 = .agg #[.int .i64 m0, .int .i64 m1, .int .i64 m2] from hd 10 (by decide) (by kernel_rfl)))
   have x44 : aa.tmps[44]? = some (.agg #[.int .i64 m0, .int .i64 m1, .int .i64 m2]) := (hin 12 44 rfl).trans (congrArg some (show uu 12 = .agg #[.int .i64 m0, .int .i64 m1, .int .i64 m2] from hd 12 (by decide) (by kernel_rfl)))
   have y9 : aa.tmps[41]? = some (.bool true) := (hin 9 41 rfl).trans (congrArg some (show uu 9 = .bool true from hd 9 (by decide) (by kernel_rfl)))
   clear hd hev hin
   simp only [List.getElem_cons_succ, List.getElem_cons_zero]
   clear hl
   refine .inr ⟨?_, fun K' hK => ?_⟩
   ·
    simp [Region.wanted, yielded, y9]
   clear y9
   have HK := Lib.hid hK
   clear hK
   go_simp
   exact HK.out (.bool true) _ hJ rfl veL_same
  ·
   have x41 : aa.tmps[41]? = some (.bool true) := (hin 9 41 rfl).trans (congrArg some (show uu 9 = .bool true from hd 9 (by decide) (by kernel_rfl)))
   have x45 : aa.tmps[45]? = some (.bool true) := (hin 13 45 rfl).trans (congrArg some (show uu 13 = .bool true from hd 13 (by decide) (by kernel_rfl)))
   clear hd hev hin
   simp only [List.getElem_cons_succ, List.getElem_cons_zero]
   clear hl
   refine .inr ⟨rfl, fun K' hK => ?_⟩
   have HK := Lib.hid hK
   clear hK
   go_simp
   exact HK.out (.bool true) _ hJ rfl veL_same
  ·
   have x46 : aa.tmps[46]? = some (.bool true) := (hin 14 46 rfl).trans (congrArg some (show uu 14 = .bool true from hd 14 (by decide) (by kernel_rfl)))
   clear hd hev hin
   simp only [List.getElem_cons_succ, List.getElem_cons_zero]
   clear hl
   refine .inr ⟨rfl, fun K' hK => ?_⟩
   have HK := Lib.hid hK
   clear hK
   go_simp
   exact HK.out (.bool true) _ hJ rfl veL_same
  ·
   have x15 : aa.tmps[15]? = some (.int .i64 r) := (hev 15 (by decide)).trans rfl
   have y15 : aa.tmps[47]? = some (.bool true) := (hin 15 47 rfl).trans (congrArg some (show uu 15 = .bool true from hd 15 (by decide) (by kernel_rfl)))
   clear hd hev hin
   simp only [List.getElem_cons_succ, List.getElem_cons_zero]
   clear hl
   refine .inr ⟨?_, fun K' hK => ?_⟩
   ·
    simp [Region.wanted, yielded, y15]
   clear y15
   have HK := Lib.hid hK
   clear hK
   go_simp
   exact HK.out (.int .i64 r) _ hJ rfl veL_same
  ·
   have x12 : aa.tmps[12]? = some (.pointer (some ⟨b3, 0, none⟩)) := (hev 12 (by decide)).trans rfl
   have y15 : aa.tmps[47]? = some (.bool true) := (hin 15 47 rfl).trans (congrArg some (show uu 15 = .bool true from hd 15 (by decide) (by kernel_rfl)))
   clear hd hev hin
   simp only [List.getElem_cons_succ, List.getElem_cons_zero]
   clear hl
   refine .inr ⟨?_, fun K' hK => ?_⟩
   ·
    simp [Region.wanted, yielded, y15]
   clear y15
   have HK := Lib.hid hK
   clear hK
   have f0 : ww.cell? ⟨b3, 0, none⟩ = some (.int .i64 v.x.lo) := hJ.es.cell 2 rfl 0 rfl
   have f1 : ww.cell? ⟨b3, 1, none⟩ = some (.int .i64 v.x.hi) := hJ.es.cell 2 rfl 1 rfl
   have f2 : ww.cell? ⟨b3, 2, none⟩ = some (.bool v.x.all) := hJ.es.cell 2 rfl 2 rfl
   have f3 : ww.cell? ⟨b3, 3, none⟩ = some (.int .i64 v.y.lo) := hJ.es.cell 2 rfl 3 rfl
   have f4 : ww.cell? ⟨b3, 4, none⟩ = some (.int .i64 v.y.hi) := hJ.es.cell 2 rfl 4 rfl
   have f5 : ww.cell? ⟨b3, 5, none⟩ = some (.bool v.y.all) := hJ.es.cell 2 rfl 5 rfl
   have f6 : ww.cell? ⟨b3, 6, none⟩ = some (.int .i64 v.z.lo) := hJ.es.cell 2 rfl 6 rfl
   have f7 : ww.cell? ⟨b3, 7, none⟩ = some (.int .i64 v.z.hi) := hJ.es.cell 2 rfl 7 rfl
   have f8 : ww.cell? ⟨b3, 8, none⟩ = some (.bool v.z.all) := hJ.es.cell 2 rfl 8 rfl
   go_simp
   exact HK.out (.agg #[.int .i64 v.x.lo, .int .i64 v.x.hi, .bool v.x.all, .int .i64 v.y.lo, .int .i64 v.y.hi, .bool v.y.all, .int .i64 v.z.lo, .int .i64 v.z.hi, .bool v.z.all]) _ hJ rfl veL_same
  ·
   have x49 : aa.tmps[49]? = some (.agg #[.int .i64 v.x.lo, .int .i64 v.x.hi, .bool v.x.all, .int .i64 v.y.lo, .int .i64 v.y.hi, .bool v.y.all, .int .i64 v.z.lo, .int .i64 v.z.hi, .bool v.z.all]) := (hin 17 49 rfl).trans (congrArg some (show uu 17 = .agg #[.int .i64 v.x.lo, .int .i64 v.x.hi, .bool v.x.all, .int .i64 v.y.lo, .int .i64 v.y.hi, .bool v.y.all, .int .i64 v.z.lo, .int .i64 v.z.hi, .bool v.z.all] from hd 17 (by decide) (by kernel_rfl)))
   have y15 : aa.tmps[47]? = some (.bool true) := (hin 15 47 rfl).trans (congrArg some (show uu 15 = .bool true from hd 15 (by decide) (by kernel_rfl)))
   clear hd hev hin
   simp only [List.getElem_cons_succ, List.getElem_cons_zero]
   clear hl
   refine .inr ⟨?_, fun K' hK => ?_⟩
   ·
    simp [Region.wanted, yielded, y15]
   clear y15
   have HK := Lib.hid hK
   clear hK
   go_simp
   refine (Hrr.out ww).mono ?_
   rintro e W' ⟨rfl, hB⟩
   exact HK.out (.int .i64 r) _ (hJ.later hB) rfl (veL_later hB)
  ·
   have x48 : aa.tmps[48]? = some (.int .i64 r) := (hin 16 48 rfl).trans (congrArg some (show uu 16 = .int .i64 r from hd 16 (by decide) (by kernel_rfl)))
   have x50 : aa.tmps[50]? = some (.int .i64 r) := (hin 18 50 rfl).trans (congrArg some (show uu 18 = .int .i64 r from hd 18 (by decide) (by kernel_rfl)))
   have y15 : aa.tmps[47]? = some (.bool true) := (hin 15 47 rfl).trans (congrArg some (show uu 15 = .bool true from hd 15 (by decide) (by kernel_rfl)))
   clear hd hev hin
   simp only [List.getElem_cons_succ, List.getElem_cons_zero]
   clear hl
   refine .inr ⟨?_, fun K' hK => ?_⟩
   ·
    simp [Region.wanted, yielded, y15]
   clear y15
   have HK := Lib.hid hK
   clear hK
   go_simp
   exact HK.out (.bool true) _ hJ rfl veL_same
  ·
   have x47 : aa.tmps[47]? = some (.bool true) := (hin 15 47 rfl).trans (congrArg some (show uu 15 = .bool true from hd 15 (by decide) (by kernel_rfl)))
   have x51 : aa.tmps[51]? = some (.bool true) := (hin 19 51 rfl).trans (congrArg some (show uu 19 = .bool true from hd 19 (by decide) (by kernel_rfl)))
   clear hd hev hin
   simp only [List.getElem_cons_succ, List.getElem_cons_zero]
   clear hl
   refine .inr ⟨rfl, fun K' hK => ?_⟩
   have HK := Lib.hid hK
   clear hK
   go_simp
   exact HK.out (.bool true) _ hJ rfl veL_same
  ·
   have x52 : aa.tmps[52]? = some (.bool true) := (hin 20 52 rfl).trans (congrArg some (show uu 20 = .bool true from hd 20 (by decide) (by kernel_rfl)))
   clear hd hev hin
   simp only [List.getElem_cons_succ, List.getElem_cons_zero]
   clear hl
   refine .inr ⟨rfl, fun K' hK => ?_⟩
   have HK := Lib.hid hK
   clear hK
   go_simp
   exact HK.out (.bool true) _ hJ rfl veL_same
  ·
   have x16 : aa.tmps[16]? = some (.pointer (some ⟨b5, 0, none⟩)) := (hev 16 (by decide)).trans rfl
   have y21 : aa.tmps[53]? = some (.bool true) := (hin 21 53 rfl).trans (congrArg some (show uu 21 = .bool true from hd 21 (by decide) (by kernel_rfl)))
   clear hd hev hin
   simp only [List.getElem_cons_succ, List.getElem_cons_zero]
   clear hl
   refine .inr ⟨?_, fun K' hK => ?_⟩
   ·
    simp [Region.wanted, yielded, y21]
   clear y21
   have HK := Lib.hid hK
   clear hK
   have f0 : ww.cell? ⟨b5, 0, none⟩ = some (.int .i64 f.x.lo) := hJ.es.cell 0 rfl 0 rfl
   have f1 : ww.cell? ⟨b5, 1, none⟩ = some (.int .i64 f.x.hi) := hJ.es.cell 0 rfl 1 rfl
   have f2 : ww.cell? ⟨b5, 2, none⟩ = some (.bool f.x.all) := hJ.es.cell 0 rfl 2 rfl
   have f3 : ww.cell? ⟨b5, 3, none⟩ = some (.int .i64 f.y.lo) := hJ.es.cell 0 rfl 3 rfl
   have f4 : ww.cell? ⟨b5, 4, none⟩ = some (.int .i64 f.y.hi) := hJ.es.cell 0 rfl 4 rfl
   have f5 : ww.cell? ⟨b5, 5, none⟩ = some (.bool f.y.all) := hJ.es.cell 0 rfl 5 rfl
   have f6 : ww.cell? ⟨b5, 6, none⟩ = some (.int .i64 f.z.lo) := hJ.es.cell 0 rfl 6 rfl
   have f7 : ww.cell? ⟨b5, 7, none⟩ = some (.int .i64 f.z.hi) := hJ.es.cell 0 rfl 7 rfl
   have f8 : ww.cell? ⟨b5, 8, none⟩ = some (.bool f.z.all) := hJ.es.cell 0 rfl 8 rfl
   go_simp
   exact HK.out (.agg #[.int .i64 f.x.lo, .int .i64 f.x.hi, .bool f.x.all, .int .i64 f.y.lo, .int .i64 f.y.hi, .bool f.y.all, .int .i64 f.z.lo, .int .i64 f.z.hi, .bool f.z.all]) _ hJ rfl veL_same
  ·
   have x2 : aa.tmps[2]? = some (.int .i64 x) := (hev 2 (by decide)).trans rfl
   have y21 : aa.tmps[53]? = some (.bool true) := (hin 21 53 rfl).trans (congrArg some (show uu 21 = .bool true from hd 21 (by decide) (by kernel_rfl)))
   clear hd hev hin
   simp only [List.getElem_cons_succ, List.getElem_cons_zero]
   clear hl
   refine .inr ⟨?_, fun K' hK => ?_⟩
   ·
    simp [Region.wanted, yielded, y21]
   clear y21
   have HK := Lib.hid hK
   clear hK
   go_simp
   exact HK.out (.int .i64 x) _ hJ rfl veL_same
  ·
   have x3 : aa.tmps[3]? = some (.int .i64 y) := (hev 3 (by decide)).trans rfl
   have y21 : aa.tmps[53]? = some (.bool true) := (hin 21 53 rfl).trans (congrArg some (show uu 21 = .bool true from hd 21 (by decide) (by kernel_rfl)))
   clear hd hev hin
   simp only [List.getElem_cons_succ, List.getElem_cons_zero]
   clear hl
   refine .inr ⟨?_, fun K' hK => ?_⟩
   ·
    simp [Region.wanted, yielded, y21]
   clear y21
   have HK := Lib.hid hK
   clear hK
   go_simp
   exact HK.out (.int .i64 y) _ hJ rfl veL_same
  ·
   have x4 : aa.tmps[4]? = some (.int .i64 z) := (hev 4 (by decide)).trans rfl
   have y21 : aa.tmps[53]? = some (.bool true) := (hin 21 53 rfl).trans (congrArg some (show uu 21 = .bool true from hd 21 (by decide) (by kernel_rfl)))
   clear hd hev hin
   simp only [List.getElem_cons_succ, List.getElem_cons_zero]
   clear hl
   refine .inr ⟨?_, fun K' hK => ?_⟩
   ·
    simp [Region.wanted, yielded, y21]
   clear y21
   have HK := Lib.hid hK
   clear hK
   go_simp
   exact HK.out (.int .i64 z) _ hJ rfl veL_same
  ·
   have x55 : aa.tmps[55]? = some (.int .i64 x) := (hin 23 55 rfl).trans (congrArg some (show uu 23 = .int .i64 x from hd 23 (by decide) (by kernel_rfl)))
   have x56 : aa.tmps[56]? = some (.int .i64 y) := (hin 24 56 rfl).trans (congrArg some (show uu 24 = .int .i64 y from hd 24 (by decide) (by kernel_rfl)))
   have x57 : aa.tmps[57]? = some (.int .i64 z) := (hin 25 57 rfl).trans (congrArg some (show uu 25 = .int .i64 z from hd 25 (by decide) (by kernel_rfl)))
   have y21 : aa.tmps[53]? = some (.bool true) := (hin 21 53 rfl).trans (congrArg some (show uu 21 = .bool true from hd 21 (by decide) (by kernel_rfl)))
   clear hd hev hin
   simp only [List.getElem_cons_succ, List.getElem_cons_zero]
   clear hl
   refine .inr ⟨?_, fun K' hK => ?_⟩
   ·
    simp [Region.wanted, yielded, y21]
   clear y21
   have HK := Lib.hid hK
   clear hK
   go_simp
   refine (Hro.out ww).mono ?_
   rintro e W' ⟨rfl, hB⟩
   exact HK.out (.agg #[.int .i64 f.x.lo, .int .i64 f.x.hi, .bool f.x.all, .int .i64 f.y.lo, .int .i64 f.y.hi, .bool f.y.all, .int .i64 f.z.lo, .int .i64 f.z.hi, .bool f.z.all]) _ (hJ.later hB) rfl (veL_later hB)
  ·
   have x54 : aa.tmps[54]? = some (.agg #[.int .i64 f.x.lo, .int .i64 f.x.hi, .bool f.x.all, .int .i64 f.y.lo, .int .i64 f.y.hi, .bool f.y.all, .int .i64 f.z.lo, .int .i64 f.z.hi, .bool f.z.all]) := (hin 22 54 rfl).trans (congrArg some (show uu 22 = .agg #[.int .i64 f.x.lo, .int .i64 f.x.hi, .bool f.x.all, .int .i64 f.y.lo, .int .i64 f.y.hi, .bool f.y.all, .int .i64 f.z.lo, .int .i64 f.z.hi, .bool f.z.all] from hd 22 (by decide) (by kernel_rfl)))
   have x58 : aa.tmps[58]? = some (.agg #[.int .i64 f.x.lo, .int .i64 f.x.hi, .bool f.x.all, .int .i64 f.y.lo, .int .i64 f.y.hi, .bool f.y.all, .int .i64 f.z.lo, .int .i64 f.z.hi, .bool f.z.all]) := (hin 26 58 rfl).trans (congrArg some (show uu 26 = .agg #[.int .i64 f.x.lo, .int .i64 f.x.hi, .bool f.x.all, .int .i64 f.y.lo, .int .i64 f.y.hi, .bool f.y.all, .int .i64 f.z.lo, .int .i64 f.z.hi, .bool f.z.all] from hd 26 (by decide) (by kernel_rfl)))
   have y21 : aa.tmps[53]? = some (.bool true) := (hin 21 53 rfl).trans (congrArg some (show uu 21 = .bool true from hd 21 (by decide) (by kernel_rfl)))
   clear hd hev hin
   simp only [List.getElem_cons_succ, List.getElem_cons_zero]
   clear hl
   refine .inr ⟨?_, fun K' hK => ?_⟩
   ·
    simp [Region.wanted, yielded, y21]
   clear y21
   have HK := Lib.hid hK
   clear hK
   go_simp
   exact HK.out (.bool true) _ hJ rfl veL_same
  ·
   have x53 : aa.tmps[53]? = some (.bool true) := (hin 21 53 rfl).trans (congrArg some (show uu 21 = .bool true from hd 21 (by decide) (by kernel_rfl)))
   have x59 : aa.tmps[59]? = some (.bool true) := (hin 27 59 rfl).trans (congrArg some (show uu 27 = .bool true from hd 27 (by decide) (by kernel_rfl)))
   clear hd hev hin
   simp only [List.getElem_cons_succ, List.getElem_cons_zero]
   clear hl
   refine .inr ⟨rfl, fun K' hK => ?_⟩
   have HK := Lib.hid hK
   clear hK
   go_simp
   exact HK.out (.bool true) _ hJ rfl veL_same
  ·
   have x60 : aa.tmps[60]? = some (.bool true) := (hin 28 60 rfl).trans (congrArg some (show uu 28 = .bool true from hd 28 (by decide) (by kernel_rfl)))
   clear hd hev hin
   simp only [List.getElem_cons_succ, List.getElem_cons_zero]
   clear hl
   refine .inr ⟨rfl, fun K' hK => ?_⟩
   have HK := Lib.hid hK
   clear hK
   go_simp
   exact HK.out (.bool true) _ hJ rfl veL_same
 clear hM
 intro uu W16 hJm hd
 have e_0 : uu 0 = .bool true := hd 0 (by decide)
 have e_1 : uu 1 = .bool true := hd 1 (by decide)
 have e_2 : uu 2 = .bool b := hd 2 (by decide)
 have e_3 : uu 3 = .agg #[.int .i64 v.x.lo, .int .i64 v.x.hi, .bool v.x.all, .int .i64 v.y.lo, .int .i64 v.y.hi, .bool v.y.all, .int .i64 v.z.lo, .int .i64 v.z.hi, .bool v.z.all] := hd 3 (by decide)
 have e_4 : uu 4 = .agg #[.int .i64 u.x.lo, .int .i64 u.x.hi, .bool u.x.all, .int .i64 u.y.lo, .int .i64 u.y.hi, .bool u.y.all, .int .i64 u.z.lo, .int .i64 u.z.hi, .bool u.z.all] := hd 4 (by decide)
 have e_5 : uu 5 = .agg #[.int .i64 u.x.lo, .int .i64 u.x.hi, .bool u.x.all, .int .i64 u.y.lo, .int .i64 u.y.hi, .bool u.y.all, .int .i64 u.z.lo, .int .i64 u.z.hi, .bool u.z.all] := hd 5 (by decide)
 have e_6 : uu 6 = .bool b := hd 6 (by decide)
 have e_7 : uu 7 = .bool true := hd 7 (by decide)
 have e_8 : uu 8 = .bool true := hd 8 (by decide)
 have e_9 : uu 9 = .bool true := hd 9 (by decide)
 have e_10 : uu 10 = .agg #[.int .i64 m0, .int .i64 m1, .int .i64 m2] := hd 10 (by decide)
 have e_11 : uu 11 = .agg #[.int .i64 v.x.lo, .int .i64 v.x.hi, .bool v.x.all, .int .i64 v.y.lo, .int .i64 v.y.hi, .bool v.y.all, .int .i64 v.z.lo, .int .i64 v.z.hi, .bool v.z.all] := hd 11 (by decide)
 have e_12 : uu 12 = .agg #[.int .i64 m0, .int .i64 m1, .int .i64 m2] := hd 12 (by decide)
 have e_13 : uu 13 = .bool true := hd 13 (by decide)
 have e_14 : uu 14 = .bool true := hd 14 (by decide)
 have e_15 : uu 15 = .bool true := hd 15 (by decide)
 have e_16 : uu 16 = .int .i64 r := hd 16 (by decide)
 have e_17 : uu 17 = .agg #[.int .i64 v.x.lo, .int .i64 v.x.hi, .bool v.x.all, .int .i64 v.y.lo, .int .i64 v.y.hi, .bool v.y.all, .int .i64 v.z.lo, .int .i64 v.z.hi, .bool v.z.all] := hd 17 (by decide)
 have e_18 : uu 18 = .int .i64 r := hd 18 (by decide)
 have e_19 : uu 19 = .bool true := hd 19 (by decide)
 have e_20 : uu 20 = .bool true := hd 20 (by decide)
 have e_21 : uu 21 = .bool true := hd 21 (by decide)
 have e_22 : uu 22 = .agg #[.int .i64 f.x.lo, .int .i64 f.x.hi, .bool f.x.all, .int .i64 f.y.lo, .int .i64 f.y.hi, .bool f.y.all, .int .i64 f.z.lo, .int .i64 f.z.hi, .bool f.z.all] := hd 22 (by decide)
 have e_23 : uu 23 = .int .i64 x := hd 23 (by decide)
 have e_24 : uu 24 = .int .i64 y := hd 24 (by decide)
 have e_25 : uu 25 = .int .i64 z := hd 25 (by decide)
 have e_26 : uu 26 = .agg #[.int .i64 f.x.lo, .int .i64 f.x.hi, .bool f.x.all, .int .i64 f.y.lo, .int .i64 f.y.hi, .bool f.y.all, .int .i64 f.z.lo, .int .i64 f.z.hi, .bool f.z.all] := hd 26 (by decide)
 have e_27 : uu 27 = .bool true := hd 27 (by decide)
 have e_28 : uu 28 = .bool true := hd 28 (by decide)
 have e_29 : uu 29 = .bool true := hd 29 (by decide)
 clear hd
 simp only [layS, Act.put, List.setIfInBounds_toArray, List.set_cons_succ, List.set_cons_zero, Nat.zero_add, Nat.reduceAdd, List.drop_succ_cons, List.drop_zero, List.drop_nil, e_0, e_1, e_2, e_3, e_4, e_5, e_6, e_7, e_8, e_9, e_10, e_11, e_12, e_13, e_14, e_15, e_16, e_17, e_18, e_19, e_20, e_21, e_22, e_23, e_24, e_25, e_26, e_27, e_28, e_29]
 clear e_0 e_1 e_2 e_3 e_4 e_5 e_6 e_7 e_8 e_9 e_10 e_11 e_12 e_13 e_14 e_15 e_16 e_17 e_18 e_19 e_20 e_21 e_22 e_23 e_24 e_25 e_26 e_27 e_28 e_29
 have hJ16 := hJm.es
 clear hJm
 go_wp2
 go_ret
 exact ⟨rfl, hJ16.below⟩
theorem VecTells_any (v u : Vc) (x y z : Int) (w : World) : Calls Try.prog 4 #[.agg #[.int .i64 v.x.lo, .int .i64 v.x.hi, .bool v.x.all, .int .i64 v.y.lo, .int .i64 v.y.hi, .bool v.y.all, .int .i64 v.z.lo, .int .i64 v.z.hi, .bool v.z.all], .agg #[.int .i64 u.x.lo, .int .i64 u.x.hi, .bool u.x.all, .int .i64 u.y.lo, .int .i64 u.y.hi, .bool u.y.all, .int .i64 u.z.lo, .int .i64 u.z.hi, .bool u.z.all], .int .i64 x, .int .i64 y, .int .i64 z] w (PVal (.bool true) w) :=
 Tells_w v u (ofV x y z) x y z (radV v) (midS v.x) (midS v.y) (midS v.z) (inV v u) vawake_any (vdoc_any v) (vIn_any v u) (vMid_any v) (vRad_any v) (vOf_any x y z) (vdoc_any _) (vdoc_any u) (dIn_any v u) (dMid_any v) (dRad_any v) (dOf_any x y z) w
end Go.Proofs.Ytdochhhepmlapaa
