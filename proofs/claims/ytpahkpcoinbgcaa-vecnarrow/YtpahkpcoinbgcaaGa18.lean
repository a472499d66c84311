/- Parts of the proof. -/
import Derived.Test.YtpahkpcoinbgcaaGa15
/- The walk of the law VecNarrow. -/
namespace Go.Proofs.Ytpahkpcoinbgcaa
open Go Go.RowKit
attribute [local go_sem ↓] run_eqlSs run_eqlDs run_eqlV run_eqlW run_eqlI
set_option maxRecDepth 100000 in
set_option maxHeartbeats 12800000 in
theorem Narrow_f (v u x y : Vc) (b : Bool) (hHaw : ∀ W : World, Calls Try.prog 40 #[] W (PVal (.bool true) W)) (hHp : ∀ W : World, Calls Try.prog 55 #[.agg #[.int .i64 v.x.lo, .int .i64 v.x.hi, .bool v.x.all, .int .i64 v.y.lo, .int .i64 v.y.hi, .bool v.y.all, .int .i64 v.z.lo, .int .i64 v.z.hi, .bool v.z.all], .agg #[.int .i64 x.x.lo, .int .i64 x.x.hi, .bool x.x.all, .int .i64 x.y.lo, .int .i64 x.y.hi, .bool x.y.all, .int .i64 x.z.lo, .int .i64 x.z.hi, .bool x.z.all]] W (PVal (.bool false) W)) (hHq : ∀ W : World, Calls Try.prog 55 #[.agg #[.int .i64 u.x.lo, .int .i64 u.x.hi, .bool u.x.all, .int .i64 u.y.lo, .int .i64 u.y.hi, .bool u.y.all, .int .i64 u.z.lo, .int .i64 u.z.hi, .bool u.z.all], .agg #[.int .i64 y.x.lo, .int .i64 y.x.hi, .bool y.x.all, .int .i64 y.y.lo, .int .i64 y.y.hi, .bool y.y.all, .int .i64 y.z.lo, .int .i64 y.z.hi, .bool y.z.all]] W (PVal (.bool b) W))  (w : World) : Calls Try.prog 11 #[.agg #[.int .i64 v.x.lo, .int .i64 v.x.hi, .bool v.x.all, .int .i64 v.y.lo, .int .i64 v.y.hi, .bool v.y.all, .int .i64 v.z.lo, .int .i64 v.z.hi, .bool v.z.all], .agg #[.int .i64 u.x.lo, .int .i64 u.x.hi, .bool u.x.all, .int .i64 u.y.lo, .int .i64 u.y.hi, .bool u.y.all, .int .i64 u.z.lo, .int .i64 u.z.hi, .bool u.z.all], .agg #[.int .i64 x.x.lo, .int .i64 x.x.hi, .bool x.x.all, .int .i64 x.y.lo, .int .i64 x.y.hi, .bool x.y.all, .int .i64 x.z.lo, .int .i64 x.z.hi, .bool x.z.all], .agg #[.int .i64 y.x.lo, .int .i64 y.x.hi, .bool y.x.all, .int .i64 y.y.lo, .int .i64 y.y.hi, .bool y.y.all, .int .i64 y.z.lo, .int .i64 y.z.hi, .bool y.z.all]] w (PVal (.bool true) w) := by
 have Haw := Lib.hid hHaw
 have Hp := Lib.hid hHp
 have Hq := Lib.hid hHq
 clear hHaw hHp hHq
 have hJ0 := es_nil w
 go_enter Try.func11, Try.ntmps11
 go_wp2_with (refine stop_box 34 (.tmp 0) #[.int .i64 v.x.lo, .int .i64 v.x.hi, .bool v.x.all, .int .i64 v.y.lo, .int .i64 v.y.hi, .bool v.y.all, .int .i64 v.z.lo, .int .i64 v.z.hi, .bool v.z.all] rfl rfl rfl hJ0 (fun b1 W1 hJ1 => ?_))
 clear hJ0
 unfold Stop
 try simp only [Act.put, List.setIfInBounds_toArray, List.set_cons_succ, List.set_cons_zero]
 go_wp2_with (refine stop_box 34 (.tmp 1) #[.int .i64 u.x.lo, .int .i64 u.x.hi, .bool u.x.all, .int .i64 u.y.lo, .int .i64 u.y.hi, .bool u.y.all, .int .i64 u.z.lo, .int .i64 u.z.hi, .bool u.z.all] rfl rfl rfl hJ1 (fun b2 W2 hJ2 => ?_))
 clear hJ1
 unfold Stop
 try simp only [Act.put, List.setIfInBounds_toArray, List.set_cons_succ, List.set_cons_zero]
 go_wp2_with (refine stop_box 34 (.tmp 2) #[.int .i64 x.x.lo, .int .i64 x.x.hi, .bool x.x.all, .int .i64 x.y.lo, .int .i64 x.y.hi, .bool x.y.all, .int .i64 x.z.lo, .int .i64 x.z.hi, .bool x.z.all] rfl rfl rfl hJ2 (fun b3 W3 hJ3 => ?_))
 clear hJ2
 unfold Stop
 try simp only [Act.put, List.setIfInBounds_toArray, List.set_cons_succ, List.set_cons_zero]
 go_wp2_with (refine stop_box 34 (.tmp 3) #[.int .i64 y.x.lo, .int .i64 y.x.hi, .bool y.x.all, .int .i64 y.y.lo, .int .i64 y.y.hi, .bool y.y.all, .int .i64 y.z.lo, .int .i64 y.z.hi, .bool y.z.all] rfl rfl rfl hJ3 (fun b4 W4 hJ4 => ?_))
 clear hJ3
 unfold Stop
 try simp only [Act.put, List.setIfInBounds_toArray, List.set_cons_succ, List.set_cons_zero]
 go_wp2_with fail
 refine (Haw.out _).mono ?_
 rintro e W5 ⟨rfl, hB⟩
 have hJ5 := hJ4.later hB
 clear hB
 clear hJ4
 have f0 : W5.cell? ⟨b1, 0, none⟩ = some (.int .i64 v.x.lo) := hJ5.cell 3 rfl 0 rfl
 have f1 : W5.cell? ⟨b1, 1, none⟩ = some (.int .i64 v.x.hi) := hJ5.cell 3 rfl 1 rfl
 have f2 : W5.cell? ⟨b1, 2, none⟩ = some (.bool v.x.all) := hJ5.cell 3 rfl 2 rfl
 have f3 : W5.cell? ⟨b1, 3, none⟩ = some (.int .i64 v.y.lo) := hJ5.cell 3 rfl 3 rfl
 have f4 : W5.cell? ⟨b1, 4, none⟩ = some (.int .i64 v.y.hi) := hJ5.cell 3 rfl 4 rfl
 have f5 : W5.cell? ⟨b1, 5, none⟩ = some (.bool v.y.all) := hJ5.cell 3 rfl 5 rfl
 have f6 : W5.cell? ⟨b1, 6, none⟩ = some (.int .i64 v.z.lo) := hJ5.cell 3 rfl 6 rfl
 have f7 : W5.cell? ⟨b1, 7, none⟩ = some (.int .i64 v.z.hi) := hJ5.cell 3 rfl 7 rfl
 have f8 : W5.cell? ⟨b1, 8, none⟩ = some (.bool v.z.all) := hJ5.cell 3 rfl 8 rfl
 have f9 : W5.cell? ⟨b3, 0, none⟩ = some (.int .i64 x.x.lo) := hJ5.cell 1 rfl 0 rfl
 have f10 : W5.cell? ⟨b3, 1, none⟩ = some (.int .i64 x.x.hi) := hJ5.cell 1 rfl 1 rfl
 have f11 : W5.cell? ⟨b3, 2, none⟩ = some (.bool x.x.all) := hJ5.cell 1 rfl 2 rfl
 have f12 : W5.cell? ⟨b3, 3, none⟩ = some (.int .i64 x.y.lo) := hJ5.cell 1 rfl 3 rfl
 have f13 : W5.cell? ⟨b3, 4, none⟩ = some (.int .i64 x.y.hi) := hJ5.cell 1 rfl 4 rfl
 have f14 : W5.cell? ⟨b3, 5, none⟩ = some (.bool x.y.all) := hJ5.cell 1 rfl 5 rfl
 have f15 : W5.cell? ⟨b3, 6, none⟩ = some (.int .i64 x.z.lo) := hJ5.cell 1 rfl 6 rfl
 have f16 : W5.cell? ⟨b3, 7, none⟩ = some (.int .i64 x.z.hi) := hJ5.cell 1 rfl 7 rfl
 have f17 : W5.cell? ⟨b3, 8, none⟩ = some (.bool x.z.all) := hJ5.cell 1 rfl 8 rfl
 go_wp2_with fail
 refine (Hp.out _).mono ?_
 rintro e W6 ⟨rfl, hB⟩
 have hJ6 := hJ5.later hB
 clear hB
 clear f0 f1 f2 f3 f4 f5 f6 f7 f8 f9 f10 f11 f12 f13 f14 f15 f16 f17
 clear hJ5
 have f0 : W6.cell? ⟨b2, 0, none⟩ = some (.int .i64 u.x.lo) := hJ6.cell 2 rfl 0 rfl
 have f1 : W6.cell? ⟨b2, 1, none⟩ = some (.int .i64 u.x.hi) := hJ6.cell 2 rfl 1 rfl
 have f2 : W6.cell? ⟨b2, 2, none⟩ = some (.bool u.x.all) := hJ6.cell 2 rfl 2 rfl
 have f3 : W6.cell? ⟨b2, 3, none⟩ = some (.int .i64 u.y.lo) := hJ6.cell 2 rfl 3 rfl
 have f4 : W6.cell? ⟨b2, 4, none⟩ = some (.int .i64 u.y.hi) := hJ6.cell 2 rfl 4 rfl
 have f5 : W6.cell? ⟨b2, 5, none⟩ = some (.bool u.y.all) := hJ6.cell 2 rfl 5 rfl
 have f6 : W6.cell? ⟨b2, 6, none⟩ = some (.int .i64 u.z.lo) := hJ6.cell 2 rfl 6 rfl
 have f7 : W6.cell? ⟨b2, 7, none⟩ = some (.int .i64 u.z.hi) := hJ6.cell 2 rfl 7 rfl
 have f8 : W6.cell? ⟨b2, 8, none⟩ = some (.bool u.z.all) := hJ6.cell 2 rfl 8 rfl
 have f9 : W6.cell? ⟨b4, 0, none⟩ = some (.int .i64 y.x.lo) := hJ6.cell 0 rfl 0 rfl
 have f10 : W6.cell? ⟨b4, 1, none⟩ = some (.int .i64 y.x.hi) := hJ6.cell 0 rfl 1 rfl
 have f11 : W6.cell? ⟨b4, 2, none⟩ = some (.bool y.x.all) := hJ6.cell 0 rfl 2 rfl
 have f12 : W6.cell? ⟨b4, 3, none⟩ = some (.int .i64 y.y.lo) := hJ6.cell 0 rfl 3 rfl
 have f13 : W6.cell? ⟨b4, 4, none⟩ = some (.int .i64 y.y.hi) := hJ6.cell 0 rfl 4 rfl
 have f14 : W6.cell? ⟨b4, 5, none⟩ = some (.bool y.y.all) := hJ6.cell 0 rfl 5 rfl
 have f15 : W6.cell? ⟨b4, 6, none⟩ = some (.int .i64 y.z.lo) := hJ6.cell 0 rfl 6 rfl
 have f16 : W6.cell? ⟨b4, 7, none⟩ = some (.int .i64 y.z.hi) := hJ6.cell 0 rfl 7 rfl
 have f17 : W6.cell? ⟨b4, 8, none⟩ = some (.bool y.z.all) := hJ6.cell 0 rfl 8 rfl
 go_wp2_with fail
 refine (Hq.out _).mono ?_
 rintro e W7 ⟨rfl, hB⟩
 have hJ7 := hJ6.later hB
 clear hB
 clear f0 f1 f2 f3 f4 f5 f6 f7 f8 f9 f10 f11 f12 f13 f14 f15 f16 f17
 clear hJ6
 go_wp2
 go_ret
 exact ⟨rfl, hJ7.below⟩
set_option maxRecDepth 100000 in
set_option maxHeartbeats 12800000 in
theorem Narrow_tf (v u x y : Vc) (hHaw : ∀ W : World, Calls Try.prog 40 #[] W (PVal (.bool true) W)) (hHp : ∀ W : World, Calls Try.prog 55 #[.agg #[.int .i64 v.x.lo, .int .i64 v.x.hi, .bool v.x.all, .int .i64 v.y.lo, .int .i64 v.y.hi, .bool v.y.all, .int .i64 v.z.lo, .int .i64 v.z.hi, .bool v.z.all], .agg #[.int .i64 x.x.lo, .int .i64 x.x.hi, .bool x.x.all, .int .i64 x.y.lo, .int .i64 x.y.hi, .bool x.y.all, .int .i64 x.z.lo, .int .i64 x.z.hi, .bool x.z.all]] W (PVal (.bool true) W)) (hHq : ∀ W : World, Calls Try.prog 55 #[.agg #[.int .i64 u.x.lo, .int .i64 u.x.hi, .bool u.x.all, .int .i64 u.y.lo, .int .i64 u.y.hi, .bool u.y.all, .int .i64 u.z.lo, .int .i64 u.z.hi, .bool u.z.all], .agg #[.int .i64 y.x.lo, .int .i64 y.x.hi, .bool y.x.all, .int .i64 y.y.lo, .int .i64 y.y.hi, .bool y.y.all, .int .i64 y.z.lo, .int .i64 y.z.hi, .bool y.z.all]] W (PVal (.bool false) W))  (w : World) : Calls Try.prog 11 #[.agg #[.int .i64 v.x.lo, .int .i64 v.x.hi, .bool v.x.all, .int .i64 v.y.lo, .int .i64 v.y.hi, .bool v.y.all, .int .i64 v.z.lo, .int .i64 v.z.hi, .bool v.z.all], .agg #[.int .i64 u.x.lo, .int .i64 u.x.hi, .bool u.x.all, .int .i64 u.y.lo, .int .i64 u.y.hi, .bool u.y.all, .int .i64 u.z.lo, .int .i64 u.z.hi, .bool u.z.all], .agg #[.int .i64 x.x.lo, .int .i64 x.x.hi, .bool x.x.all, .int .i64 x.y.lo, .int .i64 x.y.hi, .bool x.y.all, .int .i64 x.z.lo, .int .i64 x.z.hi, .bool x.z.all], .agg #[.int .i64 y.x.lo, .int .i64 y.x.hi, .bool y.x.all, .int .i64 y.y.lo, .int .i64 y.y.hi, .bool y.y.all, .int .i64 y.z.lo, .int .i64 y.z.hi, .bool y.z.all]] w (PVal (.bool true) w) := by
 have Haw := Lib.hid hHaw
 have Hp := Lib.hid hHp
 have Hq := Lib.hid hHq
 clear hHaw hHp hHq
 have hJ0 := es_nil w
 go_enter Try.func11, Try.ntmps11
 go_wp2_with (refine stop_box 34 (.tmp 0) #[.int .i64 v.x.lo, .int .i64 v.x.hi, .bool v.x.all, .int .i64 v.y.lo, .int .i64 v.y.hi, .bool v.y.all, .int .i64 v.z.lo, .int .i64 v.z.hi, .bool v.z.all] rfl rfl rfl hJ0 (fun b1 W1 hJ1 => ?_))
 clear hJ0
 unfold Stop
 try simp only [Act.put, List.setIfInBounds_toArray, List.set_cons_succ, List.set_cons_zero]
 go_wp2_with (refine stop_box 34 (.tmp 1) #[.int .i64 u.x.lo, .int .i64 u.x.hi, .bool u.x.all, .int .i64 u.y.lo, .int .i64 u.y.hi, .bool u.y.all, .int .i64 u.z.lo, .int .i64 u.z.hi, .bool u.z.all] rfl rfl rfl hJ1 (fun b2 W2 hJ2 => ?_))
 clear hJ1
 unfold Stop
 try simp only [Act.put, List.setIfInBounds_toArray, List.set_cons_succ, List.set_cons_zero]
 go_wp2_with (refine stop_box 34 (.tmp 2) #[.int .i64 x.x.lo, .int .i64 x.x.hi, .bool x.x.all, .int .i64 x.y.lo, .int .i64 x.y.hi, .bool x.y.all, .int .i64 x.z.lo, .int .i64 x.z.hi, .bool x.z.all] rfl rfl rfl hJ2 (fun b3 W3 hJ3 => ?_))
 clear hJ2
 unfold Stop
 try simp only [Act.put, List.setIfInBounds_toArray, List.set_cons_succ, List.set_cons_zero]
 go_wp2_with (refine stop_box 34 (.tmp 3) #[.int .i64 y.x.lo, .int .i64 y.x.hi, .bool y.x.all, .int .i64 y.y.lo, .int .i64 y.y.hi, .bool y.y.all, .int .i64 y.z.lo, .int .i64 y.z.hi, .bool y.z.all] rfl rfl rfl hJ3 (fun b4 W4 hJ4 => ?_))
 clear hJ3
 unfold Stop
 try simp only [Act.put, List.setIfInBounds_toArray, List.set_cons_succ, List.set_cons_zero]
 go_wp2_with fail
 refine (Haw.out _).mono ?_
 rintro e W5 ⟨rfl, hB⟩
 have hJ5 := hJ4.later hB
 clear hB
 clear hJ4
 have f0 : W5.cell? ⟨b1, 0, none⟩ = some (.int .i64 v.x.lo) := hJ5.cell 3 rfl 0 rfl
 have f1 : W5.cell? ⟨b1, 1, none⟩ = some (.int .i64 v.x.hi) := hJ5.cell 3 rfl 1 rfl
 have f2 : W5.cell? ⟨b1, 2, none⟩ = some (.bool v.x.all) := hJ5.cell 3 rfl 2 rfl
 have f3 : W5.cell? ⟨b1, 3, none⟩ = some (.int .i64 v.y.lo) := hJ5.cell 3 rfl 3 rfl
 have f4 : W5.cell? ⟨b1, 4, none⟩ = some (.int .i64 v.y.hi) := hJ5.cell 3 rfl 4 rfl
 have f5 : W5.cell? ⟨b1, 5, none⟩ = some (.bool v.y.all) := hJ5.cell 3 rfl 5 rfl
 have f6 : W5.cell? ⟨b1, 6, none⟩ = some (.int .i64 v.z.lo) := hJ5.cell 3 rfl 6 rfl
 have f7 : W5.cell? ⟨b1, 7, none⟩ = some (.int .i64 v.z.hi) := hJ5.cell 3 rfl 7 rfl
 have f8 : W5.cell? ⟨b1, 8, none⟩ = some (.bool v.z.all) := hJ5.cell 3 rfl 8 rfl
 have f9 : W5.cell? ⟨b3, 0, none⟩ = some (.int .i64 x.x.lo) := hJ5.cell 1 rfl 0 rfl
 have f10 : W5.cell? ⟨b3, 1, none⟩ = some (.int .i64 x.x.hi) := hJ5.cell 1 rfl 1 rfl
 have f11 : W5.cell? ⟨b3, 2, none⟩ = some (.bool x.x.all) := hJ5.cell 1 rfl 2 rfl
 have f12 : W5.cell? ⟨b3, 3, none⟩ = some (.int .i64 x.y.lo) := hJ5.cell 1 rfl 3 rfl
 have f13 : W5.cell? ⟨b3, 4, none⟩ = some (.int .i64 x.y.hi) := hJ5.cell 1 rfl 4 rfl
 have f14 : W5.cell? ⟨b3, 5, none⟩ = some (.bool x.y.all) := hJ5.cell 1 rfl 5 rfl
 have f15 : W5.cell? ⟨b3, 6, none⟩ = some (.int .i64 x.z.lo) := hJ5.cell 1 rfl 6 rfl
 have f16 : W5.cell? ⟨b3, 7, none⟩ = some (.int .i64 x.z.hi) := hJ5.cell 1 rfl 7 rfl
 have f17 : W5.cell? ⟨b3, 8, none⟩ = some (.bool x.z.all) := hJ5.cell 1 rfl 8 rfl
 go_wp2_with fail
 refine (Hp.out _).mono ?_
 rintro e W6 ⟨rfl, hB⟩
 have hJ6 := hJ5.later hB
 clear hB
 clear f0 f1 f2 f3 f4 f5 f6 f7 f8 f9 f10 f11 f12 f13 f14 f15 f16 f17
 clear hJ5
 have f0 : W6.cell? ⟨b2, 0, none⟩ = some (.int .i64 u.x.lo) := hJ6.cell 2 rfl 0 rfl
 have f1 : W6.cell? ⟨b2, 1, none⟩ = some (.int .i64 u.x.hi) := hJ6.cell 2 rfl 1 rfl
 have f2 : W6.cell? ⟨b2, 2, none⟩ = some (.bool u.x.all) := hJ6.cell 2 rfl 2 rfl
 have f3 : W6.cell? ⟨b2, 3, none⟩ = some (.int .i64 u.y.lo) := hJ6.cell 2 rfl 3 rfl
 have f4 : W6.cell? ⟨b2, 4, none⟩ = some (.int .i64 u.y.hi) := hJ6.cell 2 rfl 4 rfl
 have f5 : W6.cell? ⟨b2, 5, none⟩ = some (.bool u.y.all) := hJ6.cell 2 rfl 5 rfl
 have f6 : W6.cell? ⟨b2, 6, none⟩ = some (.int .i64 u.z.lo) := hJ6.cell 2 rfl 6 rfl
 have f7 : W6.cell? ⟨b2, 7, none⟩ = some (.int .i64 u.z.hi) := hJ6.cell 2 rfl 7 rfl
 have f8 : W6.cell? ⟨b2, 8, none⟩ = some (.bool u.z.all) := hJ6.cell 2 rfl 8 rfl
 have f9 : W6.cell? ⟨b4, 0, none⟩ = some (.int .i64 y.x.lo) := hJ6.cell 0 rfl 0 rfl
 have f10 : W6.cell? ⟨b4, 1, none⟩ = some (.int .i64 y.x.hi) := hJ6.cell 0 rfl 1 rfl
 have f11 : W6.cell? ⟨b4, 2, none⟩ = some (.bool y.x.all) := hJ6.cell 0 rfl 2 rfl
 have f12 : W6.cell? ⟨b4, 3, none⟩ = some (.int .i64 y.y.lo) := hJ6.cell 0 rfl 3 rfl
 have f13 : W6.cell? ⟨b4, 4, none⟩ = some (.int .i64 y.y.hi) := hJ6.cell 0 rfl 4 rfl
 have f14 : W6.cell? ⟨b4, 5, none⟩ = some (.bool y.y.all) := hJ6.cell 0 rfl 5 rfl
 have f15 : W6.cell? ⟨b4, 6, none⟩ = some (.int .i64 y.z.lo) := hJ6.cell 0 rfl 6 rfl
 have f16 : W6.cell? ⟨b4, 7, none⟩ = some (.int .i64 y.z.hi) := hJ6.cell 0 rfl 7 rfl
 have f17 : W6.cell? ⟨b4, 8, none⟩ = some (.bool y.z.all) := hJ6.cell 0 rfl 8 rfl
 go_wp2_with fail
 refine (Hq.out _).mono ?_
 rintro e W7 ⟨rfl, hB⟩
 have hJ7 := hJ6.later hB
 clear hB
 clear f0 f1 f2 f3 f4 f5 f6 f7 f8 f9 f10 f11 f12 f13 f14 f15 f16 f17
 clear hJ6
 go_wp2
 go_ret
 exact ⟨rfl, hJ7.below⟩
set_option maxRecDepth 100000 in
set_option maxHeartbeats 12800000 in
theorem Narrow_tt (v u x y pX qX pA qA pS qS : Vc) (pD qD pN qN : Sp) (hHaw : ∀ W : World, Calls Try.prog 40 #[] W (PVal (.bool true) W)) (hHp : ∀ W : World, Calls Try.prog 55 #[.agg #[.int .i64 v.x.lo, .int .i64 v.x.hi, .bool v.x.all, .int .i64 v.y.lo, .int .i64 v.y.hi, .bool v.y.all, .int .i64 v.z.lo, .int .i64 v.z.hi, .bool v.z.all], .agg #[.int .i64 x.x.lo, .int .i64 x.x.hi, .bool x.x.all, .int .i64 x.y.lo, .int .i64 x.y.hi, .bool x.y.all, .int .i64 x.z.lo, .int .i64 x.z.hi, .bool x.z.all]] W (PVal (.bool true) W)) (hHq : ∀ W : World, Calls Try.prog 55 #[.agg #[.int .i64 u.x.lo, .int .i64 u.x.hi, .bool u.x.all, .int .i64 u.y.lo, .int .i64 u.y.hi, .bool u.y.all, .int .i64 u.z.lo, .int .i64 u.z.hi, .bool u.z.all], .agg #[.int .i64 y.x.lo, .int .i64 y.x.hi, .bool y.x.all, .int .i64 y.y.lo, .int .i64 y.y.hi, .bool y.y.all, .int .i64 y.z.lo, .int .i64 y.z.hi, .bool y.z.all]] W (PVal (.bool true) W)) (hHD1 : ∀ W : World, Calls Try.prog 46 #[.agg #[.int .i64 v.x.lo, .int .i64 v.x.hi, .bool v.x.all, .int .i64 v.y.lo, .int .i64 v.y.hi, .bool v.y.all, .int .i64 v.z.lo, .int .i64 v.z.hi, .bool v.z.all], .agg #[.int .i64 u.x.lo, .int .i64 u.x.hi, .bool u.x.all, .int .i64 u.y.lo, .int .i64 u.y.hi, .bool u.y.all, .int .i64 u.z.lo, .int .i64 u.z.hi, .bool u.z.all]] W (PVal (.agg #[.int .i64 pD.lo, .int .i64 pD.hi, .bool pD.all]) W)) (hHD2 : ∀ W : World, Calls Try.prog 46 #[.agg #[.int .i64 x.x.lo, .int .i64 x.x.hi, .bool x.x.all, .int .i64 x.y.lo, .int .i64 x.y.hi, .bool x.y.all, .int .i64 x.z.lo, .int .i64 x.z.hi, .bool x.z.all], .agg #[.int .i64 y.x.lo, .int .i64 y.x.hi, .bool y.x.all, .int .i64 y.y.lo, .int .i64 y.y.hi, .bool y.y.all, .int .i64 y.z.lo, .int .i64 y.z.hi, .bool y.z.all]] W (PVal (.agg #[.int .i64 qD.lo, .int .i64 qD.hi, .bool qD.all]) W)) (hHDi : ∀ W : World, Calls Try.prog 66 #[.agg #[.int .i64 pD.lo, .int .i64 pD.hi, .bool pD.all], .agg #[.int .i64 qD.lo, .int .i64 qD.hi, .bool qD.all]] W (PVal (.bool true) W)) (hHX1 : ∀ W : World, Calls Try.prog 47 #[.agg #[.int .i64 v.x.lo, .int .i64 v.x.hi, .bool v.x.all, .int .i64 v.y.lo, .int .i64 v.y.hi, .bool v.y.all, .int .i64 v.z.lo, .int .i64 v.z.hi, .bool v.z.all], .agg #[.int .i64 u.x.lo, .int .i64 u.x.hi, .bool u.x.all, .int .i64 u.y.lo, .int .i64 u.y.hi, .bool u.y.all, .int .i64 u.z.lo, .int .i64 u.z.hi, .bool u.z.all]] W (PVal (.agg #[.int .i64 pX.x.lo, .int .i64 pX.x.hi, .bool pX.x.all, .int .i64 pX.y.lo, .int .i64 pX.y.hi, .bool pX.y.all, .int .i64 pX.z.lo, .int .i64 pX.z.hi, .bool pX.z.all]) W)) (hHX2 : ∀ W : World, Calls Try.prog 47 #[.agg #[.int .i64 x.x.lo, .int .i64 x.x.hi, .bool x.x.all, .int .i64 x.y.lo, .int .i64 x.y.hi, .bool x.y.all, .int .i64 x.z.lo, .int .i64 x.z.hi, .bool x.z.all], .agg #[.int .i64 y.x.lo, .int .i64 y.x.hi, .bool y.x.all, .int .i64 y.y.lo, .int .i64 y.y.hi, .bool y.y.all, .int .i64 y.z.lo, .int .i64 y.z.hi, .bool y.z.all]] W (PVal (.agg #[.int .i64 qX.x.lo, .int .i64 qX.x.hi, .bool qX.x.all, .int .i64 qX.y.lo, .int .i64 qX.y.hi, .bool qX.y.all, .int .i64 qX.z.lo, .int .i64 qX.z.hi, .bool qX.z.all]) W)) (hHXi : ∀ W : World, Calls Try.prog 55 #[.agg #[.int .i64 pX.x.lo, .int .i64 pX.x.hi, .bool pX.x.all, .int .i64 pX.y.lo, .int .i64 pX.y.hi, .bool pX.y.all, .int .i64 pX.z.lo, .int .i64 pX.z.hi, .bool pX.z.all], .agg #[.int .i64 qX.x.lo, .int .i64 qX.x.hi, .bool qX.x.all, .int .i64 qX.y.lo, .int .i64 qX.y.hi, .bool qX.y.all, .int .i64 qX.z.lo, .int .i64 qX.z.hi, .bool qX.z.all]] W (PVal (.bool true) W)) (hHA1 : ∀ W : World, Calls Try.prog 42 #[.agg #[.int .i64 v.x.lo, .int .i64 v.x.hi, .bool v.x.all, .int .i64 v.y.lo, .int .i64 v.y.hi, .bool v.y.all, .int .i64 v.z.lo, .int .i64 v.z.hi, .bool v.z.all], .agg #[.int .i64 u.x.lo, .int .i64 u.x.hi, .bool u.x.all, .int .i64 u.y.lo, .int .i64 u.y.hi, .bool u.y.all, .int .i64 u.z.lo, .int .i64 u.z.hi, .bool u.z.all]] W (PVal (.agg #[.int .i64 pA.x.lo, .int .i64 pA.x.hi, .bool pA.x.all, .int .i64 pA.y.lo, .int .i64 pA.y.hi, .bool pA.y.all, .int .i64 pA.z.lo, .int .i64 pA.z.hi, .bool pA.z.all]) W)) (hHA2 : ∀ W : World, Calls Try.prog 42 #[.agg #[.int .i64 x.x.lo, .int .i64 x.x.hi, .bool x.x.all, .int .i64 x.y.lo, .int .i64 x.y.hi, .bool x.y.all, .int .i64 x.z.lo, .int .i64 x.z.hi, .bool x.z.all], .agg #[.int .i64 y.x.lo, .int .i64 y.x.hi, .bool y.x.all, .int .i64 y.y.lo, .int .i64 y.y.hi, .bool y.y.all, .int .i64 y.z.lo, .int .i64 y.z.hi, .bool y.z.all]] W (PVal (.agg #[.int .i64 qA.x.lo, .int .i64 qA.x.hi, .bool qA.x.all, .int .i64 qA.y.lo, .int .i64 qA.y.hi, .bool qA.y.all, .int .i64 qA.z.lo, .int .i64 qA.z.hi, .bool qA.z.all]) W)) (hHAi : ∀ W : World, Calls Try.prog 55 #[.agg #[.int .i64 pA.x.lo, .int .i64 pA.x.hi, .bool pA.x.all, .int .i64 pA.y.lo, .int .i64 pA.y.hi, .bool pA.y.all, .int .i64 pA.z.lo, .int .i64 pA.z.hi, .bool pA.z.all], .agg #[.int .i64 qA.x.lo, .int .i64 qA.x.hi, .bool qA.x.all, .int .i64 qA.y.lo, .int .i64 qA.y.hi, .bool qA.y.all, .int .i64 qA.z.lo, .int .i64 qA.z.hi, .bool qA.z.all]] W (PVal (.bool true) W)) (hHS1 : ∀ W : World, Calls Try.prog 43 #[.agg #[.int .i64 v.x.lo, .int .i64 v.x.hi, .bool v.x.all, .int .i64 v.y.lo, .int .i64 v.y.hi, .bool v.y.all, .int .i64 v.z.lo, .int .i64 v.z.hi, .bool v.z.all], .agg #[.int .i64 u.x.lo, .int .i64 u.x.hi, .bool u.x.all, .int .i64 u.y.lo, .int .i64 u.y.hi, .bool u.y.all, .int .i64 u.z.lo, .int .i64 u.z.hi, .bool u.z.all]] W (PVal (.agg #[.int .i64 pS.x.lo, .int .i64 pS.x.hi, .bool pS.x.all, .int .i64 pS.y.lo, .int .i64 pS.y.hi, .bool pS.y.all, .int .i64 pS.z.lo, .int .i64 pS.z.hi, .bool pS.z.all]) W)) (hHS2 : ∀ W : World, Calls Try.prog 43 #[.agg #[.int .i64 x.x.lo, .int .i64 x.x.hi, .bool x.x.all, .int .i64 x.y.lo, .int .i64 x.y.hi, .bool x.y.all, .int .i64 x.z.lo, .int .i64 x.z.hi, .bool x.z.all], .agg #[.int .i64 y.x.lo, .int .i64 y.x.hi, .bool y.x.all, .int .i64 y.y.lo, .int .i64 y.y.hi, .bool y.y.all, .int .i64 y.z.lo, .int .i64 y.z.hi, .bool y.z.all]] W (PVal (.agg #[.int .i64 qS.x.lo, .int .i64 qS.x.hi, .bool qS.x.all, .int .i64 qS.y.lo, .int .i64 qS.y.hi, .bool qS.y.all, .int .i64 qS.z.lo, .int .i64 qS.z.hi, .bool qS.z.all]) W)) (hHSi : ∀ W : World, Calls Try.prog 55 #[.agg #[.int .i64 pS.x.lo, .int .i64 pS.x.hi, .bool pS.x.all, .int .i64 pS.y.lo, .int .i64 pS.y.hi, .bool pS.y.all, .int .i64 pS.z.lo, .int .i64 pS.z.hi, .bool pS.z.all], .agg #[.int .i64 qS.x.lo, .int .i64 qS.x.hi, .bool qS.x.all, .int .i64 qS.y.lo, .int .i64 qS.y.hi, .bool qS.y.all, .int .i64 qS.z.lo, .int .i64 qS.z.hi, .bool qS.z.all]] W (PVal (.bool true) W)) (hHN1 : ∀ W : World, Calls Try.prog 48 #[.agg #[.int .i64 v.x.lo, .int .i64 v.x.hi, .bool v.x.all, .int .i64 v.y.lo, .int .i64 v.y.hi, .bool v.y.all, .int .i64 v.z.lo, .int .i64 v.z.hi, .bool v.z.all]] W (PVal (.agg #[.int .i64 pN.lo, .int .i64 pN.hi, .bool pN.all]) W)) (hHN2 : ∀ W : World, Calls Try.prog 48 #[.agg #[.int .i64 x.x.lo, .int .i64 x.x.hi, .bool x.x.all, .int .i64 x.y.lo, .int .i64 x.y.hi, .bool x.y.all, .int .i64 x.z.lo, .int .i64 x.z.hi, .bool x.z.all]] W (PVal (.agg #[.int .i64 qN.lo, .int .i64 qN.hi, .bool qN.all]) W)) (hHNi : ∀ W : World, Calls Try.prog 66 #[.agg #[.int .i64 pN.lo, .int .i64 pN.hi, .bool pN.all], .agg #[.int .i64 qN.lo, .int .i64 qN.hi, .bool qN.all]] W (PVal (.bool true) W))  (w : World) : Calls Try.prog 11 #[.agg #[.int .i64 v.x.lo, .int .i64 v.x.hi, .bool v.x.all, .int .i64 v.y.lo, .int .i64 v.y.hi, .bool v.y.all, .int .i64 v.z.lo, .int .i64 v.z.hi, .bool v.z.all], .agg #[.int .i64 u.x.lo, .int .i64 u.x.hi, .bool u.x.all, .int .i64 u.y.lo, .int .i64 u.y.hi, .bool u.y.all, .int .i64 u.z.lo, .int .i64 u.z.hi, .bool u.z.all], .agg #[.int .i64 x.x.lo, .int .i64 x.x.hi, .bool x.x.all, .int .i64 x.y.lo, .int .i64 x.y.hi, .bool x.y.all, .int .i64 x.z.lo, .int .i64 x.z.hi, .bool x.z.all], .agg #[.int .i64 y.x.lo, .int .i64 y.x.hi, .bool y.x.all, .int .i64 y.y.lo, .int .i64 y.y.hi, .bool y.y.all, .int .i64 y.z.lo, .int .i64 y.z.hi, .bool y.z.all]] w (PVal (.bool true) w) := by
 have Haw := Lib.hid hHaw
 have Hp := Lib.hid hHp
 have Hq := Lib.hid hHq
 have HD1 := Lib.hid hHD1
 have HD2 := Lib.hid hHD2
 have HDi := Lib.hid hHDi
 have HX1 := Lib.hid hHX1
 have HX2 := Lib.hid hHX2
 have HXi := Lib.hid hHXi
 have HA1 := Lib.hid hHA1
 have HA2 := Lib.hid hHA2
 have HAi := Lib.hid hHAi
 have HS1 := Lib.hid hHS1
 have HS2 := Lib.hid hHS2
 have HSi := Lib.hid hHSi
 have HN1 := Lib.hid hHN1
 have HN2 := Lib.hid hHN2
 have HNi := Lib.hid hHNi
 clear hHaw hHp hHq hHD1 hHD2 hHDi hHX1 hHX2 hHXi hHA1 hHA2 hHAi hHS1 hHS2 hHSi hHN1 hHN2 hHNi
 have hJ0 := es_nil w
 go_enter Try.func11, Try.ntmps11
 go_wp2_with (refine stop_box 34 (.tmp 0) #[.int .i64 v.x.lo, .int .i64 v.x.hi, .bool v.x.all, .int .i64 v.y.lo, .int .i64 v.y.hi, .bool v.y.all, .int .i64 v.z.lo, .int .i64 v.z.hi, .bool v.z.all] rfl rfl rfl hJ0 (fun b1 W1 hJ1 => ?_))
 clear hJ0
 unfold Stop
 try simp only [Act.put, List.setIfInBounds_toArray, List.set_cons_succ, List.set_cons_zero]
 go_wp2_with (refine stop_box 34 (.tmp 1) #[.int .i64 u.x.lo, .int .i64 u.x.hi, .bool u.x.all, .int .i64 u.y.lo, .int .i64 u.y.hi, .bool u.y.all, .int .i64 u.z.lo, .int .i64 u.z.hi, .bool u.z.all] rfl rfl rfl hJ1 (fun b2 W2 hJ2 => ?_))
 clear hJ1
 unfold Stop
 try simp only [Act.put, List.setIfInBounds_toArray, List.set_cons_succ, List.set_cons_zero]
 go_wp2_with (refine stop_box 34 (.tmp 2) #[.int .i64 x.x.lo, .int .i64 x.x.hi, .bool x.x.all, .int .i64 x.y.lo, .int .i64 x.y.hi, .bool x.y.all, .int .i64 x.z.lo, .int .i64 x.z.hi, .bool x.z.all] rfl rfl rfl hJ2 (fun b3 W3 hJ3 => ?_))
 clear hJ2
 unfold Stop
 try simp only [Act.put, List.setIfInBounds_toArray, List.set_cons_succ, List.set_cons_zero]
 go_wp2_with (refine stop_box 34 (.tmp 3) #[.int .i64 y.x.lo, .int .i64 y.x.hi, .bool y.x.all, .int .i64 y.y.lo, .int .i64 y.y.hi, .bool y.y.all, .int .i64 y.z.lo, .int .i64 y.z.hi, .bool y.z.all] rfl rfl rfl hJ3 (fun b4 W4 hJ4 => ?_))
 clear hJ3
 unfold Stop
 try simp only [Act.put, List.setIfInBounds_toArray, List.set_cons_succ, List.set_cons_zero]
 go_wp2_with fail
 refine (Haw.out _).mono ?_
 rintro e W5 ⟨rfl, hB⟩
 have hJ5 := hJ4.later hB
 clear hB
 clear hJ4
 have f0 : W5.cell? ⟨b1, 0, none⟩ = some (.int .i64 v.x.lo) := hJ5.cell 3 rfl 0 rfl
 have f1 : W5.cell? ⟨b1, 1, none⟩ = some (.int .i64 v.x.hi) := hJ5.cell 3 rfl 1 rfl
 have f2 : W5.cell? ⟨b1, 2, none⟩ = some (.bool v.x.all) := hJ5.cell 3 rfl 2 rfl
 have f3 : W5.cell? ⟨b1, 3, none⟩ = some (.int .i64 v.y.lo) := hJ5.cell 3 rfl 3 rfl
 have f4 : W5.cell? ⟨b1, 4, none⟩ = some (.int .i64 v.y.hi) := hJ5.cell 3 rfl 4 rfl
 have f5 : W5.cell? ⟨b1, 5, none⟩ = some (.bool v.y.all) := hJ5.cell 3 rfl 5 rfl
 have f6 : W5.cell? ⟨b1, 6, none⟩ = some (.int .i64 v.z.lo) := hJ5.cell 3 rfl 6 rfl
 have f7 : W5.cell? ⟨b1, 7, none⟩ = some (.int .i64 v.z.hi) := hJ5.cell 3 rfl 7 rfl
 have f8 : W5.cell? ⟨b1, 8, none⟩ = some (.bool v.z.all) := hJ5.cell 3 rfl 8 rfl
 have f9 : W5.cell? ⟨b3, 0, none⟩ = some (.int .i64 x.x.lo) := hJ5.cell 1 rfl 0 rfl
 have f10 : W5.cell? ⟨b3, 1, none⟩ = some (.int .i64 x.x.hi) := hJ5.cell 1 rfl 1 rfl
 have f11 : W5.cell? ⟨b3, 2, none⟩ = some (.bool x.x.all) := hJ5.cell 1 rfl 2 rfl
 have f12 : W5.cell? ⟨b3, 3, none⟩ = some (.int .i64 x.y.lo) := hJ5.cell 1 rfl 3 rfl
 have f13 : W5.cell? ⟨b3, 4, none⟩ = some (.int .i64 x.y.hi) := hJ5.cell 1 rfl 4 rfl
 have f14 : W5.cell? ⟨b3, 5, none⟩ = some (.bool x.y.all) := hJ5.cell 1 rfl 5 rfl
 have f15 : W5.cell? ⟨b3, 6, none⟩ = some (.int .i64 x.z.lo) := hJ5.cell 1 rfl 6 rfl
 have f16 : W5.cell? ⟨b3, 7, none⟩ = some (.int .i64 x.z.hi) := hJ5.cell 1 rfl 7 rfl
 have f17 : W5.cell? ⟨b3, 8, none⟩ = some (.bool x.z.all) := hJ5.cell 1 rfl 8 rfl
 go_wp2_with fail
 refine (Hp.out _).mono ?_
 rintro e W6 ⟨rfl, hB⟩
 have hJ6 := hJ5.later hB
 clear hB
 clear f0 f1 f2 f3 f4 f5 f6 f7 f8 f9 f10 f11 f12 f13 f14 f15 f16 f17
 clear hJ5
 have f0 : W6.cell? ⟨b2, 0, none⟩ = some (.int .i64 u.x.lo) := hJ6.cell 2 rfl 0 rfl
 have f1 : W6.cell? ⟨b2, 1, none⟩ = some (.int .i64 u.x.hi) := hJ6.cell 2 rfl 1 rfl
 have f2 : W6.cell? ⟨b2, 2, none⟩ = some (.bool u.x.all) := hJ6.cell 2 rfl 2 rfl
 have f3 : W6.cell? ⟨b2, 3, none⟩ = some (.int .i64 u.y.lo) := hJ6.cell 2 rfl 3 rfl
 have f4 : W6.cell? ⟨b2, 4, none⟩ = some (.int .i64 u.y.hi) := hJ6.cell 2 rfl 4 rfl
 have f5 : W6.cell? ⟨b2, 5, none⟩ = some (.bool u.y.all) := hJ6.cell 2 rfl 5 rfl
 have f6 : W6.cell? ⟨b2, 6, none⟩ = some (.int .i64 u.z.lo) := hJ6.cell 2 rfl 6 rfl
 have f7 : W6.cell? ⟨b2, 7, none⟩ = some (.int .i64 u.z.hi) := hJ6.cell 2 rfl 7 rfl
 have f8 : W6.cell? ⟨b2, 8, none⟩ = some (.bool u.z.all) := hJ6.cell 2 rfl 8 rfl
 have f9 : W6.cell? ⟨b4, 0, none⟩ = some (.int .i64 y.x.lo) := hJ6.cell 0 rfl 0 rfl
 have f10 : W6.cell? ⟨b4, 1, none⟩ = some (.int .i64 y.x.hi) := hJ6.cell 0 rfl 1 rfl
 have f11 : W6.cell? ⟨b4, 2, none⟩ = some (.bool y.x.all) := hJ6.cell 0 rfl 2 rfl
 have f12 : W6.cell? ⟨b4, 3, none⟩ = some (.int .i64 y.y.lo) := hJ6.cell 0 rfl 3 rfl
 have f13 : W6.cell? ⟨b4, 4, none⟩ = some (.int .i64 y.y.hi) := hJ6.cell 0 rfl 4 rfl
 have f14 : W6.cell? ⟨b4, 5, none⟩ = some (.bool y.y.all) := hJ6.cell 0 rfl 5 rfl
 have f15 : W6.cell? ⟨b4, 6, none⟩ = some (.int .i64 y.z.lo) := hJ6.cell 0 rfl 6 rfl
 have f16 : W6.cell? ⟨b4, 7, none⟩ = some (.int .i64 y.z.hi) := hJ6.cell 0 rfl 7 rfl
 have f17 : W6.cell? ⟨b4, 8, none⟩ = some (.bool y.z.all) := hJ6.cell 0 rfl 8 rfl
 go_wp2_with fail
 refine (Hq.out _).mono ?_
 rintro e W7 ⟨rfl, hB⟩
 have hJ7 := hJ6.later hB
 clear hB
 clear f0 f1 f2 f3 f4 f5 f6 f7 f8 f9 f10 f11 f12 f13 f14 f15 f16 f17
 clear hJ6
 go_wp2
 obtain ⟨m6_7, hm⟩ : ∃ m, m = W7.heap.size := ⟨_, rfl⟩
 have hM := hJ7.em
 rw [← hm] at hM
 clear hm hJ7
 refine wp_region_z 8 [some 31, some 32, some 33, some 34, some 35, some 36, some 37, some 12] (veL m6_7 [.eq (.agg #[.int .i64 v.x.lo, .int .i64 v.x.hi, .bool v.x.all, .int .i64 v.y.lo, .int .i64 v.y.hi, .bool v.y.all, .int .i64 v.z.lo, .int .i64 v.z.hi, .bool v.z.all]), .eq (.agg #[.int .i64 u.x.lo, .int .i64 u.x.hi, .bool u.x.all, .int .i64 u.y.lo, .int .i64 u.y.hi, .bool u.y.all, .int .i64 u.z.lo, .int .i64 u.z.hi, .bool u.z.all]), .eq (.agg #[.int .i64 pD.lo, .int .i64 pD.hi, .bool pD.all]), .eq (.agg #[.int .i64 x.x.lo, .int .i64 x.x.hi, .bool x.x.all, .int .i64 x.y.lo, .int .i64 x.y.hi, .bool x.y.all, .int .i64 x.z.lo, .int .i64 x.z.hi, .bool x.z.all]), .eq (.agg #[.int .i64 y.x.lo, .int .i64 y.x.hi, .bool y.x.all, .int .i64 y.y.lo, .int .i64 y.y.hi, .bool y.y.all, .int .i64 y.z.lo, .int .i64 y.z.hi, .bool y.z.all]), .eq (.agg #[.int .i64 qD.lo, .int .i64 qD.hi, .bool qD.all]), .eq (.bool true), .eq (.bool true)]) (Em w m6_7 [(b4, #[.int .i64 y.x.lo, .int .i64 y.x.hi, .bool y.x.all, .int .i64 y.y.lo, .int .i64 y.y.hi, .bool y.y.all, .int .i64 y.z.lo, .int .i64 y.z.hi, .bool y.z.all], 34), (b3, #[.int .i64 x.x.lo, .int .i64 x.x.hi, .bool x.x.all, .int .i64 x.y.lo, .int .i64 x.y.hi, .bool x.y.all, .int .i64 x.z.lo, .int .i64 x.z.hi, .bool x.z.all], 34), (b2, #[.int .i64 u.x.lo, .int .i64 u.x.hi, .bool u.x.all, .int .i64 u.y.lo, .int .i64 u.y.hi, .bool u.y.all, .int .i64 u.z.lo, .int .i64 u.z.hi, .bool u.z.all], 34), (b1, #[.int .i64 v.x.lo, .int .i64 v.x.hi, .bool v.x.all, .int .i64 v.y.lo, .int .i64 v.y.hi, .bool v.y.all, .int .i64 v.z.lo, .int .i64 v.z.hi, .bool v.z.all], 34)]) (by kernel_rfl) (by kernel_rfl) (by rfl) (by decide) (by rfl) hM ?_ ?_
 ·
  intro i hl hi uu ww aa hJ hd hev hin
  clear hM
  obtain rfl | rfl | rfl | rfl | rfl | rfl | rfl | rfl : i = 0 ∨ i = 1 ∨ i = 2 ∨ i = 3 ∨ i = 4 ∨ i = 5 ∨ i = 6 ∨ i = 7 := by omega
  ·
   have x4 : aa.tmps[4]? = some (.pointer (some ⟨b1, 0, none⟩)) := (hev 4 (by decide)).trans rfl
   clear hd hev hin
   simp only [List.getElem_cons_succ, List.getElem_cons_zero]
   clear hl
   refine .inr ⟨rfl, fun K' hK => ?_⟩
   have HK := Lib.hid hK
   clear hK
   have f0 : ww.cell? ⟨b1, 0, none⟩ = some (.int .i64 v.x.lo) := hJ.es.cell 3 rfl 0 rfl
   have f1 : ww.cell? ⟨b1, 1, none⟩ = some (.int .i64 v.x.hi) := hJ.es.cell 3 rfl 1 rfl
   have f2 : ww.cell? ⟨b1, 2, none⟩ = some (.bool v.x.all) := hJ.es.cell 3 rfl 2 rfl
   have f3 : ww.cell? ⟨b1, 3, none⟩ = some (.int .i64 v.y.lo) := hJ.es.cell 3 rfl 3 rfl
   have f4 : ww.cell? ⟨b1, 4, none⟩ = some (.int .i64 v.y.hi) := hJ.es.cell 3 rfl 4 rfl
   have f5 : ww.cell? ⟨b1, 5, none⟩ = some (.bool v.y.all) := hJ.es.cell 3 rfl 5 rfl
   have f6 : ww.cell? ⟨b1, 6, none⟩ = some (.int .i64 v.z.lo) := hJ.es.cell 3 rfl 6 rfl
   have f7 : ww.cell? ⟨b1, 7, none⟩ = some (.int .i64 v.z.hi) := hJ.es.cell 3 rfl 7 rfl
   have f8 : ww.cell? ⟨b1, 8, none⟩ = some (.bool v.z.all) := hJ.es.cell 3 rfl 8 rfl
   go_simp
   exact HK.out (.agg #[.int .i64 v.x.lo, .int .i64 v.x.hi, .bool v.x.all, .int .i64 v.y.lo, .int .i64 v.y.hi, .bool v.y.all, .int .i64 v.z.lo, .int .i64 v.z.hi, .bool v.z.all]) _ hJ rfl veL_same
  ·
   have x5 : aa.tmps[5]? = some (.pointer (some ⟨b2, 0, none⟩)) := (hev 5 (by decide)).trans rfl
   clear hd hev hin
   simp only [List.getElem_cons_succ, List.getElem_cons_zero]
   clear hl
   refine .inr ⟨rfl, fun K' hK => ?_⟩
   have HK := Lib.hid hK
   clear hK
   have f0 : ww.cell? ⟨b2, 0, none⟩ = some (.int .i64 u.x.lo) := hJ.es.cell 2 rfl 0 rfl
   have f1 : ww.cell? ⟨b2, 1, none⟩ = some (.int .i64 u.x.hi) := hJ.es.cell 2 rfl 1 rfl
   have f2 : ww.cell? ⟨b2, 2, none⟩ = some (.bool u.x.all) := hJ.es.cell 2 rfl 2 rfl
   have f3 : ww.cell? ⟨b2, 3, none⟩ = some (.int .i64 u.y.lo) := hJ.es.cell 2 rfl 3 rfl
   have f4 : ww.cell? ⟨b2, 4, none⟩ = some (.int .i64 u.y.hi) := hJ.es.cell 2 rfl 4 rfl
   have f5 : ww.cell? ⟨b2, 5, none⟩ = some (.bool u.y.all) := hJ.es.cell 2 rfl 5 rfl
   have f6 : ww.cell? ⟨b2, 6, none⟩ = some (.int .i64 u.z.lo) := hJ.es.cell 2 rfl 6 rfl
   have f7 : ww.cell? ⟨b2, 7, none⟩ = some (.int .i64 u.z.hi) := hJ.es.cell 2 rfl 7 rfl
   have f8 : ww.cell? ⟨b2, 8, none⟩ = some (.bool u.z.all) := hJ.es.cell 2 rfl 8 rfl
   go_simp
   exact HK.out (.agg #[.int .i64 u.x.lo, .int .i64 u.x.hi, .bool u.x.all, .int .i64 u.y.lo, .int .i64 u.y.hi, .bool u.y.all, .int .i64 u.z.lo, .int .i64 u.z.hi, .bool u.z.all]) _ hJ rfl veL_same
  ·
   have x31 : aa.tmps[31]? = some (.agg #[.int .i64 v.x.lo, .int .i64 v.x.hi, .bool v.x.all, .int .i64 v.y.lo, .int .i64 v.y.hi, .bool v.y.all, .int .i64 v.z.lo, .int .i64 v.z.hi, .bool v.z.all]) := (hin 0 31 rfl).trans (congrArg some (show uu 0 = .agg #[.int .i64 v.x.lo, .int .i64 v.x.hi, .bool v.x.all, .int .i64 v.y.lo, .int .i64 v.y.hi, .bool v.y.all, .int .i64 v.z.lo, .int .i64 v.z.hi, .bool v.z.all] from hd 0 (by decide) (by kernel_rfl)))
   have x32 : aa.tmps[32]? = some (.agg #[.int .i64 u.x.lo, .int .i64 u.x.hi, .bool u.x.all, .int .i64 u.y.lo, .int .i64 u.y.hi, .bool u.y.all, .int .i64 u.z.lo, .int .i64 u.z.hi, .bool u.z.all]) := (hin 1 32 rfl).trans (congrArg some (show uu 1 = .agg #[.int .i64 u.x.lo, .int .i64 u.x.hi, .bool u.x.all, .int .i64 u.y.lo, .int .i64 u.y.hi, .bool u.y.all, .int .i64 u.z.lo, .int .i64 u.z.hi, .bool u.z.all] from hd 1 (by decide) (by kernel_rfl)))
   clear hd hev hin
   simp only [List.getElem_cons_succ, List.getElem_cons_zero]
   clear hl
   refine .inr ⟨rfl, fun K' hK => ?_⟩
   have HK := Lib.hid hK
   clear hK
   go_simp
   refine (HD1.out ww).mono ?_
   rintro e W' ⟨rfl, hB⟩
   exact HK.out (.agg #[.int .i64 pD.lo, .int .i64 pD.hi, .bool pD.all]) _ (hJ.later hB) rfl (veL_later hB)
  ·
   have x6 : aa.tmps[6]? = some (.pointer (some ⟨b3, 0, none⟩)) := (hev 6 (by decide)).trans rfl
   clear hd hev hin
   simp only [List.getElem_cons_succ, List.getElem_cons_zero]
   clear hl
   refine .inr ⟨rfl, fun K' hK => ?_⟩
   have HK := Lib.hid hK
   clear hK
   have f0 : ww.cell? ⟨b3, 0, none⟩ = some (.int .i64 x.x.lo) := hJ.es.cell 1 rfl 0 rfl
   have f1 : ww.cell? ⟨b3, 1, none⟩ = some (.int .i64 x.x.hi) := hJ.es.cell 1 rfl 1 rfl
   have f2 : ww.cell? ⟨b3, 2, none⟩ = some (.bool x.x.all) := hJ.es.cell 1 rfl 2 rfl
   have f3 : ww.cell? ⟨b3, 3, none⟩ = some (.int .i64 x.y.lo) := hJ.es.cell 1 rfl 3 rfl
   have f4 : ww.cell? ⟨b3, 4, none⟩ = some (.int .i64 x.y.hi) := hJ.es.cell 1 rfl 4 rfl
   have f5 : ww.cell? ⟨b3, 5, none⟩ = some (.bool x.y.all) := hJ.es.cell 1 rfl 5 rfl
   have f6 : ww.cell? ⟨b3, 6, none⟩ = some (.int .i64 x.z.lo) := hJ.es.cell 1 rfl 6 rfl
   have f7 : ww.cell? ⟨b3, 7, none⟩ = some (.int .i64 x.z.hi) := hJ.es.cell 1 rfl 7 rfl
   have f8 : ww.cell? ⟨b3, 8, none⟩ = some (.bool x.z.all) := hJ.es.cell 1 rfl 8 rfl
   go_simp
   exact HK.out (.agg #[.int .i64 x.x.lo, .int .i64 x.x.hi, .bool x.x.all, .int .i64 x.y.lo, .int .i64 x.y.hi, .bool x.y.all, .int .i64 x.z.lo, .int .i64 x.z.hi, .bool x.z.all]) _ hJ rfl veL_same
  ·
   have x7 : aa.tmps[7]? = some (.pointer (some ⟨b4, 0, none⟩)) := (hev 7 (by decide)).trans rfl
   clear hd hev hin
   simp only [List.getElem_cons_succ, List.getElem_cons_zero]
   clear hl
   refine .inr ⟨rfl, fun K' hK => ?_⟩
   have HK := Lib.hid hK
   clear hK
   have f0 : ww.cell? ⟨b4, 0, none⟩ = some (.int .i64 y.x.lo) := hJ.es.cell 0 rfl 0 rfl
   have f1 : ww.cell? ⟨b4, 1, none⟩ = some (.int .i64 y.x.hi) := hJ.es.cell 0 rfl 1 rfl
   have f2 : ww.cell? ⟨b4, 2, none⟩ = some (.bool y.x.all) := hJ.es.cell 0 rfl 2 rfl
   have f3 : ww.cell? ⟨b4, 3, none⟩ = some (.int .i64 y.y.lo) := hJ.es.cell 0 rfl 3 rfl
   have f4 : ww.cell? ⟨b4, 4, none⟩ = some (.int .i64 y.y.hi) := hJ.es.cell 0 rfl 4 rfl
   have f5 : ww.cell? ⟨b4, 5, none⟩ = some (.bool y.y.all) := hJ.es.cell 0 rfl 5 rfl
   have f6 : ww.cell? ⟨b4, 6, none⟩ = some (.int .i64 y.z.lo) := hJ.es.cell 0 rfl 6 rfl
   have f7 : ww.cell? ⟨b4, 7, none⟩ = some (.int .i64 y.z.hi) := hJ.es.cell 0 rfl 7 rfl
   have f8 : ww.cell? ⟨b4, 8, none⟩ = some (.bool y.z.all) := hJ.es.cell 0 rfl 8 rfl
   go_simp
   exact HK.out (.agg #[.int .i64 y.x.lo, .int .i64 y.x.hi, .bool y.x.all, .int .i64 y.y.lo, .int .i64 y.y.hi, .bool y.y.all, .int .i64 y.z.lo, .int .i64 y.z.hi, .bool y.z.all]) _ hJ rfl veL_same
  ·
   have x34 : aa.tmps[34]? = some (.agg #[.int .i64 x.x.lo, .int .i64 x.x.hi, .bool x.x.all, .int .i64 x.y.lo, .int .i64 x.y.hi, .bool x.y.all, .int .i64 x.z.lo, .int .i64 x.z.hi, .bool x.z.all]) := (hin 3 34 rfl).trans (congrArg some (show uu 3 = .agg #[.int .i64 x.x.lo, .int .i64 x.x.hi, .bool x.x.all, .int .i64 x.y.lo, .int .i64 x.y.hi, .bool x.y.all, .int .i64 x.z.lo, .int .i64 x.z.hi, .bool x.z.all] from hd 3 (by decide) (by kernel_rfl)))
   have x35 : aa.tmps[35]? = some (.agg #[.int .i64 y.x.lo, .int .i64 y.x.hi, .bool y.x.all, .int .i64 y.y.lo, .int .i64 y.y.hi, .bool y.y.all, .int .i64 y.z.lo, .int .i64 y.z.hi, .bool y.z.all]) := (hin 4 35 rfl).trans (congrArg some (show uu 4 = .agg #[.int .i64 y.x.lo, .int .i64 y.x.hi, .bool y.x.all, .int .i64 y.y.lo, .int .i64 y.y.hi, .bool y.y.all, .int .i64 y.z.lo, .int .i64 y.z.hi, .bool y.z.all] from hd 4 (by decide) (by kernel_rfl)))
   clear hd hev hin
   simp only [List.getElem_cons_succ, List.getElem_cons_zero]
   clear hl
   refine .inr ⟨rfl, fun K' hK => ?_⟩
   have HK := Lib.hid hK
   clear hK
   go_simp
   refine (HD2.out ww).mono ?_
   rintro e W' ⟨rfl, hB⟩
   exact HK.out (.agg #[.int .i64 qD.lo, .int .i64 qD.hi, .bool qD.all]) _ (hJ.later hB) rfl (veL_later hB)
  ·
   have x33 : aa.tmps[33]? = some (.agg #[.int .i64 pD.lo, .int .i64 pD.hi, .bool pD.all]) := (hin 2 33 rfl).trans (congrArg some (show uu 2 = .agg #[.int .i64 pD.lo, .int .i64 pD.hi, .bool pD.all] from hd 2 (by decide) (by kernel_rfl)))
   have x36 : aa.tmps[36]? = some (.agg #[.int .i64 qD.lo, .int .i64 qD.hi, .bool qD.all]) := (hin 5 36 rfl).trans (congrArg some (show uu 5 = .agg #[.int .i64 qD.lo, .int .i64 qD.hi, .bool qD.all] from hd 5 (by decide) (by kernel_rfl)))
   clear hd hev hin
   simp only [List.getElem_cons_succ, List.getElem_cons_zero]
   clear hl
   refine .inr ⟨rfl, fun K' hK => ?_⟩
   have HK := Lib.hid hK
   clear hK
   go_simp
   refine (HDi.out ww).mono ?_
   rintro e W' ⟨rfl, hB⟩
   exact HK.out (.bool true) _ (hJ.later hB) rfl (veL_later hB)
  ·
   have x37 : aa.tmps[37]? = some (.bool true) := (hin 6 37 rfl).trans (congrArg some (show uu 6 = .bool true from hd 6 (by decide) (by kernel_rfl)))
   clear hd hev hin
   simp only [List.getElem_cons_succ, List.getElem_cons_zero]
   clear hl
   refine .inr ⟨rfl, fun K' hK => ?_⟩
   have HK := Lib.hid hK
   clear hK
   go_simp
   exact HK.out (.bool true) _ hJ rfl veL_same
 clear hM
 intro uu W8 hJm hd
 have e_0 : uu 0 = .agg #[.int .i64 v.x.lo, .int .i64 v.x.hi, .bool v.x.all, .int .i64 v.y.lo, .int .i64 v.y.hi, .bool v.y.all, .int .i64 v.z.lo, .int .i64 v.z.hi, .bool v.z.all] := hd 0 (by decide)
 have e_1 : uu 1 = .agg #[.int .i64 u.x.lo, .int .i64 u.x.hi, .bool u.x.all, .int .i64 u.y.lo, .int .i64 u.y.hi, .bool u.y.all, .int .i64 u.z.lo, .int .i64 u.z.hi, .bool u.z.all] := hd 1 (by decide)
 have e_2 : uu 2 = .agg #[.int .i64 pD.lo, .int .i64 pD.hi, .bool pD.all] := hd 2 (by decide)
 have e_3 : uu 3 = .agg #[.int .i64 x.x.lo, .int .i64 x.x.hi, .bool x.x.all, .int .i64 x.y.lo, .int .i64 x.y.hi, .bool x.y.all, .int .i64 x.z.lo, .int .i64 x.z.hi, .bool x.z.all] := hd 3 (by decide)
 have e_4 : uu 4 = .agg #[.int .i64 y.x.lo, .int .i64 y.x.hi, .bool y.x.all, .int .i64 y.y.lo, .int .i64 y.y.hi, .bool y.y.all, .int .i64 y.z.lo, .int .i64 y.z.hi, .bool y.z.all] := hd 4 (by decide)
 have e_5 : uu 5 = .agg #[.int .i64 qD.lo, .int .i64 qD.hi, .bool qD.all] := hd 5 (by decide)
 have e_6 : uu 6 = .bool true := hd 6 (by decide)
 have e_7 : uu 7 = .bool true := hd 7 (by decide)
 clear hd
 simp only [layS, Act.put, List.setIfInBounds_toArray, List.set_cons_succ, List.set_cons_zero, Nat.zero_add, Nat.reduceAdd, List.drop_succ_cons, List.drop_zero, List.drop_nil, e_0, e_1, e_2, e_3, e_4, e_5, e_6, e_7]
 clear e_0 e_1 e_2 e_3 e_4 e_5 e_6 e_7
 have hJ8 := hJm.es
 clear hJm
 go_wp2
 obtain ⟨m7_8, hm⟩ : ∃ m, m = W8.heap.size := ⟨_, rfl⟩
 have hM := hJ8.em
 rw [← hm] at hM
 clear hm hJ8
 refine wp_region_z 8 [some 38, some 39, some 40, some 41, some 42, some 43, some 44, some 13] (veL m7_8 [.eq (.agg #[.int .i64 v.x.lo, .int .i64 v.x.hi, .bool v.x.all, .int .i64 v.y.lo, .int .i64 v.y.hi, .bool v.y.all, .int .i64 v.z.lo, .int .i64 v.z.hi, .bool v.z.all]), .eq (.agg #[.int .i64 u.x.lo, .int .i64 u.x.hi, .bool u.x.all, .int .i64 u.y.lo, .int .i64 u.y.hi, .bool u.y.all, .int .i64 u.z.lo, .int .i64 u.z.hi, .bool u.z.all]), .eq (.agg #[.int .i64 pX.x.lo, .int .i64 pX.x.hi, .bool pX.x.all, .int .i64 pX.y.lo, .int .i64 pX.y.hi, .bool pX.y.all, .int .i64 pX.z.lo, .int .i64 pX.z.hi, .bool pX.z.all]), .eq (.agg #[.int .i64 x.x.lo, .int .i64 x.x.hi, .bool x.x.all, .int .i64 x.y.lo, .int .i64 x.y.hi, .bool x.y.all, .int .i64 x.z.lo, .int .i64 x.z.hi, .bool x.z.all]), .eq (.agg #[.int .i64 y.x.lo, .int .i64 y.x.hi, .bool y.x.all, .int .i64 y.y.lo, .int .i64 y.y.hi, .bool y.y.all, .int .i64 y.z.lo, .int .i64 y.z.hi, .bool y.z.all]), .eq (.agg #[.int .i64 qX.x.lo, .int .i64 qX.x.hi, .bool qX.x.all, .int .i64 qX.y.lo, .int .i64 qX.y.hi, .bool qX.y.all, .int .i64 qX.z.lo, .int .i64 qX.z.hi, .bool qX.z.all]), .eq (.bool true), .eq (.bool true)]) (Em w m7_8 [(b4, #[.int .i64 y.x.lo, .int .i64 y.x.hi, .bool y.x.all, .int .i64 y.y.lo, .int .i64 y.y.hi, .bool y.y.all, .int .i64 y.z.lo, .int .i64 y.z.hi, .bool y.z.all], 34), (b3, #[.int .i64 x.x.lo, .int .i64 x.x.hi, .bool x.x.all, .int .i64 x.y.lo, .int .i64 x.y.hi, .bool x.y.all, .int .i64 x.z.lo, .int .i64 x.z.hi, .bool x.z.all], 34), (b2, #[.int .i64 u.x.lo, .int .i64 u.x.hi, .bool u.x.all, .int .i64 u.y.lo, .int .i64 u.y.hi, .bool u.y.all, .int .i64 u.z.lo, .int .i64 u.z.hi, .bool u.z.all], 34), (b1, #[.int .i64 v.x.lo, .int .i64 v.x.hi, .bool v.x.all, .int .i64 v.y.lo, .int .i64 v.y.hi, .bool v.y.all, .int .i64 v.z.lo, .int .i64 v.z.hi, .bool v.z.all], 34)]) (by kernel_rfl) (by kernel_rfl) (by rfl) (by decide) (by rfl) hM ?_ ?_
 ·
  intro i hl hi uu ww aa hJ hd hev hin
  clear hM
  obtain rfl | rfl | rfl | rfl | rfl | rfl | rfl | rfl : i = 0 ∨ i = 1 ∨ i = 2 ∨ i = 3 ∨ i = 4 ∨ i = 5 ∨ i = 6 ∨ i = 7 := by omega
  ·
   have x4 : aa.tmps[4]? = some (.pointer (some ⟨b1, 0, none⟩)) := (hev 4 (by decide)).trans rfl
   clear hd hev hin
   simp only [List.getElem_cons_succ, List.getElem_cons_zero]
   clear hl
   refine .inr ⟨rfl, fun K' hK => ?_⟩
   have HK := Lib.hid hK
   clear hK
   have f0 : ww.cell? ⟨b1, 0, none⟩ = some (.int .i64 v.x.lo) := hJ.es.cell 3 rfl 0 rfl
   have f1 : ww.cell? ⟨b1, 1, none⟩ = some (.int .i64 v.x.hi) := hJ.es.cell 3 rfl 1 rfl
   have f2 : ww.cell? ⟨b1, 2, none⟩ = some (.bool v.x.all) := hJ.es.cell 3 rfl 2 rfl
   have f3 : ww.cell? ⟨b1, 3, none⟩ = some (.int .i64 v.y.lo) := hJ.es.cell 3 rfl 3 rfl
   have f4 : ww.cell? ⟨b1, 4, none⟩ = some (.int .i64 v.y.hi) := hJ.es.cell 3 rfl 4 rfl
   have f5 : ww.cell? ⟨b1, 5, none⟩ = some (.bool v.y.all) := hJ.es.cell 3 rfl 5 rfl
   have f6 : ww.cell? ⟨b1, 6, none⟩ = some (.int .i64 v.z.lo) := hJ.es.cell 3 rfl 6 rfl
   have f7 : ww.cell? ⟨b1, 7, none⟩ = some (.int .i64 v.z.hi) := hJ.es.cell 3 rfl 7 rfl
   have f8 : ww.cell? ⟨b1, 8, none⟩ = some (.bool v.z.all) := hJ.es.cell 3 rfl 8 rfl
   go_simp
   exact HK.out (.agg #[.int .i64 v.x.lo, .int .i64 v.x.hi, .bool v.x.all, .int .i64 v.y.lo, .int .i64 v.y.hi, .bool v.y.all, .int .i64 v.z.lo, .int .i64 v.z.hi, .bool v.z.all]) _ hJ rfl veL_same
  ·
   have x5 : aa.tmps[5]? = some (.pointer (some ⟨b2, 0, none⟩)) := (hev 5 (by decide)).trans rfl
   clear hd hev hin
   simp only [List.getElem_cons_succ, List.getElem_cons_zero]
   clear hl
   refine .inr ⟨rfl, fun K' hK => ?_⟩
   have HK := Lib.hid hK
   clear hK
   have f0 : ww.cell? ⟨b2, 0, none⟩ = some (.int .i64 u.x.lo) := hJ.es.cell 2 rfl 0 rfl
   have f1 : ww.cell? ⟨b2, 1, none⟩ = some (.int .i64 u.x.hi) := hJ.es.cell 2 rfl 1 rfl
   have f2 : ww.cell? ⟨b2, 2, none⟩ = some (.bool u.x.all) := hJ.es.cell 2 rfl 2 rfl
   have f3 : ww.cell? ⟨b2, 3, none⟩ = some (.int .i64 u.y.lo) := hJ.es.cell 2 rfl 3 rfl
   have f4 : ww.cell? ⟨b2, 4, none⟩ = some (.int .i64 u.y.hi) := hJ.es.cell 2 rfl 4 rfl
   have f5 : ww.cell? ⟨b2, 5, none⟩ = some (.bool u.y.all) := hJ.es.cell 2 rfl 5 rfl
   have f6 : ww.cell? ⟨b2, 6, none⟩ = some (.int .i64 u.z.lo) := hJ.es.cell 2 rfl 6 rfl
   have f7 : ww.cell? ⟨b2, 7, none⟩ = some (.int .i64 u.z.hi) := hJ.es.cell 2 rfl 7 rfl
   have f8 : ww.cell? ⟨b2, 8, none⟩ = some (.bool u.z.all) := hJ.es.cell 2 rfl 8 rfl
   go_simp
   exact HK.out (.agg #[.int .i64 u.x.lo, .int .i64 u.x.hi, .bool u.x.all, .int .i64 u.y.lo, .int .i64 u.y.hi, .bool u.y.all, .int .i64 u.z.lo, .int .i64 u.z.hi, .bool u.z.all]) _ hJ rfl veL_same
  ·
   have x38 : aa.tmps[38]? = some (.agg #[.int .i64 v.x.lo, .int .i64 v.x.hi, .bool v.x.all, .int .i64 v.y.lo, .int .i64 v.y.hi, .bool v.y.all, .int .i64 v.z.lo, .int .i64 v.z.hi, .bool v.z.all]) := (hin 0 38 rfl).trans (congrArg some (show uu 0 = .agg #[.int .i64 v.x.lo, .int .i64 v.x.hi, .bool v.x.all, .int .i64 v.y.lo, .int .i64 v.y.hi, .bool v.y.all, .int .i64 v.z.lo, .int .i64 v.z.hi, .bool v.z.all] from hd 0 (by decide) (by kernel_rfl)))
   have x39 : aa.tmps[39]? = some (.agg #[.int .i64 u.x.lo, .int .i64 u.x.hi, .bool u.x.all, .int .i64 u.y.lo, .int .i64 u.y.hi, .bool u.y.all, .int .i64 u.z.lo, .int .i64 u.z.hi, .bool u.z.all]) := (hin 1 39 rfl).trans (congrArg some (show uu 1 = .agg #[.int .i64 u.x.lo, .int .i64 u.x.hi, .bool u.x.all, .int .i64 u.y.lo, .int .i64 u.y.hi, .bool u.y.all, .int .i64 u.z.lo, .int .i64 u.z.hi, .bool u.z.all] from hd 1 (by decide) (by kernel_rfl)))
   clear hd hev hin
   simp only [List.getElem_cons_succ, List.getElem_cons_zero]
   clear hl
   refine .inr ⟨rfl, fun K' hK => ?_⟩
   have HK := Lib.hid hK
   clear hK
   go_simp
   refine (HX1.out ww).mono ?_
   rintro e W' ⟨rfl, hB⟩
   exact HK.out (.agg #[.int .i64 pX.x.lo, .int .i64 pX.x.hi, .bool pX.x.all, .int .i64 pX.y.lo, .int .i64 pX.y.hi, .bool pX.y.all, .int .i64 pX.z.lo, .int .i64 pX.z.hi, .bool pX.z.all]) _ (hJ.later hB) rfl (veL_later hB)
  ·
   have x6 : aa.tmps[6]? = some (.pointer (some ⟨b3, 0, none⟩)) := (hev 6 (by decide)).trans rfl
   clear hd hev hin
   simp only [List.getElem_cons_succ, List.getElem_cons_zero]
   clear hl
   refine .inr ⟨rfl, fun K' hK => ?_⟩
   have HK := Lib.hid hK
   clear hK
   have f0 : ww.cell? ⟨b3, 0, none⟩ = some (.int .i64 x.x.lo) := hJ.es.cell 1 rfl 0 rfl
   have f1 : ww.cell? ⟨b3, 1, none⟩ = some (.int .i64 x.x.hi) := hJ.es.cell 1 rfl 1 rfl
   have f2 : ww.cell? ⟨b3, 2, none⟩ = some (.bool x.x.all) := hJ.es.cell 1 rfl 2 rfl
   have f3 : ww.cell? ⟨b3, 3, none⟩ = some (.int .i64 x.y.lo) := hJ.es.cell 1 rfl 3 rfl
   have f4 : ww.cell? ⟨b3, 4, none⟩ = some (.int .i64 x.y.hi) := hJ.es.cell 1 rfl 4 rfl
   have f5 : ww.cell? ⟨b3, 5, none⟩ = some (.bool x.y.all) := hJ.es.cell 1 rfl 5 rfl
   have f6 : ww.cell? ⟨b3, 6, none⟩ = some (.int .i64 x.z.lo) := hJ.es.cell 1 rfl 6 rfl
   have f7 : ww.cell? ⟨b3, 7, none⟩ = some (.int .i64 x.z.hi) := hJ.es.cell 1 rfl 7 rfl
   have f8 : ww.cell? ⟨b3, 8, none⟩ = some (.bool x.z.all) := hJ.es.cell 1 rfl 8 rfl
   go_simp
   exact HK.out (.agg #[.int .i64 x.x.lo, .int .i64 x.x.hi, .bool x.x.all, .int .i64 x.y.lo, .int .i64 x.y.hi, .bool x.y.all, .int .i64 x.z.lo, .int .i64 x.z.hi, .bool x.z.all]) _ hJ rfl veL_same
  ·
   have x7 : aa.tmps[7]? = some (.pointer (some ⟨b4, 0, none⟩)) := (hev 7 (by decide)).trans rfl
   clear hd hev hin
   simp only [List.getElem_cons_succ, List.getElem_cons_zero]
   clear hl
   refine .inr ⟨rfl, fun K' hK => ?_⟩
   have HK := Lib.hid hK
   clear hK
   have f0 : ww.cell? ⟨b4, 0, none⟩ = some (.int .i64 y.x.lo) := hJ.es.cell 0 rfl 0 rfl
   have f1 : ww.cell? ⟨b4, 1, none⟩ = some (.int .i64 y.x.hi) := hJ.es.cell 0 rfl 1 rfl
   have f2 : ww.cell? ⟨b4, 2, none⟩ = some (.bool y.x.all) := hJ.es.cell 0 rfl 2 rfl
   have f3 : ww.cell? ⟨b4, 3, none⟩ = some (.int .i64 y.y.lo) := hJ.es.cell 0 rfl 3 rfl
   have f4 : ww.cell? ⟨b4, 4, none⟩ = some (.int .i64 y.y.hi) := hJ.es.cell 0 rfl 4 rfl
   have f5 : ww.cell? ⟨b4, 5, none⟩ = some (.bool y.y.all) := hJ.es.cell 0 rfl 5 rfl
   have f6 : ww.cell? ⟨b4, 6, none⟩ = some (.int .i64 y.z.lo) := hJ.es.cell 0 rfl 6 rfl
   have f7 : ww.cell? ⟨b4, 7, none⟩ = some (.int .i64 y.z.hi) := hJ.es.cell 0 rfl 7 rfl
   have f8 : ww.cell? ⟨b4, 8, none⟩ = some (.bool y.z.all) := hJ.es.cell 0 rfl 8 rfl
   go_simp
   exact HK.out (.agg #[.int .i64 y.x.lo, .int .i64 y.x.hi, .bool y.x.all, .int .i64 y.y.lo, .int .i64 y.y.hi, .bool y.y.all, .int .i64 y.z.lo, .int .i64 y.z.hi, .bool y.z.all]) _ hJ rfl veL_same
  ·
   have x41 : aa.tmps[41]? = some (.agg #[.int .i64 x.x.lo, .int .i64 x.x.hi, .bool x.x.all, .int .i64 x.y.lo, .int .i64 x.y.hi, .bool x.y.all, .int .i64 x.z.lo, .int .i64 x.z.hi, .bool x.z.all]) := (hin 3 41 rfl).trans (congrArg some (show uu 3 = .agg #[.int .i64 x.x.lo, .int .i64 x.x.hi, .bool x.x.all, .int .i64 x.y.lo, .int .i64 x.y.hi, .bool x.y.all, .int .i64 x.z.lo, .int .i64 x.z.hi, .bool x.z.all] from hd 3 (by decide) (by kernel_rfl)))
   have x42 : aa.tmps[42]? = some (.agg #[.int .i64 y.x.lo, .int .i64 y.x.hi, .bool y.x.all, .int .i64 y.y.lo, .int .i64 y.y.hi, .bool y.y.all, .int .i64 y.z.lo, .int .i64 y.z.hi, .bool y.z.all]) := (hin 4 42 rfl).trans (congrArg some (show uu 4 = .agg #[.int .i64 y.x.lo, .int .i64 y.x.hi, .bool y.x.all, .int .i64 y.y.lo, .int .i64 y.y.hi, .bool y.y.all, .int .i64 y.z.lo, .int .i64 y.z.hi, .bool y.z.all] from hd 4 (by decide) (by kernel_rfl)))
   clear hd hev hin
   simp only [List.getElem_cons_succ, List.getElem_cons_zero]
   clear hl
   refine .inr ⟨rfl, fun K' hK => ?_⟩
   have HK := Lib.hid hK
   clear hK
   go_simp
   refine (HX2.out ww).mono ?_
   rintro e W' ⟨rfl, hB⟩
   exact HK.out (.agg #[.int .i64 qX.x.lo, .int .i64 qX.x.hi, .bool qX.x.all, .int .i64 qX.y.lo, .int .i64 qX.y.hi, .bool qX.y.all, .int .i64 qX.z.lo, .int .i64 qX.z.hi, .bool qX.z.all]) _ (hJ.later hB) rfl (veL_later hB)
  ·
   have x40 : aa.tmps[40]? = some (.agg #[.int .i64 pX.x.lo, .int .i64 pX.x.hi, .bool pX.x.all, .int .i64 pX.y.lo, .int .i64 pX.y.hi, .bool pX.y.all, .int .i64 pX.z.lo, .int .i64 pX.z.hi, .bool pX.z.all]) := (hin 2 40 rfl).trans (congrArg some (show uu 2 = .agg #[.int .i64 pX.x.lo, .int .i64 pX.x.hi, .bool pX.x.all, .int .i64 pX.y.lo, .int .i64 pX.y.hi, .bool pX.y.all, .int .i64 pX.z.lo, .int .i64 pX.z.hi, .bool pX.z.all] from hd 2 (by decide) (by kernel_rfl)))
   have x43 : aa.tmps[43]? = some (.agg #[.int .i64 qX.x.lo, .int .i64 qX.x.hi, .bool qX.x.all, .int .i64 qX.y.lo, .int .i64 qX.y.hi, .bool qX.y.all, .int .i64 qX.z.lo, .int .i64 qX.z.hi, .bool qX.z.all]) := (hin 5 43 rfl).trans (congrArg some (show uu 5 = .agg #[.int .i64 qX.x.lo, .int .i64 qX.x.hi, .bool qX.x.all, .int .i64 qX.y.lo, .int .i64 qX.y.hi, .bool qX.y.all, .int .i64 qX.z.lo, .int .i64 qX.z.hi, .bool qX.z.all] from hd 5 (by decide) (by kernel_rfl)))
   clear hd hev hin
   simp only [List.getElem_cons_succ, List.getElem_cons_zero]
   clear hl
   refine .inr ⟨rfl, fun K' hK => ?_⟩
   have HK := Lib.hid hK
   clear hK
   go_simp
   refine (HXi.out ww).mono ?_
   rintro e W' ⟨rfl, hB⟩
   exact HK.out (.bool true) _ (hJ.later hB) rfl (veL_later hB)
  ·
   have x44 : aa.tmps[44]? = some (.bool true) := (hin 6 44 rfl).trans (congrArg some (show uu 6 = .bool true from hd 6 (by decide) (by kernel_rfl)))
   clear hd hev hin
   simp only [List.getElem_cons_succ, List.getElem_cons_zero]
   clear hl
   refine .inr ⟨rfl, fun K' hK => ?_⟩
   have HK := Lib.hid hK
   clear hK
   go_simp
   exact HK.out (.bool true) _ hJ rfl veL_same
 clear hM
 intro uu W9 hJm hd
 have e_0 : uu 0 = .agg #[.int .i64 v.x.lo, .int .i64 v.x.hi, .bool v.x.all, .int .i64 v.y.lo, .int .i64 v.y.hi, .bool v.y.all, .int .i64 v.z.lo, .int .i64 v.z.hi, .bool v.z.all] := hd 0 (by decide)
 have e_1 : uu 1 = .agg #[.int .i64 u.x.lo, .int .i64 u.x.hi, .bool u.x.all, .int .i64 u.y.lo, .int .i64 u.y.hi, .bool u.y.all, .int .i64 u.z.lo, .int .i64 u.z.hi, .bool u.z.all] := hd 1 (by decide)
 have e_2 : uu 2 = .agg #[.int .i64 pX.x.lo, .int .i64 pX.x.hi, .bool pX.x.all, .int .i64 pX.y.lo, .int .i64 pX.y.hi, .bool pX.y.all, .int .i64 pX.z.lo, .int .i64 pX.z.hi, .bool pX.z.all] := hd 2 (by decide)
 have e_3 : uu 3 = .agg #[.int .i64 x.x.lo, .int .i64 x.x.hi, .bool x.x.all, .int .i64 x.y.lo, .int .i64 x.y.hi, .bool x.y.all, .int .i64 x.z.lo, .int .i64 x.z.hi, .bool x.z.all] := hd 3 (by decide)
 have e_4 : uu 4 = .agg #[.int .i64 y.x.lo, .int .i64 y.x.hi, .bool y.x.all, .int .i64 y.y.lo, .int .i64 y.y.hi, .bool y.y.all, .int .i64 y.z.lo, .int .i64 y.z.hi, .bool y.z.all] := hd 4 (by decide)
 have e_5 : uu 5 = .agg #[.int .i64 qX.x.lo, .int .i64 qX.x.hi, .bool qX.x.all, .int .i64 qX.y.lo, .int .i64 qX.y.hi, .bool qX.y.all, .int .i64 qX.z.lo, .int .i64 qX.z.hi, .bool qX.z.all] := hd 5 (by decide)
 have e_6 : uu 6 = .bool true := hd 6 (by decide)
 have e_7 : uu 7 = .bool true := hd 7 (by decide)
 clear hd
 simp only [layS, Act.put, List.setIfInBounds_toArray, List.set_cons_succ, List.set_cons_zero, Nat.zero_add, Nat.reduceAdd, List.drop_succ_cons, List.drop_zero, List.drop_nil, e_0, e_1, e_2, e_3, e_4, e_5, e_6, e_7]
 clear e_0 e_1 e_2 e_3 e_4 e_5 e_6 e_7
 have hJ9 := hJm.es
 clear hJm
 go_wp2
 obtain ⟨m8_9, hm⟩ : ∃ m, m = W9.heap.size := ⟨_, rfl⟩
 have hM := hJ9.em
 rw [← hm] at hM
 clear hm hJ9
 refine wp_region_z 6 [some 45, some 46, some 47, some 48, some 49, some 14] (veL m8_9 [.eq (.agg #[.int .i64 v.x.lo, .int .i64 v.x.hi, .bool v.x.all, .int .i64 v.y.lo, .int .i64 v.y.hi, .bool v.y.all, .int .i64 v.z.lo, .int .i64 v.z.hi, .bool v.z.all]), .eq (.agg #[.int .i64 pN.lo, .int .i64 pN.hi, .bool pN.all]), .eq (.agg #[.int .i64 x.x.lo, .int .i64 x.x.hi, .bool x.x.all, .int .i64 x.y.lo, .int .i64 x.y.hi, .bool x.y.all, .int .i64 x.z.lo, .int .i64 x.z.hi, .bool x.z.all]), .eq (.agg #[.int .i64 qN.lo, .int .i64 qN.hi, .bool qN.all]), .eq (.bool true), .eq (.bool true)]) (Em w m8_9 [(b4, #[.int .i64 y.x.lo, .int .i64 y.x.hi, .bool y.x.all, .int .i64 y.y.lo, .int .i64 y.y.hi, .bool y.y.all, .int .i64 y.z.lo, .int .i64 y.z.hi, .bool y.z.all], 34), (b3, #[.int .i64 x.x.lo, .int .i64 x.x.hi, .bool x.x.all, .int .i64 x.y.lo, .int .i64 x.y.hi, .bool x.y.all, .int .i64 x.z.lo, .int .i64 x.z.hi, .bool x.z.all], 34), (b2, #[.int .i64 u.x.lo, .int .i64 u.x.hi, .bool u.x.all, .int .i64 u.y.lo, .int .i64 u.y.hi, .bool u.y.all, .int .i64 u.z.lo, .int .i64 u.z.hi, .bool u.z.all], 34), (b1, #[.int .i64 v.x.lo, .int .i64 v.x.hi, .bool v.x.all, .int .i64 v.y.lo, .int .i64 v.y.hi, .bool v.y.all, .int .i64 v.z.lo, .int .i64 v.z.hi, .bool v.z.all], 34)]) (by kernel_rfl) (by kernel_rfl) (by rfl) (by decide) (by rfl) hM ?_ ?_
 ·
  intro i hl hi uu ww aa hJ hd hev hin
  clear hM
  obtain rfl | rfl | rfl | rfl | rfl | rfl : i = 0 ∨ i = 1 ∨ i = 2 ∨ i = 3 ∨ i = 4 ∨ i = 5 := by omega
  ·
   have x4 : aa.tmps[4]? = some (.pointer (some ⟨b1, 0, none⟩)) := (hev 4 (by decide)).trans rfl
   clear hd hev hin
   simp only [List.getElem_cons_succ, List.getElem_cons_zero]
   clear hl
   refine .inr ⟨rfl, fun K' hK => ?_⟩
   have HK := Lib.hid hK
   clear hK
   have f0 : ww.cell? ⟨b1, 0, none⟩ = some (.int .i64 v.x.lo) := hJ.es.cell 3 rfl 0 rfl
   have f1 : ww.cell? ⟨b1, 1, none⟩ = some (.int .i64 v.x.hi) := hJ.es.cell 3 rfl 1 rfl
   have f2 : ww.cell? ⟨b1, 2, none⟩ = some (.bool v.x.all) := hJ.es.cell 3 rfl 2 rfl
   have f3 : ww.cell? ⟨b1, 3, none⟩ = some (.int .i64 v.y.lo) := hJ.es.cell 3 rfl 3 rfl
   have f4 : ww.cell? ⟨b1, 4, none⟩ = some (.int .i64 v.y.hi) := hJ.es.cell 3 rfl 4 rfl
   have f5 : ww.cell? ⟨b1, 5, none⟩ = some (.bool v.y.all) := hJ.es.cell 3 rfl 5 rfl
   have f6 : ww.cell? ⟨b1, 6, none⟩ = some (.int .i64 v.z.lo) := hJ.es.cell 3 rfl 6 rfl
   have f7 : ww.cell? ⟨b1, 7, none⟩ = some (.int .i64 v.z.hi) := hJ.es.cell 3 rfl 7 rfl
   have f8 : ww.cell? ⟨b1, 8, none⟩ = some (.bool v.z.all) := hJ.es.cell 3 rfl 8 rfl
   go_simp
   exact HK.out (.agg #[.int .i64 v.x.lo, .int .i64 v.x.hi, .bool v.x.all, .int .i64 v.y.lo, .int .i64 v.y.hi, .bool v.y.all, .int .i64 v.z.lo, .int .i64 v.z.hi, .bool v.z.all]) _ hJ rfl veL_same
  ·
   have x45 : aa.tmps[45]? = some (.agg #[.int .i64 v.x.lo, .int .i64 v.x.hi, .bool v.x.all, .int .i64 v.y.lo, .int .i64 v.y.hi, .bool v.y.all, .int .i64 v.z.lo, .int .i64 v.z.hi, .bool v.z.all]) := (hin 0 45 rfl).trans (congrArg some (show uu 0 = .agg #[.int .i64 v.x.lo, .int .i64 v.x.hi, .bool v.x.all, .int .i64 v.y.lo, .int .i64 v.y.hi, .bool v.y.all, .int .i64 v.z.lo, .int .i64 v.z.hi, .bool v.z.all] from hd 0 (by decide) (by kernel_rfl)))
   clear hd hev hin
   simp only [List.getElem_cons_succ, List.getElem_cons_zero]
   clear hl
   refine .inr ⟨rfl, fun K' hK => ?_⟩
   have HK := Lib.hid hK
   clear hK
   go_simp
   refine (HN1.out ww).mono ?_
   rintro e W' ⟨rfl, hB⟩
   exact HK.out (.agg #[.int .i64 pN.lo, .int .i64 pN.hi, .bool pN.all]) _ (hJ.later hB) rfl (veL_later hB)
  ·
   have x6 : aa.tmps[6]? = some (.pointer (some ⟨b3, 0, none⟩)) := (hev 6 (by decide)).trans rfl
   clear hd hev hin
   simp only [List.getElem_cons_succ, List.getElem_cons_zero]
   clear hl
   refine .inr ⟨rfl, fun K' hK => ?_⟩
   have HK := Lib.hid hK
   clear hK
   have f0 : ww.cell? ⟨b3, 0, none⟩ = some (.int .i64 x.x.lo) := hJ.es.cell 1 rfl 0 rfl
   have f1 : ww.cell? ⟨b3, 1, none⟩ = some (.int .i64 x.x.hi) := hJ.es.cell 1 rfl 1 rfl
   have f2 : ww.cell? ⟨b3, 2, none⟩ = some (.bool x.x.all) := hJ.es.cell 1 rfl 2 rfl
   have f3 : ww.cell? ⟨b3, 3, none⟩ = some (.int .i64 x.y.lo) := hJ.es.cell 1 rfl 3 rfl
   have f4 : ww.cell? ⟨b3, 4, none⟩ = some (.int .i64 x.y.hi) := hJ.es.cell 1 rfl 4 rfl
   have f5 : ww.cell? ⟨b3, 5, none⟩ = some (.bool x.y.all) := hJ.es.cell 1 rfl 5 rfl
   have f6 : ww.cell? ⟨b3, 6, none⟩ = some (.int .i64 x.z.lo) := hJ.es.cell 1 rfl 6 rfl
   have f7 : ww.cell? ⟨b3, 7, none⟩ = some (.int .i64 x.z.hi) := hJ.es.cell 1 rfl 7 rfl
   have f8 : ww.cell? ⟨b3, 8, none⟩ = some (.bool x.z.all) := hJ.es.cell 1 rfl 8 rfl
   go_simp
   exact HK.out (.agg #[.int .i64 x.x.lo, .int .i64 x.x.hi, .bool x.x.all, .int .i64 x.y.lo, .int .i64 x.y.hi, .bool x.y.all, .int .i64 x.z.lo, .int .i64 x.z.hi, .bool x.z.all]) _ hJ rfl veL_same
  ·
   have x47 : aa.tmps[47]? = some (.agg #[.int .i64 x.x.lo, .int .i64 x.x.hi, .bool x.x.all, .int .i64 x.y.lo, .int .i64 x.y.hi, .bool x.y.all, .int .i64 x.z.lo, .int .i64 x.z.hi, .bool x.z.all]) := (hin 2 47 rfl).trans (congrArg some (show uu 2 = .agg #[.int .i64 x.x.lo, .int .i64 x.x.hi, .bool x.x.all, .int .i64 x.y.lo, .int .i64 x.y.hi, .bool x.y.all, .int .i64 x.z.lo, .int .i64 x.z.hi, .bool x.z.all] from hd 2 (by decide) (by kernel_rfl)))
   clear hd hev hin
   simp only [List.getElem_cons_succ, List.getElem_cons_zero]
   clear hl
   refine .inr ⟨rfl, fun K' hK => ?_⟩
   have HK := Lib.hid hK
   clear hK
   go_simp
   refine (HN2.out ww).mono ?_
   rintro e W' ⟨rfl, hB⟩
   exact HK.out (.agg #[.int .i64 qN.lo, .int .i64 qN.hi, .bool qN.all]) _ (hJ.later hB) rfl (veL_later hB)
  ·
   have x46 : aa.tmps[46]? = some (.agg #[.int .i64 pN.lo, .int .i64 pN.hi, .bool pN.all]) := (hin 1 46 rfl).trans (congrArg some (show uu 1 = .agg #[.int .i64 pN.lo, .int .i64 pN.hi, .bool pN.all] from hd 1 (by decide) (by kernel_rfl)))
   have x48 : aa.tmps[48]? = some (.agg #[.int .i64 qN.lo, .int .i64 qN.hi, .bool qN.all]) := (hin 3 48 rfl).trans (congrArg some (show uu 3 = .agg #[.int .i64 qN.lo, .int .i64 qN.hi, .bool qN.all] from hd 3 (by decide) (by kernel_rfl)))
   clear hd hev hin
   simp only [List.getElem_cons_succ, List.getElem_cons_zero]
   clear hl
   refine .inr ⟨rfl, fun K' hK => ?_⟩
   have HK := Lib.hid hK
   clear hK
   go_simp
   refine (HNi.out ww).mono ?_
   rintro e W' ⟨rfl, hB⟩
   exact HK.out (.bool true) _ (hJ.later hB) rfl (veL_later hB)
  ·
   have x49 : aa.tmps[49]? = some (.bool true) := (hin 4 49 rfl).trans (congrArg some (show uu 4 = .bool true from hd 4 (by decide) (by kernel_rfl)))
   clear hd hev hin
   simp only [List.getElem_cons_succ, List.getElem_cons_zero]
   clear hl
   refine .inr ⟨rfl, fun K' hK => ?_⟩
   have HK := Lib.hid hK
   clear hK
   go_simp
   exact HK.out (.bool true) _ hJ rfl veL_same
 clear hM
 intro uu W10 hJm hd
 have e_0 : uu 0 = .agg #[.int .i64 v.x.lo, .int .i64 v.x.hi, .bool v.x.all, .int .i64 v.y.lo, .int .i64 v.y.hi, .bool v.y.all, .int .i64 v.z.lo, .int .i64 v.z.hi, .bool v.z.all] := hd 0 (by decide)
 have e_1 : uu 1 = .agg #[.int .i64 pN.lo, .int .i64 pN.hi, .bool pN.all] := hd 1 (by decide)
 have e_2 : uu 2 = .agg #[.int .i64 x.x.lo, .int .i64 x.x.hi, .bool x.x.all, .int .i64 x.y.lo, .int .i64 x.y.hi, .bool x.y.all, .int .i64 x.z.lo, .int .i64 x.z.hi, .bool x.z.all] := hd 2 (by decide)
 have e_3 : uu 3 = .agg #[.int .i64 qN.lo, .int .i64 qN.hi, .bool qN.all] := hd 3 (by decide)
 have e_4 : uu 4 = .bool true := hd 4 (by decide)
 have e_5 : uu 5 = .bool true := hd 5 (by decide)
 clear hd
 simp only [layS, Act.put, List.setIfInBounds_toArray, List.set_cons_succ, List.set_cons_zero, Nat.zero_add, Nat.reduceAdd, List.drop_succ_cons, List.drop_zero, List.drop_nil, e_0, e_1, e_2, e_3, e_4, e_5]
 clear e_0 e_1 e_2 e_3 e_4 e_5
 have hJ10 := hJm.es
 clear hJm
 go_wp2
 obtain ⟨m9_10, hm⟩ : ∃ m, m = W10.heap.size := ⟨_, rfl⟩
 have hM := hJ10.em
 rw [← hm] at hM
 clear hm hJ10
 refine wp_region_z 8 [some 50, some 51, some 52, some 53, some 54, some 55, some 56, some 15] (veL m9_10 [.eq (.agg #[.int .i64 v.x.lo, .int .i64 v.x.hi, .bool v.x.all, .int .i64 v.y.lo, .int .i64 v.y.hi, .bool v.y.all, .int .i64 v.z.lo, .int .i64 v.z.hi, .bool v.z.all]), .eq (.agg #[.int .i64 u.x.lo, .int .i64 u.x.hi, .bool u.x.all, .int .i64 u.y.lo, .int .i64 u.y.hi, .bool u.y.all, .int .i64 u.z.lo, .int .i64 u.z.hi, .bool u.z.all]), .eq (.agg #[.int .i64 pA.x.lo, .int .i64 pA.x.hi, .bool pA.x.all, .int .i64 pA.y.lo, .int .i64 pA.y.hi, .bool pA.y.all, .int .i64 pA.z.lo, .int .i64 pA.z.hi, .bool pA.z.all]), .eq (.agg #[.int .i64 x.x.lo, .int .i64 x.x.hi, .bool x.x.all, .int .i64 x.y.lo, .int .i64 x.y.hi, .bool x.y.all, .int .i64 x.z.lo, .int .i64 x.z.hi, .bool x.z.all]), .eq (.agg #[.int .i64 y.x.lo, .int .i64 y.x.hi, .bool y.x.all, .int .i64 y.y.lo, .int .i64 y.y.hi, .bool y.y.all, .int .i64 y.z.lo, .int .i64 y.z.hi, .bool y.z.all]), .eq (.agg #[.int .i64 qA.x.lo, .int .i64 qA.x.hi, .bool qA.x.all, .int .i64 qA.y.lo, .int .i64 qA.y.hi, .bool qA.y.all, .int .i64 qA.z.lo, .int .i64 qA.z.hi, .bool qA.z.all]), .eq (.bool true), .eq (.bool true)]) (Em w m9_10 [(b4, #[.int .i64 y.x.lo, .int .i64 y.x.hi, .bool y.x.all, .int .i64 y.y.lo, .int .i64 y.y.hi, .bool y.y.all, .int .i64 y.z.lo, .int .i64 y.z.hi, .bool y.z.all], 34), (b3, #[.int .i64 x.x.lo, .int .i64 x.x.hi, .bool x.x.all, .int .i64 x.y.lo, .int .i64 x.y.hi, .bool x.y.all, .int .i64 x.z.lo, .int .i64 x.z.hi, .bool x.z.all], 34), (b2, #[.int .i64 u.x.lo, .int .i64 u.x.hi, .bool u.x.all, .int .i64 u.y.lo, .int .i64 u.y.hi, .bool u.y.all, .int .i64 u.z.lo, .int .i64 u.z.hi, .bool u.z.all], 34), (b1, #[.int .i64 v.x.lo, .int .i64 v.x.hi, .bool v.x.all, .int .i64 v.y.lo, .int .i64 v.y.hi, .bool v.y.all, .int .i64 v.z.lo, .int .i64 v.z.hi, .bool v.z.all], 34)]) (by kernel_rfl) (by kernel_rfl) (by rfl) (by decide) (by rfl) hM ?_ ?_
 ·
  intro i hl hi uu ww aa hJ hd hev hin
  clear hM
  obtain rfl | rfl | rfl | rfl | rfl | rfl | rfl | rfl : i = 0 ∨ i = 1 ∨ i = 2 ∨ i = 3 ∨ i = 4 ∨ i = 5 ∨ i = 6 ∨ i = 7 := by omega
  ·
   have x4 : aa.tmps[4]? = some (.pointer (some ⟨b1, 0, none⟩)) := (hev 4 (by decide)).trans rfl
   clear hd hev hin
   simp only [List.getElem_cons_succ, List.getElem_cons_zero]
   clear hl
   refine .inr ⟨rfl, fun K' hK => ?_⟩
   have HK := Lib.hid hK
   clear hK
   have f0 : ww.cell? ⟨b1, 0, none⟩ = some (.int .i64 v.x.lo) := hJ.es.cell 3 rfl 0 rfl
   have f1 : ww.cell? ⟨b1, 1, none⟩ = some (.int .i64 v.x.hi) := hJ.es.cell 3 rfl 1 rfl
   have f2 : ww.cell? ⟨b1, 2, none⟩ = some (.bool v.x.all) := hJ.es.cell 3 rfl 2 rfl
   have f3 : ww.cell? ⟨b1, 3, none⟩ = some (.int .i64 v.y.lo) := hJ.es.cell 3 rfl 3 rfl
   have f4 : ww.cell? ⟨b1, 4, none⟩ = some (.int .i64 v.y.hi) := hJ.es.cell 3 rfl 4 rfl
   have f5 : ww.cell? ⟨b1, 5, none⟩ = some (.bool v.y.all) := hJ.es.cell 3 rfl 5 rfl
   have f6 : ww.cell? ⟨b1, 6, none⟩ = some (.int .i64 v.z.lo) := hJ.es.cell 3 rfl 6 rfl
   have f7 : ww.cell? ⟨b1, 7, none⟩ = some (.int .i64 v.z.hi) := hJ.es.cell 3 rfl 7 rfl
   have f8 : ww.cell? ⟨b1, 8, none⟩ = some (.bool v.z.all) := hJ.es.cell 3 rfl 8 rfl
   go_simp
   exact HK.out (.agg #[.int .i64 v.x.lo, .int .i64 v.x.hi, .bool v.x.all, .int .i64 v.y.lo, .int .i64 v.y.hi, .bool v.y.all, .int .i64 v.z.lo, .int .i64 v.z.hi, .bool v.z.all]) _ hJ rfl veL_same
  ·
   have x5 : aa.tmps[5]? = some (.pointer (some ⟨b2, 0, none⟩)) := (hev 5 (by decide)).trans rfl
   clear hd hev hin
   simp only [List.getElem_cons_succ, List.getElem_cons_zero]
   clear hl
   refine .inr ⟨rfl, fun K' hK => ?_⟩
   have HK := Lib.hid hK
   clear hK
   have f0 : ww.cell? ⟨b2, 0, none⟩ = some (.int .i64 u.x.lo) := hJ.es.cell 2 rfl 0 rfl
   have f1 : ww.cell? ⟨b2, 1, none⟩ = some (.int .i64 u.x.hi) := hJ.es.cell 2 rfl 1 rfl
   have f2 : ww.cell? ⟨b2, 2, none⟩ = some (.bool u.x.all) := hJ.es.cell 2 rfl 2 rfl
   have f3 : ww.cell? ⟨b2, 3, none⟩ = some (.int .i64 u.y.lo) := hJ.es.cell 2 rfl 3 rfl
   have f4 : ww.cell? ⟨b2, 4, none⟩ = some (.int .i64 u.y.hi) := hJ.es.cell 2 rfl 4 rfl
   have f5 : ww.cell? ⟨b2, 5, none⟩ = some (.bool u.y.all) := hJ.es.cell 2 rfl 5 rfl
   have f6 : ww.cell? ⟨b2, 6, none⟩ = some (.int .i64 u.z.lo) := hJ.es.cell 2 rfl 6 rfl
   have f7 : ww.cell? ⟨b2, 7, none⟩ = some (.int .i64 u.z.hi) := hJ.es.cell 2 rfl 7 rfl
   have f8 : ww.cell? ⟨b2, 8, none⟩ = some (.bool u.z.all) := hJ.es.cell 2 rfl 8 rfl
   go_simp
   exact HK.out (.agg #[.int .i64 u.x.lo, .int .i64 u.x.hi, .bool u.x.all, .int .i64 u.y.lo, .int .i64 u.y.hi, .bool u.y.all, .int .i64 u.z.lo, .int .i64 u.z.hi, .bool u.z.all]) _ hJ rfl veL_same
  ·
   have x50 : aa.tmps[50]? = some (.agg #[.int .i64 v.x.lo, .int .i64 v.x.hi, .bool v.x.all, .int .i64 v.y.lo, .int .i64 v.y.hi, .bool v.y.all, .int .i64 v.z.lo, .int .i64 v.z.hi, .bool v.z.all]) := (hin 0 50 rfl).trans (congrArg some (show uu 0 = .agg #[.int .i64 v.x.lo, .int .i64 v.x.hi, .bool v.x.all, .int .i64 v.y.lo, .int .i64 v.y.hi, .bool v.y.all, .int .i64 v.z.lo, .int .i64 v.z.hi, .bool v.z.all] from hd 0 (by decide) (by kernel_rfl)))
   have x51 : aa.tmps[51]? = some (.agg #[.int .i64 u.x.lo, .int .i64 u.x.hi, .bool u.x.all, .int .i64 u.y.lo, .int .i64 u.y.hi, .bool u.y.all, .int .i64 u.z.lo, .int .i64 u.z.hi, .bool u.z.all]) := (hin 1 51 rfl).trans (congrArg some (show uu 1 = .agg #[.int .i64 u.x.lo, .int .i64 u.x.hi, .bool u.x.all, .int .i64 u.y.lo, .int .i64 u.y.hi, .bool u.y.all, .int .i64 u.z.lo, .int .i64 u.z.hi, .bool u.z.all] from hd 1 (by decide) (by kernel_rfl)))
   clear hd hev hin
   simp only [List.getElem_cons_succ, List.getElem_cons_zero]
   clear hl
   refine .inr ⟨rfl, fun K' hK => ?_⟩
   have HK := Lib.hid hK
   clear hK
   go_simp
   refine (HA1.out ww).mono ?_
   rintro e W' ⟨rfl, hB⟩
   exact HK.out (.agg #[.int .i64 pA.x.lo, .int .i64 pA.x.hi, .bool pA.x.all, .int .i64 pA.y.lo, .int .i64 pA.y.hi, .bool pA.y.all, .int .i64 pA.z.lo, .int .i64 pA.z.hi, .bool pA.z.all]) _ (hJ.later hB) rfl (veL_later hB)
  ·
   have x6 : aa.tmps[6]? = some (.pointer (some ⟨b3, 0, none⟩)) := (hev 6 (by decide)).trans rfl
   clear hd hev hin
   simp only [List.getElem_cons_succ, List.getElem_cons_zero]
   clear hl
   refine .inr ⟨rfl, fun K' hK => ?_⟩
   have HK := Lib.hid hK
   clear hK
   have f0 : ww.cell? ⟨b3, 0, none⟩ = some (.int .i64 x.x.lo) := hJ.es.cell 1 rfl 0 rfl
   have f1 : ww.cell? ⟨b3, 1, none⟩ = some (.int .i64 x.x.hi) := hJ.es.cell 1 rfl 1 rfl
   have f2 : ww.cell? ⟨b3, 2, none⟩ = some (.bool x.x.all) := hJ.es.cell 1 rfl 2 rfl
   have f3 : ww.cell? ⟨b3, 3, none⟩ = some (.int .i64 x.y.lo) := hJ.es.cell 1 rfl 3 rfl
   have f4 : ww.cell? ⟨b3, 4, none⟩ = some (.int .i64 x.y.hi) := hJ.es.cell 1 rfl 4 rfl
   have f5 : ww.cell? ⟨b3, 5, none⟩ = some (.bool x.y.all) := hJ.es.cell 1 rfl 5 rfl
   have f6 : ww.cell? ⟨b3, 6, none⟩ = some (.int .i64 x.z.lo) := hJ.es.cell 1 rfl 6 rfl
   have f7 : ww.cell? ⟨b3, 7, none⟩ = some (.int .i64 x.z.hi) := hJ.es.cell 1 rfl 7 rfl
   have f8 : ww.cell? ⟨b3, 8, none⟩ = some (.bool x.z.all) := hJ.es.cell 1 rfl 8 rfl
   go_simp
   exact HK.out (.agg #[.int .i64 x.x.lo, .int .i64 x.x.hi, .bool x.x.all, .int .i64 x.y.lo, .int .i64 x.y.hi, .bool x.y.all, .int .i64 x.z.lo, .int .i64 x.z.hi, .bool x.z.all]) _ hJ rfl veL_same
  ·
   have x7 : aa.tmps[7]? = some (.pointer (some ⟨b4, 0, none⟩)) := (hev 7 (by decide)).trans rfl
   clear hd hev hin
   simp only [List.getElem_cons_succ, List.getElem_cons_zero]
   clear hl
   refine .inr ⟨rfl, fun K' hK => ?_⟩
   have HK := Lib.hid hK
   clear hK
   have f0 : ww.cell? ⟨b4, 0, none⟩ = some (.int .i64 y.x.lo) := hJ.es.cell 0 rfl 0 rfl
   have f1 : ww.cell? ⟨b4, 1, none⟩ = some (.int .i64 y.x.hi) := hJ.es.cell 0 rfl 1 rfl
   have f2 : ww.cell? ⟨b4, 2, none⟩ = some (.bool y.x.all) := hJ.es.cell 0 rfl 2 rfl
   have f3 : ww.cell? ⟨b4, 3, none⟩ = some (.int .i64 y.y.lo) := hJ.es.cell 0 rfl 3 rfl
   have f4 : ww.cell? ⟨b4, 4, none⟩ = some (.int .i64 y.y.hi) := hJ.es.cell 0 rfl 4 rfl
   have f5 : ww.cell? ⟨b4, 5, none⟩ = some (.bool y.y.all) := hJ.es.cell 0 rfl 5 rfl
   have f6 : ww.cell? ⟨b4, 6, none⟩ = some (.int .i64 y.z.lo) := hJ.es.cell 0 rfl 6 rfl
   have f7 : ww.cell? ⟨b4, 7, none⟩ = some (.int .i64 y.z.hi) := hJ.es.cell 0 rfl 7 rfl
   have f8 : ww.cell? ⟨b4, 8, none⟩ = some (.bool y.z.all) := hJ.es.cell 0 rfl 8 rfl
   go_simp
   exact HK.out (.agg #[.int .i64 y.x.lo, .int .i64 y.x.hi, .bool y.x.all, .int .i64 y.y.lo, .int .i64 y.y.hi, .bool y.y.all, .int .i64 y.z.lo, .int .i64 y.z.hi, .bool y.z.all]) _ hJ rfl veL_same
  ·
   have x53 : aa.tmps[53]? = some (.agg #[.int .i64 x.x.lo, .int .i64 x.x.hi, .bool x.x.all, .int .i64 x.y.lo, .int .i64 x.y.hi, .bool x.y.all, .int .i64 x.z.lo, .int .i64 x.z.hi, .bool x.z.all]) := (hin 3 53 rfl).trans (congrArg some (show uu 3 = .agg #[.int .i64 x.x.lo, .int .i64 x.x.hi, .bool x.x.all, .int .i64 x.y.lo, .int .i64 x.y.hi, .bool x.y.all, .int .i64 x.z.lo, .int .i64 x.z.hi, .bool x.z.all] from hd 3 (by decide) (by kernel_rfl)))
   have x54 : aa.tmps[54]? = some (.agg #[.int .i64 y.x.lo, .int .i64 y.x.hi, .bool y.x.all, .int .i64 y.y.lo, .int .i64 y.y.hi, .bool y.y.all, .int .i64 y.z.lo, .int .i64 y.z.hi, .bool y.z.all]) := (hin 4 54 rfl).trans (congrArg some (show uu 4 = .agg #[.int .i64 y.x.lo, .int .i64 y.x.hi, .bool y.x.all, .int .i64 y.y.lo, .int .i64 y.y.hi, .bool y.y.all, .int .i64 y.z.lo, .int .i64 y.z.hi, .bool y.z.all] from hd 4 (by decide) (by kernel_rfl)))
   clear hd hev hin
   simp only [List.getElem_cons_succ, List.getElem_cons_zero]
   clear hl
   refine .inr ⟨rfl, fun K' hK => ?_⟩
   have HK := Lib.hid hK
   clear hK
   go_simp
   refine (HA2.out ww).mono ?_
   rintro e W' ⟨rfl, hB⟩
   exact HK.out (.agg #[.int .i64 qA.x.lo, .int .i64 qA.x.hi, .bool qA.x.all, .int .i64 qA.y.lo, .int .i64 qA.y.hi, .bool qA.y.all, .int .i64 qA.z.lo, .int .i64 qA.z.hi, .bool qA.z.all]) _ (hJ.later hB) rfl (veL_later hB)
  ·
   have x52 : aa.tmps[52]? = some (.agg #[.int .i64 pA.x.lo, .int .i64 pA.x.hi, .bool pA.x.all, .int .i64 pA.y.lo, .int .i64 pA.y.hi, .bool pA.y.all, .int .i64 pA.z.lo, .int .i64 pA.z.hi, .bool pA.z.all]) := (hin 2 52 rfl).trans (congrArg some (show uu 2 = .agg #[.int .i64 pA.x.lo, .int .i64 pA.x.hi, .bool pA.x.all, .int .i64 pA.y.lo, .int .i64 pA.y.hi, .bool pA.y.all, .int .i64 pA.z.lo, .int .i64 pA.z.hi, .bool pA.z.all] from hd 2 (by decide) (by kernel_rfl)))
   have x55 : aa.tmps[55]? = some (.agg #[.int .i64 qA.x.lo, .int .i64 qA.x.hi, .bool qA.x.all, .int .i64 qA.y.lo, .int .i64 qA.y.hi, .bool qA.y.all, .int .i64 qA.z.lo, .int .i64 qA.z.hi, .bool qA.z.all]) := (hin 5 55 rfl).trans (congrArg some (show uu 5 = .agg #[.int .i64 qA.x.lo, .int .i64 qA.x.hi, .bool qA.x.all, .int .i64 qA.y.lo, .int .i64 qA.y.hi, .bool qA.y.all, .int .i64 qA.z.lo, .int .i64 qA.z.hi, .bool qA.z.all] from hd 5 (by decide) (by kernel_rfl)))
   clear hd hev hin
   simp only [List.getElem_cons_succ, List.getElem_cons_zero]
   clear hl
   refine .inr ⟨rfl, fun K' hK => ?_⟩
   have HK := Lib.hid hK
   clear hK
   go_simp
   refine (HAi.out ww).mono ?_
   rintro e W' ⟨rfl, hB⟩
   exact HK.out (.bool true) _ (hJ.later hB) rfl (veL_later hB)
  ·
   have x56 : aa.tmps[56]? = some (.bool true) := (hin 6 56 rfl).trans (congrArg some (show uu 6 = .bool true from hd 6 (by decide) (by kernel_rfl)))
   clear hd hev hin
   simp only [List.getElem_cons_succ, List.getElem_cons_zero]
   clear hl
   refine .inr ⟨rfl, fun K' hK => ?_⟩
   have HK := Lib.hid hK
   clear hK
   go_simp
   exact HK.out (.bool true) _ hJ rfl veL_same
 clear hM
 intro uu W11 hJm hd
 have e_0 : uu 0 = .agg #[.int .i64 v.x.lo, .int .i64 v.x.hi, .bool v.x.all, .int .i64 v.y.lo, .int .i64 v.y.hi, .bool v.y.all, .int .i64 v.z.lo, .int .i64 v.z.hi, .bool v.z.all] := hd 0 (by decide)
 have e_1 : uu 1 = .agg #[.int .i64 u.x.lo, .int .i64 u.x.hi, .bool u.x.all, .int .i64 u.y.lo, .int .i64 u.y.hi, .bool u.y.all, .int .i64 u.z.lo, .int .i64 u.z.hi, .bool u.z.all] := hd 1 (by decide)
 have e_2 : uu 2 = .agg #[.int .i64 pA.x.lo, .int .i64 pA.x.hi, .bool pA.x.all, .int .i64 pA.y.lo, .int .i64 pA.y.hi, .bool pA.y.all, .int .i64 pA.z.lo, .int .i64 pA.z.hi, .bool pA.z.all] := hd 2 (by decide)
 have e_3 : uu 3 = .agg #[.int .i64 x.x.lo, .int .i64 x.x.hi, .bool x.x.all, .int .i64 x.y.lo, .int .i64 x.y.hi, .bool x.y.all, .int .i64 x.z.lo, .int .i64 x.z.hi, .bool x.z.all] := hd 3 (by decide)
 have e_4 : uu 4 = .agg #[.int .i64 y.x.lo, .int .i64 y.x.hi, .bool y.x.all, .int .i64 y.y.lo, .int .i64 y.y.hi, .bool y.y.all, .int .i64 y.z.lo, .int .i64 y.z.hi, .bool y.z.all] := hd 4 (by decide)
 have e_5 : uu 5 = .agg #[.int .i64 qA.x.lo, .int .i64 qA.x.hi, .bool qA.x.all, .int .i64 qA.y.lo, .int .i64 qA.y.hi, .bool qA.y.all, .int .i64 qA.z.lo, .int .i64 qA.z.hi, .bool qA.z.all] := hd 5 (by decide)
 have e_6 : uu 6 = .bool true := hd 6 (by decide)
 have e_7 : uu 7 = .bool true := hd 7 (by decide)
 clear hd
 simp only [layS, Act.put, List.setIfInBounds_toArray, List.set_cons_succ, List.set_cons_zero, Nat.zero_add, Nat.reduceAdd, List.drop_succ_cons, List.drop_zero, List.drop_nil, e_0, e_1, e_2, e_3, e_4, e_5, e_6, e_7]
 clear e_0 e_1 e_2 e_3 e_4 e_5 e_6 e_7
 have hJ11 := hJm.es
 clear hJm
 go_wp2
 obtain ⟨m10_11, hm⟩ : ∃ m, m = W11.heap.size := ⟨_, rfl⟩
 have hM := hJ11.em
 rw [← hm] at hM
 clear hm hJ11
 refine wp_region_z 8 [some 57, some 58, some 59, some 60, some 61, some 62, some 63, some 16] (veL m10_11 [.eq (.agg #[.int .i64 v.x.lo, .int .i64 v.x.hi, .bool v.x.all, .int .i64 v.y.lo, .int .i64 v.y.hi, .bool v.y.all, .int .i64 v.z.lo, .int .i64 v.z.hi, .bool v.z.all]), .eq (.agg #[.int .i64 u.x.lo, .int .i64 u.x.hi, .bool u.x.all, .int .i64 u.y.lo, .int .i64 u.y.hi, .bool u.y.all, .int .i64 u.z.lo, .int .i64 u.z.hi, .bool u.z.all]), .eq (.agg #[.int .i64 pS.x.lo, .int .i64 pS.x.hi, .bool pS.x.all, .int .i64 pS.y.lo, .int .i64 pS.y.hi, .bool pS.y.all, .int .i64 pS.z.lo, .int .i64 pS.z.hi, .bool pS.z.all]), .eq (.agg #[.int .i64 x.x.lo, .int .i64 x.x.hi, .bool x.x.all, .int .i64 x.y.lo, .int .i64 x.y.hi, .bool x.y.all, .int .i64 x.z.lo, .int .i64 x.z.hi, .bool x.z.all]), .eq (.agg #[.int .i64 y.x.lo, .int .i64 y.x.hi, .bool y.x.all, .int .i64 y.y.lo, .int .i64 y.y.hi, .bool y.y.all, .int .i64 y.z.lo, .int .i64 y.z.hi, .bool y.z.all]), .eq (.agg #[.int .i64 qS.x.lo, .int .i64 qS.x.hi, .bool qS.x.all, .int .i64 qS.y.lo, .int .i64 qS.y.hi, .bool qS.y.all, .int .i64 qS.z.lo, .int .i64 qS.z.hi, .bool qS.z.all]), .eq (.bool true), .eq (.bool true)]) (Em w m10_11 [(b4, #[.int .i64 y.x.lo, .int .i64 y.x.hi, .bool y.x.all, .int .i64 y.y.lo, .int .i64 y.y.hi, .bool y.y.all, .int .i64 y.z.lo, .int .i64 y.z.hi, .bool y.z.all], 34), (b3, #[.int .i64 x.x.lo, .int .i64 x.x.hi, .bool x.x.all, .int .i64 x.y.lo, .int .i64 x.y.hi, .bool x.y.all, .int .i64 x.z.lo, .int .i64 x.z.hi, .bool x.z.all], 34), (b2, #[.int .i64 u.x.lo, .int .i64 u.x.hi, .bool u.x.all, .int .i64 u.y.lo, .int .i64 u.y.hi, .bool u.y.all, .int .i64 u.z.lo, .int .i64 u.z.hi, .bool u.z.all], 34), (b1, #[.int .i64 v.x.lo, .int .i64 v.x.hi, .bool v.x.all, .int .i64 v.y.lo, .int .i64 v.y.hi, .bool v.y.all, .int .i64 v.z.lo, .int .i64 v.z.hi, .bool v.z.all], 34)]) (by kernel_rfl) (by kernel_rfl) (by rfl) (by decide) (by rfl) hM ?_ ?_
 ·
  intro i hl hi uu ww aa hJ hd hev hin
  clear hM
  obtain rfl | rfl | rfl | rfl | rfl | rfl | rfl | rfl : i = 0 ∨ i = 1 ∨ i = 2 ∨ i = 3 ∨ i = 4 ∨ i = 5 ∨ i = 6 ∨ i = 7 := by omega
  ·
   have x4 : aa.tmps[4]? = some (.pointer (some ⟨b1, 0, none⟩)) := (hev 4 (by decide)).trans rfl
   clear hd hev hin
   simp only [List.getElem_cons_succ, List.getElem_cons_zero]
   clear hl
   refine .inr ⟨rfl, fun K' hK => ?_⟩
   have HK := Lib.hid hK
   clear hK
   have f0 : ww.cell? ⟨b1, 0, none⟩ = some (.int .i64 v.x.lo) := hJ.es.cell 3 rfl 0 rfl
   have f1 : ww.cell? ⟨b1, 1, none⟩ = some (.int .i64 v.x.hi) := hJ.es.cell 3 rfl 1 rfl
   have f2 : ww.cell? ⟨b1, 2, none⟩ = some (.bool v.x.all) := hJ.es.cell 3 rfl 2 rfl
   have f3 : ww.cell? ⟨b1, 3, none⟩ = some (.int .i64 v.y.lo) := hJ.es.cell 3 rfl 3 rfl
   have f4 : ww.cell? ⟨b1, 4, none⟩ = some (.int .i64 v.y.hi) := hJ.es.cell 3 rfl 4 rfl
   have f5 : ww.cell? ⟨b1, 5, none⟩ = some (.bool v.y.all) := hJ.es.cell 3 rfl 5 rfl
   have f6 : ww.cell? ⟨b1, 6, none⟩ = some (.int .i64 v.z.lo) := hJ.es.cell 3 rfl 6 rfl
   have f7 : ww.cell? ⟨b1, 7, none⟩ = some (.int .i64 v.z.hi) := hJ.es.cell 3 rfl 7 rfl
   have f8 : ww.cell? ⟨b1, 8, none⟩ = some (.bool v.z.all) := hJ.es.cell 3 rfl 8 rfl
   go_simp
   exact HK.out (.agg #[.int .i64 v.x.lo, .int .i64 v.x.hi, .bool v.x.all, .int .i64 v.y.lo, .int .i64 v.y.hi, .bool v.y.all, .int .i64 v.z.lo, .int .i64 v.z.hi, .bool v.z.all]) _ hJ rfl veL_same
  ·
   have x5 : aa.tmps[5]? = some (.pointer (some ⟨b2, 0, none⟩)) := (hev 5 (by decide)).trans rfl
   clear hd hev hin
   simp only [List.getElem_cons_succ, List.getElem_cons_zero]
   clear hl
   refine .inr ⟨rfl, fun K' hK => ?_⟩
   have HK := Lib.hid hK
   clear hK
   have f0 : ww.cell? ⟨b2, 0, none⟩ = some (.int .i64 u.x.lo) := hJ.es.cell 2 rfl 0 rfl
   have f1 : ww.cell? ⟨b2, 1, none⟩ = some (.int .i64 u.x.hi) := hJ.es.cell 2 rfl 1 rfl
   have f2 : ww.cell? ⟨b2, 2, none⟩ = some (.bool u.x.all) := hJ.es.cell 2 rfl 2 rfl
   have f3 : ww.cell? ⟨b2, 3, none⟩ = some (.int .i64 u.y.lo) := hJ.es.cell 2 rfl 3 rfl
   have f4 : ww.cell? ⟨b2, 4, none⟩ = some (.int .i64 u.y.hi) := hJ.es.cell 2 rfl 4 rfl
   have f5 : ww.cell? ⟨b2, 5, none⟩ = some (.bool u.y.all) := hJ.es.cell 2 rfl 5 rfl
   have f6 : ww.cell? ⟨b2, 6, none⟩ = some (.int .i64 u.z.lo) := hJ.es.cell 2 rfl 6 rfl
   have f7 : ww.cell? ⟨b2, 7, none⟩ = some (.int .i64 u.z.hi) := hJ.es.cell 2 rfl 7 rfl
   have f8 : ww.cell? ⟨b2, 8, none⟩ = some (.bool u.z.all) := hJ.es.cell 2 rfl 8 rfl
   go_simp
   exact HK.out (.agg #[.int .i64 u.x.lo, .int .i64 u.x.hi, .bool u.x.all, .int .i64 u.y.lo, .int .i64 u.y.hi, .bool u.y.all, .int .i64 u.z.lo, .int .i64 u.z.hi, .bool u.z.all]) _ hJ rfl veL_same
  ·
   have x57 : aa.tmps[57]? = some (.agg #[.int .i64 v.x.lo, .int .i64 v.x.hi, .bool v.x.all, .int .i64 v.y.lo, .int .i64 v.y.hi, .bool v.y.all, .int .i64 v.z.lo, .int .i64 v.z.hi, .bool v.z.all]) := (hin 0 57 rfl).trans (congrArg some (show uu 0 = .agg #[.int .i64 v.x.lo, .int .i64 v.x.hi, .bool v.x.all, .int .i64 v.y.lo, .int .i64 v.y.hi, .bool v.y.all, .int .i64 v.z.lo, .int .i64 v.z.hi, .bool v.z.all] from hd 0 (by decide) (by kernel_rfl)))
   have x58 : aa.tmps[58]? = some (.agg #[.int .i64 u.x.lo, .int .i64 u.x.hi, .bool u.x.all, .int .i64 u.y.lo, .int .i64 u.y.hi, .bool u.y.all, .int .i64 u.z.lo, .int .i64 u.z.hi, .bool u.z.all]) := (hin 1 58 rfl).trans (congrArg some (show uu 1 = .agg #[.int .i64 u.x.lo, .int .i64 u.x.hi, .bool u.x.all, .int .i64 u.y.lo, .int .i64 u.y.hi, .bool u.y.all, .int .i64 u.z.lo, .int .i64 u.z.hi, .bool u.z.all] from hd 1 (by decide) (by kernel_rfl)))
   clear hd hev hin
   simp only [List.getElem_cons_succ, List.getElem_cons_zero]
   clear hl
   refine .inr ⟨rfl, fun K' hK => ?_⟩
   have HK := Lib.hid hK
   clear hK
   go_simp
   refine (HS1.out ww).mono ?_
   rintro e W' ⟨rfl, hB⟩
   exact HK.out (.agg #[.int .i64 pS.x.lo, .int .i64 pS.x.hi, .bool pS.x.all, .int .i64 pS.y.lo, .int .i64 pS.y.hi, .bool pS.y.all, .int .i64 pS.z.lo, .int .i64 pS.z.hi, .bool pS.z.all]) _ (hJ.later hB) rfl (veL_later hB)
  ·
   have x6 : aa.tmps[6]? = some (.pointer (some ⟨b3, 0, none⟩)) := (hev 6 (by decide)).trans rfl
   clear hd hev hin
   simp only [List.getElem_cons_succ, List.getElem_cons_zero]
   clear hl
   refine .inr ⟨rfl, fun K' hK => ?_⟩
   have HK := Lib.hid hK
   clear hK
   have f0 : ww.cell? ⟨b3, 0, none⟩ = some (.int .i64 x.x.lo) := hJ.es.cell 1 rfl 0 rfl
   have f1 : ww.cell? ⟨b3, 1, none⟩ = some (.int .i64 x.x.hi) := hJ.es.cell 1 rfl 1 rfl
   have f2 : ww.cell? ⟨b3, 2, none⟩ = some (.bool x.x.all) := hJ.es.cell 1 rfl 2 rfl
   have f3 : ww.cell? ⟨b3, 3, none⟩ = some (.int .i64 x.y.lo) := hJ.es.cell 1 rfl 3 rfl
   have f4 : ww.cell? ⟨b3, 4, none⟩ = some (.int .i64 x.y.hi) := hJ.es.cell 1 rfl 4 rfl
   have f5 : ww.cell? ⟨b3, 5, none⟩ = some (.bool x.y.all) := hJ.es.cell 1 rfl 5 rfl
   have f6 : ww.cell? ⟨b3, 6, none⟩ = some (.int .i64 x.z.lo) := hJ.es.cell 1 rfl 6 rfl
   have f7 : ww.cell? ⟨b3, 7, none⟩ = some (.int .i64 x.z.hi) := hJ.es.cell 1 rfl 7 rfl
   have f8 : ww.cell? ⟨b3, 8, none⟩ = some (.bool x.z.all) := hJ.es.cell 1 rfl 8 rfl
   go_simp
   exact HK.out (.agg #[.int .i64 x.x.lo, .int .i64 x.x.hi, .bool x.x.all, .int .i64 x.y.lo, .int .i64 x.y.hi, .bool x.y.all, .int .i64 x.z.lo, .int .i64 x.z.hi, .bool x.z.all]) _ hJ rfl veL_same
  ·
   have x7 : aa.tmps[7]? = some (.pointer (some ⟨b4, 0, none⟩)) := (hev 7 (by decide)).trans rfl
   clear hd hev hin
   simp only [List.getElem_cons_succ, List.getElem_cons_zero]
   clear hl
   refine .inr ⟨rfl, fun K' hK => ?_⟩
   have HK := Lib.hid hK
   clear hK
   have f0 : ww.cell? ⟨b4, 0, none⟩ = some (.int .i64 y.x.lo) := hJ.es.cell 0 rfl 0 rfl
   have f1 : ww.cell? ⟨b4, 1, none⟩ = some (.int .i64 y.x.hi) := hJ.es.cell 0 rfl 1 rfl
   have f2 : ww.cell? ⟨b4, 2, none⟩ = some (.bool y.x.all) := hJ.es.cell 0 rfl 2 rfl
   have f3 : ww.cell? ⟨b4, 3, none⟩ = some (.int .i64 y.y.lo) := hJ.es.cell 0 rfl 3 rfl
   have f4 : ww.cell? ⟨b4, 4, none⟩ = some (.int .i64 y.y.hi) := hJ.es.cell 0 rfl 4 rfl
   have f5 : ww.cell? ⟨b4, 5, none⟩ = some (.bool y.y.all) := hJ.es.cell 0 rfl 5 rfl
   have f6 : ww.cell? ⟨b4, 6, none⟩ = some (.int .i64 y.z.lo) := hJ.es.cell 0 rfl 6 rfl
   have f7 : ww.cell? ⟨b4, 7, none⟩ = some (.int .i64 y.z.hi) := hJ.es.cell 0 rfl 7 rfl
   have f8 : ww.cell? ⟨b4, 8, none⟩ = some (.bool y.z.all) := hJ.es.cell 0 rfl 8 rfl
   go_simp
   exact HK.out (.agg #[.int .i64 y.x.lo, .int .i64 y.x.hi, .bool y.x.all, .int .i64 y.y.lo, .int .i64 y.y.hi, .bool y.y.all, .int .i64 y.z.lo, .int .i64 y.z.hi, .bool y.z.all]) _ hJ rfl veL_same
  ·
   have x60 : aa.tmps[60]? = some (.agg #[.int .i64 x.x.lo, .int .i64 x.x.hi, .bool x.x.all, .int .i64 x.y.lo, .int .i64 x.y.hi, .bool x.y.all, .int .i64 x.z.lo, .int .i64 x.z.hi, .bool x.z.all]) := (hin 3 60 rfl).trans (congrArg some (show uu 3 = .agg #[.int .i64 x.x.lo, .int .i64 x.x.hi, .bool x.x.all, .int .i64 x.y.lo, .int .i64 x.y.hi, .bool x.y.all, .int .i64 x.z.lo, .int .i64 x.z.hi, .bool x.z.all] from hd 3 (by decide) (by kernel_rfl)))
   have x61 : aa.tmps[61]? = some (.agg #[.int .i64 y.x.lo, .int .i64 y.x.hi, .bool y.x.all, .int .i64 y.y.lo, .int .i64 y.y.hi, .bool y.y.all, .int .i64 y.z.lo, .int .i64 y.z.hi, .bool y.z.all]) := (hin 4 61 rfl).trans (congrArg some (show uu 4 = .agg #[.int .i64 y.x.lo, .int .i64 y.x.hi, .bool y.x.all, .int .i64 y.y.lo, .int .i64 y.y.hi, .bool y.y.all, .int .i64 y.z.lo, .int .i64 y.z.hi, .bool y.z.all] from hd 4 (by decide) (by kernel_rfl)))
   clear hd hev hin
   simp only [List.getElem_cons_succ, List.getElem_cons_zero]
   clear hl
   refine .inr ⟨rfl, fun K' hK => ?_⟩
   have HK := Lib.hid hK
   clear hK
   go_simp
   refine (HS2.out ww).mono ?_
   rintro e W' ⟨rfl, hB⟩
   exact HK.out (.agg #[.int .i64 qS.x.lo, .int .i64 qS.x.hi, .bool qS.x.all, .int .i64 qS.y.lo, .int .i64 qS.y.hi, .bool qS.y.all, .int .i64 qS.z.lo, .int .i64 qS.z.hi, .bool qS.z.all]) _ (hJ.later hB) rfl (veL_later hB)
  ·
   have x59 : aa.tmps[59]? = some (.agg #[.int .i64 pS.x.lo, .int .i64 pS.x.hi, .bool pS.x.all, .int .i64 pS.y.lo, .int .i64 pS.y.hi, .bool pS.y.all, .int .i64 pS.z.lo, .int .i64 pS.z.hi, .bool pS.z.all]) := (hin 2 59 rfl).trans (congrArg some (show uu 2 = .agg #[.int .i64 pS.x.lo, .int .i64 pS.x.hi, .bool pS.x.all, .int .i64 pS.y.lo, .int .i64 pS.y.hi, .bool pS.y.all, .int .i64 pS.z.lo, .int .i64 pS.z.hi, .bool pS.z.all] from hd 2 (by decide) (by kernel_rfl)))
   have x62 : aa.tmps[62]? = some (.agg #[.int .i64 qS.x.lo, .int .i64 qS.x.hi, .bool qS.x.all, .int .i64 qS.y.lo, .int .i64 qS.y.hi, .bool qS.y.all, .int .i64 qS.z.lo, .int .i64 qS.z.hi, .bool qS.z.all]) := (hin 5 62 rfl).trans (congrArg some (show uu 5 = .agg #[.int .i64 qS.x.lo, .int .i64 qS.x.hi, .bool qS.x.all, .int .i64 qS.y.lo, .int .i64 qS.y.hi, .bool qS.y.all, .int .i64 qS.z.lo, .int .i64 qS.z.hi, .bool qS.z.all] from hd 5 (by decide) (by kernel_rfl)))
   clear hd hev hin
   simp only [List.getElem_cons_succ, List.getElem_cons_zero]
   clear hl
   refine .inr ⟨rfl, fun K' hK => ?_⟩
   have HK := Lib.hid hK
   clear hK
   go_simp
   refine (HSi.out ww).mono ?_
   rintro e W' ⟨rfl, hB⟩
   exact HK.out (.bool true) _ (hJ.later hB) rfl (veL_later hB)
  ·
   have x63 : aa.tmps[63]? = some (.bool true) := (hin 6 63 rfl).trans (congrArg some (show uu 6 = .bool true from hd 6 (by decide) (by kernel_rfl)))
   clear hd hev hin
   simp only [List.getElem_cons_succ, List.getElem_cons_zero]
   clear hl
   refine .inr ⟨rfl, fun K' hK => ?_⟩
   have HK := Lib.hid hK
   clear hK
   go_simp
   exact HK.out (.bool true) _ hJ rfl veL_same
 clear hM
 intro uu W12 hJm hd
 have e_0 : uu 0 = .agg #[.int .i64 v.x.lo, .int .i64 v.x.hi, .bool v.x.all, .int .i64 v.y.lo, .int .i64 v.y.hi, .bool v.y.all, .int .i64 v.z.lo, .int .i64 v.z.hi, .bool v.z.all] := hd 0 (by decide)
 have e_1 : uu 1 = .agg #[.int .i64 u.x.lo, .int .i64 u.x.hi, .bool u.x.all, .int .i64 u.y.lo, .int .i64 u.y.hi, .bool u.y.all, .int .i64 u.z.lo, .int .i64 u.z.hi, .bool u.z.all] := hd 1 (by decide)
 have e_2 : uu 2 = .agg #[.int .i64 pS.x.lo, .int .i64 pS.x.hi, .bool pS.x.all, .int .i64 pS.y.lo, .int .i64 pS.y.hi, .bool pS.y.all, .int .i64 pS.z.lo, .int .i64 pS.z.hi, .bool pS.z.all] := hd 2 (by decide)
 have e_3 : uu 3 = .agg #[.int .i64 x.x.lo, .int .i64 x.x.hi, .bool x.x.all, .int .i64 x.y.lo, .int .i64 x.y.hi, .bool x.y.all, .int .i64 x.z.lo, .int .i64 x.z.hi, .bool x.z.all] := hd 3 (by decide)
 have e_4 : uu 4 = .agg #[.int .i64 y.x.lo, .int .i64 y.x.hi, .bool y.x.all, .int .i64 y.y.lo, .int .i64 y.y.hi, .bool y.y.all, .int .i64 y.z.lo, .int .i64 y.z.hi, .bool y.z.all] := hd 4 (by decide)
 have e_5 : uu 5 = .agg #[.int .i64 qS.x.lo, .int .i64 qS.x.hi, .bool qS.x.all, .int .i64 qS.y.lo, .int .i64 qS.y.hi, .bool qS.y.all, .int .i64 qS.z.lo, .int .i64 qS.z.hi, .bool qS.z.all] := hd 5 (by decide)
 have e_6 : uu 6 = .bool true := hd 6 (by decide)
 have e_7 : uu 7 = .bool true := hd 7 (by decide)
 clear hd
 simp only [layS, Act.put, List.setIfInBounds_toArray, List.set_cons_succ, List.set_cons_zero, Nat.zero_add, Nat.reduceAdd, List.drop_succ_cons, List.drop_zero, List.drop_nil, e_0, e_1, e_2, e_3, e_4, e_5, e_6, e_7]
 clear e_0 e_1 e_2 e_3 e_4 e_5 e_6 e_7
 have hJ12 := hJm.es
 clear hJm
 go_wp2
 go_ret
 exact ⟨rfl, hJ12.below⟩
theorem VecNarrow_any (v u x y : Vc) (w : World) : Calls Try.prog 11 #[.agg #[.int .i64 v.x.lo, .int .i64 v.x.hi, .bool v.x.all, .int .i64 v.y.lo, .int .i64 v.y.hi, .bool v.y.all, .int .i64 v.z.lo, .int .i64 v.z.hi, .bool v.z.all], .agg #[.int .i64 u.x.lo, .int .i64 u.x.hi, .bool u.x.all, .int .i64 u.y.lo, .int .i64 u.y.hi, .bool u.y.all, .int .i64 u.z.lo, .int .i64 u.z.hi, .bool u.z.all], .agg #[.int .i64 x.x.lo, .int .i64 x.x.hi, .bool x.x.all, .int .i64 x.y.lo, .int .i64 x.y.hi, .bool x.y.all, .int .i64 x.z.lo, .int .i64 x.z.hi, .bool x.z.all], .agg #[.int .i64 y.x.lo, .int .i64 y.x.hi, .bool y.x.all, .int .i64 y.y.lo, .int .i64 y.y.hi, .bool y.y.all, .int .i64 y.z.lo, .int .i64 y.z.hi, .bool y.z.all]] w (PVal (.bool true) w) := by
 have hp := vIn_any v x
 have hq := vIn_any u y
 cases e1 : inV v x
 ·
  rw [e1] at hp
  exact Narrow_f v u x y _ vawake_any hp hq w
 cases e2 : inV u y
 ·
  rw [e1] at hp
  rw [e2] at hq
  exact Narrow_tf v u x y vawake_any hp hq w
 rw [e1] at hp
 rw [e2] at hq
 have h1 := In_any (dotV v u) (dotV x y)
 rw [narrow_dot e1 e2] at h1
 have h2 := vIn_any (crossV v u) (crossV x y)
 rw [narrow_cross e1 e2] at h2
 have h3 := vIn_any (addV v u) (addV x y)
 rw [narrow_add e1 e2] at h3
 have h4 := vIn_any (subV v u) (subV x y)
 rw [narrow_sub e1 e2] at h4
 have h5 := In_any (normV v) (normV x)
 rw [narrow_norm e1] at h5
 exact Narrow_tt v u x y _ _ _ _ _ _ _ _ _ _ vawake_any hp hq (vDot_any v u) (vDot_any x y) h1 (vCross_any v u) (vCross_any x y) h2 (vAdd_any v u) (vAdd_any x y) h3 (vSub_any v u) (vSub_any x y) h4 (vNorm_any v) (vNorm_any x) h5 w
end Go.Proofs.Ytpahkpcoinbgcaa
