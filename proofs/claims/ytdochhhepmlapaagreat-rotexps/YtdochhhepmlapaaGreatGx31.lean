/- Parts of the proof. -/
import Derived.Test.YtdochhhepmlapaaGreatGx30
import Derived.LoopN
/- Package vec: the walks of both, each, sum, from. No statement of the seat is proved here. -/
namespace Go.Proofs.YtdochhhepmlapaaGreat
open Go Go.RowKit
attribute [local go_sem] run_vix0 run_vix1 run_vix2
attribute [local go_sem ↓] run_vbuild run_dbuild
set_option maxRecDepth 100000 in
set_option maxHeartbeats 12800000 in
theorem each_s (k : FuncId) (v r : Vc) (hH0 : ∀ W : World, Calls Tryz.prog k #[.agg #[.int .i64 v.x.lo, .int .i64 v.x.hi, .bool v.x.all]] W (PVal (.agg #[.int .i64 r.x.lo, .int .i64 r.x.hi, .bool r.x.all]) W)) (hH1 : ∀ W : World, Calls Tryz.prog k #[.agg #[.int .i64 v.y.lo, .int .i64 v.y.hi, .bool v.y.all]] W (PVal (.agg #[.int .i64 r.y.lo, .int .i64 r.y.hi, .bool r.y.all]) W)) (hH2 : ∀ W : World, Calls Tryz.prog k #[.agg #[.int .i64 v.z.lo, .int .i64 v.z.hi, .bool v.z.all]] W (PVal (.agg #[.int .i64 r.z.lo, .int .i64 r.z.hi, .bool r.z.all]) W)) (hk : ∀ (args : Array Value) (W : World), (callFunc k args).run Tryz.prog W = .ok (.enter k args) W) (w : World) : Calls Tryz.prog 59 #[.agg #[.int .i64 v.x.lo, .int .i64 v.x.hi, .bool v.x.all, .int .i64 v.y.lo, .int .i64 v.y.hi, .bool v.y.all, .int .i64 v.z.lo, .int .i64 v.z.hi, .bool v.z.all], .func (.func k) #[] #[]] w (PVal (.agg #[.int .i64 r.x.lo, .int .i64 r.x.hi, .bool r.x.all, .int .i64 r.y.lo, .int .i64 r.y.hi, .bool r.y.all, .int .i64 r.z.lo, .int .i64 r.z.hi, .bool r.z.all]) w) := by
 have H0 := Lib.hid hH0
 have H1 := Lib.hid hH1
 have H2 := Lib.hid hH2
 clear hH0 hH1 hH2
 have hJ0 := es_nil w
 go_enter Tryz.func59, Tryz.ntmps59
 go_wp2_with (refine stop_box 25 (.tmp 0) #[.int .i64 v.x.lo, .int .i64 v.x.hi, .bool v.x.all, .int .i64 v.y.lo, .int .i64 v.y.hi, .bool v.y.all, .int .i64 v.z.lo, .int .i64 v.z.hi, .bool v.z.all] rfl rfl rfl hJ0 (fun b1 W1 hJ1 => ?_))
 clear hJ0
 unfold Stop
 try simp only [Act.put, List.setIfInBounds_toArray, List.set_cons_succ, List.set_cons_zero]
 go_wp2_with (refine stop_alloc 24 #[.int .i64 0, .int .i64 0, .bool false, .int .i64 0, .int .i64 0, .bool false, .int .i64 0, .int .i64 0, .bool false] (.agg #[.int .i64 0, .int .i64 0, .bool false, .int .i64 0, .int .i64 0, .bool false, .int .i64 0, .int .i64 0, .bool false]) rfl rfl zv24 rfl hJ1 (fun b2 W2 hJ2 => ?_))
 clear hJ1
 unfold Stop
 try simp only [Act.put, List.setIfInBounds_toArray, List.set_cons_succ, List.set_cons_zero]
 go_wp2_with (refine stop_alloc 24 #[.int .i64 0, .int .i64 0, .bool false, .int .i64 0, .int .i64 0, .bool false, .int .i64 0, .int .i64 0, .bool false] (.agg #[.int .i64 0, .int .i64 0, .bool false, .int .i64 0, .int .i64 0, .bool false, .int .i64 0, .int .i64 0, .bool false]) rfl rfl zv24 rfl hJ2 (fun b3 W3 hJ3 => ?_))
 clear hJ2
 unfold Stop
 try simp only [Act.put, List.setIfInBounds_toArray, List.set_cons_succ, List.set_cons_zero]
 have f0 : W3.cell? ⟨b1, 0, none⟩ = some (.int .i64 v.x.lo) := hJ3.cell 2 rfl 0 rfl
 have f1 : W3.cell? ⟨b1, 1, none⟩ = some (.int .i64 v.x.hi) := hJ3.cell 2 rfl 1 rfl
 have f2 : W3.cell? ⟨b1, 2, none⟩ = some (.bool v.x.all) := hJ3.cell 2 rfl 2 rfl
 have f3 : W3.cell? ⟨b1, 3, none⟩ = some (.int .i64 v.y.lo) := hJ3.cell 2 rfl 3 rfl
 have f4 : W3.cell? ⟨b1, 4, none⟩ = some (.int .i64 v.y.hi) := hJ3.cell 2 rfl 4 rfl
 have f5 : W3.cell? ⟨b1, 5, none⟩ = some (.bool v.y.all) := hJ3.cell 2 rfl 5 rfl
 have f6 : W3.cell? ⟨b1, 6, none⟩ = some (.int .i64 v.z.lo) := hJ3.cell 2 rfl 6 rfl
 have f7 : W3.cell? ⟨b1, 7, none⟩ = some (.int .i64 v.z.hi) := hJ3.cell 2 rfl 7 rfl
 have f8 : W3.cell? ⟨b1, 8, none⟩ = some (.bool v.z.all) := hJ3.cell 2 rfl 8 rfl
 go_wp2
 clear f0 f1 f2 f3 f4 f5 f6 f7 f8
 refine wp_loop_rounds 4 ?_
 rw [rounds_succ]
 go_wp2_with (refine stop_alloc 23 #[.int .i64 0, .int .i64 0, .bool false] (.agg #[.int .i64 0, .int .i64 0, .bool false]) rfl rfl zv23 rfl hJ3 (fun b4 W4 hJ4 => ?_))
 clear hJ3
 unfold Stop
 try simp only [Act.put, List.setIfInBounds_toArray, List.set_cons_succ, List.set_cons_zero]
 go_wp2_with (refine stop_store 23 (.tmp 7) (.tmp 12) 0 b4 0 #[.int .i64 0, .int .i64 0, .bool false] 23 3 [.int .i64 v.x.lo, .int .i64 v.x.hi, .bool v.x.all] #[.int .i64 v.x.lo, .int .i64 v.x.hi, .bool v.x.all] [(b4, #[.int .i64 v.x.lo, .int .i64 v.x.hi, .bool v.x.all], 23), (b3, #[.int .i64 0, .int .i64 0, .bool false, .int .i64 0, .int .i64 0, .bool false, .int .i64 0, .int .i64 0, .bool false], 24), (b2, #[.int .i64 0, .int .i64 0, .bool false, .int .i64 0, .int .i64 0, .bool false, .int .i64 0, .int .i64 0, .bool false], 24), (b1, #[.int .i64 v.x.lo, .int .i64 v.x.hi, .bool v.x.all, .int .i64 v.y.lo, .int .i64 v.y.hi, .bool v.y.all, .int .i64 v.z.lo, .int .i64 v.z.hi, .bool v.z.all], 25)] rfl rfl rfl rfl sz23 hJ4 rfl rfl (Nat.le_of_ble_eq_true (by kernel_rfl)) (by kernel_rfl) (by kernel_rfl) (by kernel_rfl) (fun W5 hJ5 => ?_))
 clear hJ4
 unfold Stop
 try simp only [Act.put, List.setIfInBounds_toArray, List.set_cons_succ, List.set_cons_zero]
 have f0 : W5.cell? ⟨b4, 0, none⟩ = some (.int .i64 v.x.lo) := hJ5.cell 0 rfl 0 rfl
 have f1 : W5.cell? ⟨b4, 1, none⟩ = some (.int .i64 v.x.hi) := hJ5.cell 0 rfl 1 rfl
 have f2 : W5.cell? ⟨b4, 2, none⟩ = some (.bool v.x.all) := hJ5.cell 0 rfl 2 rfl
 go_wp2_with fail
 refine (H0.out _).mono ?_
 rintro e W6 ⟨rfl, hB⟩
 have hJ6 := hJ5.later hB
 clear hB
 clear f0 f1 f2
 clear hJ5
 go_wp2_with (refine stop_store 23 (.tmp 17) (.tmp 16) 1 b3 0 #[.int .i64 0, .int .i64 0, .bool false, .int .i64 0, .int .i64 0, .bool false, .int .i64 0, .int .i64 0, .bool false] 24 3 [.int .i64 r.x.lo, .int .i64 r.x.hi, .bool r.x.all] #[.int .i64 r.x.lo, .int .i64 r.x.hi, .bool r.x.all, .int .i64 0, .int .i64 0, .bool false, .int .i64 0, .int .i64 0, .bool false] [(b4, #[.int .i64 v.x.lo, .int .i64 v.x.hi, .bool v.x.all], 23), (b3, #[.int .i64 r.x.lo, .int .i64 r.x.hi, .bool r.x.all, .int .i64 0, .int .i64 0, .bool false, .int .i64 0, .int .i64 0, .bool false], 24), (b2, #[.int .i64 0, .int .i64 0, .bool false, .int .i64 0, .int .i64 0, .bool false, .int .i64 0, .int .i64 0, .bool false], 24), (b1, #[.int .i64 v.x.lo, .int .i64 v.x.hi, .bool v.x.all, .int .i64 v.y.lo, .int .i64 v.y.hi, .bool v.y.all, .int .i64 v.z.lo, .int .i64 v.z.hi, .bool v.z.all], 25)] rfl rfl rfl rfl sz23 hJ6 rfl rfl (Nat.le_of_ble_eq_true (by kernel_rfl)) (by kernel_rfl) (by kernel_rfl) (by kernel_rfl) (fun W7 hJ7 => ?_))
 clear hJ6
 unfold Stop
 try simp only [Act.put, List.setIfInBounds_toArray, List.set_cons_succ, List.set_cons_zero]
 go_wp2
 rw [rounds_succ]
 go_wp2_with (refine stop_alloc 23 #[.int .i64 0, .int .i64 0, .bool false] (.agg #[.int .i64 0, .int .i64 0, .bool false]) rfl rfl zv23 rfl hJ7 (fun b5 W8 hJ8 => ?_))
 clear hJ7
 unfold Stop
 try simp only [Act.put, List.setIfInBounds_toArray, List.set_cons_succ, List.set_cons_zero]
 go_wp2_with (refine stop_store 23 (.tmp 7) (.tmp 12) 0 b5 0 #[.int .i64 0, .int .i64 0, .bool false] 23 3 [.int .i64 v.y.lo, .int .i64 v.y.hi, .bool v.y.all] #[.int .i64 v.y.lo, .int .i64 v.y.hi, .bool v.y.all] [(b5, #[.int .i64 v.y.lo, .int .i64 v.y.hi, .bool v.y.all], 23), (b4, #[.int .i64 v.x.lo, .int .i64 v.x.hi, .bool v.x.all], 23), (b3, #[.int .i64 r.x.lo, .int .i64 r.x.hi, .bool r.x.all, .int .i64 0, .int .i64 0, .bool false, .int .i64 0, .int .i64 0, .bool false], 24), (b2, #[.int .i64 0, .int .i64 0, .bool false, .int .i64 0, .int .i64 0, .bool false, .int .i64 0, .int .i64 0, .bool false], 24), (b1, #[.int .i64 v.x.lo, .int .i64 v.x.hi, .bool v.x.all, .int .i64 v.y.lo, .int .i64 v.y.hi, .bool v.y.all, .int .i64 v.z.lo, .int .i64 v.z.hi, .bool v.z.all], 25)] rfl rfl rfl rfl sz23 hJ8 rfl rfl (Nat.le_of_ble_eq_true (by kernel_rfl)) (by kernel_rfl) (by kernel_rfl) (by kernel_rfl) (fun W9 hJ9 => ?_))
 clear hJ8
 unfold Stop
 try simp only [Act.put, List.setIfInBounds_toArray, List.set_cons_succ, List.set_cons_zero]
 have f0 : W9.cell? ⟨b5, 0, none⟩ = some (.int .i64 v.y.lo) := hJ9.cell 0 rfl 0 rfl
 have f1 : W9.cell? ⟨b5, 1, none⟩ = some (.int .i64 v.y.hi) := hJ9.cell 0 rfl 1 rfl
 have f2 : W9.cell? ⟨b5, 2, none⟩ = some (.bool v.y.all) := hJ9.cell 0 rfl 2 rfl
 go_wp2_with fail
 refine (H1.out _).mono ?_
 rintro e W10 ⟨rfl, hB⟩
 have hJ10 := hJ9.later hB
 clear hB
 clear f0 f1 f2
 clear hJ9
 go_wp2_with (refine stop_store 23 (.tmp 17) (.tmp 16) 2 b3 3 #[.int .i64 r.x.lo, .int .i64 r.x.hi, .bool r.x.all, .int .i64 0, .int .i64 0, .bool false, .int .i64 0, .int .i64 0, .bool false] 24 3 [.int .i64 r.y.lo, .int .i64 r.y.hi, .bool r.y.all] #[.int .i64 r.x.lo, .int .i64 r.x.hi, .bool r.x.all, .int .i64 r.y.lo, .int .i64 r.y.hi, .bool r.y.all, .int .i64 0, .int .i64 0, .bool false] [(b5, #[.int .i64 v.y.lo, .int .i64 v.y.hi, .bool v.y.all], 23), (b4, #[.int .i64 v.x.lo, .int .i64 v.x.hi, .bool v.x.all], 23), (b3, #[.int .i64 r.x.lo, .int .i64 r.x.hi, .bool r.x.all, .int .i64 r.y.lo, .int .i64 r.y.hi, .bool r.y.all, .int .i64 0, .int .i64 0, .bool false], 24), (b2, #[.int .i64 0, .int .i64 0, .bool false, .int .i64 0, .int .i64 0, .bool false, .int .i64 0, .int .i64 0, .bool false], 24), (b1, #[.int .i64 v.x.lo, .int .i64 v.x.hi, .bool v.x.all, .int .i64 v.y.lo, .int .i64 v.y.hi, .bool v.y.all, .int .i64 v.z.lo, .int .i64 v.z.hi, .bool v.z.all], 25)] rfl rfl rfl rfl sz23 hJ10 rfl rfl (Nat.le_of_ble_eq_true (by kernel_rfl)) (by kernel_rfl) (by kernel_rfl) (by kernel_rfl) (fun W11 hJ11 => ?_))
 clear hJ10
 unfold Stop
 try simp only [Act.put, List.setIfInBounds_toArray, List.set_cons_succ, List.set_cons_zero]
 go_wp2
 rw [rounds_succ]
 go_wp2_with (refine stop_alloc 23 #[.int .i64 0, .int .i64 0, .bool false] (.agg #[.int .i64 0, .int .i64 0, .bool false]) rfl rfl zv23 rfl hJ11 (fun b6 W12 hJ12 => ?_))
 clear hJ11
 unfold Stop
 try simp only [Act.put, List.setIfInBounds_toArray, List.set_cons_succ, List.set_cons_zero]
 go_wp2_with (refine stop_store 23 (.tmp 7) (.tmp 12) 0 b6 0 #[.int .i64 0, .int .i64 0, .bool false] 23 3 [.int .i64 v.z.lo, .int .i64 v.z.hi, .bool v.z.all] #[.int .i64 v.z.lo, .int .i64 v.z.hi, .bool v.z.all] [(b6, #[.int .i64 v.z.lo, .int .i64 v.z.hi, .bool v.z.all], 23), (b5, #[.int .i64 v.y.lo, .int .i64 v.y.hi, .bool v.y.all], 23), (b4, #[.int .i64 v.x.lo, .int .i64 v.x.hi, .bool v.x.all], 23), (b3, #[.int .i64 r.x.lo, .int .i64 r.x.hi, .bool r.x.all, .int .i64 r.y.lo, .int .i64 r.y.hi, .bool r.y.all, .int .i64 0, .int .i64 0, .bool false], 24), (b2, #[.int .i64 0, .int .i64 0, .bool false, .int .i64 0, .int .i64 0, .bool false, .int .i64 0, .int .i64 0, .bool false], 24), (b1, #[.int .i64 v.x.lo, .int .i64 v.x.hi, .bool v.x.all, .int .i64 v.y.lo, .int .i64 v.y.hi, .bool v.y.all, .int .i64 v.z.lo, .int .i64 v.z.hi, .bool v.z.all], 25)] rfl rfl rfl rfl sz23 hJ12 rfl rfl (Nat.le_of_ble_eq_true (by kernel_rfl)) (by kernel_rfl) (by kernel_rfl) (by kernel_rfl) (fun W13 hJ13 => ?_))
 clear hJ12
 unfold Stop
 try simp only [Act.put, List.setIfInBounds_toArray, List.set_cons_succ, List.set_cons_zero]
 have f0 : W13.cell? ⟨b6, 0, none⟩ = some (.int .i64 v.z.lo) := hJ13.cell 0 rfl 0 rfl
 have f1 : W13.cell? ⟨b6, 1, none⟩ = some (.int .i64 v.z.hi) := hJ13.cell 0 rfl 1 rfl
 have f2 : W13.cell? ⟨b6, 2, none⟩ = some (.bool v.z.all) := hJ13.cell 0 rfl 2 rfl
 go_wp2_with fail
 refine (H2.out _).mono ?_
 rintro e W14 ⟨rfl, hB⟩
 have hJ14 := hJ13.later hB
 clear hB
 clear f0 f1 f2
 clear hJ13
 go_wp2_with (refine stop_store 23 (.tmp 17) (.tmp 16) 3 b3 6 #[.int .i64 r.x.lo, .int .i64 r.x.hi, .bool r.x.all, .int .i64 r.y.lo, .int .i64 r.y.hi, .bool r.y.all, .int .i64 0, .int .i64 0, .bool false] 24 3 [.int .i64 r.z.lo, .int .i64 r.z.hi, .bool r.z.all] #[.int .i64 r.x.lo, .int .i64 r.x.hi, .bool r.x.all, .int .i64 r.y.lo, .int .i64 r.y.hi, .bool r.y.all, .int .i64 r.z.lo, .int .i64 r.z.hi, .bool r.z.all] [(b6, #[.int .i64 v.z.lo, .int .i64 v.z.hi, .bool v.z.all], 23), (b5, #[.int .i64 v.y.lo, .int .i64 v.y.hi, .bool v.y.all], 23), (b4, #[.int .i64 v.x.lo, .int .i64 v.x.hi, .bool v.x.all], 23), (b3, #[.int .i64 r.x.lo, .int .i64 r.x.hi, .bool r.x.all, .int .i64 r.y.lo, .int .i64 r.y.hi, .bool r.y.all, .int .i64 r.z.lo, .int .i64 r.z.hi, .bool r.z.all], 24), (b2, #[.int .i64 0, .int .i64 0, .bool false, .int .i64 0, .int .i64 0, .bool false, .int .i64 0, .int .i64 0, .bool false], 24), (b1, #[.int .i64 v.x.lo, .int .i64 v.x.hi, .bool v.x.all, .int .i64 v.y.lo, .int .i64 v.y.hi, .bool v.y.all, .int .i64 v.z.lo, .int .i64 v.z.hi, .bool v.z.all], 25)] rfl rfl rfl rfl sz23 hJ14 rfl rfl (Nat.le_of_ble_eq_true (by kernel_rfl)) (by kernel_rfl) (by kernel_rfl) (by kernel_rfl) (fun W15 hJ15 => ?_))
 clear hJ14
 unfold Stop
 try simp only [Act.put, List.setIfInBounds_toArray, List.set_cons_succ, List.set_cons_zero]
 go_wp2
 rw [rounds_succ]
 have f0 : W15.cell? ⟨b3, 0, none⟩ = some (.int .i64 r.x.lo) := hJ15.cell 3 rfl 0 rfl
 have f1 : W15.cell? ⟨b3, 1, none⟩ = some (.int .i64 r.x.hi) := hJ15.cell 3 rfl 1 rfl
 have f2 : W15.cell? ⟨b3, 2, none⟩ = some (.bool r.x.all) := hJ15.cell 3 rfl 2 rfl
 have f3 : W15.cell? ⟨b3, 3, none⟩ = some (.int .i64 r.y.lo) := hJ15.cell 3 rfl 3 rfl
 have f4 : W15.cell? ⟨b3, 4, none⟩ = some (.int .i64 r.y.hi) := hJ15.cell 3 rfl 4 rfl
 have f5 : W15.cell? ⟨b3, 5, none⟩ = some (.bool r.y.all) := hJ15.cell 3 rfl 5 rfl
 have f6 : W15.cell? ⟨b3, 6, none⟩ = some (.int .i64 r.z.lo) := hJ15.cell 3 rfl 6 rfl
 have f7 : W15.cell? ⟨b3, 7, none⟩ = some (.int .i64 r.z.hi) := hJ15.cell 3 rfl 7 rfl
 have f8 : W15.cell? ⟨b3, 8, none⟩ = some (.bool r.z.all) := hJ15.cell 3 rfl 8 rfl
 go_wp2_with (refine stop_store 24 (.tmp 4) (.tmp 19) 4 b2 0 #[.int .i64 0, .int .i64 0, .bool false, .int .i64 0, .int .i64 0, .bool false, .int .i64 0, .int .i64 0, .bool false] 24 9 [.int .i64 r.x.lo, .int .i64 r.x.hi, .bool r.x.all, .int .i64 r.y.lo, .int .i64 r.y.hi, .bool r.y.all, .int .i64 r.z.lo, .int .i64 r.z.hi, .bool r.z.all] #[.int .i64 r.x.lo, .int .i64 r.x.hi, .bool r.x.all, .int .i64 r.y.lo, .int .i64 r.y.hi, .bool r.y.all, .int .i64 r.z.lo, .int .i64 r.z.hi, .bool r.z.all] [(b6, #[.int .i64 v.z.lo, .int .i64 v.z.hi, .bool v.z.all], 23), (b5, #[.int .i64 v.y.lo, .int .i64 v.y.hi, .bool v.y.all], 23), (b4, #[.int .i64 v.x.lo, .int .i64 v.x.hi, .bool v.x.all], 23), (b3, #[.int .i64 r.x.lo, .int .i64 r.x.hi, .bool r.x.all, .int .i64 r.y.lo, .int .i64 r.y.hi, .bool r.y.all, .int .i64 r.z.lo, .int .i64 r.z.hi, .bool r.z.all], 24), (b2, #[.int .i64 r.x.lo, .int .i64 r.x.hi, .bool r.x.all, .int .i64 r.y.lo, .int .i64 r.y.hi, .bool r.y.all, .int .i64 r.z.lo, .int .i64 r.z.hi, .bool r.z.all], 24), (b1, #[.int .i64 v.x.lo, .int .i64 v.x.hi, .bool v.x.all, .int .i64 v.y.lo, .int .i64 v.y.hi, .bool v.y.all, .int .i64 v.z.lo, .int .i64 v.z.hi, .bool v.z.all], 25)] rfl rfl rfl rfl sz24 hJ15 rfl rfl (Nat.le_of_ble_eq_true (by kernel_rfl)) (by kernel_rfl) (by kernel_rfl) (by kernel_rfl) (fun W16 hJ16 => ?_))
 clear f0 f1 f2 f3 f4 f5 f6 f7 f8
 clear hJ15
 unfold Stop
 try simp only [Act.put, List.setIfInBounds_toArray, List.set_cons_succ, List.set_cons_zero]
 have f0 : W16.cell? ⟨b2, 0, none⟩ = some (.int .i64 r.x.lo) := hJ16.cell 4 rfl 0 rfl
 have f1 : W16.cell? ⟨b2, 1, none⟩ = some (.int .i64 r.x.hi) := hJ16.cell 4 rfl 1 rfl
 have f2 : W16.cell? ⟨b2, 2, none⟩ = some (.bool r.x.all) := hJ16.cell 4 rfl 2 rfl
 have f3 : W16.cell? ⟨b2, 3, none⟩ = some (.int .i64 r.y.lo) := hJ16.cell 4 rfl 3 rfl
 have f4 : W16.cell? ⟨b2, 4, none⟩ = some (.int .i64 r.y.hi) := hJ16.cell 4 rfl 4 rfl
 have f5 : W16.cell? ⟨b2, 5, none⟩ = some (.bool r.y.all) := hJ16.cell 4 rfl 5 rfl
 have f6 : W16.cell? ⟨b2, 6, none⟩ = some (.int .i64 r.z.lo) := hJ16.cell 4 rfl 6 rfl
 have f7 : W16.cell? ⟨b2, 7, none⟩ = some (.int .i64 r.z.hi) := hJ16.cell 4 rfl 7 rfl
 have f8 : W16.cell? ⟨b2, 8, none⟩ = some (.bool r.z.all) := hJ16.cell 4 rfl 8 rfl
 go_wp2
 exact bodyPost_ret (v := .agg #[.int .i64 r.x.lo, .int .i64 r.x.hi, .bool r.x.all, .int .i64 r.y.lo, .int .i64 r.y.hi, .bool r.y.all, .int .i64 r.z.lo, .int .i64 r.z.hi, .bool r.z.all]) (by simp [results, Tryz.results59, go_sem, f0, f1, f2, f3, f4, f5, f6, f7, f8]) rfl ⟨rfl, hJ16.below⟩
set_option maxRecDepth 100000 in
set_option maxHeartbeats 12800000 in
theorem sum_w (v : Vc) (p r : Sp) (hH0 : ∀ W : World, Calls Tryz.prog 33 #[.agg #[.int .i64 v.x.lo, .int .i64 v.x.hi, .bool v.x.all], .agg #[.int .i64 v.y.lo, .int .i64 v.y.hi, .bool v.y.all]] W (PVal (.agg #[.int .i64 p.lo, .int .i64 p.hi, .bool p.all]) W)) (hH1 : ∀ W : World, Calls Tryz.prog 33 #[.agg #[.int .i64 p.lo, .int .i64 p.hi, .bool p.all], .agg #[.int .i64 v.z.lo, .int .i64 v.z.hi, .bool v.z.all]] W (PVal (.agg #[.int .i64 r.lo, .int .i64 r.hi, .bool r.all]) W))  (w : World) : Calls Tryz.prog 58 #[.agg #[.int .i64 v.x.lo, .int .i64 v.x.hi, .bool v.x.all, .int .i64 v.y.lo, .int .i64 v.y.hi, .bool v.y.all, .int .i64 v.z.lo, .int .i64 v.z.hi, .bool v.z.all]] w (PVal (.agg #[.int .i64 r.lo, .int .i64 r.hi, .bool r.all]) w) := by
 have H0 := Lib.hid hH0
 have H1 := Lib.hid hH1
 clear hH0 hH1
 have hJ0 := es_nil w
 go_enter Tryz.func58, Tryz.ntmps58
 go_wp2_with (refine stop_box 24 (.tmp 0) #[.int .i64 v.x.lo, .int .i64 v.x.hi, .bool v.x.all, .int .i64 v.y.lo, .int .i64 v.y.hi, .bool v.y.all, .int .i64 v.z.lo, .int .i64 v.z.hi, .bool v.z.all] rfl rfl rfl hJ0 (fun b1 W1 hJ1 => ?_))
 clear hJ0
 unfold Stop
 try simp only [Act.put, List.setIfInBounds_toArray, List.set_cons_succ, List.set_cons_zero]
 go_wp2_with (refine stop_alloc 23 #[.int .i64 0, .int .i64 0, .bool false] (.agg #[.int .i64 0, .int .i64 0, .bool false]) rfl rfl zv23 rfl hJ1 (fun b2 W2 hJ2 => ?_))
 clear hJ1
 unfold Stop
 try simp only [Act.put, List.setIfInBounds_toArray, List.set_cons_succ, List.set_cons_zero]
 go_wp2
 obtain ⟨m1_2, hm⟩ : ∃ m, m = W2.heap.size := ⟨_, rfl⟩
 have hM := hJ2.em
 rw [← hm] at hM
 clear hm hJ2
 refine wp_region_z 8 [some 3, some 4, some 5, some 6, some 7, some 8, some 9, some 10] (veL m1_2 [.eq (.pointer (some ⟨b1, 0, none⟩)), .eq (.agg #[.int .i64 v.x.lo, .int .i64 v.x.hi, .bool v.x.all]), .eq (.pointer (some ⟨b1, 3, none⟩)), .eq (.agg #[.int .i64 v.y.lo, .int .i64 v.y.hi, .bool v.y.all]), .eq (.agg #[.int .i64 p.lo, .int .i64 p.hi, .bool p.all]), .eq (.pointer (some ⟨b1, 6, none⟩)), .eq (.agg #[.int .i64 v.z.lo, .int .i64 v.z.hi, .bool v.z.all]), .eq (.agg #[.int .i64 r.lo, .int .i64 r.hi, .bool r.all])]) (Em w m1_2 [(b2, #[.int .i64 0, .int .i64 0, .bool false], 23), (b1, #[.int .i64 v.x.lo, .int .i64 v.x.hi, .bool v.x.all, .int .i64 v.y.lo, .int .i64 v.y.hi, .bool v.y.all, .int .i64 v.z.lo, .int .i64 v.z.hi, .bool v.z.all], 24)]) (by kernel_rfl) (by kernel_rfl) (by rfl) (by decide) (by rfl) hM ?_ ?_
 ·
  intro i hl hi uu ww aa hJ hd hev hin
  clear hM
  obtain rfl | rfl | rfl | rfl | rfl | rfl | rfl | rfl : i = 0 ∨ i = 1 ∨ i = 2 ∨ i = 3 ∨ i = 4 ∨ i = 5 ∨ i = 6 ∨ i = 7 := by omega
  ·
   have x1 : aa.tmps[1]? = some (.pointer (some ⟨b1, 0, none⟩)) := (hev 1 (by decide)).trans rfl
   clear hd hev hin
   simp only [List.getElem_cons_succ, List.getElem_cons_zero]
   clear hl
   refine .inr ⟨rfl, fun K' hK => ?_⟩
   have HK := Lib.hid hK
   clear hK
   go_simp
   exact HK.out (.pointer (some ⟨b1, 0, none⟩)) _ hJ rfl veL_same
  ·
   have x3 : aa.tmps[3]? = some (.pointer (some ⟨b1, 0, none⟩)) := (hin 0 3 rfl).trans (congrArg some (show uu 0 = .pointer (some ⟨b1, 0, none⟩) from hd 0 (by decide) (by kernel_rfl)))
   clear hd hev hin
   simp only [List.getElem_cons_succ, List.getElem_cons_zero]
   clear hl
   refine .inr ⟨rfl, fun K' hK => ?_⟩
   have HK := Lib.hid hK
   clear hK
   have f0 : ww.cell? ⟨b1, 0, none⟩ = some (.int .i64 v.x.lo) := hJ.es.cell 1 rfl 0 rfl
   have f1 : ww.cell? ⟨b1, 1, none⟩ = some (.int .i64 v.x.hi) := hJ.es.cell 1 rfl 1 rfl
   have f2 : ww.cell? ⟨b1, 2, none⟩ = some (.bool v.x.all) := hJ.es.cell 1 rfl 2 rfl
   go_simp
   exact HK.out (.agg #[.int .i64 v.x.lo, .int .i64 v.x.hi, .bool v.x.all]) _ hJ rfl veL_same
  ·
   have x1 : aa.tmps[1]? = some (.pointer (some ⟨b1, 0, none⟩)) := (hev 1 (by decide)).trans rfl
   clear hd hev hin
   simp only [List.getElem_cons_succ, List.getElem_cons_zero]
   clear hl
   refine .inr ⟨rfl, fun K' hK => ?_⟩
   have HK := Lib.hid hK
   clear hK
   go_simp
   exact HK.out (.pointer (some ⟨b1, 3, none⟩)) _ hJ rfl veL_same
  ·
   have x5 : aa.tmps[5]? = some (.pointer (some ⟨b1, 3, none⟩)) := (hin 2 5 rfl).trans (congrArg some (show uu 2 = .pointer (some ⟨b1, 3, none⟩) from hd 2 (by decide) (by kernel_rfl)))
   clear hd hev hin
   simp only [List.getElem_cons_succ, List.getElem_cons_zero]
   clear hl
   refine .inr ⟨rfl, fun K' hK => ?_⟩
   have HK := Lib.hid hK
   clear hK
   have f0 : ww.cell? ⟨b1, 3, none⟩ = some (.int .i64 v.y.lo) := hJ.es.cell 1 rfl 3 rfl
   have f1 : ww.cell? ⟨b1, 4, none⟩ = some (.int .i64 v.y.hi) := hJ.es.cell 1 rfl 4 rfl
   have f2 : ww.cell? ⟨b1, 5, none⟩ = some (.bool v.y.all) := hJ.es.cell 1 rfl 5 rfl
   go_simp
   exact HK.out (.agg #[.int .i64 v.y.lo, .int .i64 v.y.hi, .bool v.y.all]) _ hJ rfl veL_same
  ·
   have x4 : aa.tmps[4]? = some (.agg #[.int .i64 v.x.lo, .int .i64 v.x.hi, .bool v.x.all]) := (hin 1 4 rfl).trans (congrArg some (show uu 1 = .agg #[.int .i64 v.x.lo, .int .i64 v.x.hi, .bool v.x.all] from hd 1 (by decide) (by kernel_rfl)))
   have x6 : aa.tmps[6]? = some (.agg #[.int .i64 v.y.lo, .int .i64 v.y.hi, .bool v.y.all]) := (hin 3 6 rfl).trans (congrArg some (show uu 3 = .agg #[.int .i64 v.y.lo, .int .i64 v.y.hi, .bool v.y.all] from hd 3 (by decide) (by kernel_rfl)))
   clear hd hev hin
   simp only [List.getElem_cons_succ, List.getElem_cons_zero]
   clear hl
   refine .inr ⟨rfl, fun K' hK => ?_⟩
   have HK := Lib.hid hK
   clear hK
   go_simp
   refine (H0.out ww).mono ?_
   rintro e W' ⟨rfl, hB⟩
   exact HK.out (.agg #[.int .i64 p.lo, .int .i64 p.hi, .bool p.all]) _ (hJ.later hB) rfl (veL_later hB)
  ·
   have x1 : aa.tmps[1]? = some (.pointer (some ⟨b1, 0, none⟩)) := (hev 1 (by decide)).trans rfl
   clear hd hev hin
   simp only [List.getElem_cons_succ, List.getElem_cons_zero]
   clear hl
   refine .inr ⟨rfl, fun K' hK => ?_⟩
   have HK := Lib.hid hK
   clear hK
   go_simp
   exact HK.out (.pointer (some ⟨b1, 6, none⟩)) _ hJ rfl veL_same
  ·
   have x8 : aa.tmps[8]? = some (.pointer (some ⟨b1, 6, none⟩)) := (hin 5 8 rfl).trans (congrArg some (show uu 5 = .pointer (some ⟨b1, 6, none⟩) from hd 5 (by decide) (by kernel_rfl)))
   clear hd hev hin
   simp only [List.getElem_cons_succ, List.getElem_cons_zero]
   clear hl
   refine .inr ⟨rfl, fun K' hK => ?_⟩
   have HK := Lib.hid hK
   clear hK
   have f0 : ww.cell? ⟨b1, 6, none⟩ = some (.int .i64 v.z.lo) := hJ.es.cell 1 rfl 6 rfl
   have f1 : ww.cell? ⟨b1, 7, none⟩ = some (.int .i64 v.z.hi) := hJ.es.cell 1 rfl 7 rfl
   have f2 : ww.cell? ⟨b1, 8, none⟩ = some (.bool v.z.all) := hJ.es.cell 1 rfl 8 rfl
   go_simp
   exact HK.out (.agg #[.int .i64 v.z.lo, .int .i64 v.z.hi, .bool v.z.all]) _ hJ rfl veL_same
  ·
   have x7 : aa.tmps[7]? = some (.agg #[.int .i64 p.lo, .int .i64 p.hi, .bool p.all]) := (hin 4 7 rfl).trans (congrArg some (show uu 4 = .agg #[.int .i64 p.lo, .int .i64 p.hi, .bool p.all] from hd 4 (by decide) (by kernel_rfl)))
   have x9 : aa.tmps[9]? = some (.agg #[.int .i64 v.z.lo, .int .i64 v.z.hi, .bool v.z.all]) := (hin 6 9 rfl).trans (congrArg some (show uu 6 = .agg #[.int .i64 v.z.lo, .int .i64 v.z.hi, .bool v.z.all] from hd 6 (by decide) (by kernel_rfl)))
   clear hd hev hin
   simp only [List.getElem_cons_succ, List.getElem_cons_zero]
   clear hl
   refine .inr ⟨rfl, fun K' hK => ?_⟩
   have HK := Lib.hid hK
   clear hK
   go_simp
   refine (H1.out ww).mono ?_
   rintro e W' ⟨rfl, hB⟩
   exact HK.out (.agg #[.int .i64 r.lo, .int .i64 r.hi, .bool r.all]) _ (hJ.later hB) rfl (veL_later hB)
 clear hM
 intro uu W3 hJm hd
 have e_0 : uu 0 = .pointer (some ⟨b1, 0, none⟩) := hd 0 (by decide)
 have e_1 : uu 1 = .agg #[.int .i64 v.x.lo, .int .i64 v.x.hi, .bool v.x.all] := hd 1 (by decide)
 have e_2 : uu 2 = .pointer (some ⟨b1, 3, none⟩) := hd 2 (by decide)
 have e_3 : uu 3 = .agg #[.int .i64 v.y.lo, .int .i64 v.y.hi, .bool v.y.all] := hd 3 (by decide)
 have e_4 : uu 4 = .agg #[.int .i64 p.lo, .int .i64 p.hi, .bool p.all] := hd 4 (by decide)
 have e_5 : uu 5 = .pointer (some ⟨b1, 6, none⟩) := hd 5 (by decide)
 have e_6 : uu 6 = .agg #[.int .i64 v.z.lo, .int .i64 v.z.hi, .bool v.z.all] := hd 6 (by decide)
 have e_7 : uu 7 = .agg #[.int .i64 r.lo, .int .i64 r.hi, .bool r.all] := hd 7 (by decide)
 clear hd
 simp only [layS, Act.put, List.setIfInBounds_toArray, List.set_cons_succ, List.set_cons_zero, Nat.zero_add, Nat.reduceAdd, List.drop_succ_cons, List.drop_zero, List.drop_nil, e_0, e_1, e_2, e_3, e_4, e_5, e_6, e_7]
 clear e_0 e_1 e_2 e_3 e_4 e_5 e_6 e_7
 have hJ3 := hJm.es
 clear hJm
 go_wp2_with (refine stop_store 23 (.tmp 2) (.tmp 10) 0 b2 0 #[.int .i64 0, .int .i64 0, .bool false] 23 3 [.int .i64 r.lo, .int .i64 r.hi, .bool r.all] #[.int .i64 r.lo, .int .i64 r.hi, .bool r.all] [(b2, #[.int .i64 r.lo, .int .i64 r.hi, .bool r.all], 23), (b1, #[.int .i64 v.x.lo, .int .i64 v.x.hi, .bool v.x.all, .int .i64 v.y.lo, .int .i64 v.y.hi, .bool v.y.all, .int .i64 v.z.lo, .int .i64 v.z.hi, .bool v.z.all], 24)] rfl rfl rfl rfl sz23 hJ3 rfl rfl (Nat.le_of_ble_eq_true (by kernel_rfl)) (by kernel_rfl) (by kernel_rfl) (by kernel_rfl) (fun W4 hJ4 => ?_))
 clear hJ3
 unfold Stop
 try simp only [Act.put, List.setIfInBounds_toArray, List.set_cons_succ, List.set_cons_zero]
 have f0 : W4.cell? ⟨b2, 0, none⟩ = some (.int .i64 r.lo) := hJ4.cell 0 rfl 0 rfl
 have f1 : W4.cell? ⟨b2, 1, none⟩ = some (.int .i64 r.hi) := hJ4.cell 0 rfl 1 rfl
 have f2 : W4.cell? ⟨b2, 2, none⟩ = some (.bool r.all) := hJ4.cell 0 rfl 2 rfl
 go_wp2
 exact bodyPost_ret (v := .agg #[.int .i64 r.lo, .int .i64 r.hi, .bool r.all]) (by simp [results, Tryz.results58, go_sem, f0, f1, f2]) rfl ⟨rfl, hJ4.below⟩
end Go.Proofs.YtdochhhepmlapaaGreat
