/- Parts of the proof. -/
import Derived.Test.YtdochhhepmlapaaGe27
import Derived.LoopN
/- Package vec: the walks of both, each, sum, from. No statement of the seat is proved here. -/
namespace Go.Proofs.Ytdochhhepmlapaa
open Go Go.RowKit
attribute [local go_sem] run_vix0 run_vix1 run_vix2
attribute [local go_sem ↓] run_vbuild run_dbuild
set_option maxRecDepth 100000 in
set_option maxHeartbeats 12800000 in
theorem each_s (k : FuncId) (v r : Vc) (hH0 : ∀ W : World, Calls Try.prog k #[.agg #[.int .i64 v.x.lo, .int .i64 v.x.hi, .bool v.x.all]] W (PVal (.agg #[.int .i64 r.x.lo, .int .i64 r.x.hi, .bool r.x.all]) W)) (hH1 : ∀ W : World, Calls Try.prog k #[.agg #[.int .i64 v.y.lo, .int .i64 v.y.hi, .bool v.y.all]] W (PVal (.agg #[.int .i64 r.y.lo, .int .i64 r.y.hi, .bool r.y.all]) W)) (hH2 : ∀ W : World, Calls Try.prog k #[.agg #[.int .i64 v.z.lo, .int .i64 v.z.hi, .bool v.z.all]] W (PVal (.agg #[.int .i64 r.z.lo, .int .i64 r.z.hi, .bool r.z.all]) W)) (hk : ∀ (args : Array Value) (W : World), (callFunc k args).run Try.prog W = .ok (.enter k args) W) (w : World) : Calls Try.prog 52 #[.agg #[.int .i64 v.x.lo, .int .i64 v.x.hi, .bool v.x.all, .int .i64 v.y.lo, .int .i64 v.y.hi, .bool v.y.all, .int .i64 v.z.lo, .int .i64 v.z.hi, .bool v.z.all], .func (.func k) #[] #[]] w (PVal (.agg #[.int .i64 r.x.lo, .int .i64 r.x.hi, .bool r.x.all, .int .i64 r.y.lo, .int .i64 r.y.hi, .bool r.y.all, .int .i64 r.z.lo, .int .i64 r.z.hi, .bool r.z.all]) w) := by
 have H0 := Lib.hid hH0
 have H1 := Lib.hid hH1
 have H2 := Lib.hid hH2
 clear hH0 hH1 hH2
 have hJ0 := es_nil w
 go_enter Try.func52, Try.ntmps52
 go_wp2_with (refine stop_box 25 (.tmp 0) #[.int .i64 v.x.lo, .int .i64 v.x.hi, .bool v.x.all, .int .i64 v.y.lo, .int .i64 v.y.hi, .bool v.y.all, .int .i64 v.z.lo, .int .i64 v.z.hi, .bool v.z.all] rfl rfl rfl hJ0 (fun b1 W1 hJ1 => ?_))
 clear hJ0
 unfold Stop
 try simp only [Act.put, List.setIfInBounds_toArray, List.set_cons_succ, List.set_cons_zero]
 go_wp2_with (refine stop_alloc 24 #[.int .i64 0, .int .i64 0, .bool false, .int .i64 0, .int .i64 0, .bool false, .int .i64 0, .int .i64 0, .bool false] (.agg #[.int .i64 0, .int .i64 0, .bool false, .int .i64 0, .int .i64 0, .bool false, .int .i64 0, .int .i64 0, .bool false]) rfl rfl zv24 rfl hJ1 (fun b2 W2 hJ2 => ?_))
 clear hJ1
 unfold Stop
 try simp only [Act.put, List.setIfInBounds_toArray, List.set_cons_succ, List.set_cons_zero]
 go_wp2_with (refine stop_alloc 24 #[.int .i64 0, .int .i64 0, .bool false, .int .i64 0, .int .i64 0, .bool false, .int .i64 0, .int .i64 0, .bool false] (.agg #[.int .i64 0, .int .i64 0, .bool false, .int .i64 0, .int .i64 0, .bool false, .int .i64 0, .int .i64 0, .bool false]) rfl rfl zv24 rfl hJ2 (fun b3 W3 hJ3 => ?_))
 clear hJ2
 unfold Stop
 try simp only [Act.put, List.setIfInBounds_toArray, List.set_cons_succ, List.set_cons_zero]
 have f0 : W3.cell? ⟨b1, 0, none⟩ = some (.int .i64 v.x.lo) := hJ3.cell 2 rfl 0 rfl
 have f1 : W3.cell? ⟨b1, 1, none⟩ = some (.int .i64 v.x.hi) := hJ3.cell 2 rfl 1 rfl
 have f2 : W3.cell? ⟨b1, 2, none⟩ = some (.bool v.x.all) := hJ3.cell 2 rfl 2 rfl
 have f3 : W3.cell? ⟨b1, 3, none⟩ = some (.int .i64 v.y.lo) := hJ3.cell 2 rfl 3 rfl
 have f4 : W3.cell? ⟨b1, 4, none⟩ = some (.int .i64 v.y.hi) := hJ3.cell 2 rfl 4 rfl
 have f5 : W3.cell? ⟨b1, 5, none⟩ = some (.bool v.y.all) := hJ3.cell 2 rfl 5 rfl
 have f6 : W3.cell? ⟨b1, 6, none⟩ = some (.int .i64 v.z.lo) := hJ3.cell 2 rfl 6 rfl
 have f7 : W3.cell? ⟨b1, 7, none⟩ = some (.int .i64 v.z.hi) := hJ3.cell 2 rfl 7 rfl
 have f8 : W3.cell? ⟨b1, 8, none⟩ = some (.bool v.z.all) := hJ3.cell 2 rfl 8 rfl
 go_wp2
 clear f0 f1 f2 f3 f4 f5 f6 f7 f8
 refine wp_loop_rounds 4 ?_
 rw [rounds_succ]
 go_wp2_with (refine stop_alloc 23 #[.int .i64 0, .int .i64 0, .bool false] (.agg #[.int .i64 0, .int .i64 0, .bool false]) rfl rfl zv23 rfl hJ3 (fun b4 W4 hJ4 => ?_))
 clear hJ3
 unfold Stop
 try simp only [Act.put, List.setIfInBounds_toArray, List.set_cons_succ, List.set_cons_zero]
 go_wp2_with (refine stop_store 23 (.tmp 7) (.tmp 12) 0 b4 0 #[.int .i64 0, .int .i64 0, .bool false] 23 3 [.int .i64 v.x.lo, .int .i64 v.x.hi, .bool v.x.all] #[.int .i64 v.x.lo, .int .i64 v.x.hi, .bool v.x.all] [(b4, #[.int .i64 v.x.lo, .int .i64 v.x.hi, .bool v.x.all], 23), (b3, #[.int .i64 0, .int .i64 0, .bool false, .int .i64 0, .int .i64 0, .bool false, .int .i64 0, .int .i64 0, .bool false], 24), (b2, #[.int .i64 0, .int .i64 0, .bool false, .int .i64 0, .int .i64 0, .bool false, .int .i64 0, .int .i64 0, .bool false], 24), (b1, #[.int .i64 v.x.lo, .int .i64 v.x.hi, .bool v.x.all, .int .i64 v.y.lo, .int .i64 v.y.hi, .bool v.y.all, .int .i64 v.z.lo, .int .i64 v.z.hi, .bool v.z.all], 25)] rfl rfl rfl rfl sz23 hJ4 rfl rfl (Nat.le_of_ble_eq_true (by kernel_rfl)) (by kernel_rfl) (by kernel_rfl) (by kernel_rfl) (fun W5 hJ5 => ?_))
 clear hJ4
 unfold Stop
 try simp only [Act.put, List.setIfInBounds_toArray, List.set_cons_succ, List.set_cons_zero]
 have f0 : W5.cell? ⟨b4, 0, none⟩ = some (.int .i64 v.x.lo) := hJ5.cell 0 rfl 0 rfl
 have f1 : W5.cell? ⟨b4, 1, none⟩ = some (.int .i64 v.x.hi) := hJ5.cell 0 rfl 1 rfl
 have f2 : W5.cell? ⟨b4, 2, none⟩ = some (.bool v.x.all) := hJ5.cell 0 rfl 2 rfl
 go_wp2_with fail
 refine (H0.out _).mono ?_
 rintro e W6 ⟨rfl, hB⟩
 have hJ6 := hJ5.later hB
 clear hB
 clear f0 f1 f2
 clear hJ5
 go_wp2_with (refine stop_store 23 (.tmp 17) (.tmp 16) 1 b3 0 #[.int .i64 0, .int .i64 0, .bool false, .int .i64 0, .int .i64 0, .bool false, .int .i64 0, .int .i64 0, .bool false] 24 3 [.int .i64 r.x.lo, .int .i64 r.x.hi, .bool r.x.all] #[.int .i64 r.x.lo, .int .i64 r.x.hi, .bool r.x.all, .int .i64 0, .int .i64 0, .bool false, .int .i64 0, .int .i64 0, .bool false] [(b4, #[.int .i64 v.x.lo, .int .i64 v.x.hi, .bool v.x.all], 23), (b3, #[.int .i64 r.x.lo, .int .i64 r.x.hi, .bool r.x.all, .int .i64 0, .int .i64 0, .bool false, .int .i64 0, .int .i64 0, .bool false], 24), (b2, #[.int .i64 0, .int .i64 0, .bool false, .int .i64 0, .int .i64 0, .bool false, .int .i64 0, .int .i64 0, .bool false], 24), (b1, #[.int .i64 v.x.lo, .int .i64 v.x.hi, .bool v.x.all, .int .i64 v.y.lo, .int .i64 v.y.hi, .bool v.y.all, .int .i64 v.z.lo, .int .i64 v.z.hi, .bool v.z.all], 25)] rfl rfl rfl rfl sz23 hJ6 rfl rfl (Nat.le_of_ble_eq_true (by kernel_rfl)) (by kernel_rfl) (by kernel_rfl) (by kernel_rfl) (fun W7 hJ7 => ?_))
 clear hJ6
 unfold Stop
 try simp only [Act.put, List.setIfInBounds_toArray, List.set_cons_succ, List.set_cons_zero]
 go_wp2
 rw [rounds_succ]
 go_wp2_with (refine stop_alloc 23 #[.int .i64 0, .int .i64 0, .bool false] (.agg #[.int .i64 0, .int .i64 0, .bool false]) rfl rfl zv23 rfl hJ7 (fun b5 W8 hJ8 => ?_))
 clear hJ7
 unfold Stop
 try simp only [Act.put, List.setIfInBounds_toArray, List.set_cons_succ, List.set_cons_zero]
 go_wp2_with (refine stop_store 23 (.tmp 7) (.tmp 12) 0 b5 0 #[.int .i64 0, .int .i64 0, .bool false] 23 3 [.int .i64 v.y.lo, .int .i64 v.y.hi, .bool v.y.all] #[.int .i64 v.y.lo, .int .i64 v.y.hi, .bool v.y.all] [(b5, #[.int .i64 v.y.lo, .int .i64 v.y.hi, .bool v.y.all], 23), (b4, #[.int .i64 v.x.lo, .int .i64 v.x.hi, .bool v.x.all], 23), (b3, #[.int .i64 r.x.lo, .int .i64 r.x.hi, .bool r.x.all, .int .i64 0, .int .i64 0, .bool false, .int .i64 0, .int .i64 0, .bool false], 24), (b2, #[.int .i64 0, .int .i64 0, .bool false, .int .i64 0, .int .i64 0, .bool false, .int .i64 0, .int .i64 0, .bool false], 24), (b1, #[.int .i64 v.x.lo, .int .i64 v.x.hi, .bool v.x.all, .int .i64 v.y.lo, .int .i64 v.y.hi, .bool v.y.all, .int .i64 v.z.lo, .int .i64 v.z.hi, .bool v.z.all], 25)] rfl rfl rfl rfl sz23 hJ8 rfl rfl (Nat.le_of_ble_eq_true (by kernel_rfl)) (by kernel_rfl) (by kernel_rfl) (by kernel_rfl) (fun W9 hJ9 => ?_))
 clear hJ8
 unfold Stop
 try simp only [Act.put, List.setIfInBounds_toArray, List.set_cons_succ, List.set_cons_zero]
 have f0 : W9.cell? ⟨b5, 0, none⟩ = some (.int .i64 v.y.lo) := hJ9.cell 0 rfl 0 rfl
 have f1 : W9.cell? ⟨b5, 1, none⟩ = some (.int .i64 v.y.hi) := hJ9.cell 0 rfl 1 rfl
 have f2 : W9.cell? ⟨b5, 2, none⟩ = some (.bool v.y.all) := hJ9.cell 0 rfl 2 rfl
 go_wp2_with fail
 refine (H1.out _).mono ?_
 rintro e W10 ⟨rfl, hB⟩
 have hJ10 := hJ9.later hB
 clear hB
 clear f0 f1 f2
 clear hJ9
 go_wp2_with (refine stop_store 23 (.tmp 17) (.tmp 16) 2 b3 3 #[.int .i64 r.x.lo, .int .i64 r.x.hi, .bool r.x.all, .int .i64 0, .int .i64 0, .bool false, .int .i64 0, .int .i64 0, .bool false] 24 3 [.int .i64 r.y.lo, .int .i64 r.y.hi, .bool r.y.all] #[.int .i64 r.x.lo, .int .i64 r.x.hi, .bool r.x.all, .int .i64 r.y.lo, .int .i64 r.y.hi, .bool r.y.all, .int .i64 0, .int .i64 0, .bool false] [(b5, #[.int .i64 v.y.lo, .int .i64 v.y.hi, .bool v.y.all], 23), (b4, #[.int .i64 v.x.lo, .int .i64 v.x.hi, .bool v.x.all], 23), (b3, #[.int .i64 r.x.lo, .int .i64 r.x.hi, .bool r.x.all, .int .i64 r.y.lo, .int .i64 r.y.hi, .bool r.y.all, .int .i64 0, .int .i64 0, .bool false], 24), (b2, #[.int .i64 0, .int .i64 0, .bool false, .int .i64 0, .int .i64 0, .bool false, .int .i64 0, .int .i64 0, .bool false], 24), (b1, #[.int .i64 v.x.lo, .int .i64 v.x.hi, .bool v.x.all, .int .i64 v.y.lo, .int .i64 v.y.hi, .bool v.y.all, .int .i64 v.z.lo, .int .i64 v.z.hi, .bool v.z.all], 25)] rfl rfl rfl rfl sz23 hJ10 rfl rfl (Nat.le_of_ble_eq_true (by kernel_rfl)) (by kernel_rfl) (by kernel_rfl) (by kernel_rfl) (fun W11 hJ11 => ?_))
 clear hJ10
 unfold Stop
 try simp only [Act.put, List.setIfInBounds_toArray, List.set_cons_succ, List.set_cons_zero]
 go_wp2
 rw [rounds_succ]
 go_wp2_with (refine stop_alloc 23 #[.int .i64 0, .int .i64 0, .bool false] (.agg #[.int .i64 0, .int .i64 0, .bool false]) rfl rfl zv23 rfl hJ11 (fun b6 W12 hJ12 => ?_))
 clear hJ11
 unfold Stop
 try simp only [Act.put, List.setIfInBounds_toArray, List.set_cons_succ, List.set_cons_zero]
 go_wp2_with (refine stop_store 23 (.tmp 7) (.tmp 12) 0 b6 0 #[.int .i64 0, .int .i64 0, .bool false] 23 3 [.int .i64 v.z.lo, .int .i64 v.z.hi, .bool v.z.all] #[.int .i64 v.z.lo, .int .i64 v.z.hi, .bool v.z.all] [(b6, #[.int .i64 v.z.lo, .int .i64 v.z.hi, .bool v.z.all], 23), (b5, #[.int .i64 v.y.lo, .int .i64 v.y.hi, .bool v.y.all], 23), (b4, #[.int .i64 v.x.lo, .int .i64 v.x.hi, .bool v.x.all], 23), (b3, #[.int .i64 r.x.lo, .int .i64 r.x.hi, .bool r.x.all, .int .i64 r.y.lo, .int .i64 r.y.hi, .bool r.y.all, .int .i64 0, .int .i64 0, .bool false], 24), (b2, #[.int .i64 0, .int .i64 0, .bool false, .int .i64 0, .int .i64 0, .bool false, .int .i64 0, .int .i64 0, .bool false], 24), (b1, #[.int .i64 v.x.lo, .int .i64 v.x.hi, .bool v.x.all, .int .i64 v.y.lo, .int .i64 v.y.hi, .bool v.y.all, .int .i64 v.z.lo, .int .i64 v.z.hi, .bool v.z.all], 25)] rfl rfl rfl rfl sz23 hJ12 rfl rfl (Nat.le_of_ble_eq_true (by kernel_rfl)) (by kernel_rfl) (by kernel_rfl) (by kernel_rfl) (fun W13 hJ13 => ?_))
 clear hJ12
 unfold Stop
 try simp only [Act.put, List.setIfInBounds_toArray, List.set_cons_succ, List.set_cons_zero]
 have f0 : W13.cell? ⟨b6, 0, none⟩ = some (.int .i64 v.z.lo) := hJ13.cell 0 rfl 0 rfl
 have f1 : W13.cell? ⟨b6, 1, none⟩ = some (.int .i64 v.z.hi) := hJ13.cell 0 rfl 1 rfl
 have f2 : W13.cell? ⟨b6, 2, none⟩ = some (.bool v.z.all) := hJ13.cell 0 rfl 2 rfl
 go_wp2_with fail
 refine (H2.out _).mono ?_
 rintro e W14 ⟨rfl, hB⟩
 have hJ14 := hJ13.later hB
 clear hB
 clear f0 f1 f2
 clear hJ13
 go_wp2_with (refine stop_store 23 (.tmp 17) (.tmp 16) 3 b3 6 #[.int .i64 r.x.lo, .int .i64 r.x.hi, .bool r.x.all, .int .i64 r.y.lo, .int .i64 r.y.hi, .bool r.y.all, .int .i64 0, .int .i64 0, .bool false] 24 3 [.int .i64 r.z.lo, .int .i64 r.z.hi, .bool r.z.all] #[.int .i64 r.x.lo, .int .i64 r.x.hi, .bool r.x.all, .int .i64 r.y.lo, .int .i64 r.y.hi, .bool r.y.all, .int .i64 r.z.lo, .int .i64 r.z.hi, .bool r.z.all] [(b6, #[.int .i64 v.z.lo, .int .i64 v.z.hi, .bool v.z.all], 23), (b5, #[.int .i64 v.y.lo, .int .i64 v.y.hi, .bool v.y.all], 23), (b4, #[.int .i64 v.x.lo, .int .i64 v.x.hi, .bool v.x.all], 23), (b3, #[.int .i64 r.x.lo, .int .i64 r.x.hi, .bool r.x.all, .int .i64 r.y.lo, .int .i64 r.y.hi, .bool r.y.all, .int .i64 r.z.lo, .int .i64 r.z.hi, .bool r.z.all], 24), (b2, #[.int .i64 0, .int .i64 0, .bool false, .int .i64 0, .int .i64 0, .bool false, .int .i64 0, .int .i64 0, .bool false], 24), (b1, #[.int .i64 v.x.lo, .int .i64 v.x.hi, .bool v.x.all, .int .i64 v.y.lo, .int .i64 v.y.hi, .bool v.y.all, .int .i64 v.z.lo, .int .i64 v.z.hi, .bool v.z.all], 25)] rfl rfl rfl rfl sz23 hJ14 rfl rfl (Nat.le_of_ble_eq_true (by kernel_rfl)) (by kernel_rfl) (by kernel_rfl) (by kernel_rfl) (fun W15 hJ15 => ?_))
 clear hJ14
 unfold Stop
 try simp only [Act.put, List.setIfInBounds_toArray, List.set_cons_succ, List.set_cons_zero]
 go_wp2
 rw [rounds_succ]
 have f0 : W15.cell? ⟨b3, 0, none⟩ = some (.int .i64 r.x.lo) := hJ15.cell 3 rfl 0 rfl
 have f1 : W15.cell? ⟨b3, 1, none⟩ = some (.int .i64 r.x.hi) := hJ15.cell 3 rfl 1 rfl
 have f2 : W15.cell? ⟨b3, 2, none⟩ = some (.bool r.x.all) := hJ15.cell 3 rfl 2 rfl
 have f3 : W15.cell? ⟨b3, 3, none⟩ = some (.int .i64 r.y.lo) := hJ15.cell 3 rfl 3 rfl
 have f4 : W15.cell? ⟨b3, 4, none⟩ = some (.int .i64 r.y.hi) := hJ15.cell 3 rfl 4 rfl
 have f5 : W15.cell? ⟨b3, 5, none⟩ = some (.bool r.y.all) := hJ15.cell 3 rfl 5 rfl
 have f6 : W15.cell? ⟨b3, 6, none⟩ = some (.int .i64 r.z.lo) := hJ15.cell 3 rfl 6 rfl
 have f7 : W15.cell? ⟨b3, 7, none⟩ = some (.int .i64 r.z.hi) := hJ15.cell 3 rfl 7 rfl
 have f8 : W15.cell? ⟨b3, 8, none⟩ = some (.bool r.z.all) := hJ15.cell 3 rfl 8 rfl
 go_wp2_with (refine stop_store 24 (.tmp 4) (.tmp 19) 4 b2 0 #[.int .i64 0, .int .i64 0, .bool false, .int .i64 0, .int .i64 0, .bool false, .int .i64 0, .int .i64 0, .bool false] 24 9 [.int .i64 r.x.lo, .int .i64 r.x.hi, .bool r.x.all, .int .i64 r.y.lo, .int .i64 r.y.hi, .bool r.y.all, .int .i64 r.z.lo, .int .i64 r.z.hi, .bool r.z.all] #[.int .i64 r.x.lo, .int .i64 r.x.hi, .bool r.x.all, .int .i64 r.y.lo, .int .i64 r.y.hi, .bool r.y.all, .int .i64 r.z.lo, .int .i64 r.z.hi, .bool r.z.all] [(b6, #[.int .i64 v.z.lo, .int .i64 v.z.hi, .bool v.z.all], 23), (b5, #[.int .i64 v.y.lo, .int .i64 v.y.hi, .bool v.y.all], 23), (b4, #[.int .i64 v.x.lo, .int .i64 v.x.hi, .bool v.x.all], 23), (b3, #[.int .i64 r.x.lo, .int .i64 r.x.hi, .bool r.x.all, .int .i64 r.y.lo, .int .i64 r.y.hi, .bool r.y.all, .int .i64 r.z.lo, .int .i64 r.z.hi, .bool r.z.all], 24), (b2, #[.int .i64 r.x.lo, .int .i64 r.x.hi, .bool r.x.all, .int .i64 r.y.lo, .int .i64 r.y.hi, .bool r.y.all, .int .i64 r.z.lo, .int .i64 r.z.hi, .bool r.z.all], 24), (b1, #[.int .i64 v.x.lo, .int .i64 v.x.hi, .bool v.x.all, .int .i64 v.y.lo, .int .i64 v.y.hi, .bool v.y.all, .int .i64 v.z.lo, .int .i64 v.z.hi, .bool v.z.all], 25)] rfl rfl rfl rfl sz24 hJ15 rfl rfl (Nat.le_of_ble_eq_true (by kernel_rfl)) (by kernel_rfl) (by kernel_rfl) (by kernel_rfl) (fun W16 hJ16 => ?_))
 clear f0 f1 f2 f3 f4 f5 f6 f7 f8
 clear hJ15
 unfold Stop
 try simp only [Act.put, List.setIfInBounds_toArray, List.set_cons_succ, List.set_cons_zero]
 have f0 : W16.cell? ⟨b2, 0, none⟩ = some (.int .i64 r.x.lo) := hJ16.cell 4 rfl 0 rfl
 have f1 : W16.cell? ⟨b2, 1, none⟩ = some (.int .i64 r.x.hi) := hJ16.cell 4 rfl 1 rfl
 have f2 : W16.cell? ⟨b2, 2, none⟩ = some (.bool r.x.all) := hJ16.cell 4 rfl 2 rfl
 have f3 : W16.cell? ⟨b2, 3, none⟩ = some (.int .i64 r.y.lo) := hJ16.cell 4 rfl 3 rfl
 have f4 : W16.cell? ⟨b2, 4, none⟩ = some (.int .i64 r.y.hi) := hJ16.cell 4 rfl 4 rfl
 have f5 : W16.cell? ⟨b2, 5, none⟩ = some (.bool r.y.all) := hJ16.cell 4 rfl 5 rfl
 have f6 : W16.cell? ⟨b2, 6, none⟩ = some (.int .i64 r.z.lo) := hJ16.cell 4 rfl 6 rfl
 have f7 : W16.cell? ⟨b2, 7, none⟩ = some (.int .i64 r.z.hi) := hJ16.cell 4 rfl 7 rfl
 have f8 : W16.cell? ⟨b2, 8, none⟩ = some (.bool r.z.all) := hJ16.cell 4 rfl 8 rfl
 go_wp2
 exact bodyPost_ret (v := .agg #[.int .i64 r.x.lo, .int .i64 r.x.hi, .bool r.x.all, .int .i64 r.y.lo, .int .i64 r.y.hi, .bool r.y.all, .int .i64 r.z.lo, .int .i64 r.z.hi, .bool r.z.all]) (by simp [results, Try.results52, go_sem, f0, f1, f2, f3, f4, f5, f6, f7, f8]) rfl ⟨rfl, hJ16.below⟩
set_option maxRecDepth 100000 in
set_option maxHeartbeats 12800000 in
theorem sum_w (v : Vc) (p r : Sp) (hH0 : ∀ W : World, Calls Try.prog 47 #[.agg #[.int .i64 v.x.lo, .int .i64 v.x.hi, .bool v.x.all], .agg #[.int .i64 v.y.lo, .int .i64 v.y.hi, .bool v.y.all]] W (PVal (.agg #[.int .i64 p.lo, .int .i64 p.hi, .bool p.all]) W)) (hH1 : ∀ W : World, Calls Try.prog 47 #[.agg #[.int .i64 p.lo, .int .i64 p.hi, .bool p.all], .agg #[.int .i64 v.z.lo, .int .i64 v.z.hi, .bool v.z.all]] W (PVal (.agg #[.int .i64 r.lo, .int .i64 r.hi, .bool r.all]) W))  (w : World) : Calls Try.prog 50 #[.agg #[.int .i64 v.x.lo, .int .i64 v.x.hi, .bool v.x.all, .int .i64 v.y.lo, .int .i64 v.y.hi, .bool v.y.all, .int .i64 v.z.lo, .int .i64 v.z.hi, .bool v.z.all]] w (PVal (.agg #[.int .i64 r.lo, .int .i64 r.hi, .bool r.all]) w) := by
 have H0 := Lib.hid hH0
 have H1 := Lib.hid hH1
 clear hH0 hH1
 have hJ0 := es_nil w
 go_enter Try.func50, Try.ntmps50
 go_wp2_with (refine stop_box 24 (.tmp 0) #[.int .i64 v.x.lo, .int .i64 v.x.hi, .bool v.x.all, .int .i64 v.y.lo, .int .i64 v.y.hi, .bool v.y.all, .int .i64 v.z.lo, .int .i64 v.z.hi, .bool v.z.all] rfl rfl rfl hJ0 (fun b1 W1 hJ1 => ?_))
 clear hJ0
 unfold Stop
 try simp only [Act.put, List.setIfInBounds_toArray, List.set_cons_succ, List.set_cons_zero]
 go_wp2_with (refine stop_alloc 23 #[.int .i64 0, .int .i64 0, .bool false] (.agg #[.int .i64 0, .int .i64 0, .bool false]) rfl rfl zv23 rfl hJ1 (fun b2 W2 hJ2 => ?_))
 clear hJ1
 unfold Stop
 try simp only [Act.put, List.setIfInBounds_toArray, List.set_cons_succ, List.set_cons_zero]
 go_wp2
 obtain ⟨m1_2, hm⟩ : ∃ m, m = W2.heap.size := ⟨_, rfl⟩
 have hM := hJ2.em
 rw [← hm] at hM
 clear hm hJ2
 refine wp_region_z 8 [some 3, some 4, some 5, some 6, some 7, some 8, some 9, some 10] (veL m1_2 [.eq (.pointer (some ⟨b1, 0, none⟩)), .eq (.agg #[.int .i64 v.x.lo, .int .i64 v.x.hi, .bool v.x.all]), .eq (.pointer (some ⟨b1, 3, none⟩)), .eq (.agg #[.int .i64 v.y.lo, .int .i64 v.y.hi, .bool v.y.all]), .eq (.agg #[.int .i64 p.lo, .int .i64 p.hi, .bool p.all]), .eq (.pointer (some ⟨b1, 6, none⟩)), .eq (.agg #[.int .i64 v.z.lo, .int .i64 v.z.hi, .bool v.z.all]), .eq (.agg #[.int .i64 r.lo, .int .i64 r.hi, .bool r.all])]) (Em w m1_2 [(b2, #[.int .i64 0, .int .i64 0, .bool false], 23), (b1, #[.int .i64 v.x.lo, .int .i64 v.x.hi, .bool v.x.all, .int .i64 v.y.lo, .int .i64 v.y.hi, .bool v.y.all, .int .i64 v.z.lo, .int .i64 v.z.hi, .bool v.z.all], 24)]) (by kernel_rfl) (by kernel_rfl) (by rfl) (by decide) (by rfl) hM ?_ ?_
 ·
  intro i hl hi uu ww aa hJ hd hev hin
  clear hM
  obtain rfl | rfl | rfl | rfl | rfl | rfl | rfl | rfl : i = 0 ∨ i = 1 ∨ i = 2 ∨ i = 3 ∨ i = 4 ∨ i = 5 ∨ i = 6 ∨ i = 7 := by omega
  ·
   have x1 : aa.tmps[1]? = some (.pointer (some ⟨b1, 0, none⟩)) := (hev 1 (by decide)).trans rfl
   clear hd hev hin
   simp only [List.getElem_cons_succ, List.getElem_cons_zero]
   clear hl
   refine .inr ⟨rfl, fun K' hK => ?_⟩
   have HK := Lib.hid hK
   clear hK
   go_simp
   exact HK.out (.pointer (some ⟨b1, 0, none⟩)) _ hJ rfl veL_same
  ·
   have x3 : aa.tmps[3]? = some (.pointer (some ⟨b1, 0, none⟩)) := (hin 0 3 rfl).trans (congrArg some (show uu 0 = .pointer (some ⟨b1, 0, none⟩) from hd 0 (by decide) (by kernel_rfl)))
   clear hd hev hin
   simp only [List.getElem_cons_succ, List.getElem_cons_zero]
   clear hl
   refine .inr ⟨rfl, fun K' hK => ?_⟩
   have HK := Lib.hid hK
   clear hK
   have f0 : ww.cell? ⟨b1, 0, none⟩ = some (.int .i64 v.x.lo) := hJ.es.cell 1 rfl 0 rfl
   have f1 : ww.cell? ⟨b1, 1, none⟩ = some (.int .i64 v.x.hi) := hJ.es.cell 1 rfl 1 rfl
   have f2 : ww.cell? ⟨b1, 2, none⟩ = some (.bool v.x.all) := hJ.es.cell 1 rfl 2 rfl
   go_simp
   exact HK.out (.agg #[.int .i64 v.x.lo, .int .i64 v.x.hi, .bool v.x.all]) _ hJ rfl veL_same
  ·
   have x1 : aa.tmps[1]? = some (.pointer (some ⟨b1, 0, none⟩)) := (hev 1 (by decide)).trans rfl
   clear hd hev hin
   simp only [List.getElem_cons_succ, List.getElem_cons_zero]
   clear hl
   refine .inr ⟨rfl, fun K' hK => ?_⟩
   have HK := Lib.hid hK
   clear hK
   go_simp
   exact HK.out (.pointer (some ⟨b1, 3, none⟩)) _ hJ rfl veL_same
  ·
   have x5 : aa.tmps[5]? = some (.pointer (some ⟨b1, 3, none⟩)) := (hin 2 5 rfl).trans (congrArg some (show uu 2 = .pointer (some ⟨b1, 3, none⟩) from hd 2 (by decide) (by kernel_rfl)))
   clear hd hev hin
   simp only [List.getElem_cons_succ, List.getElem_cons_zero]
   clear hl
   refine .inr ⟨rfl, fun K' hK => ?_⟩
   have HK := Lib.hid hK
   clear hK
   have f0 : ww.cell? ⟨b1, 3, none⟩ = some (.int .i64 v.y.lo) := hJ.es.cell 1 rfl 3 rfl
   have f1 : ww.cell? ⟨b1, 4, none⟩ = some (.int .i64 v.y.hi) := hJ.es.cell 1 rfl 4 rfl
   have f2 : ww.cell? ⟨b1, 5, none⟩ = some (.bool v.y.all) := hJ.es.cell 1 rfl 5 rfl
   go_simp
   exact HK.out (.agg #[.int .i64 v.y.lo, .int .i64 v.y.hi, .bool v.y.all]) _ hJ rfl veL_same
  ·
   have x4 : aa.tmps[4]? = some (.agg #[.int .i64 v.x.lo, .int .i64 v.x.hi, .bool v.x.all]) := (hin 1 4 rfl).trans (congrArg some (show uu 1 = .agg #[.int .i64 v.x.lo, .int .i64 v.x.hi, .bool v.x.all] from hd 1 (by decide) (by kernel_rfl)))
   have x6 : aa.tmps[6]? = some (.agg #[.int .i64 v.y.lo, .int .i64 v.y.hi, .bool v.y.all]) := (hin 3 6 rfl).trans (congrArg some (show uu 3 = .agg #[.int .i64 v.y.lo, .int .i64 v.y.hi, .bool v.y.all] from hd 3 (by decide) (by kernel_rfl)))
   clear hd hev hin
   simp only [List.getElem_cons_succ, List.getElem_cons_zero]
   clear hl
   refine .inr ⟨rfl, fun K' hK => ?_⟩
   have HK := Lib.hid hK
   clear hK
   go_simp
   refine (H0.out ww).mono ?_
   rintro e W' ⟨rfl, hB⟩
   exact HK.out (.agg #[.int .i64 p.lo, .int .i64 p.hi, .bool p.all]) _ (hJ.later hB) rfl (veL_later hB)
  ·
   have x1 : aa.tmps[1]? = some (.pointer (some ⟨b1, 0, none⟩)) := (hev 1 (by decide)).trans rfl
   clear hd hev hin
   simp only [List.getElem_cons_succ, List.getElem_cons_zero]
   clear hl
   refine .inr ⟨rfl, fun K' hK => ?_⟩
   have HK := Lib.hid hK
   clear hK
   go_simp
   exact HK.out (.pointer (some ⟨b1, 6, none⟩)) _ hJ rfl veL_same
  ·
   have x8 : aa.tmps[8]? = some (.pointer (some ⟨b1, 6, none⟩)) := (hin 5 8 rfl).trans (congrArg some (show uu 5 = .pointer (some ⟨b1, 6, none⟩) from hd 5 (by decide) (by kernel_rfl)))
   clear hd hev hin
   simp only [List.getElem_cons_succ, List.getElem_cons_zero]
   clear hl
   refine .inr ⟨rfl, fun K' hK => ?_⟩
   have HK := Lib.hid hK
   clear hK
   have f0 : ww.cell? ⟨b1, 6, none⟩ = some (.int .i64 v.z.lo) := hJ.es.cell 1 rfl 6 rfl
   have f1 : ww.cell? ⟨b1, 7, none⟩ = some (.int .i64 v.z.hi) := hJ.es.cell 1 rfl 7 rfl
   have f2 : ww.cell? ⟨b1, 8, none⟩ = some (.bool v.z.all) := hJ.es.cell 1 rfl 8 rfl
   go_simp
   exact HK.out (.agg #[.int .i64 v.z.lo, .int .i64 v.z.hi, .bool v.z.all]) _ hJ rfl veL_same
  ·
   have x7 : aa.tmps[7]? = some (.agg #[.int .i64 p.lo, .int .i64 p.hi, .bool p.all]) := (hin 4 7 rfl).trans (congrArg some (show uu 4 = .agg #[.int .i64 p.lo, .int .i64 p.hi, .bool p.all] from hd 4 (by decide) (by kernel_rfl)))
   have x9 : aa.tmps[9]? = some (.agg #[.int .i64 v.z.lo, .int .i64 v.z.hi, .bool v.z.all]) := (hin 6 9 rfl).trans (congrArg some (show uu 6 = .agg #[.int .i64 v.z.lo, .int .i64 v.z.hi, .bool v.z.all] from hd 6 (by decide) (by kernel_rfl)))
   clear hd hev hin
   simp only [List.getElem_cons_succ, List.getElem_cons_zero]
   clear hl
   refine .inr ⟨rfl, fun K' hK => ?_⟩
   have HK := Lib.hid hK
   clear hK
   go_simp
   refine (H1.out ww).mono ?_
   rintro e W' ⟨rfl, hB⟩
   exact HK.out (.agg #[.int .i64 r.lo, .int .i64 r.hi, .bool r.all]) _ (hJ.later hB) rfl (veL_later hB)
 clear hM
 intro uu W3 hJm hd
 have e_0 : uu 0 = .pointer (some ⟨b1, 0, none⟩) := hd 0 (by decide)
 have e_1 : uu 1 = .agg #[.int .i64 v.x.lo, .int .i64 v.x.hi, .bool v.x.all] := hd 1 (by decide)
 have e_2 : uu 2 = .pointer (some ⟨b1, 3, none⟩) := hd 2 (by decide)
 have e_3 : uu 3 = .agg #[.int .i64 v.y.lo, .int .i64 v.y.hi, .bool v.y.all] := hd 3 (by decide)
 have e_4 : uu 4 = .agg #[.int .i64 p.lo, .int .i64 p.hi, .bool p.all] := hd 4 (by decide)
 have e_5 : uu 5 = .pointer (some ⟨b1, 6, none⟩) := hd 5 (by decide)
 have e_6 : uu 6 = .agg #[.int .i64 v.z.lo, .int .i64 v.z.hi, .bool v.z.all] := hd 6 (by decide)
 have e_7 : uu 7 = .agg #[.int .i64 r.lo, .int .i64 r.hi, .bool r.all] := hd 7 (by decide)
 clear hd
 simp only [layS, Act.put, List.setIfInBounds_toArray, List.set_cons_succ, List.set_cons_zero, Nat.zero_add, Nat.reduceAdd, List.drop_succ_cons, List.drop_zero, List.drop_nil, e_0, e_1, e_2, e_3, e_4, e_5, e_6, e_7]
 clear e_0 e_1 e_2 e_3 e_4 e_5 e_6 e_7
 have hJ3 := hJm.es
 clear hJm
 go_wp2_with (refine stop_store 23 (.tmp 2) (.tmp 10) 0 b2 0 #[.int .i64 0, .int .i64 0, .bool false] 23 3 [.int .i64 r.lo, .int .i64 r.hi, .bool r.all] #[.int .i64 r.lo, .int .i64 r.hi, .bool r.all] [(b2, #[.int .i64 r.lo, .int .i64 r.hi, .bool r.all], 23), (b1, #[.int .i64 v.x.lo, .int .i64 v.x.hi, .bool v.x.all, .int .i64 v.y.lo, .int .i64 v.y.hi, .bool v.y.all, .int .i64 v.z.lo, .int .i64 v.z.hi, .bool v.z.all], 24)] rfl rfl rfl rfl sz23 hJ3 rfl rfl (Nat.le_of_ble_eq_true (by kernel_rfl)) (by kernel_rfl) (by kernel_rfl) (by kernel_rfl) (fun W4 hJ4 => ?_))
 clear hJ3
 unfold Stop
 try simp only [Act.put, List.setIfInBounds_toArray, List.set_cons_succ, List.set_cons_zero]
 have f0 : W4.cell? ⟨b2, 0, none⟩ = some (.int .i64 r.lo) := hJ4.cell 0 rfl 0 rfl
 have f1 : W4.cell? ⟨b2, 1, none⟩ = some (.int .i64 r.hi) := hJ4.cell 0 rfl 1 rfl
 have f2 : W4.cell? ⟨b2, 2, none⟩ = some (.bool r.all) := hJ4.cell 0 rfl 2 rfl
 go_wp2
 exact bodyPost_ret (v := .agg #[.int .i64 r.lo, .int .i64 r.hi, .bool r.all]) (by simp [results, Try.results50, go_sem, f0, f1, f2]) rfl ⟨rfl, hJ4.below⟩
end Go.Proofs.Ytdochhhepmlapaa

/- Turns, as numbers: the true turn is in what is enclosed; a turn and its turned one make none; the axis, lengths and angles stay. No statement of the seat is proved here. -/
namespace Go.Proofs.Ytdochhhepmlapaa
open Go.RowKit
def DD : Int := 26 * KK * 1048576
theorem dd_pos : 0 < DD := by
  have := kk_pos
  unfold DD
  omega
theorem k2_40 : ((uQ (1048576 * 1048576) 2 12 : Nat) : Int) = 26 * KK := by kernel_rfl
/-- p times none, q times across n, r times across n twice. -/
def abc3 (n : V3) (p q r : Int) : M3 :=
  ⟨⟨p - r * (n.y * n.y + n.z * n.z), r * (n.x * n.y) - q * n.z, r * (n.x * n.z) + q * n.y⟩,
   ⟨r * (n.x * n.y) + q * n.z, p - r * (n.x * n.x + n.z * n.z), r * (n.y * n.z) - q * n.x⟩,
   ⟨r * (n.x * n.z) - q * n.y, r * (n.y * n.z) + q * n.x, p - r * (n.x * n.x + n.y * n.y)⟩⟩
def nn3 (n : V3) : Int := n.x * n.x + n.y * n.y + n.z * n.z
theorem abc_mul (n : V3) (p q r p' q' r' : Int) : mul3 (abc3 n p q r) (abc3 n p' q' r') = abc3 n (p * p') (p * q' + q * p' - nn3 n * (q * r' + r * q')) (p * r' + r * p' + q * q' - nn3 n * (r * r')) := by
  unfold mul3 turn3 abc3 dot3 nn3
  dsimp only
  congr 2 <;> grind
/-- The turn about n. -/
def tr3 (n : V3) (A B : Int) : M3 := abc3 n (1048576 * DD) (27262976 * A) B
theorem rw_plc {i a k b l : Sp} {I A K B L : Int} (hi : Rw i I 1) (ha : Rw a (A * 1048576) KK) (hk : Rw k K 1) (hb : Rw b (B * 1048576) (26 * KK)) (hl : Rw l L 1048576) : Rw (plcS i a k b l) (I * DD + 27262976 * A * K + B * L) DD := by
  have hD := dd_pos
  have hK := kk_pos
  have h1 : Rw i (I * DD) DD := rw_to (by decide) hD (by grind) hi
  have h2 : Rw (mulS a k) (27262976 * A * K) DD := rw_to (Int.mul_pos (Int.mul_pos hK (by decide)) (by decide)) hD (by unfold DD; grind) (rw_mul hK (by decide) ha hk)
  have h3 : Rw (mulS b l) (B * L) DD := rw_to (Int.mul_pos (Int.mul_pos (by omega) (by decide)) (by decide)) hD (by unfold DD; grind) (rw_mul (by omega) (by decide) hb hl)
  exact rw_add (rw_add h1 h2) h3
theorem rw_one (n : Int) : Rw (ofS n n) n 1 := by
  intro hk
  rw [one_of hk]
  exact ⟨by show n * 1 ≤ n; omega, by show n ≤ n * 1; omega⟩
theorem rw_cong {x : Sp} {N M U : Int} (h : Rw x N U) (e : N = M) : Rw x M U := e ▸ h
/-- The true turn is in what is enclosed. -/
theorem rw_exp {w : Vc} {n : V3} (hw : RwV w n 1) {A B : Int} (ha : Rw (encS 1 (normV w)) (A * 1048576) KK) (hb : Rw (encS 2 (normV w)) (B * 1048576) (26 * KK)) : RwT (expT w) (tr3 n A B) DD := by
  obtain ⟨h0, h1, h2⟩ := hw
  have s0 : Rw (sqrS w.x) (n.x * n.x) 1048576 := rw_sqr (by decide) h0
  have s1 : Rw (sqrS w.y) (n.y * n.y) 1048576 := rw_sqr (by decide) h1
  have s2 : Rw (sqrS w.z) (n.z * n.z) 1048576 := rw_sqr (by decide) h2
  have m01 : Rw (mulS w.x w.y) (n.x * n.y) 1048576 := rw_mul (by decide) (by decide) h0 h1
  have m02 : Rw (mulS w.x w.z) (n.x * n.z) 1048576 := rw_mul (by decide) (by decide) h0 h2
  have m12 : Rw (mulS w.y w.z) (n.y * n.z) 1048576 := rw_mul (by decide) (by decide) h1 h2
  have o := rw_one 1048576
  have z := rw_one 0
  refine ⟨⟨?_, ?_, ?_⟩, ⟨?_, ?_, ?_⟩, ⟨?_, ?_, ?_⟩⟩
  · exact rw_cong (rw_plc o ha z hb (rw_neg (rw_add s1 s2))) (by simp only [tr3, abc3]; grind)
  · exact rw_cong (rw_plc z ha (rw_neg h2) hb m01) (by simp only [tr3, abc3]; grind)
  · exact rw_cong (rw_plc z ha h1 hb m02) (by simp only [tr3, abc3]; grind)
  · exact rw_cong (rw_plc z ha h2 hb m01) (by simp only [tr3, abc3]; grind)
  · exact rw_cong (rw_plc o ha z hb (rw_neg (rw_add s0 s2))) (by simp only [tr3, abc3]; grind)
  · exact rw_cong (rw_plc z ha (rw_neg h0) hb m12) (by simp only [tr3, abc3]; grind)
  · exact rw_cong (rw_plc z ha (rw_neg h1) hb m02) (by simp only [tr3, abc3]; grind)
  · exact rw_cong (rw_plc z ha h0 hb m12) (by simp only [tr3, abc3]; grind)
  · exact rw_cong (rw_plc o ha z hb (rw_neg (rw_add s0 s1))) (by simp only [tr3, abc3]; grind)
theorem meet_near {x y : Sp} {N M U : Int} (hU : 0 < U) (hx : Rw x N U) (hy : Rw y M U) (h1 : okB x = true → okB y = true → N - M < U ∧ M - N < U) : meetB x y = true :=
  meet_of fun kx ky => ⟨rin_le hU (hx kx) (hy ky) (h1 kx ky).1, rin_le hU (hy ky) (hx kx) (h1 kx ky).2⟩
end Go.Proofs.Ytdochhhepmlapaa

/- Polynomials of three numbers by their terms: enough to see that what is left of the rules of turns is small. No statement of the seat is proved here. -/
namespace Go.Proofs.Ytdochhhepmlapaa
open Go.RowKit
/-- A term: its coefficient, and the powers of three numbers. -/
structure Mn where
 c : Int
 i : Nat
 j : Nat
 k : Nat
def evm (t : Mn) (m n s : Int) : Int := t.c * (m ^ t.i * (n ^ t.j * s ^ t.k))
def ev3 : List Mn → Int → Int → Int → Int
 | [], _, _, _ => 0
 | t :: l, m, n, s => evm t m n s + ev3 l m n s
def ins (t : Mn) : List Mn → List Mn
 | [] => [t]
 | u :: l => if (t.i == u.i && t.j == u.j && t.k == u.k) = true then ⟨t.c + u.c, u.i, u.j, u.k⟩ :: l else u :: ins t l
def nrm : List Mn → List Mn
 | [] => []
 | t :: l => ins t (nrm l)
def mulm (t u : Mn) : Mn := ⟨t.c * u.c, t.i + u.i, t.j + u.j, t.k + u.k⟩
def mulM (t : Mn) : List Mn → List Mn
 | [] => []
 | u :: l => mulm t u :: mulM t l
def mulL : List Mn → List Mn → List Mn
 | [], _ => []
 | t :: l, r => mulM t r ++ mulL l r
def horL : List Int → List Mn → List Mn
 | [], _ => []
 | a :: l, p => nrm (⟨a, 0, 0, 0⟩ :: mulL p (horL l p))
def abs3 : List Mn → Int → Int → Int → Int
 | [], _, _, _ => 0
 | t :: l, m, n, s => (t.c.natAbs : Int) * (m ^ t.i * (n ^ t.j * s ^ t.k)) + abs3 l m n s
section
variable (m n s : Int)
theorem ev3_app : ∀ l r, ev3 (l ++ r) m n s = ev3 l m n s + ev3 r m n s
 | [], r => by simp [ev3]
 | t :: l, r => by
  show evm t m n s + ev3 (l ++ r) m n s = evm t m n s + ev3 l m n s + ev3 r m n s
  rw [ev3_app l r]
  omega
theorem ev3_ins (t : Mn) : ∀ l, ev3 (ins t l) m n s = evm t m n s + ev3 l m n s
 | [] => rfl
 | u :: l => by
  unfold ins
  split
  ·
   next h =>
   simp only [Bool.and_eq_true, beq_iff_eq] at h
   show evm ⟨t.c + u.c, u.i, u.j, u.k⟩ m n s + ev3 l m n s = evm t m n s + (evm u m n s + ev3 l m n s)
   unfold evm
   rw [h.1.1, h.1.2, h.2]
   dsimp only
   rw [Int.add_mul]
   omega
  ·
   show evm u m n s + ev3 (ins t l) m n s = evm t m n s + (evm u m n s + ev3 l m n s)
   rw [ev3_ins t l]
   omega
theorem ev3_nrm : ∀ l, ev3 (nrm l) m n s = ev3 l m n s
 | [] => rfl
 | t :: l => by
  show ev3 (ins t (nrm l)) m n s = evm t m n s + ev3 l m n s
  rw [ev3_ins, ev3_nrm l]
theorem evm_mul (t u : Mn) : evm (mulm t u) m n s = evm t m n s * evm u m n s := by
 unfold evm mulm
 dsimp only
 rw [Int.pow_add, Int.pow_add, Int.pow_add]
 ac_rfl
theorem ev3_mulM (t : Mn) : ∀ l, ev3 (mulM t l) m n s = evm t m n s * ev3 l m n s
 | [] => by simp [mulM, ev3]
 | u :: l => by
  show evm (mulm t u) m n s + ev3 (mulM t l) m n s = evm t m n s * (evm u m n s + ev3 l m n s)
  rw [evm_mul, ev3_mulM t l, Int.mul_add]
theorem ev3_mul : ∀ l r, ev3 (mulL l r) m n s = ev3 l m n s * ev3 r m n s
 | [], r => by simp [mulL, ev3]
 | t :: l, r => by
  show ev3 (mulM t r ++ mulL l r) m n s = (evm t m n s + ev3 l m n s) * ev3 r m n s
  rw [ev3_app, ev3_mulM, ev3_mul l r, Int.add_mul]
theorem ev3_hor (p : List Mn) : ∀ l, ev3 (horL l p) m n s = ev l (ev3 p m n s)
 | [] => rfl
 | a :: l => by
  show ev3 (nrm (⟨a, 0, 0, 0⟩ :: mulL p (horL l p))) m n s = a + ev3 p m n s * ev l (ev3 p m n s)
  rw [ev3_nrm]
  show evm ⟨a, 0, 0, 0⟩ m n s + ev3 (mulL p (horL l p)) m n s = _
  rw [ev3_mul, ev3_hor p l]
  simp [evm]
end
theorem pw_abs {m M : Int} (h1 : -M ≤ m) (h2 : m ≤ M) : ∀ i : Nat, -(M ^ i) ≤ m ^ i ∧ m ^ i ≤ M ^ i
 | 0 => by simp
 | i + 1 => by
  obtain ⟨a, b⟩ := pw_abs h1 h2 i
  rw [Int.pow_succ, Int.pow_succ]
  exact abs_mul_le a b h1 h2
theorem ev3_abs {m n s M N S : Int} (m1 : -M ≤ m) (m2 : m ≤ M) (n1 : -N ≤ n) (n2 : n ≤ N) (s1 : -S ≤ s) (s2 : s ≤ S) : ∀ l, -abs3 l M N S ≤ ev3 l m n s ∧ ev3 l m n s ≤ abs3 l M N S
 | [] => by simp [abs3, ev3]
 | t :: l => by
  obtain ⟨a, b⟩ := ev3_abs m1 m2 n1 n2 s1 s2 l
  have hi := pw_abs m1 m2 t.i
  have hj := pw_abs n1 n2 t.j
  have hk := pw_abs s1 s2 t.k
  have h1 := abs_mul_le hj.1 hj.2 hk.1 hk.2
  have h2 := abs_mul_le hi.1 hi.2 h1.1 h1.2
  have h3 := abs_mul_le (x := t.c) (B := (t.c.natAbs : Int)) (by omega) (by omega) h2.1 h2.2
  show -((t.c.natAbs : Int) * (M ^ t.i * (N ^ t.j * S ^ t.k)) + abs3 l M N S) ≤ evm t m n s + ev3 l m n s ∧ evm t m n s + ev3 l m n s ≤ (t.c.natAbs : Int) * (M ^ t.i * (N ^ t.j * S ^ t.k)) + abs3 l M N S
  unfold evm
  omega
end Go.Proofs.Ytdochhhepmlapaa

/- Turns about one axis: what is left of the rule of two of them is small. No statement of the seat is proved here. -/
namespace Go.Proofs.Ytdochhhepmlapaa
open Go.RowKit
def q40 : Nat := 1048576 * 1048576
/-- The sums A and B at the squares of m, of n, and of both together, times the square of the axis. -/
def pm : List Mn := [⟨1, 2, 0, 1⟩]
def pn : List Mn := [⟨1, 0, 2, 1⟩]
def pmn : List Mn := [⟨1, 2, 0, 1⟩, ⟨2, 1, 1, 1⟩, ⟨1, 0, 2, 1⟩]
def hA3 (p : List Mn) : List Mn := horL (hP q40 1 12) p
def hB3 (p : List Mn) : List Mn := horL (hP q40 2 12) p
def lF3 : List Mn := nrm (mulM ⟨1048576 * DD, 1, 0, 0⟩ (hA3 pm) ++ (mulM ⟨1048576 * DD, 0, 1, 0⟩ (hA3 pn) ++ (mulM ⟨-(1048576 * DD), 1, 0, 0⟩ (hA3 pmn) ++ (mulM ⟨-(1048576 * DD), 0, 1, 0⟩ (hA3 pmn) ++ (mulM ⟨-1, 1, 2, 1⟩ (mulL (hA3 pm) (hB3 pn)) ++ mulM ⟨-1, 2, 1, 1⟩ (mulL (hA3 pn) (hB3 pm)))))))
def lG3 : List Mn := nrm (mulM ⟨1048576 * DD, 2, 0, 0⟩ (hB3 pm) ++ (mulM ⟨1048576 * DD, 0, 2, 0⟩ (hB3 pn) ++ (mulM ⟨743269860376576, 1, 1, 0⟩ (mulL (hA3 pm) (hA3 pn)) ++ (mulM ⟨-1, 2, 2, 1⟩ (mulL (hB3 pm) (hB3 pn)) ++ (mulM ⟨-(1048576 * DD), 2, 0, 0⟩ (hB3 pmn) ++ (mulM ⟨-(2 * 1048576 * DD), 1, 1, 0⟩ (hB3 pmn) ++ mulM ⟨-(1048576 * DD), 0, 2, 0⟩ (hB3 pmn)))))))
set_option maxRecDepth 1000000 in
theorem c3F : 27262976 * abs3 lF3 100 100 82435692 * 10000 < DD * DD := of_decide_eq_true (by kernel_rfl)
set_option maxRecDepth 1000000 in
theorem c3G : abs3 lG3 100 100 82435692 * 100000000 < DD * DD := of_decide_eq_true (by kernel_rfl)
end Go.Proofs.Ytdochhhepmlapaa

/- Turns about one axis: a turn behind another one is the turn by both angles, as numbers. No statement of the seat is proved here. -/
namespace Go.Proofs.Ytdochhhepmlapaa
open Go.RowKit
section
variable (m n s : Int)
theorem hA3_ev (p : List Mn) : ev3 (hA3 p) m n s = hV q40 1 (ev3 p m n s) 12 := by unfold hA3; rw [ev3_hor, hP_ev]
theorem hB3_ev (p : List Mn) : ev3 (hB3 p) m n s = hV q40 2 (ev3 p m n s) 12 := by unfold hB3; rw [ev3_hor, hP_ev]
theorem pm_ev : ev3 pm m n s = m * m * s := by
 show evm _ m n s + 0 = _
 unfold evm
 dsimp only
 grind
theorem pn_ev : ev3 pn m n s = n * n * s := by
 show evm _ m n s + 0 = _
 unfold evm
 dsimp only
 grind
theorem pmn_ev : ev3 pmn m n s = (m + n) * (m + n) * s := by
 show evm _ m n s + (evm _ m n s + (evm _ m n s + 0)) = _
 unfold evm
 dsimp only
 grind
def FF (A1 A2 A3 B1 B2 : Int) : Int := 1048576 * DD * (m * A1 + n * A2 - (m + n) * A3) - s * (m * (n * n) * (A1 * B2) + n * (m * m) * (A2 * B1))
def GG (A1 A2 B1 B2 B3 : Int) : Int := 1048576 * DD * (m * m * B1 + n * n * B2 - (m + n) * (m + n) * B3) + 743269860376576 * (m * n * (A1 * A2)) - s * (m * m * (n * n) * (B1 * B2))
theorem lF3_ev : ev3 lF3 m n s = FF m n s (hV q40 1 (m * m * s) 12) (hV q40 1 (n * n * s) 12) (hV q40 1 ((m + n) * (m + n) * s) 12) (hV q40 2 (m * m * s) 12) (hV q40 2 (n * n * s) 12) := by
 unfold lF3 FF
 simp only [ev3_nrm, ev3_app, ev3_mulM, ev3_mul, hA3_ev, hB3_ev, pm_ev, pn_ev, pmn_ev]
 generalize hV q40 1 (m * m * s) 12 = A1
 generalize hV q40 1 (n * n * s) 12 = A2
 generalize hV q40 1 ((m + n) * (m + n) * s) 12 = A3
 generalize hV q40 2 (m * m * s) 12 = B1
 generalize hV q40 2 (n * n * s) 12 = B2
 unfold evm
 dsimp only
 generalize DD = D
 grind
theorem lG3_ev : ev3 lG3 m n s = GG m n s (hV q40 1 (m * m * s) 12) (hV q40 1 (n * n * s) 12) (hV q40 2 (m * m * s) 12) (hV q40 2 (n * n * s) 12) (hV q40 2 ((m + n) * (m + n) * s) 12) := by
 unfold lG3 GG
 simp only [ev3_nrm, ev3_app, ev3_mulM, ev3_mul, hA3_ev, hB3_ev, pm_ev, pn_ev, pmn_ev]
 generalize hV q40 1 (m * m * s) 12 = A1
 generalize hV q40 1 (n * n * s) 12 = A2
 generalize hV q40 2 (m * m * s) 12 = B1
 generalize hV q40 2 (n * n * s) 12 = B2
 generalize hV q40 2 ((m + n) * (m + n) * s) 12 = B3
 unfold evm
 dsimp only
 generalize DD = D
 grind
end
theorem rw_A {w : Vc} {n : V3} (hw : RwV w n 1) : Rw (encS 1 (normV w)) (hV q40 1 (nn3 n) 12 * 1048576) KK := by
 intro hk
 have hin := in_of_enc hk
 obtain ⟨g1, g2⟩ := (rw_norm (by decide) hw.1 hw.2.1 hw.2.2) (four_of hin).1
 exact rin_enc (c := 1) (r := 1048576) (by decide) hin (show (normV w).lo * ((1048576 : Nat) : Int) ≤ nn3 n from g1) (show nn3 n ≤ (normV w).hi * ((1048576 : Nat) : Int) from g2)
theorem rw_B {w : Vc} {n : V3} (hw : RwV w n 1) : Rw (encS 2 (normV w)) (hV q40 2 (nn3 n) 12 * 1048576) (26 * KK) := by
 intro hk
 have hin := in_of_enc hk
 obtain ⟨g1, g2⟩ := (rw_norm (by decide) hw.1 hw.2.1 hw.2.2) (four_of hin).1
 have r := rin_enc (c := 2) (r := 1048576) (by decide) hin (show (normV w).lo * ((1048576 : Nat) : Int) ≤ nn3 n from g1) (show nn3 n ≤ (normV w).hi * ((1048576 : Nat) : Int) from g2)
 rw [k2_40] at r
 exact r
theorem abc_scale (x y z m p q r : Int) : abc3 ⟨m * x, m * y, m * z⟩ p q r = abc3 ⟨x, y, z⟩ p (m * q) (m * m * r) := by
 unfold abc3
 dsimp only
 congr 2 <;> grind
theorem rwT_to {e : Tu} {u : V3} {p q r U V k : Int} (hU : 0 < U) (hV : 0 < V) (e1 : V = U * k) (h : RwT e (abc3 u p q r) U) : RwT e (abc3 u (p * k) (q * k) (r * k)) V := by
 obtain ⟨⟨a0, a1, a2⟩, ⟨b0, b1, b2⟩, ⟨c0, c1, c2⟩⟩ := h
 refine ⟨⟨rw_to hU hV ?_ a0, rw_to hU hV ?_ a1, rw_to hU hV ?_ a2⟩, ⟨rw_to hU hV ?_ b0, rw_to hU hV ?_ b1, rw_to hU hV ?_ b2⟩, ⟨rw_to hU hV ?_ c0, rw_to hU hV ?_ c1, rw_to hU hV ?_ c2⟩⟩
 all_goals (rw [e1]; simp only [abc3]; grind)
theorem near_one {x y : Sp} {N M V fq k fr l : Int} (hV : 0 < V) (hx : Rw x N (V * 1048576)) (hy : Rw y M (V * 1048576)) (e : N - M = fr * l + fq * k) (q1 : -V ≤ fq * k) (q2 : fq * k ≤ V) (r1 : -V ≤ fr * l) (r2 : fr * l ≤ V) : meetB x y = true := by
 refine meet_near (by omega) hx hy fun _ _ => ?_
 constructor <;> omega
theorem near_abc {e c : Tu} {x y z p q r q' r' V : Int} (hV : 0 < V) (h : RwT e (abc3 ⟨x, y, z⟩ p q r) (V * 1048576)) (g : RwT c (abc3 ⟨x, y, z⟩ p q' r') (V * 1048576)) {Bq Br : Int} (q1 : -Bq ≤ q - q') (q2 : q - q' ≤ Bq) (q3 : Bq * 10000 < V) (r1 : -Br ≤ r - r') (r2 : r - r' ≤ Br) (r3 : Br * 100000000 < V) (x1 : -5242 ≤ x) (x2 : x ≤ 5242) (y1 : -5242 ≤ y) (y2 : y ≤ 5242) (z1 : -5242 ≤ z) (z2 : z ≤ 5242) : meetT e c := by
 have kx := abs_mul_le q1 q2 x1 x2
 have ky := abs_mul_le q1 q2 y1 y2
 have kz := abs_mul_le q1 q2 z1 z2
 have xx := abs_mul_le x1 x2 x1 x2
 have yy := abs_mul_le y1 y2 y1 y2
 have zz := abs_mul_le z1 z2 z1 z2
 have lxy := abs_mul_le r1 r2 (abs_mul_le x1 x2 y1 y2).1 (abs_mul_le x1 x2 y1 y2).2
 have lxz := abs_mul_le r1 r2 (abs_mul_le x1 x2 z1 z2).1 (abs_mul_le x1 x2 z1 z2).2
 have lyz := abs_mul_le r1 r2 (abs_mul_le y1 y2 z1 z2).1 (abs_mul_le y1 y2 z1 z2).2
 have d0 := abs_mul_le (r := -(y * y + z * z)) (R := 54957128) r1 r2 (by omega) (by omega)
 have d1 := abs_mul_le (r := -(x * x + z * z)) (R := 54957128) r1 r2 (by omega) (by omega)
 have d2 := abs_mul_le (r := -(x * x + y * y)) (R := 54957128) r1 r2 (by omega) (by omega)
 have nx : (q - q') * -x = -((q - q') * x) := Int.mul_neg _ _
 have ny : (q - q') * -y = -((q - q') * y) := Int.mul_neg _ _
 have nz : (q - q') * -z = -((q - q') * z) := Int.mul_neg _ _
 have n0 : (q - q') * 0 = 0 := Int.mul_zero _
 obtain ⟨⟨a0, a1, a2⟩, ⟨b0, b1, b2⟩, ⟨c0, c1, c2⟩⟩ := h
 obtain ⟨⟨A0, A1, A2⟩, ⟨B0, B1, B2⟩, ⟨C0, C1, C2⟩⟩ := g
 refine ⟨⟨near_one (fq := q - q') (k := 0) (fr := r - r') (l := -(y * y + z * z)) hV a0 A0 ?_ ?_ ?_ ?_ ?_, near_one (fq := q - q') (k := -z) (fr := r - r') (l := x * y) hV a1 A1 ?_ ?_ ?_ ?_ ?_, near_one (fq := q - q') (k := y) (fr := r - r') (l := x * z) hV a2 A2 ?_ ?_ ?_ ?_ ?_⟩,
  ⟨near_one (fq := q - q') (k := z) (fr := r - r') (l := x * y) hV b0 B0 ?_ ?_ ?_ ?_ ?_, near_one (fq := q - q') (k := 0) (fr := r - r') (l := -(x * x + z * z)) hV b1 B1 ?_ ?_ ?_ ?_ ?_, near_one (fq := q - q') (k := -x) (fr := r - r') (l := y * z) hV b2 B2 ?_ ?_ ?_ ?_ ?_⟩,
  ⟨near_one (fq := q - q') (k := -y) (fr := r - r') (l := x * z) hV c0 C0 ?_ ?_ ?_ ?_ ?_, near_one (fq := q - q') (k := x) (fr := r - r') (l := y * z) hV c1 C1 ?_ ?_ ?_ ?_ ?_, near_one (fq := q - q') (k := 0) (fr := r - r') (l := -(x * x + y * y)) hV c2 C2 ?_ ?_ ?_ ?_ ?_⟩⟩
 all_goals first | omega | (simp only [abc3]; grind)
/-- RotTwice, as numbers. -/
theorem twice_m {x y z m n : Int} (x1 : -5242 ≤ x) (x2 : x ≤ 5242) (y1 : -5242 ≤ y) (y2 : y ≤ 5242) (z1 : -5242 ≤ z) (z2 : z ≤ 5242) (m1 : -100 ≤ m) (m2 : m ≤ 100) (n1 : -100 ≤ n) (n2 : n ≤ 100) :
  meetT (mulT (expT (ofV (m * x) (m * y) (m * z))) (expT (ofV (n * x) (n * y) (n * z)))) (expT (ofV ((m + n) * x) ((m + n) * y) ((m + n) * z))) := by
 have hd := dd_pos
 have rw3 : ∀ a b c : Int, RwV (ofV a b c) ⟨a, b, c⟩ 1 := fun a b c => ⟨rw_one a, rw_one b, rw_one c⟩
 obtain ⟨S, eS⟩ : ∃ S, S = x * x + y * y + z * z := ⟨_, rfl⟩
 have en : ∀ k : Int, nn3 ⟨k * x, k * y, k * z⟩ = k * k * S := by
  intro k
  unfold nn3
  dsimp only
  rw [eS]
  grind
 have h : ∀ k : Int, RwT (expT (ofV (k * x) (k * y) (k * z))) (abc3 ⟨x, y, z⟩ (1048576 * DD) (k * (27262976 * hV q40 1 (k * k * S) 12)) (k * k * hV q40 2 (k * k * S) 12)) DD := by
  intro k
  have := rw_exp (rw3 (k * x) (k * y) (k * z)) (rw_A (rw3 _ _ _)) (rw_B (rw3 _ _ _))
  rw [en] at this
  unfold tr3 at this
  rw [abc_scale] at this
  exact this
 have a := rwT_mul hd hd (h m) (h n)
 rw [abc_mul] at a
 have c := rwT_to (V := DD * DD * 1048576) (k := DD * 1048576) hd (Int.mul_pos (Int.mul_pos hd hd) (by decide)) (by rw [Int.mul_assoc]) (h (m + n))
 have eP : 1048576 * DD * (DD * 1048576) = 1048576 * DD * (1048576 * DD) := by rw [Int.mul_comm DD]
 rw [eP] at c
 have s0 : nn3 ⟨x, y, z⟩ = S := by
  unfold nn3
  exact eS.symm
 rw [s0] at a
 have xx := abs_mul_le x1 x2 x1 x2
 have yy := abs_mul_le y1 y2 y1 y2
 have zz := abs_mul_le z1 z2 z1 z2
 have bF := ev3_abs (S := 82435692) (s := S) m1 m2 n1 n2 (by omega) (by omega) lF3
 have bG := ev3_abs (S := 82435692) (s := S) m1 m2 n1 n2 (by omega) (by omega) lG3
 rw [lF3_ev] at bF
 rw [lG3_ev] at bG
 have cF := c3F
 have cG := c3G
 clear xx yy zz eP s0 h rw3 en eS
 generalize hV q40 1 (m * m * S) 12 = A1 at *
 generalize hV q40 1 (n * n * S) 12 = A2 at *
 generalize hV q40 1 ((m + n) * (m + n) * S) 12 = A3 at *
 generalize hV q40 2 (m * m * S) 12 = B1 at *
 generalize hV q40 2 (n * n * S) 12 = B2 at *
 generalize hV q40 2 ((m + n) * (m + n) * S) 12 = B3 at *
 generalize abs3 lF3 100 100 82435692 = bf at *
 generalize abs3 lG3 100 100 82435692 = bg at *
 have eF : 1048576 * DD * (n * (27262976 * A2)) + m * (27262976 * A1) * (1048576 * DD) - S * (m * (27262976 * A1) * (n * n * B2) + m * m * B1 * (n * (27262976 * A2))) - (m + n) * (27262976 * A3) * (DD * 1048576) = 27262976 * FF m n S A1 A2 A3 B1 B2 := by
  unfold FF
  generalize DD = D
  grind
 have eG : 1048576 * DD * (n * n * B2) + m * m * B1 * (1048576 * DD) + m * (27262976 * A1) * (n * (27262976 * A2)) - S * (m * m * B1 * (n * n * B2)) - (m + n) * (m + n) * B3 * (DD * 1048576) = GG m n S A1 A2 B1 B2 B3 := by
  unfold GG
  generalize DD = D
  grind
 refine near_abc (V := DD * DD) (Bq := 27262976 * bf) (Br := bg) (Int.mul_pos hd hd) a c ?_ ?_ cF ?_ ?_ cG x1 x2 y1 y2 z1 z2
 ·
  rw [eF]; omega
 ·
  rw [eF]; omega
 ·
  rw [eG]; omega
 ·
  rw [eG]; omega
end Go.Proofs.Ytdochhhepmlapaa
