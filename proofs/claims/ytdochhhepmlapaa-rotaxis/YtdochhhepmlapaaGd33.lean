/- Parts of the proof. -/
import Derived.Test.YtdochhhepmlapaaGd29
import Derived.Test.YtdochhhepmlapaaGd30
import Derived.Test.YtdochhhepmlapaaGd32
import Derived.Test.YtdochhhepmlapaaGd25
import Derived.Test.YtdochhhepmlapaaGd20
/- Package vec: the walks of its methods. No statement of the seat is proved here. -/
namespace Go.Proofs.Ytdochhhepmlapaa
open Go Go.RowKit
attribute [local go_sem ↓] run_vbuild run_dbuild run_eqlB
set_option maxRecDepth 100000 in
set_option maxHeartbeats 12800000 in
theorem vSub_w (v u r : Vc) (hH : ∀ W : World, Calls Try.prog 46 #[.agg #[.int .i64 v.x.lo, .int .i64 v.x.hi, .bool v.x.all, .int .i64 v.y.lo, .int .i64 v.y.hi, .bool v.y.all, .int .i64 v.z.lo, .int .i64 v.z.hi, .bool v.z.all], .agg #[.int .i64 u.x.lo, .int .i64 u.x.hi, .bool u.x.all, .int .i64 u.y.lo, .int .i64 u.y.hi, .bool u.y.all, .int .i64 u.z.lo, .int .i64 u.z.hi, .bool u.z.all], .func (.func 48) #[] #[]] W (PVal (.agg #[.int .i64 r.x.lo, .int .i64 r.x.hi, .bool r.x.all, .int .i64 r.y.lo, .int .i64 r.y.hi, .bool r.y.all, .int .i64 r.z.lo, .int .i64 r.z.hi, .bool r.z.all]) W))  (w : World) : Calls Try.prog 13 #[.agg #[.int .i64 v.x.lo, .int .i64 v.x.hi, .bool v.x.all, .int .i64 v.y.lo, .int .i64 v.y.hi, .bool v.y.all, .int .i64 v.z.lo, .int .i64 v.z.hi, .bool v.z.all], .agg #[.int .i64 u.x.lo, .int .i64 u.x.hi, .bool u.x.all, .int .i64 u.y.lo, .int .i64 u.y.hi, .bool u.y.all, .int .i64 u.z.lo, .int .i64 u.z.hi, .bool u.z.all]] w (PVal (.agg #[.int .i64 r.x.lo, .int .i64 r.x.hi, .bool r.x.all, .int .i64 r.y.lo, .int .i64 r.y.hi, .bool r.y.all, .int .i64 r.z.lo, .int .i64 r.z.hi, .bool r.z.all]) w) := by
 have H := Lib.hid hH
 clear hH
 have hJ0 := es_nil w
 go_enter Try.func13, Try.ntmps13
 go_wp2_with (refine stop_box 25 (.tmp 0) #[.int .i64 v.x.lo, .int .i64 v.x.hi, .bool v.x.all, .int .i64 v.y.lo, .int .i64 v.y.hi, .bool v.y.all, .int .i64 v.z.lo, .int .i64 v.z.hi, .bool v.z.all] rfl rfl rfl hJ0 (fun b1 W1 hJ1 => ?_))
 clear hJ0
 unfold Stop
 try simp only [Act.put, List.setIfInBounds_toArray, List.set_cons_succ, List.set_cons_zero]
 go_wp2_with (refine stop_box 25 (.tmp 1) #[.int .i64 u.x.lo, .int .i64 u.x.hi, .bool u.x.all, .int .i64 u.y.lo, .int .i64 u.y.hi, .bool u.y.all, .int .i64 u.z.lo, .int .i64 u.z.hi, .bool u.z.all] rfl rfl rfl hJ1 (fun b2 W2 hJ2 => ?_))
 clear hJ1
 unfold Stop
 try simp only [Act.put, List.setIfInBounds_toArray, List.set_cons_succ, List.set_cons_zero]
 go_wp2_with (refine stop_alloc 25 #[.int .i64 0, .int .i64 0, .bool false, .int .i64 0, .int .i64 0, .bool false, .int .i64 0, .int .i64 0, .bool false] (.agg #[.int .i64 0, .int .i64 0, .bool false, .int .i64 0, .int .i64 0, .bool false, .int .i64 0, .int .i64 0, .bool false]) rfl rfl zv25 rfl hJ2 (fun b3 W3 hJ3 => ?_))
 clear hJ2
 unfold Stop
 try simp only [Act.put, List.setIfInBounds_toArray, List.set_cons_succ, List.set_cons_zero]
 have f0 : W3.cell? ⟨b1, 0, none⟩ = some (.int .i64 v.x.lo) := hJ3.cell 2 rfl 0 rfl
 have f1 : W3.cell? ⟨b1, 1, none⟩ = some (.int .i64 v.x.hi) := hJ3.cell 2 rfl 1 rfl
 have f2 : W3.cell? ⟨b1, 2, none⟩ = some (.bool v.x.all) := hJ3.cell 2 rfl 2 rfl
 have f3 : W3.cell? ⟨b1, 3, none⟩ = some (.int .i64 v.y.lo) := hJ3.cell 2 rfl 3 rfl
 have f4 : W3.cell? ⟨b1, 4, none⟩ = some (.int .i64 v.y.hi) := hJ3.cell 2 rfl 4 rfl
 have f5 : W3.cell? ⟨b1, 5, none⟩ = some (.bool v.y.all) := hJ3.cell 2 rfl 5 rfl
 have f6 : W3.cell? ⟨b1, 6, none⟩ = some (.int .i64 v.z.lo) := hJ3.cell 2 rfl 6 rfl
 have f7 : W3.cell? ⟨b1, 7, none⟩ = some (.int .i64 v.z.hi) := hJ3.cell 2 rfl 7 rfl
 have f8 : W3.cell? ⟨b1, 8, none⟩ = some (.bool v.z.all) := hJ3.cell 2 rfl 8 rfl
 have f9 : W3.cell? ⟨b2, 0, none⟩ = some (.int .i64 u.x.lo) := hJ3.cell 1 rfl 0 rfl
 have f10 : W3.cell? ⟨b2, 1, none⟩ = some (.int .i64 u.x.hi) := hJ3.cell 1 rfl 1 rfl
 have f11 : W3.cell? ⟨b2, 2, none⟩ = some (.bool u.x.all) := hJ3.cell 1 rfl 2 rfl
 have f12 : W3.cell? ⟨b2, 3, none⟩ = some (.int .i64 u.y.lo) := hJ3.cell 1 rfl 3 rfl
 have f13 : W3.cell? ⟨b2, 4, none⟩ = some (.int .i64 u.y.hi) := hJ3.cell 1 rfl 4 rfl
 have f14 : W3.cell? ⟨b2, 5, none⟩ = some (.bool u.y.all) := hJ3.cell 1 rfl 5 rfl
 have f15 : W3.cell? ⟨b2, 6, none⟩ = some (.int .i64 u.z.lo) := hJ3.cell 1 rfl 6 rfl
 have f16 : W3.cell? ⟨b2, 7, none⟩ = some (.int .i64 u.z.hi) := hJ3.cell 1 rfl 7 rfl
 have f17 : W3.cell? ⟨b2, 8, none⟩ = some (.bool u.z.all) := hJ3.cell 1 rfl 8 rfl
 go_wp2_with fail
 refine (H.out _).mono ?_
 rintro e W4 ⟨rfl, hB⟩
 have hJ4 := hJ3.later hB
 clear hB
 clear f0 f1 f2 f3 f4 f5 f6 f7 f8 f9 f10 f11 f12 f13 f14 f15 f16 f17
 clear hJ3
 go_wp2_with (refine stop_store 25 (.tmp 4) (.tmp 7) 0 b3 0 #[.int .i64 0, .int .i64 0, .bool false, .int .i64 0, .int .i64 0, .bool false, .int .i64 0, .int .i64 0, .bool false] 25 9 [.int .i64 r.x.lo, .int .i64 r.x.hi, .bool r.x.all, .int .i64 r.y.lo, .int .i64 r.y.hi, .bool r.y.all, .int .i64 r.z.lo, .int .i64 r.z.hi, .bool r.z.all] #[.int .i64 r.x.lo, .int .i64 r.x.hi, .bool r.x.all, .int .i64 r.y.lo, .int .i64 r.y.hi, .bool r.y.all, .int .i64 r.z.lo, .int .i64 r.z.hi, .bool r.z.all] [(b3, #[.int .i64 r.x.lo, .int .i64 r.x.hi, .bool r.x.all, .int .i64 r.y.lo, .int .i64 r.y.hi, .bool r.y.all, .int .i64 r.z.lo, .int .i64 r.z.hi, .bool r.z.all], 25), (b2, #[.int .i64 u.x.lo, .int .i64 u.x.hi, .bool u.x.all, .int .i64 u.y.lo, .int .i64 u.y.hi, .bool u.y.all, .int .i64 u.z.lo, .int .i64 u.z.hi, .bool u.z.all], 25), (b1, #[.int .i64 v.x.lo, .int .i64 v.x.hi, .bool v.x.all, .int .i64 v.y.lo, .int .i64 v.y.hi, .bool v.y.all, .int .i64 v.z.lo, .int .i64 v.z.hi, .bool v.z.all], 25)] rfl rfl rfl rfl sz25 hJ4 rfl rfl (Nat.le_of_ble_eq_true (by kernel_rfl)) (by kernel_rfl) (by kernel_rfl) (by kernel_rfl) (fun W5 hJ5 => ?_))
 clear hJ4
 unfold Stop
 try simp only [Act.put, List.setIfInBounds_toArray, List.set_cons_succ, List.set_cons_zero]
 have f0 : W5.cell? ⟨b3, 0, none⟩ = some (.int .i64 r.x.lo) := hJ5.cell 0 rfl 0 rfl
 have f1 : W5.cell? ⟨b3, 1, none⟩ = some (.int .i64 r.x.hi) := hJ5.cell 0 rfl 1 rfl
 have f2 : W5.cell? ⟨b3, 2, none⟩ = some (.bool r.x.all) := hJ5.cell 0 rfl 2 rfl
 have f3 : W5.cell? ⟨b3, 3, none⟩ = some (.int .i64 r.y.lo) := hJ5.cell 0 rfl 3 rfl
 have f4 : W5.cell? ⟨b3, 4, none⟩ = some (.int .i64 r.y.hi) := hJ5.cell 0 rfl 4 rfl
 have f5 : W5.cell? ⟨b3, 5, none⟩ = some (.bool r.y.all) := hJ5.cell 0 rfl 5 rfl
 have f6 : W5.cell? ⟨b3, 6, none⟩ = some (.int .i64 r.z.lo) := hJ5.cell 0 rfl 6 rfl
 have f7 : W5.cell? ⟨b3, 7, none⟩ = some (.int .i64 r.z.hi) := hJ5.cell 0 rfl 7 rfl
 have f8 : W5.cell? ⟨b3, 8, none⟩ = some (.bool r.z.all) := hJ5.cell 0 rfl 8 rfl
 go_wp2
 exact bodyPost_ret (v := .agg #[.int .i64 r.x.lo, .int .i64 r.x.hi, .bool r.x.all, .int .i64 r.y.lo, .int .i64 r.y.hi, .bool r.y.all, .int .i64 r.z.lo, .int .i64 r.z.hi, .bool r.z.all]) (by simp [results, Try.results13, go_sem, f0, f1, f2, f3, f4, f5, f6, f7, f8]) rfl ⟨rfl, hJ5.below⟩
theorem vSub_any (v u : Vc) (w : World) : Calls Try.prog 13 #[.agg #[.int .i64 v.x.lo, .int .i64 v.x.hi, .bool v.x.all, .int .i64 v.y.lo, .int .i64 v.y.hi, .bool v.y.all, .int .i64 v.z.lo, .int .i64 v.z.hi, .bool v.z.all], .agg #[.int .i64 u.x.lo, .int .i64 u.x.hi, .bool u.x.all, .int .i64 u.y.lo, .int .i64 u.y.hi, .bool u.y.all, .int .i64 u.z.lo, .int .i64 u.z.hi, .bool u.z.all]] w (PVal (.agg #[.int .i64 ((subV v u).x.lo), .int .i64 ((subV v u).x.hi), .bool ((subV v u).x.all), .int .i64 ((subV v u).y.lo), .int .i64 ((subV v u).y.hi), .bool ((subV v u).y.all), .int .i64 ((subV v u).z.lo), .int .i64 ((subV v u).z.hi), .bool ((subV v u).z.all)]) w) :=
 vSub_w v u (subV v u) (both_s _ v u (subV v u) (sSub_any v.x u.x) (sSub_any v.y u.y) (sSub_any v.z u.z) (fun _ _ => by kernel_rfl)) w
theorem vsum_any (v : Vc) (w : World) : Calls Try.prog 50 #[.agg #[.int .i64 v.x.lo, .int .i64 v.x.hi, .bool v.x.all, .int .i64 v.y.lo, .int .i64 v.y.hi, .bool v.y.all, .int .i64 v.z.lo, .int .i64 v.z.hi, .bool v.z.all]] w (PVal (.agg #[.int .i64 ((sumV v).lo), .int .i64 ((sumV v).hi), .bool ((sumV v).all)]) w) :=
 sum_w v (addS v.x v.y) (sumV v) (sAdd_any v.x v.y) (sAdd_any (addS v.x v.y) v.z) w
set_option maxRecDepth 100000 in
set_option maxHeartbeats 12800000 in
theorem vDot_w (v u p : Vc) (r : Sp) (hH : ∀ W : World, Calls Try.prog 46 #[.agg #[.int .i64 v.x.lo, .int .i64 v.x.hi, .bool v.x.all, .int .i64 v.y.lo, .int .i64 v.y.hi, .bool v.y.all, .int .i64 v.z.lo, .int .i64 v.z.hi, .bool v.z.all], .agg #[.int .i64 u.x.lo, .int .i64 u.x.hi, .bool u.x.all, .int .i64 u.y.lo, .int .i64 u.y.hi, .bool u.y.all, .int .i64 u.z.lo, .int .i64 u.z.hi, .bool u.z.all], .func (.func 49) #[] #[]] W (PVal (.agg #[.int .i64 p.x.lo, .int .i64 p.x.hi, .bool p.x.all, .int .i64 p.y.lo, .int .i64 p.y.hi, .bool p.y.all, .int .i64 p.z.lo, .int .i64 p.z.hi, .bool p.z.all]) W)) (hH1 : ∀ W : World, Calls Try.prog 50 #[.agg #[.int .i64 p.x.lo, .int .i64 p.x.hi, .bool p.x.all, .int .i64 p.y.lo, .int .i64 p.y.hi, .bool p.y.all, .int .i64 p.z.lo, .int .i64 p.z.hi, .bool p.z.all]] W (PVal (.agg #[.int .i64 r.lo, .int .i64 r.hi, .bool r.all]) W))  (w : World) : Calls Try.prog 16 #[.agg #[.int .i64 v.x.lo, .int .i64 v.x.hi, .bool v.x.all, .int .i64 v.y.lo, .int .i64 v.y.hi, .bool v.y.all, .int .i64 v.z.lo, .int .i64 v.z.hi, .bool v.z.all], .agg #[.int .i64 u.x.lo, .int .i64 u.x.hi, .bool u.x.all, .int .i64 u.y.lo, .int .i64 u.y.hi, .bool u.y.all, .int .i64 u.z.lo, .int .i64 u.z.hi, .bool u.z.all]] w (PVal (.agg #[.int .i64 r.lo, .int .i64 r.hi, .bool r.all]) w) := by
 have H := Lib.hid hH
 have H1 := Lib.hid hH1
 clear hH hH1
 have hJ0 := es_nil w
 go_enter Try.func16, Try.ntmps16
 go_wp2_with (refine stop_box 25 (.tmp 0) #[.int .i64 v.x.lo, .int .i64 v.x.hi, .bool v.x.all, .int .i64 v.y.lo, .int .i64 v.y.hi, .bool v.y.all, .int .i64 v.z.lo, .int .i64 v.z.hi, .bool v.z.all] rfl rfl rfl hJ0 (fun b1 W1 hJ1 => ?_))
 clear hJ0
 unfold Stop
 try simp only [Act.put, List.setIfInBounds_toArray, List.set_cons_succ, List.set_cons_zero]
 go_wp2_with (refine stop_box 25 (.tmp 1) #[.int .i64 u.x.lo, .int .i64 u.x.hi, .bool u.x.all, .int .i64 u.y.lo, .int .i64 u.y.hi, .bool u.y.all, .int .i64 u.z.lo, .int .i64 u.z.hi, .bool u.z.all] rfl rfl rfl hJ1 (fun b2 W2 hJ2 => ?_))
 clear hJ1
 unfold Stop
 try simp only [Act.put, List.setIfInBounds_toArray, List.set_cons_succ, List.set_cons_zero]
 go_wp2_with (refine stop_alloc 23 #[.int .i64 0, .int .i64 0, .bool false] (.agg #[.int .i64 0, .int .i64 0, .bool false]) rfl rfl zv23 rfl hJ2 (fun b3 W3 hJ3 => ?_))
 clear hJ2
 unfold Stop
 try simp only [Act.put, List.setIfInBounds_toArray, List.set_cons_succ, List.set_cons_zero]
 have f0 : W3.cell? ⟨b1, 0, none⟩ = some (.int .i64 v.x.lo) := hJ3.cell 2 rfl 0 rfl
 have f1 : W3.cell? ⟨b1, 1, none⟩ = some (.int .i64 v.x.hi) := hJ3.cell 2 rfl 1 rfl
 have f2 : W3.cell? ⟨b1, 2, none⟩ = some (.bool v.x.all) := hJ3.cell 2 rfl 2 rfl
 have f3 : W3.cell? ⟨b1, 3, none⟩ = some (.int .i64 v.y.lo) := hJ3.cell 2 rfl 3 rfl
 have f4 : W3.cell? ⟨b1, 4, none⟩ = some (.int .i64 v.y.hi) := hJ3.cell 2 rfl 4 rfl
 have f5 : W3.cell? ⟨b1, 5, none⟩ = some (.bool v.y.all) := hJ3.cell 2 rfl 5 rfl
 have f6 : W3.cell? ⟨b1, 6, none⟩ = some (.int .i64 v.z.lo) := hJ3.cell 2 rfl 6 rfl
 have f7 : W3.cell? ⟨b1, 7, none⟩ = some (.int .i64 v.z.hi) := hJ3.cell 2 rfl 7 rfl
 have f8 : W3.cell? ⟨b1, 8, none⟩ = some (.bool v.z.all) := hJ3.cell 2 rfl 8 rfl
 have f9 : W3.cell? ⟨b2, 0, none⟩ = some (.int .i64 u.x.lo) := hJ3.cell 1 rfl 0 rfl
 have f10 : W3.cell? ⟨b2, 1, none⟩ = some (.int .i64 u.x.hi) := hJ3.cell 1 rfl 1 rfl
 have f11 : W3.cell? ⟨b2, 2, none⟩ = some (.bool u.x.all) := hJ3.cell 1 rfl 2 rfl
 have f12 : W3.cell? ⟨b2, 3, none⟩ = some (.int .i64 u.y.lo) := hJ3.cell 1 rfl 3 rfl
 have f13 : W3.cell? ⟨b2, 4, none⟩ = some (.int .i64 u.y.hi) := hJ3.cell 1 rfl 4 rfl
 have f14 : W3.cell? ⟨b2, 5, none⟩ = some (.bool u.y.all) := hJ3.cell 1 rfl 5 rfl
 have f15 : W3.cell? ⟨b2, 6, none⟩ = some (.int .i64 u.z.lo) := hJ3.cell 1 rfl 6 rfl
 have f16 : W3.cell? ⟨b2, 7, none⟩ = some (.int .i64 u.z.hi) := hJ3.cell 1 rfl 7 rfl
 have f17 : W3.cell? ⟨b2, 8, none⟩ = some (.bool u.z.all) := hJ3.cell 1 rfl 8 rfl
 go_wp2_with fail
 refine (H.out _).mono ?_
 rintro e W4 ⟨rfl, hB⟩
 have hJ4 := hJ3.later hB
 clear hB
 clear f0 f1 f2 f3 f4 f5 f6 f7 f8 f9 f10 f11 f12 f13 f14 f15 f16 f17
 clear hJ3
 go_wp2_with fail
 refine (H1.out _).mono ?_
 rintro e W5 ⟨rfl, hB⟩
 have hJ5 := hJ4.later hB
 clear hB
 clear hJ4
 go_wp2_with (refine stop_store 23 (.tmp 4) (.tmp 8) 0 b3 0 #[.int .i64 0, .int .i64 0, .bool false] 23 3 [.int .i64 r.lo, .int .i64 r.hi, .bool r.all] #[.int .i64 r.lo, .int .i64 r.hi, .bool r.all] [(b3, #[.int .i64 r.lo, .int .i64 r.hi, .bool r.all], 23), (b2, #[.int .i64 u.x.lo, .int .i64 u.x.hi, .bool u.x.all, .int .i64 u.y.lo, .int .i64 u.y.hi, .bool u.y.all, .int .i64 u.z.lo, .int .i64 u.z.hi, .bool u.z.all], 25), (b1, #[.int .i64 v.x.lo, .int .i64 v.x.hi, .bool v.x.all, .int .i64 v.y.lo, .int .i64 v.y.hi, .bool v.y.all, .int .i64 v.z.lo, .int .i64 v.z.hi, .bool v.z.all], 25)] rfl rfl rfl rfl sz23 hJ5 rfl rfl (Nat.le_of_ble_eq_true (by kernel_rfl)) (by kernel_rfl) (by kernel_rfl) (by kernel_rfl) (fun W6 hJ6 => ?_))
 clear hJ5
 unfold Stop
 try simp only [Act.put, List.setIfInBounds_toArray, List.set_cons_succ, List.set_cons_zero]
 have f0 : W6.cell? ⟨b3, 0, none⟩ = some (.int .i64 r.lo) := hJ6.cell 0 rfl 0 rfl
 have f1 : W6.cell? ⟨b3, 1, none⟩ = some (.int .i64 r.hi) := hJ6.cell 0 rfl 1 rfl
 have f2 : W6.cell? ⟨b3, 2, none⟩ = some (.bool r.all) := hJ6.cell 0 rfl 2 rfl
 go_wp2
 exact bodyPost_ret (v := .agg #[.int .i64 r.lo, .int .i64 r.hi, .bool r.all]) (by simp [results, Try.results16, go_sem, f0, f1, f2]) rfl ⟨rfl, hJ6.below⟩
theorem vDot_any (v u : Vc) (w : World) : Calls Try.prog 16 #[.agg #[.int .i64 v.x.lo, .int .i64 v.x.hi, .bool v.x.all, .int .i64 v.y.lo, .int .i64 v.y.hi, .bool v.y.all, .int .i64 v.z.lo, .int .i64 v.z.hi, .bool v.z.all], .agg #[.int .i64 u.x.lo, .int .i64 u.x.hi, .bool u.x.all, .int .i64 u.y.lo, .int .i64 u.y.hi, .bool u.y.all, .int .i64 u.z.lo, .int .i64 u.z.hi, .bool u.z.all]] w (PVal (.agg #[.int .i64 ((dotV v u).lo), .int .i64 ((dotV v u).hi), .bool ((dotV v u).all)]) w) :=
 vDot_w v u (mulV v u) (dotV v u) (both_s _ v u (mulV v u) (sMul_any v.x u.x) (sMul_any v.y u.y) (sMul_any v.z u.z) (fun _ _ => by kernel_rfl)) (vsum_any (mulV v u)) w
set_option maxRecDepth 100000 in
set_option maxHeartbeats 12800000 in
theorem vCross_w (v u p q r : Vc) (hHv1 : ∀ W : World, Calls Try.prog 51 #[.agg #[.int .i64 v.x.lo, .int .i64 v.x.hi, .bool v.x.all, .int .i64 v.y.lo, .int .i64 v.y.hi, .bool v.y.all, .int .i64 v.z.lo, .int .i64 v.z.hi, .bool v.z.all], .int .i64 1] W (PVal (.agg #[.int .i64 v.y.lo, .int .i64 v.y.hi, .bool v.y.all, .int .i64 v.z.lo, .int .i64 v.z.hi, .bool v.z.all, .int .i64 v.x.lo, .int .i64 v.x.hi, .bool v.x.all]) W)) (hHu2 : ∀ W : World, Calls Try.prog 51 #[.agg #[.int .i64 u.x.lo, .int .i64 u.x.hi, .bool u.x.all, .int .i64 u.y.lo, .int .i64 u.y.hi, .bool u.y.all, .int .i64 u.z.lo, .int .i64 u.z.hi, .bool u.z.all], .int .i64 2] W (PVal (.agg #[.int .i64 u.z.lo, .int .i64 u.z.hi, .bool u.z.all, .int .i64 u.x.lo, .int .i64 u.x.hi, .bool u.x.all, .int .i64 u.y.lo, .int .i64 u.y.hi, .bool u.y.all]) W)) (hHp : ∀ W : World, Calls Try.prog 46 #[.agg #[.int .i64 v.y.lo, .int .i64 v.y.hi, .bool v.y.all, .int .i64 v.z.lo, .int .i64 v.z.hi, .bool v.z.all, .int .i64 v.x.lo, .int .i64 v.x.hi, .bool v.x.all], .agg #[.int .i64 u.z.lo, .int .i64 u.z.hi, .bool u.z.all, .int .i64 u.x.lo, .int .i64 u.x.hi, .bool u.x.all, .int .i64 u.y.lo, .int .i64 u.y.hi, .bool u.y.all], .func (.func 49) #[] #[]] W (PVal (.agg #[.int .i64 p.x.lo, .int .i64 p.x.hi, .bool p.x.all, .int .i64 p.y.lo, .int .i64 p.y.hi, .bool p.y.all, .int .i64 p.z.lo, .int .i64 p.z.hi, .bool p.z.all]) W)) (hHv2 : ∀ W : World, Calls Try.prog 51 #[.agg #[.int .i64 v.x.lo, .int .i64 v.x.hi, .bool v.x.all, .int .i64 v.y.lo, .int .i64 v.y.hi, .bool v.y.all, .int .i64 v.z.lo, .int .i64 v.z.hi, .bool v.z.all], .int .i64 2] W (PVal (.agg #[.int .i64 v.z.lo, .int .i64 v.z.hi, .bool v.z.all, .int .i64 v.x.lo, .int .i64 v.x.hi, .bool v.x.all, .int .i64 v.y.lo, .int .i64 v.y.hi, .bool v.y.all]) W)) (hHu1 : ∀ W : World, Calls Try.prog 51 #[.agg #[.int .i64 u.x.lo, .int .i64 u.x.hi, .bool u.x.all, .int .i64 u.y.lo, .int .i64 u.y.hi, .bool u.y.all, .int .i64 u.z.lo, .int .i64 u.z.hi, .bool u.z.all], .int .i64 1] W (PVal (.agg #[.int .i64 u.y.lo, .int .i64 u.y.hi, .bool u.y.all, .int .i64 u.z.lo, .int .i64 u.z.hi, .bool u.z.all, .int .i64 u.x.lo, .int .i64 u.x.hi, .bool u.x.all]) W)) (hHq : ∀ W : World, Calls Try.prog 46 #[.agg #[.int .i64 v.z.lo, .int .i64 v.z.hi, .bool v.z.all, .int .i64 v.x.lo, .int .i64 v.x.hi, .bool v.x.all, .int .i64 v.y.lo, .int .i64 v.y.hi, .bool v.y.all], .agg #[.int .i64 u.y.lo, .int .i64 u.y.hi, .bool u.y.all, .int .i64 u.z.lo, .int .i64 u.z.hi, .bool u.z.all, .int .i64 u.x.lo, .int .i64 u.x.hi, .bool u.x.all], .func (.func 49) #[] #[]] W (PVal (.agg #[.int .i64 q.x.lo, .int .i64 q.x.hi, .bool q.x.all, .int .i64 q.y.lo, .int .i64 q.y.hi, .bool q.y.all, .int .i64 q.z.lo, .int .i64 q.z.hi, .bool q.z.all]) W)) (hHr : ∀ W : World, Calls Try.prog 46 #[.agg #[.int .i64 p.x.lo, .int .i64 p.x.hi, .bool p.x.all, .int .i64 p.y.lo, .int .i64 p.y.hi, .bool p.y.all, .int .i64 p.z.lo, .int .i64 p.z.hi, .bool p.z.all], .agg #[.int .i64 q.x.lo, .int .i64 q.x.hi, .bool q.x.all, .int .i64 q.y.lo, .int .i64 q.y.hi, .bool q.y.all, .int .i64 q.z.lo, .int .i64 q.z.hi, .bool q.z.all], .func (.func 48) #[] #[]] W (PVal (.agg #[.int .i64 r.x.lo, .int .i64 r.x.hi, .bool r.x.all, .int .i64 r.y.lo, .int .i64 r.y.hi, .bool r.y.all, .int .i64 r.z.lo, .int .i64 r.z.hi, .bool r.z.all]) W))  (w : World) : Calls Try.prog 17 #[.agg #[.int .i64 v.x.lo, .int .i64 v.x.hi, .bool v.x.all, .int .i64 v.y.lo, .int .i64 v.y.hi, .bool v.y.all, .int .i64 v.z.lo, .int .i64 v.z.hi, .bool v.z.all], .agg #[.int .i64 u.x.lo, .int .i64 u.x.hi, .bool u.x.all, .int .i64 u.y.lo, .int .i64 u.y.hi, .bool u.y.all, .int .i64 u.z.lo, .int .i64 u.z.hi, .bool u.z.all]] w (PVal (.agg #[.int .i64 r.x.lo, .int .i64 r.x.hi, .bool r.x.all, .int .i64 r.y.lo, .int .i64 r.y.hi, .bool r.y.all, .int .i64 r.z.lo, .int .i64 r.z.hi, .bool r.z.all]) w) := by
 have Hv1 := Lib.hid hHv1
 have Hu2 := Lib.hid hHu2
 have Hp := Lib.hid hHp
 have Hv2 := Lib.hid hHv2
 have Hu1 := Lib.hid hHu1
 have Hq := Lib.hid hHq
 have Hr := Lib.hid hHr
 clear hHv1 hHu2 hHp hHv2 hHu1 hHq hHr
 have hJ0 := es_nil w
 go_enter Try.func17, Try.ntmps17
 go_wp2_with (refine stop_box 25 (.tmp 0) #[.int .i64 v.x.lo, .int .i64 v.x.hi, .bool v.x.all, .int .i64 v.y.lo, .int .i64 v.y.hi, .bool v.y.all, .int .i64 v.z.lo, .int .i64 v.z.hi, .bool v.z.all] rfl rfl rfl hJ0 (fun b1 W1 hJ1 => ?_))
 clear hJ0
 unfold Stop
 try simp only [Act.put, List.setIfInBounds_toArray, List.set_cons_succ, List.set_cons_zero]
 go_wp2_with (refine stop_box 25 (.tmp 1) #[.int .i64 u.x.lo, .int .i64 u.x.hi, .bool u.x.all, .int .i64 u.y.lo, .int .i64 u.y.hi, .bool u.y.all, .int .i64 u.z.lo, .int .i64 u.z.hi, .bool u.z.all] rfl rfl rfl hJ1 (fun b2 W2 hJ2 => ?_))
 clear hJ1
 unfold Stop
 try simp only [Act.put, List.setIfInBounds_toArray, List.set_cons_succ, List.set_cons_zero]
 go_wp2_with (refine stop_alloc 25 #[.int .i64 0, .int .i64 0, .bool false, .int .i64 0, .int .i64 0, .bool false, .int .i64 0, .int .i64 0, .bool false] (.agg #[.int .i64 0, .int .i64 0, .bool false, .int .i64 0, .int .i64 0, .bool false, .int .i64 0, .int .i64 0, .bool false]) rfl rfl zv25 rfl hJ2 (fun b3 W3 hJ3 => ?_))
 clear hJ2
 unfold Stop
 try simp only [Act.put, List.setIfInBounds_toArray, List.set_cons_succ, List.set_cons_zero]
 go_wp2
 obtain ⟨m1_3, hm⟩ : ∃ m, m = W3.heap.size := ⟨_, rfl⟩
 have hM := hJ3.em
 rw [← hm] at hM
 clear hm hJ3
 refine wp_region_z 6 [some 7, some 8, some 9, some 10, some 11, some 5] (veL m1_3 [.eq (.agg #[.int .i64 v.x.lo, .int .i64 v.x.hi, .bool v.x.all, .int .i64 v.y.lo, .int .i64 v.y.hi, .bool v.y.all, .int .i64 v.z.lo, .int .i64 v.z.hi, .bool v.z.all]), .eq (.agg #[.int .i64 v.y.lo, .int .i64 v.y.hi, .bool v.y.all, .int .i64 v.z.lo, .int .i64 v.z.hi, .bool v.z.all, .int .i64 v.x.lo, .int .i64 v.x.hi, .bool v.x.all]), .eq (.agg #[.int .i64 u.x.lo, .int .i64 u.x.hi, .bool u.x.all, .int .i64 u.y.lo, .int .i64 u.y.hi, .bool u.y.all, .int .i64 u.z.lo, .int .i64 u.z.hi, .bool u.z.all]), .eq (.agg #[.int .i64 u.z.lo, .int .i64 u.z.hi, .bool u.z.all, .int .i64 u.x.lo, .int .i64 u.x.hi, .bool u.x.all, .int .i64 u.y.lo, .int .i64 u.y.hi, .bool u.y.all]), .eq (.agg #[.int .i64 p.x.lo, .int .i64 p.x.hi, .bool p.x.all, .int .i64 p.y.lo, .int .i64 p.y.hi, .bool p.y.all, .int .i64 p.z.lo, .int .i64 p.z.hi, .bool p.z.all]), .box #[.int .i64 0, .int .i64 0, .bool false, .int .i64 0, .int .i64 0, .bool false, .int .i64 0, .int .i64 0, .bool false] 24]) (Em w m1_3 [(b3, #[.int .i64 0, .int .i64 0, .bool false, .int .i64 0, .int .i64 0, .bool false, .int .i64 0, .int .i64 0, .bool false], 25), (b2, #[.int .i64 u.x.lo, .int .i64 u.x.hi, .bool u.x.all, .int .i64 u.y.lo, .int .i64 u.y.hi, .bool u.y.all, .int .i64 u.z.lo, .int .i64 u.z.hi, .bool u.z.all], 25), (b1, #[.int .i64 v.x.lo, .int .i64 v.x.hi, .bool v.x.all, .int .i64 v.y.lo, .int .i64 v.y.hi, .bool v.y.all, .int .i64 v.z.lo, .int .i64 v.z.hi, .bool v.z.all], 25)]) (by kernel_rfl) (by kernel_rfl) (by rfl) (by decide) (by rfl) hM ?_ ?_
 ·
  intro i hl hi uu ww aa hJ hd hev hin
  clear hM
  obtain rfl | rfl | rfl | rfl | rfl | rfl : i = 0 ∨ i = 1 ∨ i = 2 ∨ i = 3 ∨ i = 4 ∨ i = 5 := by omega
  ·
   have x2 : aa.tmps[2]? = some (.pointer (some ⟨b1, 0, none⟩)) := (hev 2 (by decide)).trans rfl
   clear hd hev hin
   simp only [List.getElem_cons_succ, List.getElem_cons_zero]
   clear hl
   refine .inr ⟨rfl, fun K' hK => ?_⟩
   have HK := Lib.hid hK
   clear hK
   have f0 : ww.cell? ⟨b1, 0, none⟩ = some (.int .i64 v.x.lo) := hJ.es.cell 2 rfl 0 rfl
   have f1 : ww.cell? ⟨b1, 1, none⟩ = some (.int .i64 v.x.hi) := hJ.es.cell 2 rfl 1 rfl
   have f2 : ww.cell? ⟨b1, 2, none⟩ = some (.bool v.x.all) := hJ.es.cell 2 rfl 2 rfl
   have f3 : ww.cell? ⟨b1, 3, none⟩ = some (.int .i64 v.y.lo) := hJ.es.cell 2 rfl 3 rfl
   have f4 : ww.cell? ⟨b1, 4, none⟩ = some (.int .i64 v.y.hi) := hJ.es.cell 2 rfl 4 rfl
   have f5 : ww.cell? ⟨b1, 5, none⟩ = some (.bool v.y.all) := hJ.es.cell 2 rfl 5 rfl
   have f6 : ww.cell? ⟨b1, 6, none⟩ = some (.int .i64 v.z.lo) := hJ.es.cell 2 rfl 6 rfl
   have f7 : ww.cell? ⟨b1, 7, none⟩ = some (.int .i64 v.z.hi) := hJ.es.cell 2 rfl 7 rfl
   have f8 : ww.cell? ⟨b1, 8, none⟩ = some (.bool v.z.all) := hJ.es.cell 2 rfl 8 rfl
   go_simp
   exact HK.out (.agg #[.int .i64 v.x.lo, .int .i64 v.x.hi, .bool v.x.all, .int .i64 v.y.lo, .int .i64 v.y.hi, .bool v.y.all, .int .i64 v.z.lo, .int .i64 v.z.hi, .bool v.z.all]) _ hJ rfl veL_same
  ·
   have x7 : aa.tmps[7]? = some (.agg #[.int .i64 v.x.lo, .int .i64 v.x.hi, .bool v.x.all, .int .i64 v.y.lo, .int .i64 v.y.hi, .bool v.y.all, .int .i64 v.z.lo, .int .i64 v.z.hi, .bool v.z.all]) := (hin 0 7 rfl).trans (congrArg some (show uu 0 = .agg #[.int .i64 v.x.lo, .int .i64 v.x.hi, .bool v.x.all, .int .i64 v.y.lo, .int .i64 v.y.hi, .bool v.y.all, .int .i64 v.z.lo, .int .i64 v.z.hi, .bool v.z.all] from hd 0 (by decide) (by kernel_rfl)))
   clear hd hev hin
   simp only [List.getElem_cons_succ, List.getElem_cons_zero]
   clear hl
   refine .inr ⟨rfl, fun K' hK => ?_⟩
   have HK := Lib.hid hK
   clear hK
   go_simp
   refine (Hv1.out ww).mono ?_
   rintro e W' ⟨rfl, hB⟩
   exact HK.out (.agg #[.int .i64 v.y.lo, .int .i64 v.y.hi, .bool v.y.all, .int .i64 v.z.lo, .int .i64 v.z.hi, .bool v.z.all, .int .i64 v.x.lo, .int .i64 v.x.hi, .bool v.x.all]) _ (hJ.later hB) rfl (veL_later hB)
  ·
   have x3 : aa.tmps[3]? = some (.pointer (some ⟨b2, 0, none⟩)) := (hev 3 (by decide)).trans rfl
   clear hd hev hin
   simp only [List.getElem_cons_succ, List.getElem_cons_zero]
   clear hl
   refine .inr ⟨rfl, fun K' hK => ?_⟩
   have HK := Lib.hid hK
   clear hK
   have f0 : ww.cell? ⟨b2, 0, none⟩ = some (.int .i64 u.x.lo) := hJ.es.cell 1 rfl 0 rfl
   have f1 : ww.cell? ⟨b2, 1, none⟩ = some (.int .i64 u.x.hi) := hJ.es.cell 1 rfl 1 rfl
   have f2 : ww.cell? ⟨b2, 2, none⟩ = some (.bool u.x.all) := hJ.es.cell 1 rfl 2 rfl
   have f3 : ww.cell? ⟨b2, 3, none⟩ = some (.int .i64 u.y.lo) := hJ.es.cell 1 rfl 3 rfl
   have f4 : ww.cell? ⟨b2, 4, none⟩ = some (.int .i64 u.y.hi) := hJ.es.cell 1 rfl 4 rfl
   have f5 : ww.cell? ⟨b2, 5, none⟩ = some (.bool u.y.all) := hJ.es.cell 1 rfl 5 rfl
   have f6 : ww.cell? ⟨b2, 6, none⟩ = some (.int .i64 u.z.lo) := hJ.es.cell 1 rfl 6 rfl
   have f7 : ww.cell? ⟨b2, 7, none⟩ = some (.int .i64 u.z.hi) := hJ.es.cell 1 rfl 7 rfl
   have f8 : ww.cell? ⟨b2, 8, none⟩ = some (.bool u.z.all) := hJ.es.cell 1 rfl 8 rfl
   go_simp
   exact HK.out (.agg #[.int .i64 u.x.lo, .int .i64 u.x.hi, .bool u.x.all, .int .i64 u.y.lo, .int .i64 u.y.hi, .bool u.y.all, .int .i64 u.z.lo, .int .i64 u.z.hi, .bool u.z.all]) _ hJ rfl veL_same
  ·
   have x9 : aa.tmps[9]? = some (.agg #[.int .i64 u.x.lo, .int .i64 u.x.hi, .bool u.x.all, .int .i64 u.y.lo, .int .i64 u.y.hi, .bool u.y.all, .int .i64 u.z.lo, .int .i64 u.z.hi, .bool u.z.all]) := (hin 2 9 rfl).trans (congrArg some (show uu 2 = .agg #[.int .i64 u.x.lo, .int .i64 u.x.hi, .bool u.x.all, .int .i64 u.y.lo, .int .i64 u.y.hi, .bool u.y.all, .int .i64 u.z.lo, .int .i64 u.z.hi, .bool u.z.all] from hd 2 (by decide) (by kernel_rfl)))
   clear hd hev hin
   simp only [List.getElem_cons_succ, List.getElem_cons_zero]
   clear hl
   refine .inr ⟨rfl, fun K' hK => ?_⟩
   have HK := Lib.hid hK
   clear hK
   go_simp
   refine (Hu2.out ww).mono ?_
   rintro e W' ⟨rfl, hB⟩
   exact HK.out (.agg #[.int .i64 u.z.lo, .int .i64 u.z.hi, .bool u.z.all, .int .i64 u.x.lo, .int .i64 u.x.hi, .bool u.x.all, .int .i64 u.y.lo, .int .i64 u.y.hi, .bool u.y.all]) _ (hJ.later hB) rfl (veL_later hB)
  ·
   have x8 : aa.tmps[8]? = some (.agg #[.int .i64 v.y.lo, .int .i64 v.y.hi, .bool v.y.all, .int .i64 v.z.lo, .int .i64 v.z.hi, .bool v.z.all, .int .i64 v.x.lo, .int .i64 v.x.hi, .bool v.x.all]) := (hin 1 8 rfl).trans (congrArg some (show uu 1 = .agg #[.int .i64 v.y.lo, .int .i64 v.y.hi, .bool v.y.all, .int .i64 v.z.lo, .int .i64 v.z.hi, .bool v.z.all, .int .i64 v.x.lo, .int .i64 v.x.hi, .bool v.x.all] from hd 1 (by decide) (by kernel_rfl)))
   have x10 : aa.tmps[10]? = some (.agg #[.int .i64 u.z.lo, .int .i64 u.z.hi, .bool u.z.all, .int .i64 u.x.lo, .int .i64 u.x.hi, .bool u.x.all, .int .i64 u.y.lo, .int .i64 u.y.hi, .bool u.y.all]) := (hin 3 10 rfl).trans (congrArg some (show uu 3 = .agg #[.int .i64 u.z.lo, .int .i64 u.z.hi, .bool u.z.all, .int .i64 u.x.lo, .int .i64 u.x.hi, .bool u.x.all, .int .i64 u.y.lo, .int .i64 u.y.hi, .bool u.y.all] from hd 3 (by decide) (by kernel_rfl)))
   clear hd hev hin
   simp only [List.getElem_cons_succ, List.getElem_cons_zero]
   clear hl
   refine .inr ⟨rfl, fun K' hK => ?_⟩
   have HK := Lib.hid hK
   clear hK
   go_simp
   refine (Hp.out ww).mono ?_
   rintro e W' ⟨rfl, hB⟩
   exact HK.out (.agg #[.int .i64 p.x.lo, .int .i64 p.x.hi, .bool p.x.all, .int .i64 p.y.lo, .int .i64 p.y.hi, .bool p.y.all, .int .i64 p.z.lo, .int .i64 p.z.hi, .bool p.z.all]) _ (hJ.later hB) rfl (veL_later hB)
  ·
   clear hd hev hin
   simp only [List.getElem_cons_succ, List.getElem_cons_zero]
   clear hl
   refine .inr ⟨rfl, fun K' hK => ?_⟩
   have HK := Lib.hid hK
   clear hK
   refine wp_alloc 24 rfl (.agg #[.int .i64 0, .int .i64 0, .bool false, .int .i64 0, .int .i64 0, .bool false, .int .i64 0, .int .i64 0, .bool false]) zv24 ?_
   exact HK.out _ _ (hJ.later ((Below.refl _ _).alloc (Nat.le_refl _) _)) ⟨ww.heap.size, rfl, hJ.le, heap_new ww _⟩ (veL_later ((Below.refl _ _).alloc (Nat.le_refl _) _))
 clear hM
 intro uu W4 hJm hd
 have e_0 : uu 0 = .agg #[.int .i64 v.x.lo, .int .i64 v.x.hi, .bool v.x.all, .int .i64 v.y.lo, .int .i64 v.y.hi, .bool v.y.all, .int .i64 v.z.lo, .int .i64 v.z.hi, .bool v.z.all] := hd 0 (by decide)
 have e_1 : uu 1 = .agg #[.int .i64 v.y.lo, .int .i64 v.y.hi, .bool v.y.all, .int .i64 v.z.lo, .int .i64 v.z.hi, .bool v.z.all, .int .i64 v.x.lo, .int .i64 v.x.hi, .bool v.x.all] := hd 1 (by decide)
 have e_2 : uu 2 = .agg #[.int .i64 u.x.lo, .int .i64 u.x.hi, .bool u.x.all, .int .i64 u.y.lo, .int .i64 u.y.hi, .bool u.y.all, .int .i64 u.z.lo, .int .i64 u.z.hi, .bool u.z.all] := hd 2 (by decide)
 have e_3 : uu 3 = .agg #[.int .i64 u.z.lo, .int .i64 u.z.hi, .bool u.z.all, .int .i64 u.x.lo, .int .i64 u.x.hi, .bool u.x.all, .int .i64 u.y.lo, .int .i64 u.y.hi, .bool u.y.all] := hd 3 (by decide)
 have e_4 : uu 4 = .agg #[.int .i64 p.x.lo, .int .i64 p.x.hi, .bool p.x.all, .int .i64 p.y.lo, .int .i64 p.y.hi, .bool p.y.all, .int .i64 p.z.lo, .int .i64 p.z.hi, .bool p.z.all] := hd 4 (by decide)
 obtain ⟨b4, e_5, nge5, nB5⟩ := (show veP m1_3 (.box #[.int .i64 0, .int .i64 0, .bool false, .int .i64 0, .int .i64 0, .bool false, .int .i64 0, .int .i64 0, .bool false] 24) (uu 5) W4 from hd 5 (by decide))
 clear hd
 simp only [layS, Act.put, List.setIfInBounds_toArray, List.set_cons_succ, List.set_cons_zero, Nat.zero_add, Nat.reduceAdd, List.drop_succ_cons, List.drop_zero, List.drop_nil, e_0, e_1, e_2, e_3, e_4, e_5]
 clear e_0 e_1 e_2 e_3 e_4 e_5
 have hJ4 := hJm.join nge5 nB5
 clear hJm nge5 nB5
 go_wp2_with (refine stop_store 24 (.tmp 5) (.tmp 11) 0 b4 0 #[.int .i64 0, .int .i64 0, .bool false, .int .i64 0, .int .i64 0, .bool false, .int .i64 0, .int .i64 0, .bool false] 24 9 [.int .i64 p.x.lo, .int .i64 p.x.hi, .bool p.x.all, .int .i64 p.y.lo, .int .i64 p.y.hi, .bool p.y.all, .int .i64 p.z.lo, .int .i64 p.z.hi, .bool p.z.all] #[.int .i64 p.x.lo, .int .i64 p.x.hi, .bool p.x.all, .int .i64 p.y.lo, .int .i64 p.y.hi, .bool p.y.all, .int .i64 p.z.lo, .int .i64 p.z.hi, .bool p.z.all] [(b4, #[.int .i64 p.x.lo, .int .i64 p.x.hi, .bool p.x.all, .int .i64 p.y.lo, .int .i64 p.y.hi, .bool p.y.all, .int .i64 p.z.lo, .int .i64 p.z.hi, .bool p.z.all], 24), (b3, #[.int .i64 0, .int .i64 0, .bool false, .int .i64 0, .int .i64 0, .bool false, .int .i64 0, .int .i64 0, .bool false], 25), (b2, #[.int .i64 u.x.lo, .int .i64 u.x.hi, .bool u.x.all, .int .i64 u.y.lo, .int .i64 u.y.hi, .bool u.y.all, .int .i64 u.z.lo, .int .i64 u.z.hi, .bool u.z.all], 25), (b1, #[.int .i64 v.x.lo, .int .i64 v.x.hi, .bool v.x.all, .int .i64 v.y.lo, .int .i64 v.y.hi, .bool v.y.all, .int .i64 v.z.lo, .int .i64 v.z.hi, .bool v.z.all], 25)] rfl rfl rfl rfl sz24 hJ4 rfl rfl (Nat.le_of_ble_eq_true (by kernel_rfl)) (by kernel_rfl) (by kernel_rfl) (by kernel_rfl) (fun W5 hJ5 => ?_))
 clear hJ4
 unfold Stop
 try simp only [Act.put, List.setIfInBounds_toArray, List.set_cons_succ, List.set_cons_zero]
 go_wp2
 obtain ⟨m2_5, hm⟩ : ∃ m, m = W5.heap.size := ⟨_, rfl⟩
 have hM := hJ5.em
 rw [← hm] at hM
 clear hm hJ5
 refine wp_region_z 6 [some 12, some 13, some 14, some 15, some 16, some 6] (veL m2_5 [.eq (.agg #[.int .i64 v.x.lo, .int .i64 v.x.hi, .bool v.x.all, .int .i64 v.y.lo, .int .i64 v.y.hi, .bool v.y.all, .int .i64 v.z.lo, .int .i64 v.z.hi, .bool v.z.all]), .eq (.agg #[.int .i64 v.z.lo, .int .i64 v.z.hi, .bool v.z.all, .int .i64 v.x.lo, .int .i64 v.x.hi, .bool v.x.all, .int .i64 v.y.lo, .int .i64 v.y.hi, .bool v.y.all]), .eq (.agg #[.int .i64 u.x.lo, .int .i64 u.x.hi, .bool u.x.all, .int .i64 u.y.lo, .int .i64 u.y.hi, .bool u.y.all, .int .i64 u.z.lo, .int .i64 u.z.hi, .bool u.z.all]), .eq (.agg #[.int .i64 u.y.lo, .int .i64 u.y.hi, .bool u.y.all, .int .i64 u.z.lo, .int .i64 u.z.hi, .bool u.z.all, .int .i64 u.x.lo, .int .i64 u.x.hi, .bool u.x.all]), .eq (.agg #[.int .i64 q.x.lo, .int .i64 q.x.hi, .bool q.x.all, .int .i64 q.y.lo, .int .i64 q.y.hi, .bool q.y.all, .int .i64 q.z.lo, .int .i64 q.z.hi, .bool q.z.all]), .box #[.int .i64 0, .int .i64 0, .bool false, .int .i64 0, .int .i64 0, .bool false, .int .i64 0, .int .i64 0, .bool false] 24]) (Em w m2_5 [(b4, #[.int .i64 p.x.lo, .int .i64 p.x.hi, .bool p.x.all, .int .i64 p.y.lo, .int .i64 p.y.hi, .bool p.y.all, .int .i64 p.z.lo, .int .i64 p.z.hi, .bool p.z.all], 24), (b3, #[.int .i64 0, .int .i64 0, .bool false, .int .i64 0, .int .i64 0, .bool false, .int .i64 0, .int .i64 0, .bool false], 25), (b2, #[.int .i64 u.x.lo, .int .i64 u.x.hi, .bool u.x.all, .int .i64 u.y.lo, .int .i64 u.y.hi, .bool u.y.all, .int .i64 u.z.lo, .int .i64 u.z.hi, .bool u.z.all], 25), (b1, #[.int .i64 v.x.lo, .int .i64 v.x.hi, .bool v.x.all, .int .i64 v.y.lo, .int .i64 v.y.hi, .bool v.y.all, .int .i64 v.z.lo, .int .i64 v.z.hi, .bool v.z.all], 25)]) (by kernel_rfl) (by kernel_rfl) (by rfl) (by decide) (by rfl) hM ?_ ?_
 ·
  intro i hl hi uu ww aa hJ hd hev hin
  clear hM
  obtain rfl | rfl | rfl | rfl | rfl | rfl : i = 0 ∨ i = 1 ∨ i = 2 ∨ i = 3 ∨ i = 4 ∨ i = 5 := by omega
  ·
   have x2 : aa.tmps[2]? = some (.pointer (some ⟨b1, 0, none⟩)) := (hev 2 (by decide)).trans rfl
   clear hd hev hin
   simp only [List.getElem_cons_succ, List.getElem_cons_zero]
   clear hl
   refine .inr ⟨rfl, fun K' hK => ?_⟩
   have HK := Lib.hid hK
   clear hK
   have f0 : ww.cell? ⟨b1, 0, none⟩ = some (.int .i64 v.x.lo) := hJ.es.cell 3 rfl 0 rfl
   have f1 : ww.cell? ⟨b1, 1, none⟩ = some (.int .i64 v.x.hi) := hJ.es.cell 3 rfl 1 rfl
   have f2 : ww.cell? ⟨b1, 2, none⟩ = some (.bool v.x.all) := hJ.es.cell 3 rfl 2 rfl
   have f3 : ww.cell? ⟨b1, 3, none⟩ = some (.int .i64 v.y.lo) := hJ.es.cell 3 rfl 3 rfl
   have f4 : ww.cell? ⟨b1, 4, none⟩ = some (.int .i64 v.y.hi) := hJ.es.cell 3 rfl 4 rfl
   have f5 : ww.cell? ⟨b1, 5, none⟩ = some (.bool v.y.all) := hJ.es.cell 3 rfl 5 rfl
   have f6 : ww.cell? ⟨b1, 6, none⟩ = some (.int .i64 v.z.lo) := hJ.es.cell 3 rfl 6 rfl
   have f7 : ww.cell? ⟨b1, 7, none⟩ = some (.int .i64 v.z.hi) := hJ.es.cell 3 rfl 7 rfl
   have f8 : ww.cell? ⟨b1, 8, none⟩ = some (.bool v.z.all) := hJ.es.cell 3 rfl 8 rfl
   go_simp
   exact HK.out (.agg #[.int .i64 v.x.lo, .int .i64 v.x.hi, .bool v.x.all, .int .i64 v.y.lo, .int .i64 v.y.hi, .bool v.y.all, .int .i64 v.z.lo, .int .i64 v.z.hi, .bool v.z.all]) _ hJ rfl veL_same
  ·
   have x12 : aa.tmps[12]? = some (.agg #[.int .i64 v.x.lo, .int .i64 v.x.hi, .bool v.x.all, .int .i64 v.y.lo, .int .i64 v.y.hi, .bool v.y.all, .int .i64 v.z.lo, .int .i64 v.z.hi, .bool v.z.all]) := (hin 0 12 rfl).trans (congrArg some (show uu 0 = .agg #[.int .i64 v.x.lo, .int .i64 v.x.hi, .bool v.x.all, .int .i64 v.y.lo, .int .i64 v.y.hi, .bool v.y.all, .int .i64 v.z.lo, .int .i64 v.z.hi, .bool v.z.all] from hd 0 (by decide) (by kernel_rfl)))
   clear hd hev hin
   simp only [List.getElem_cons_succ, List.getElem_cons_zero]
   clear hl
   refine .inr ⟨rfl, fun K' hK => ?_⟩
   have HK := Lib.hid hK
   clear hK
   go_simp
   refine (Hv2.out ww).mono ?_
   rintro e W' ⟨rfl, hB⟩
   exact HK.out (.agg #[.int .i64 v.z.lo, .int .i64 v.z.hi, .bool v.z.all, .int .i64 v.x.lo, .int .i64 v.x.hi, .bool v.x.all, .int .i64 v.y.lo, .int .i64 v.y.hi, .bool v.y.all]) _ (hJ.later hB) rfl (veL_later hB)
  ·
   have x3 : aa.tmps[3]? = some (.pointer (some ⟨b2, 0, none⟩)) := (hev 3 (by decide)).trans rfl
   clear hd hev hin
   simp only [List.getElem_cons_succ, List.getElem_cons_zero]
   clear hl
   refine .inr ⟨rfl, fun K' hK => ?_⟩
   have HK := Lib.hid hK
   clear hK
   have f0 : ww.cell? ⟨b2, 0, none⟩ = some (.int .i64 u.x.lo) := hJ.es.cell 2 rfl 0 rfl
   have f1 : ww.cell? ⟨b2, 1, none⟩ = some (.int .i64 u.x.hi) := hJ.es.cell 2 rfl 1 rfl
   have f2 : ww.cell? ⟨b2, 2, none⟩ = some (.bool u.x.all) := hJ.es.cell 2 rfl 2 rfl
   have f3 : ww.cell? ⟨b2, 3, none⟩ = some (.int .i64 u.y.lo) := hJ.es.cell 2 rfl 3 rfl
   have f4 : ww.cell? ⟨b2, 4, none⟩ = some (.int .i64 u.y.hi) := hJ.es.cell 2 rfl 4 rfl
   have f5 : ww.cell? ⟨b2, 5, none⟩ = some (.bool u.y.all) := hJ.es.cell 2 rfl 5 rfl
   have f6 : ww.cell? ⟨b2, 6, none⟩ = some (.int .i64 u.z.lo) := hJ.es.cell 2 rfl 6 rfl
   have f7 : ww.cell? ⟨b2, 7, none⟩ = some (.int .i64 u.z.hi) := hJ.es.cell 2 rfl 7 rfl
   have f8 : ww.cell? ⟨b2, 8, none⟩ = some (.bool u.z.all) := hJ.es.cell 2 rfl 8 rfl
   go_simp
   exact HK.out (.agg #[.int .i64 u.x.lo, .int .i64 u.x.hi, .bool u.x.all, .int .i64 u.y.lo, .int .i64 u.y.hi, .bool u.y.all, .int .i64 u.z.lo, .int .i64 u.z.hi, .bool u.z.all]) _ hJ rfl veL_same
  ·
   have x14 : aa.tmps[14]? = some (.agg #[.int .i64 u.x.lo, .int .i64 u.x.hi, .bool u.x.all, .int .i64 u.y.lo, .int .i64 u.y.hi, .bool u.y.all, .int .i64 u.z.lo, .int .i64 u.z.hi, .bool u.z.all]) := (hin 2 14 rfl).trans (congrArg some (show uu 2 = .agg #[.int .i64 u.x.lo, .int .i64 u.x.hi, .bool u.x.all, .int .i64 u.y.lo, .int .i64 u.y.hi, .bool u.y.all, .int .i64 u.z.lo, .int .i64 u.z.hi, .bool u.z.all] from hd 2 (by decide) (by kernel_rfl)))
   clear hd hev hin
   simp only [List.getElem_cons_succ, List.getElem_cons_zero]
   clear hl
   refine .inr ⟨rfl, fun K' hK => ?_⟩
   have HK := Lib.hid hK
   clear hK
   go_simp
   refine (Hu1.out ww).mono ?_
   rintro e W' ⟨rfl, hB⟩
   exact HK.out (.agg #[.int .i64 u.y.lo, .int .i64 u.y.hi, .bool u.y.all, .int .i64 u.z.lo, .int .i64 u.z.hi, .bool u.z.all, .int .i64 u.x.lo, .int .i64 u.x.hi, .bool u.x.all]) _ (hJ.later hB) rfl (veL_later hB)
  ·
   have x13 : aa.tmps[13]? = some (.agg #[.int .i64 v.z.lo, .int .i64 v.z.hi, .bool v.z.all, .int .i64 v.x.lo, .int .i64 v.x.hi, .bool v.x.all, .int .i64 v.y.lo, .int .i64 v.y.hi, .bool v.y.all]) := (hin 1 13 rfl).trans (congrArg some (show uu 1 = .agg #[.int .i64 v.z.lo, .int .i64 v.z.hi, .bool v.z.all, .int .i64 v.x.lo, .int .i64 v.x.hi, .bool v.x.all, .int .i64 v.y.lo, .int .i64 v.y.hi, .bool v.y.all] from hd 1 (by decide) (by kernel_rfl)))
   have x15 : aa.tmps[15]? = some (.agg #[.int .i64 u.y.lo, .int .i64 u.y.hi, .bool u.y.all, .int .i64 u.z.lo, .int .i64 u.z.hi, .bool u.z.all, .int .i64 u.x.lo, .int .i64 u.x.hi, .bool u.x.all]) := (hin 3 15 rfl).trans (congrArg some (show uu 3 = .agg #[.int .i64 u.y.lo, .int .i64 u.y.hi, .bool u.y.all, .int .i64 u.z.lo, .int .i64 u.z.hi, .bool u.z.all, .int .i64 u.x.lo, .int .i64 u.x.hi, .bool u.x.all] from hd 3 (by decide) (by kernel_rfl)))
   clear hd hev hin
   simp only [List.getElem_cons_succ, List.getElem_cons_zero]
   clear hl
   refine .inr ⟨rfl, fun K' hK => ?_⟩
   have HK := Lib.hid hK
   clear hK
   go_simp
   refine (Hq.out ww).mono ?_
   rintro e W' ⟨rfl, hB⟩
   exact HK.out (.agg #[.int .i64 q.x.lo, .int .i64 q.x.hi, .bool q.x.all, .int .i64 q.y.lo, .int .i64 q.y.hi, .bool q.y.all, .int .i64 q.z.lo, .int .i64 q.z.hi, .bool q.z.all]) _ (hJ.later hB) rfl (veL_later hB)
  ·
   clear hd hev hin
   simp only [List.getElem_cons_succ, List.getElem_cons_zero]
   clear hl
   refine .inr ⟨rfl, fun K' hK => ?_⟩
   have HK := Lib.hid hK
   clear hK
   refine wp_alloc 24 rfl (.agg #[.int .i64 0, .int .i64 0, .bool false, .int .i64 0, .int .i64 0, .bool false, .int .i64 0, .int .i64 0, .bool false]) zv24 ?_
   exact HK.out _ _ (hJ.later ((Below.refl _ _).alloc (Nat.le_refl _) _)) ⟨ww.heap.size, rfl, hJ.le, heap_new ww _⟩ (veL_later ((Below.refl _ _).alloc (Nat.le_refl _) _))
 clear hM
 intro uu W6 hJm hd
 have e_0 : uu 0 = .agg #[.int .i64 v.x.lo, .int .i64 v.x.hi, .bool v.x.all, .int .i64 v.y.lo, .int .i64 v.y.hi, .bool v.y.all, .int .i64 v.z.lo, .int .i64 v.z.hi, .bool v.z.all] := hd 0 (by decide)
 have e_1 : uu 1 = .agg #[.int .i64 v.z.lo, .int .i64 v.z.hi, .bool v.z.all, .int .i64 v.x.lo, .int .i64 v.x.hi, .bool v.x.all, .int .i64 v.y.lo, .int .i64 v.y.hi, .bool v.y.all] := hd 1 (by decide)
 have e_2 : uu 2 = .agg #[.int .i64 u.x.lo, .int .i64 u.x.hi, .bool u.x.all, .int .i64 u.y.lo, .int .i64 u.y.hi, .bool u.y.all, .int .i64 u.z.lo, .int .i64 u.z.hi, .bool u.z.all] := hd 2 (by decide)
 have e_3 : uu 3 = .agg #[.int .i64 u.y.lo, .int .i64 u.y.hi, .bool u.y.all, .int .i64 u.z.lo, .int .i64 u.z.hi, .bool u.z.all, .int .i64 u.x.lo, .int .i64 u.x.hi, .bool u.x.all] := hd 3 (by decide)
 have e_4 : uu 4 = .agg #[.int .i64 q.x.lo, .int .i64 q.x.hi, .bool q.x.all, .int .i64 q.y.lo, .int .i64 q.y.hi, .bool q.y.all, .int .i64 q.z.lo, .int .i64 q.z.hi, .bool q.z.all] := hd 4 (by decide)
 obtain ⟨b5, e_5, nge5, nB5⟩ := (show veP m2_5 (.box #[.int .i64 0, .int .i64 0, .bool false, .int .i64 0, .int .i64 0, .bool false, .int .i64 0, .int .i64 0, .bool false] 24) (uu 5) W6 from hd 5 (by decide))
 clear hd
 simp only [layS, Act.put, List.setIfInBounds_toArray, List.set_cons_succ, List.set_cons_zero, Nat.zero_add, Nat.reduceAdd, List.drop_succ_cons, List.drop_zero, List.drop_nil, e_0, e_1, e_2, e_3, e_4, e_5]
 clear e_0 e_1 e_2 e_3 e_4 e_5
 have hJ6 := hJm.join nge5 nB5
 clear hJm nge5 nB5
 go_wp2_with (refine stop_store 24 (.tmp 6) (.tmp 16) 0 b5 0 #[.int .i64 0, .int .i64 0, .bool false, .int .i64 0, .int .i64 0, .bool false, .int .i64 0, .int .i64 0, .bool false] 24 9 [.int .i64 q.x.lo, .int .i64 q.x.hi, .bool q.x.all, .int .i64 q.y.lo, .int .i64 q.y.hi, .bool q.y.all, .int .i64 q.z.lo, .int .i64 q.z.hi, .bool q.z.all] #[.int .i64 q.x.lo, .int .i64 q.x.hi, .bool q.x.all, .int .i64 q.y.lo, .int .i64 q.y.hi, .bool q.y.all, .int .i64 q.z.lo, .int .i64 q.z.hi, .bool q.z.all] [(b5, #[.int .i64 q.x.lo, .int .i64 q.x.hi, .bool q.x.all, .int .i64 q.y.lo, .int .i64 q.y.hi, .bool q.y.all, .int .i64 q.z.lo, .int .i64 q.z.hi, .bool q.z.all], 24), (b4, #[.int .i64 p.x.lo, .int .i64 p.x.hi, .bool p.x.all, .int .i64 p.y.lo, .int .i64 p.y.hi, .bool p.y.all, .int .i64 p.z.lo, .int .i64 p.z.hi, .bool p.z.all], 24), (b3, #[.int .i64 0, .int .i64 0, .bool false, .int .i64 0, .int .i64 0, .bool false, .int .i64 0, .int .i64 0, .bool false], 25), (b2, #[.int .i64 u.x.lo, .int .i64 u.x.hi, .bool u.x.all, .int .i64 u.y.lo, .int .i64 u.y.hi, .bool u.y.all, .int .i64 u.z.lo, .int .i64 u.z.hi, .bool u.z.all], 25), (b1, #[.int .i64 v.x.lo, .int .i64 v.x.hi, .bool v.x.all, .int .i64 v.y.lo, .int .i64 v.y.hi, .bool v.y.all, .int .i64 v.z.lo, .int .i64 v.z.hi, .bool v.z.all], 25)] rfl rfl rfl rfl sz24 hJ6 rfl rfl (Nat.le_of_ble_eq_true (by kernel_rfl)) (by kernel_rfl) (by kernel_rfl) (by kernel_rfl) (fun W7 hJ7 => ?_))
 clear hJ6
 unfold Stop
 try simp only [Act.put, List.setIfInBounds_toArray, List.set_cons_succ, List.set_cons_zero]
 have f0 : W7.cell? ⟨b4, 0, none⟩ = some (.int .i64 p.x.lo) := hJ7.cell 1 rfl 0 rfl
 have f1 : W7.cell? ⟨b4, 1, none⟩ = some (.int .i64 p.x.hi) := hJ7.cell 1 rfl 1 rfl
 have f2 : W7.cell? ⟨b4, 2, none⟩ = some (.bool p.x.all) := hJ7.cell 1 rfl 2 rfl
 have f3 : W7.cell? ⟨b4, 3, none⟩ = some (.int .i64 p.y.lo) := hJ7.cell 1 rfl 3 rfl
 have f4 : W7.cell? ⟨b4, 4, none⟩ = some (.int .i64 p.y.hi) := hJ7.cell 1 rfl 4 rfl
 have f5 : W7.cell? ⟨b4, 5, none⟩ = some (.bool p.y.all) := hJ7.cell 1 rfl 5 rfl
 have f6 : W7.cell? ⟨b4, 6, none⟩ = some (.int .i64 p.z.lo) := hJ7.cell 1 rfl 6 rfl
 have f7 : W7.cell? ⟨b4, 7, none⟩ = some (.int .i64 p.z.hi) := hJ7.cell 1 rfl 7 rfl
 have f8 : W7.cell? ⟨b4, 8, none⟩ = some (.bool p.z.all) := hJ7.cell 1 rfl 8 rfl
 have f9 : W7.cell? ⟨b5, 0, none⟩ = some (.int .i64 q.x.lo) := hJ7.cell 0 rfl 0 rfl
 have f10 : W7.cell? ⟨b5, 1, none⟩ = some (.int .i64 q.x.hi) := hJ7.cell 0 rfl 1 rfl
 have f11 : W7.cell? ⟨b5, 2, none⟩ = some (.bool q.x.all) := hJ7.cell 0 rfl 2 rfl
 have f12 : W7.cell? ⟨b5, 3, none⟩ = some (.int .i64 q.y.lo) := hJ7.cell 0 rfl 3 rfl
 have f13 : W7.cell? ⟨b5, 4, none⟩ = some (.int .i64 q.y.hi) := hJ7.cell 0 rfl 4 rfl
 have f14 : W7.cell? ⟨b5, 5, none⟩ = some (.bool q.y.all) := hJ7.cell 0 rfl 5 rfl
 have f15 : W7.cell? ⟨b5, 6, none⟩ = some (.int .i64 q.z.lo) := hJ7.cell 0 rfl 6 rfl
 have f16 : W7.cell? ⟨b5, 7, none⟩ = some (.int .i64 q.z.hi) := hJ7.cell 0 rfl 7 rfl
 have f17 : W7.cell? ⟨b5, 8, none⟩ = some (.bool q.z.all) := hJ7.cell 0 rfl 8 rfl
 go_wp2_with fail
 refine (Hr.out _).mono ?_
 rintro e W8 ⟨rfl, hB⟩
 have hJ8 := hJ7.later hB
 clear hB
 clear f0 f1 f2 f3 f4 f5 f6 f7 f8 f9 f10 f11 f12 f13 f14 f15 f16 f17
 clear hJ7
 go_wp2_with (refine stop_store 25 (.tmp 4) (.tmp 19) 2 b3 0 #[.int .i64 0, .int .i64 0, .bool false, .int .i64 0, .int .i64 0, .bool false, .int .i64 0, .int .i64 0, .bool false] 25 9 [.int .i64 r.x.lo, .int .i64 r.x.hi, .bool r.x.all, .int .i64 r.y.lo, .int .i64 r.y.hi, .bool r.y.all, .int .i64 r.z.lo, .int .i64 r.z.hi, .bool r.z.all] #[.int .i64 r.x.lo, .int .i64 r.x.hi, .bool r.x.all, .int .i64 r.y.lo, .int .i64 r.y.hi, .bool r.y.all, .int .i64 r.z.lo, .int .i64 r.z.hi, .bool r.z.all] [(b5, #[.int .i64 q.x.lo, .int .i64 q.x.hi, .bool q.x.all, .int .i64 q.y.lo, .int .i64 q.y.hi, .bool q.y.all, .int .i64 q.z.lo, .int .i64 q.z.hi, .bool q.z.all], 24), (b4, #[.int .i64 p.x.lo, .int .i64 p.x.hi, .bool p.x.all, .int .i64 p.y.lo, .int .i64 p.y.hi, .bool p.y.all, .int .i64 p.z.lo, .int .i64 p.z.hi, .bool p.z.all], 24), (b3, #[.int .i64 r.x.lo, .int .i64 r.x.hi, .bool r.x.all, .int .i64 r.y.lo, .int .i64 r.y.hi, .bool r.y.all, .int .i64 r.z.lo, .int .i64 r.z.hi, .bool r.z.all], 25), (b2, #[.int .i64 u.x.lo, .int .i64 u.x.hi, .bool u.x.all, .int .i64 u.y.lo, .int .i64 u.y.hi, .bool u.y.all, .int .i64 u.z.lo, .int .i64 u.z.hi, .bool u.z.all], 25), (b1, #[.int .i64 v.x.lo, .int .i64 v.x.hi, .bool v.x.all, .int .i64 v.y.lo, .int .i64 v.y.hi, .bool v.y.all, .int .i64 v.z.lo, .int .i64 v.z.hi, .bool v.z.all], 25)] rfl rfl rfl rfl sz25 hJ8 rfl rfl (Nat.le_of_ble_eq_true (by kernel_rfl)) (by kernel_rfl) (by kernel_rfl) (by kernel_rfl) (fun W9 hJ9 => ?_))
 clear hJ8
 unfold Stop
 try simp only [Act.put, List.setIfInBounds_toArray, List.set_cons_succ, List.set_cons_zero]
 have f0 : W9.cell? ⟨b3, 0, none⟩ = some (.int .i64 r.x.lo) := hJ9.cell 2 rfl 0 rfl
 have f1 : W9.cell? ⟨b3, 1, none⟩ = some (.int .i64 r.x.hi) := hJ9.cell 2 rfl 1 rfl
 have f2 : W9.cell? ⟨b3, 2, none⟩ = some (.bool r.x.all) := hJ9.cell 2 rfl 2 rfl
 have f3 : W9.cell? ⟨b3, 3, none⟩ = some (.int .i64 r.y.lo) := hJ9.cell 2 rfl 3 rfl
 have f4 : W9.cell? ⟨b3, 4, none⟩ = some (.int .i64 r.y.hi) := hJ9.cell 2 rfl 4 rfl
 have f5 : W9.cell? ⟨b3, 5, none⟩ = some (.bool r.y.all) := hJ9.cell 2 rfl 5 rfl
 have f6 : W9.cell? ⟨b3, 6, none⟩ = some (.int .i64 r.z.lo) := hJ9.cell 2 rfl 6 rfl
 have f7 : W9.cell? ⟨b3, 7, none⟩ = some (.int .i64 r.z.hi) := hJ9.cell 2 rfl 7 rfl
 have f8 : W9.cell? ⟨b3, 8, none⟩ = some (.bool r.z.all) := hJ9.cell 2 rfl 8 rfl
 go_wp2
 exact bodyPost_ret (v := .agg #[.int .i64 r.x.lo, .int .i64 r.x.hi, .bool r.x.all, .int .i64 r.y.lo, .int .i64 r.y.hi, .bool r.y.all, .int .i64 r.z.lo, .int .i64 r.z.hi, .bool r.z.all]) (by simp [results, Try.results17, go_sem, f0, f1, f2, f3, f4, f5, f6, f7, f8]) rfl ⟨rfl, hJ9.below⟩
theorem vCross_any (v u : Vc) (w : World) : Calls Try.prog 17 #[.agg #[.int .i64 v.x.lo, .int .i64 v.x.hi, .bool v.x.all, .int .i64 v.y.lo, .int .i64 v.y.hi, .bool v.y.all, .int .i64 v.z.lo, .int .i64 v.z.hi, .bool v.z.all], .agg #[.int .i64 u.x.lo, .int .i64 u.x.hi, .bool u.x.all, .int .i64 u.y.lo, .int .i64 u.y.hi, .bool u.y.all, .int .i64 u.z.lo, .int .i64 u.z.hi, .bool u.z.all]] w (PVal (.agg #[.int .i64 ((crossV v u).x.lo), .int .i64 ((crossV v u).x.hi), .bool ((crossV v u).x.all), .int .i64 ((crossV v u).y.lo), .int .i64 ((crossV v u).y.hi), .bool ((crossV v u).y.all), .int .i64 ((crossV v u).z.lo), .int .i64 ((crossV v u).z.hi), .bool ((crossV v u).z.all)]) w) :=
 vCross_w v u ⟨mulS v.y u.z, mulS v.z u.x, mulS v.x u.y⟩ ⟨mulS v.z u.y, mulS v.x u.z, mulS v.y u.x⟩ (crossV v u) (from1_w v) (from2_w u)
  (both_s _ ⟨v.y, v.z, v.x⟩ ⟨u.z, u.x, u.y⟩ ⟨mulS v.y u.z, mulS v.z u.x, mulS v.x u.y⟩ (sMul_any v.y u.z) (sMul_any v.z u.x) (sMul_any v.x u.y) (fun _ _ => by kernel_rfl)) (from2_w v) (from1_w u)
  (both_s _ ⟨v.z, v.x, v.y⟩ ⟨u.y, u.z, u.x⟩ ⟨mulS v.z u.y, mulS v.x u.z, mulS v.y u.x⟩ (sMul_any v.z u.y) (sMul_any v.x u.z) (sMul_any v.y u.x) (fun _ _ => by kernel_rfl))
  (both_s _ ⟨mulS v.y u.z, mulS v.z u.x, mulS v.x u.y⟩ ⟨mulS v.z u.y, mulS v.x u.z, mulS v.y u.x⟩ (crossV v u) (sSub_any (mulS v.y u.z) (mulS v.z u.y)) (sSub_any (mulS v.z u.x) (mulS v.x u.z)) (sSub_any (mulS v.x u.y) (mulS v.y u.x)) (fun _ _ => by kernel_rfl)) w
set_option maxRecDepth 100000 in
set_option maxHeartbeats 12800000 in
theorem vNorm_w (v p : Vc) (r : Sp) (hH : ∀ W : World, Calls Try.prog 52 #[.agg #[.int .i64 v.x.lo, .int .i64 v.x.hi, .bool v.x.all, .int .i64 v.y.lo, .int .i64 v.y.hi, .bool v.y.all, .int .i64 v.z.lo, .int .i64 v.z.hi, .bool v.z.all], .func (.func 53) #[] #[]] W (PVal (.agg #[.int .i64 p.x.lo, .int .i64 p.x.hi, .bool p.x.all, .int .i64 p.y.lo, .int .i64 p.y.hi, .bool p.y.all, .int .i64 p.z.lo, .int .i64 p.z.hi, .bool p.z.all]) W)) (hH1 : ∀ W : World, Calls Try.prog 50 #[.agg #[.int .i64 p.x.lo, .int .i64 p.x.hi, .bool p.x.all, .int .i64 p.y.lo, .int .i64 p.y.hi, .bool p.y.all, .int .i64 p.z.lo, .int .i64 p.z.hi, .bool p.z.all]] W (PVal (.agg #[.int .i64 r.lo, .int .i64 r.hi, .bool r.all]) W))  (w : World) : Calls Try.prog 18 #[.agg #[.int .i64 v.x.lo, .int .i64 v.x.hi, .bool v.x.all, .int .i64 v.y.lo, .int .i64 v.y.hi, .bool v.y.all, .int .i64 v.z.lo, .int .i64 v.z.hi, .bool v.z.all]] w (PVal (.agg #[.int .i64 r.lo, .int .i64 r.hi, .bool r.all]) w) := by
 have H := Lib.hid hH
 have H1 := Lib.hid hH1
 clear hH hH1
 have hJ0 := es_nil w
 go_enter Try.func18, Try.ntmps18
 go_wp2_with (refine stop_box 25 (.tmp 0) #[.int .i64 v.x.lo, .int .i64 v.x.hi, .bool v.x.all, .int .i64 v.y.lo, .int .i64 v.y.hi, .bool v.y.all, .int .i64 v.z.lo, .int .i64 v.z.hi, .bool v.z.all] rfl rfl rfl hJ0 (fun b1 W1 hJ1 => ?_))
 clear hJ0
 unfold Stop
 try simp only [Act.put, List.setIfInBounds_toArray, List.set_cons_succ, List.set_cons_zero]
 go_wp2_with (refine stop_alloc 23 #[.int .i64 0, .int .i64 0, .bool false] (.agg #[.int .i64 0, .int .i64 0, .bool false]) rfl rfl zv23 rfl hJ1 (fun b2 W2 hJ2 => ?_))
 clear hJ1
 unfold Stop
 try simp only [Act.put, List.setIfInBounds_toArray, List.set_cons_succ, List.set_cons_zero]
 have f0 : W2.cell? ⟨b1, 0, none⟩ = some (.int .i64 v.x.lo) := hJ2.cell 1 rfl 0 rfl
 have f1 : W2.cell? ⟨b1, 1, none⟩ = some (.int .i64 v.x.hi) := hJ2.cell 1 rfl 1 rfl
 have f2 : W2.cell? ⟨b1, 2, none⟩ = some (.bool v.x.all) := hJ2.cell 1 rfl 2 rfl
 have f3 : W2.cell? ⟨b1, 3, none⟩ = some (.int .i64 v.y.lo) := hJ2.cell 1 rfl 3 rfl
 have f4 : W2.cell? ⟨b1, 4, none⟩ = some (.int .i64 v.y.hi) := hJ2.cell 1 rfl 4 rfl
 have f5 : W2.cell? ⟨b1, 5, none⟩ = some (.bool v.y.all) := hJ2.cell 1 rfl 5 rfl
 have f6 : W2.cell? ⟨b1, 6, none⟩ = some (.int .i64 v.z.lo) := hJ2.cell 1 rfl 6 rfl
 have f7 : W2.cell? ⟨b1, 7, none⟩ = some (.int .i64 v.z.hi) := hJ2.cell 1 rfl 7 rfl
 have f8 : W2.cell? ⟨b1, 8, none⟩ = some (.bool v.z.all) := hJ2.cell 1 rfl 8 rfl
 go_wp2_with fail
 refine (H.out _).mono ?_
 rintro e W3 ⟨rfl, hB⟩
 have hJ3 := hJ2.later hB
 clear hB
 clear f0 f1 f2 f3 f4 f5 f6 f7 f8
 clear hJ2
 go_wp2_with fail
 refine (H1.out _).mono ?_
 rintro e W4 ⟨rfl, hB⟩
 have hJ4 := hJ3.later hB
 clear hB
 clear hJ3
 go_wp2_with (refine stop_store 23 (.tmp 2) (.tmp 5) 0 b2 0 #[.int .i64 0, .int .i64 0, .bool false] 23 3 [.int .i64 r.lo, .int .i64 r.hi, .bool r.all] #[.int .i64 r.lo, .int .i64 r.hi, .bool r.all] [(b2, #[.int .i64 r.lo, .int .i64 r.hi, .bool r.all], 23), (b1, #[.int .i64 v.x.lo, .int .i64 v.x.hi, .bool v.x.all, .int .i64 v.y.lo, .int .i64 v.y.hi, .bool v.y.all, .int .i64 v.z.lo, .int .i64 v.z.hi, .bool v.z.all], 25)] rfl rfl rfl rfl sz23 hJ4 rfl rfl (Nat.le_of_ble_eq_true (by kernel_rfl)) (by kernel_rfl) (by kernel_rfl) (by kernel_rfl) (fun W5 hJ5 => ?_))
 clear hJ4
 unfold Stop
 try simp only [Act.put, List.setIfInBounds_toArray, List.set_cons_succ, List.set_cons_zero]
 have f0 : W5.cell? ⟨b2, 0, none⟩ = some (.int .i64 r.lo) := hJ5.cell 0 rfl 0 rfl
 have f1 : W5.cell? ⟨b2, 1, none⟩ = some (.int .i64 r.hi) := hJ5.cell 0 rfl 1 rfl
 have f2 : W5.cell? ⟨b2, 2, none⟩ = some (.bool r.all) := hJ5.cell 0 rfl 2 rfl
 go_wp2
 exact bodyPost_ret (v := .agg #[.int .i64 r.lo, .int .i64 r.hi, .bool r.all]) (by simp [results, Try.results18, go_sem, f0, f1, f2]) rfl ⟨rfl, hJ5.below⟩
theorem vNorm_any (v : Vc) (w : World) : Calls Try.prog 18 #[.agg #[.int .i64 v.x.lo, .int .i64 v.x.hi, .bool v.x.all, .int .i64 v.y.lo, .int .i64 v.y.hi, .bool v.y.all, .int .i64 v.z.lo, .int .i64 v.z.hi, .bool v.z.all]] w (PVal (.agg #[.int .i64 ((normV v).lo), .int .i64 ((normV v).hi), .bool ((normV v).all)]) w) :=
 vNorm_w v (sqrV v) (normV v) (each_s _ v (sqrV v) (sSqr_any v.x) (sSqr_any v.y) (sSqr_any v.z) (fun _ _ => by kernel_rfl)) (vsum_any (sqrV v)) w
set_option maxRecDepth 100000 in
set_option maxHeartbeats 12800000 in
theorem vIn_w (v u : Vc) (r0 r1 r2 : Bool) (hH : ∀ W : World, Calls Try.prog 58 #[.agg #[.int .i64 v.x.lo, .int .i64 v.x.hi, .bool v.x.all, .int .i64 v.y.lo, .int .i64 v.y.hi, .bool v.y.all, .int .i64 v.z.lo, .int .i64 v.z.hi, .bool v.z.all], .agg #[.int .i64 u.x.lo, .int .i64 u.x.hi, .bool u.x.all, .int .i64 u.y.lo, .int .i64 u.y.hi, .bool u.y.all, .int .i64 u.z.lo, .int .i64 u.z.hi, .bool u.z.all], .func (.func 44) #[] #[]] W (PVal (.agg #[.bool r0, .bool r1, .bool r2]) W))  (w : World) : Calls Try.prog 25 #[.agg #[.int .i64 v.x.lo, .int .i64 v.x.hi, .bool v.x.all, .int .i64 v.y.lo, .int .i64 v.y.hi, .bool v.y.all, .int .i64 v.z.lo, .int .i64 v.z.hi, .bool v.z.all], .agg #[.int .i64 u.x.lo, .int .i64 u.x.hi, .bool u.x.all, .int .i64 u.y.lo, .int .i64 u.y.hi, .bool u.y.all, .int .i64 u.z.lo, .int .i64 u.z.hi, .bool u.z.all]] w (PVal (.bool (r0 && (r1 && r2))) w) := by
 have H := Lib.hid hH
 clear hH
 have hJ0 := es_nil w
 go_enter Try.func25, Try.ntmps25
 go_wp2_with (refine stop_box 25 (.tmp 0) #[.int .i64 v.x.lo, .int .i64 v.x.hi, .bool v.x.all, .int .i64 v.y.lo, .int .i64 v.y.hi, .bool v.y.all, .int .i64 v.z.lo, .int .i64 v.z.hi, .bool v.z.all] rfl rfl rfl hJ0 (fun b1 W1 hJ1 => ?_))
 clear hJ0
 unfold Stop
 try simp only [Act.put, List.setIfInBounds_toArray, List.set_cons_succ, List.set_cons_zero]
 go_wp2_with (refine stop_box 25 (.tmp 1) #[.int .i64 u.x.lo, .int .i64 u.x.hi, .bool u.x.all, .int .i64 u.y.lo, .int .i64 u.y.hi, .bool u.y.all, .int .i64 u.z.lo, .int .i64 u.z.hi, .bool u.z.all] rfl rfl rfl hJ1 (fun b2 W2 hJ2 => ?_))
 clear hJ1
 unfold Stop
 try simp only [Act.put, List.setIfInBounds_toArray, List.set_cons_succ, List.set_cons_zero]
 have f0 : W2.cell? ⟨b1, 0, none⟩ = some (.int .i64 v.x.lo) := hJ2.cell 1 rfl 0 rfl
 have f1 : W2.cell? ⟨b1, 1, none⟩ = some (.int .i64 v.x.hi) := hJ2.cell 1 rfl 1 rfl
 have f2 : W2.cell? ⟨b1, 2, none⟩ = some (.bool v.x.all) := hJ2.cell 1 rfl 2 rfl
 have f3 : W2.cell? ⟨b1, 3, none⟩ = some (.int .i64 v.y.lo) := hJ2.cell 1 rfl 3 rfl
 have f4 : W2.cell? ⟨b1, 4, none⟩ = some (.int .i64 v.y.hi) := hJ2.cell 1 rfl 4 rfl
 have f5 : W2.cell? ⟨b1, 5, none⟩ = some (.bool v.y.all) := hJ2.cell 1 rfl 5 rfl
 have f6 : W2.cell? ⟨b1, 6, none⟩ = some (.int .i64 v.z.lo) := hJ2.cell 1 rfl 6 rfl
 have f7 : W2.cell? ⟨b1, 7, none⟩ = some (.int .i64 v.z.hi) := hJ2.cell 1 rfl 7 rfl
 have f8 : W2.cell? ⟨b1, 8, none⟩ = some (.bool v.z.all) := hJ2.cell 1 rfl 8 rfl
 have f9 : W2.cell? ⟨b2, 0, none⟩ = some (.int .i64 u.x.lo) := hJ2.cell 0 rfl 0 rfl
 have f10 : W2.cell? ⟨b2, 1, none⟩ = some (.int .i64 u.x.hi) := hJ2.cell 0 rfl 1 rfl
 have f11 : W2.cell? ⟨b2, 2, none⟩ = some (.bool u.x.all) := hJ2.cell 0 rfl 2 rfl
 have f12 : W2.cell? ⟨b2, 3, none⟩ = some (.int .i64 u.y.lo) := hJ2.cell 0 rfl 3 rfl
 have f13 : W2.cell? ⟨b2, 4, none⟩ = some (.int .i64 u.y.hi) := hJ2.cell 0 rfl 4 rfl
 have f14 : W2.cell? ⟨b2, 5, none⟩ = some (.bool u.y.all) := hJ2.cell 0 rfl 5 rfl
 have f15 : W2.cell? ⟨b2, 6, none⟩ = some (.int .i64 u.z.lo) := hJ2.cell 0 rfl 6 rfl
 have f16 : W2.cell? ⟨b2, 7, none⟩ = some (.int .i64 u.z.hi) := hJ2.cell 0 rfl 7 rfl
 have f17 : W2.cell? ⟨b2, 8, none⟩ = some (.bool u.z.all) := hJ2.cell 0 rfl 8 rfl
 go_wp2_with fail
 refine (H.out _).mono ?_
 rintro e W3 ⟨rfl, hB⟩
 have hJ3 := hJ2.later hB
 clear hB
 clear f0 f1 f2 f3 f4 f5 f6 f7 f8 f9 f10 f11 f12 f13 f14 f15 f16 f17
 clear hJ2
 go_wp2
 go_ret
 exact ⟨rfl, hJ3.below⟩
theorem vIn_any (v u : Vc) (w : World) : Calls Try.prog 25 #[.agg #[.int .i64 v.x.lo, .int .i64 v.x.hi, .bool v.x.all, .int .i64 v.y.lo, .int .i64 v.y.hi, .bool v.y.all, .int .i64 v.z.lo, .int .i64 v.z.hi, .bool v.z.all], .agg #[.int .i64 u.x.lo, .int .i64 u.x.hi, .bool u.x.all, .int .i64 u.y.lo, .int .i64 u.y.hi, .bool u.y.all, .int .i64 u.z.lo, .int .i64 u.z.hi, .bool u.z.all]] w (PVal (.bool (inV v u)) w) :=
 vIn_w v u (inB v.x u.x) (inB v.y u.y) (inB v.z u.z) (both_b _ v u (inB v.x u.x) (inB v.y u.y) (inB v.z u.z) (In_any v.x u.x) (In_any v.y u.y) (In_any v.z u.z) (fun _ _ => by kernel_rfl)) w
set_option maxRecDepth 100000 in
set_option maxHeartbeats 12800000 in
theorem vOf_w (a b c : Int) (p q r : Sp) (hHa : ∀ W : World, Calls Try.prog 45 #[.int .i64 a, .int .i64 a] W (PVal (.agg #[.int .i64 p.lo, .int .i64 p.hi, .bool p.all]) W)) (hHb : ∀ W : World, Calls Try.prog 45 #[.int .i64 b, .int .i64 b] W (PVal (.agg #[.int .i64 q.lo, .int .i64 q.hi, .bool q.all]) W)) (hHc : ∀ W : World, Calls Try.prog 45 #[.int .i64 c, .int .i64 c] W (PVal (.agg #[.int .i64 r.lo, .int .i64 r.hi, .bool r.all]) W))  (w : World) : Calls Try.prog 28 #[.int .i64 a, .int .i64 b, .int .i64 c] w (PVal (.agg #[.int .i64 p.lo, .int .i64 p.hi, .bool p.all, .int .i64 q.lo, .int .i64 q.hi, .bool q.all, .int .i64 r.lo, .int .i64 r.hi, .bool r.all]) w) := by
 have Ha := Lib.hid hHa
 have Hb := Lib.hid hHb
 have Hc := Lib.hid hHc
 clear hHa hHb hHc
 have hJ0 := es_nil w
 go_enter Try.func28, Try.ntmps28
 go_wp2_with (refine stop_alloc 25 #[.int .i64 0, .int .i64 0, .bool false, .int .i64 0, .int .i64 0, .bool false, .int .i64 0, .int .i64 0, .bool false] (.agg #[.int .i64 0, .int .i64 0, .bool false, .int .i64 0, .int .i64 0, .bool false, .int .i64 0, .int .i64 0, .bool false]) rfl rfl zv25 rfl hJ0 (fun b1 W1 hJ1 => ?_))
 clear hJ0
 unfold Stop
 try simp only [Act.put, List.setIfInBounds_toArray, List.set_cons_succ, List.set_cons_zero]
 go_wp2_with fail
 refine (Ha.out _).mono ?_
 rintro e W2 ⟨rfl, hB⟩
 have hJ2 := hJ1.later hB
 clear hB
 clear hJ1
 go_wp2_with fail
 refine (Hb.out _).mono ?_
 rintro e W3 ⟨rfl, hB⟩
 have hJ3 := hJ2.later hB
 clear hB
 clear hJ2
 go_wp2_with fail
 refine (Hc.out _).mono ?_
 rintro e W4 ⟨rfl, hB⟩
 have hJ4 := hJ3.later hB
 clear hB
 clear hJ3
 go_wp2_with (refine stop_store 25 (.tmp 6) (.tmp 16) 0 b1 0 #[.int .i64 0, .int .i64 0, .bool false, .int .i64 0, .int .i64 0, .bool false, .int .i64 0, .int .i64 0, .bool false] 25 9 [.int .i64 p.lo, .int .i64 p.hi, .bool p.all, .int .i64 q.lo, .int .i64 q.hi, .bool q.all, .int .i64 r.lo, .int .i64 r.hi, .bool r.all] #[.int .i64 p.lo, .int .i64 p.hi, .bool p.all, .int .i64 q.lo, .int .i64 q.hi, .bool q.all, .int .i64 r.lo, .int .i64 r.hi, .bool r.all] [(b1, #[.int .i64 p.lo, .int .i64 p.hi, .bool p.all, .int .i64 q.lo, .int .i64 q.hi, .bool q.all, .int .i64 r.lo, .int .i64 r.hi, .bool r.all], 25)] rfl rfl rfl rfl sz25 hJ4 rfl rfl (Nat.le_of_ble_eq_true (by kernel_rfl)) (by kernel_rfl) (by kernel_rfl) (by kernel_rfl) (fun W5 hJ5 => ?_))
 clear hJ4
 unfold Stop
 try simp only [Act.put, List.setIfInBounds_toArray, List.set_cons_succ, List.set_cons_zero]
 have f0 : W5.cell? ⟨b1, 0, none⟩ = some (.int .i64 p.lo) := hJ5.cell 0 rfl 0 rfl
 have f1 : W5.cell? ⟨b1, 1, none⟩ = some (.int .i64 p.hi) := hJ5.cell 0 rfl 1 rfl
 have f2 : W5.cell? ⟨b1, 2, none⟩ = some (.bool p.all) := hJ5.cell 0 rfl 2 rfl
 have f3 : W5.cell? ⟨b1, 3, none⟩ = some (.int .i64 q.lo) := hJ5.cell 0 rfl 3 rfl
 have f4 : W5.cell? ⟨b1, 4, none⟩ = some (.int .i64 q.hi) := hJ5.cell 0 rfl 4 rfl
 have f5 : W5.cell? ⟨b1, 5, none⟩ = some (.bool q.all) := hJ5.cell 0 rfl 5 rfl
 have f6 : W5.cell? ⟨b1, 6, none⟩ = some (.int .i64 r.lo) := hJ5.cell 0 rfl 6 rfl
 have f7 : W5.cell? ⟨b1, 7, none⟩ = some (.int .i64 r.hi) := hJ5.cell 0 rfl 7 rfl
 have f8 : W5.cell? ⟨b1, 8, none⟩ = some (.bool r.all) := hJ5.cell 0 rfl 8 rfl
 go_wp2
 exact bodyPost_ret (v := .agg #[.int .i64 p.lo, .int .i64 p.hi, .bool p.all, .int .i64 q.lo, .int .i64 q.hi, .bool q.all, .int .i64 r.lo, .int .i64 r.hi, .bool r.all]) (by simp [results, Try.results28, go_sem, f0, f1, f2, f3, f4, f5, f6, f7, f8]) rfl ⟨rfl, hJ5.below⟩
theorem vOf_any (a b c : Int) (w : World) : Calls Try.prog 28 #[.int .i64 a, .int .i64 b, .int .i64 c] w (PVal (.agg #[.int .i64 ((ofV a b c).x.lo), .int .i64 ((ofV a b c).x.hi), .bool ((ofV a b c).x.all), .int .i64 ((ofV a b c).y.lo), .int .i64 ((ofV a b c).y.hi), .bool ((ofV a b c).y.all), .int .i64 ((ofV a b c).z.lo), .int .i64 ((ofV a b c).z.hi), .bool ((ofV a b c).z.all)]) w) :=
 vOf_w a b c (ofS a a) (ofS b b) (ofS c c) (sOf_any a a) (sOf_any b b) (sOf_any c c) w
end Go.Proofs.Ytdochhhepmlapaa
