/- Parts of the proof. -/
import Derived.Test.YtdochhhepmlapaaGb32
import Derived.Test.YtdochhhepmlapaaGb34
/- The walk of the law VecPlays. -/
namespace Go.Proofs.Ytdochhhepmlapaa
open Go Go.RowKit
attribute [local go_sem ↓] run_eqlSs run_eqlDs run_eqlV run_eqlW run_eqlI
set_option maxRecDepth 100000 in
set_option maxHeartbeats 12800000 in
theorem Plays_w (v u p q r c : Vc) (s d n : Sp) (hHaw : ∀ W : World, Calls Try.prog 10 #[] W (PVal (.bool true) W)) (hHda : ∀ W : World, Calls Try.prog 11 #[.agg #[.int .i64 v.x.lo, .int .i64 v.x.hi, .bool v.x.all, .int .i64 v.y.lo, .int .i64 v.y.hi, .bool v.y.all, .int .i64 v.z.lo, .int .i64 v.z.hi, .bool v.z.all]] W (PVal (.agg #[.int .i64 v.x.lo, .int .i64 v.x.hi, .bool v.x.all, .int .i64 v.y.lo, .int .i64 v.y.hi, .bool v.y.all, .int .i64 v.z.lo, .int .i64 v.z.hi, .bool v.z.all]) W)) (hHdb : ∀ W : World, Calls Try.prog 11 #[.agg #[.int .i64 u.x.lo, .int .i64 u.x.hi, .bool u.x.all, .int .i64 u.y.lo, .int .i64 u.y.hi, .bool u.y.all, .int .i64 u.z.lo, .int .i64 u.z.hi, .bool u.z.all]] W (PVal (.agg #[.int .i64 u.x.lo, .int .i64 u.x.hi, .bool u.x.all, .int .i64 u.y.lo, .int .i64 u.y.hi, .bool u.y.all, .int .i64 u.z.lo, .int .i64 u.z.hi, .bool u.z.all]) W)) (hHA : ∀ W : World, Calls Try.prog 12 #[.agg #[.int .i64 v.x.lo, .int .i64 v.x.hi, .bool v.x.all, .int .i64 v.y.lo, .int .i64 v.y.hi, .bool v.y.all, .int .i64 v.z.lo, .int .i64 v.z.hi, .bool v.z.all], .agg #[.int .i64 u.x.lo, .int .i64 u.x.hi, .bool u.x.all, .int .i64 u.y.lo, .int .i64 u.y.hi, .bool u.y.all, .int .i64 u.z.lo, .int .i64 u.z.hi, .bool u.z.all]] W (PVal (.agg #[.int .i64 p.x.lo, .int .i64 p.x.hi, .bool p.x.all, .int .i64 p.y.lo, .int .i64 p.y.hi, .bool p.y.all, .int .i64 p.z.lo, .int .i64 p.z.hi, .bool p.z.all]) W)) (hHdA : ∀ W : World, Calls Try.prog 11 #[.agg #[.int .i64 p.x.lo, .int .i64 p.x.hi, .bool p.x.all, .int .i64 p.y.lo, .int .i64 p.y.hi, .bool p.y.all, .int .i64 p.z.lo, .int .i64 p.z.hi, .bool p.z.all]] W (PVal (.agg #[.int .i64 p.x.lo, .int .i64 p.x.hi, .bool p.x.all, .int .i64 p.y.lo, .int .i64 p.y.hi, .bool p.y.all, .int .i64 p.z.lo, .int .i64 p.z.hi, .bool p.z.all]) W)) (hHrA : ∀ W : World, Calls Try.prog 19 #[.agg #[.int .i64 v.x.lo, .int .i64 v.x.hi, .bool v.x.all, .int .i64 v.y.lo, .int .i64 v.y.hi, .bool v.y.all, .int .i64 v.z.lo, .int .i64 v.z.hi, .bool v.z.all], .agg #[.int .i64 u.x.lo, .int .i64 u.x.hi, .bool u.x.all, .int .i64 u.y.lo, .int .i64 u.y.hi, .bool u.y.all, .int .i64 u.z.lo, .int .i64 u.z.hi, .bool u.z.all]] W (PVal (.agg #[.int .i64 p.x.lo, .int .i64 p.x.hi, .bool p.x.all, .int .i64 p.y.lo, .int .i64 p.y.hi, .bool p.y.all, .int .i64 p.z.lo, .int .i64 p.z.hi, .bool p.z.all]) W)) (hHS : ∀ W : World, Calls Try.prog 13 #[.agg #[.int .i64 v.x.lo, .int .i64 v.x.hi, .bool v.x.all, .int .i64 v.y.lo, .int .i64 v.y.hi, .bool v.y.all, .int .i64 v.z.lo, .int .i64 v.z.hi, .bool v.z.all], .agg #[.int .i64 u.x.lo, .int .i64 u.x.hi, .bool u.x.all, .int .i64 u.y.lo, .int .i64 u.y.hi, .bool u.y.all, .int .i64 u.z.lo, .int .i64 u.z.hi, .bool u.z.all]] W (PVal (.agg #[.int .i64 q.x.lo, .int .i64 q.x.hi, .bool q.x.all, .int .i64 q.y.lo, .int .i64 q.y.hi, .bool q.y.all, .int .i64 q.z.lo, .int .i64 q.z.hi, .bool q.z.all]) W)) (hHdS : ∀ W : World, Calls Try.prog 11 #[.agg #[.int .i64 q.x.lo, .int .i64 q.x.hi, .bool q.x.all, .int .i64 q.y.lo, .int .i64 q.y.hi, .bool q.y.all, .int .i64 q.z.lo, .int .i64 q.z.hi, .bool q.z.all]] W (PVal (.agg #[.int .i64 q.x.lo, .int .i64 q.x.hi, .bool q.x.all, .int .i64 q.y.lo, .int .i64 q.y.hi, .bool q.y.all, .int .i64 q.z.lo, .int .i64 q.z.hi, .bool q.z.all]) W)) (hHrS : ∀ W : World, Calls Try.prog 20 #[.agg #[.int .i64 v.x.lo, .int .i64 v.x.hi, .bool v.x.all, .int .i64 v.y.lo, .int .i64 v.y.hi, .bool v.y.all, .int .i64 v.z.lo, .int .i64 v.z.hi, .bool v.z.all], .agg #[.int .i64 u.x.lo, .int .i64 u.x.hi, .bool u.x.all, .int .i64 u.y.lo, .int .i64 u.y.hi, .bool u.y.all, .int .i64 u.z.lo, .int .i64 u.z.hi, .bool u.z.all]] W (PVal (.agg #[.int .i64 q.x.lo, .int .i64 q.x.hi, .bool q.x.all, .int .i64 q.y.lo, .int .i64 q.y.hi, .bool q.y.all, .int .i64 q.z.lo, .int .i64 q.z.hi, .bool q.z.all]) W)) (hHC : ∀ W : World, Calls Try.prog 14 #[.agg #[.int .i64 v.x.lo, .int .i64 v.x.hi, .bool v.x.all, .int .i64 v.y.lo, .int .i64 v.y.hi, .bool v.y.all, .int .i64 v.z.lo, .int .i64 v.z.hi, .bool v.z.all], .agg #[.int .i64 s.lo, .int .i64 s.hi, .bool s.all]] W (PVal (.agg #[.int .i64 r.x.lo, .int .i64 r.x.hi, .bool r.x.all, .int .i64 r.y.lo, .int .i64 r.y.hi, .bool r.y.all, .int .i64 r.z.lo, .int .i64 r.z.hi, .bool r.z.all]) W)) (hHdC : ∀ W : World, Calls Try.prog 11 #[.agg #[.int .i64 r.x.lo, .int .i64 r.x.hi, .bool r.x.all, .int .i64 r.y.lo, .int .i64 r.y.hi, .bool r.y.all, .int .i64 r.z.lo, .int .i64 r.z.hi, .bool r.z.all]] W (PVal (.agg #[.int .i64 r.x.lo, .int .i64 r.x.hi, .bool r.x.all, .int .i64 r.y.lo, .int .i64 r.y.hi, .bool r.y.all, .int .i64 r.z.lo, .int .i64 r.z.hi, .bool r.z.all]) W)) (hHrC : ∀ W : World, Calls Try.prog 21 #[.agg #[.int .i64 v.x.lo, .int .i64 v.x.hi, .bool v.x.all, .int .i64 v.y.lo, .int .i64 v.y.hi, .bool v.y.all, .int .i64 v.z.lo, .int .i64 v.z.hi, .bool v.z.all], .agg #[.int .i64 s.lo, .int .i64 s.hi, .bool s.all]] W (PVal (.agg #[.int .i64 r.x.lo, .int .i64 r.x.hi, .bool r.x.all, .int .i64 r.y.lo, .int .i64 r.y.hi, .bool r.y.all, .int .i64 r.z.lo, .int .i64 r.z.hi, .bool r.z.all]) W)) (hHD : ∀ W : World, Calls Try.prog 16 #[.agg #[.int .i64 v.x.lo, .int .i64 v.x.hi, .bool v.x.all, .int .i64 v.y.lo, .int .i64 v.y.hi, .bool v.y.all, .int .i64 v.z.lo, .int .i64 v.z.hi, .bool v.z.all], .agg #[.int .i64 u.x.lo, .int .i64 u.x.hi, .bool u.x.all, .int .i64 u.y.lo, .int .i64 u.y.hi, .bool u.y.all, .int .i64 u.z.lo, .int .i64 u.z.hi, .bool u.z.all]] W (PVal (.agg #[.int .i64 d.lo, .int .i64 d.hi, .bool d.all]) W)) (hHdD : ∀ W : World, Calls Try.prog 15 #[.agg #[.int .i64 d.lo, .int .i64 d.hi, .bool d.all]] W (PVal (.agg #[.int .i64 d.lo, .int .i64 d.hi, .bool d.all]) W)) (hHrD : ∀ W : World, Calls Try.prog 22 #[.agg #[.int .i64 v.x.lo, .int .i64 v.x.hi, .bool v.x.all, .int .i64 v.y.lo, .int .i64 v.y.hi, .bool v.y.all, .int .i64 v.z.lo, .int .i64 v.z.hi, .bool v.z.all], .agg #[.int .i64 u.x.lo, .int .i64 u.x.hi, .bool u.x.all, .int .i64 u.y.lo, .int .i64 u.y.hi, .bool u.y.all, .int .i64 u.z.lo, .int .i64 u.z.hi, .bool u.z.all]] W (PVal (.agg #[.int .i64 d.lo, .int .i64 d.hi, .bool d.all]) W)) (hHX : ∀ W : World, Calls Try.prog 17 #[.agg #[.int .i64 v.x.lo, .int .i64 v.x.hi, .bool v.x.all, .int .i64 v.y.lo, .int .i64 v.y.hi, .bool v.y.all, .int .i64 v.z.lo, .int .i64 v.z.hi, .bool v.z.all], .agg #[.int .i64 u.x.lo, .int .i64 u.x.hi, .bool u.x.all, .int .i64 u.y.lo, .int .i64 u.y.hi, .bool u.y.all, .int .i64 u.z.lo, .int .i64 u.z.hi, .bool u.z.all]] W (PVal (.agg #[.int .i64 c.x.lo, .int .i64 c.x.hi, .bool c.x.all, .int .i64 c.y.lo, .int .i64 c.y.hi, .bool c.y.all, .int .i64 c.z.lo, .int .i64 c.z.hi, .bool c.z.all]) W)) (hHdX : ∀ W : World, Calls Try.prog 11 #[.agg #[.int .i64 c.x.lo, .int .i64 c.x.hi, .bool c.x.all, .int .i64 c.y.lo, .int .i64 c.y.hi, .bool c.y.all, .int .i64 c.z.lo, .int .i64 c.z.hi, .bool c.z.all]] W (PVal (.agg #[.int .i64 c.x.lo, .int .i64 c.x.hi, .bool c.x.all, .int .i64 c.y.lo, .int .i64 c.y.hi, .bool c.y.all, .int .i64 c.z.lo, .int .i64 c.z.hi, .bool c.z.all]) W)) (hHrX : ∀ W : World, Calls Try.prog 23 #[.agg #[.int .i64 v.x.lo, .int .i64 v.x.hi, .bool v.x.all, .int .i64 v.y.lo, .int .i64 v.y.hi, .bool v.y.all, .int .i64 v.z.lo, .int .i64 v.z.hi, .bool v.z.all], .agg #[.int .i64 u.x.lo, .int .i64 u.x.hi, .bool u.x.all, .int .i64 u.y.lo, .int .i64 u.y.hi, .bool u.y.all, .int .i64 u.z.lo, .int .i64 u.z.hi, .bool u.z.all]] W (PVal (.agg #[.int .i64 c.x.lo, .int .i64 c.x.hi, .bool c.x.all, .int .i64 c.y.lo, .int .i64 c.y.hi, .bool c.y.all, .int .i64 c.z.lo, .int .i64 c.z.hi, .bool c.z.all]) W)) (hHN : ∀ W : World, Calls Try.prog 18 #[.agg #[.int .i64 v.x.lo, .int .i64 v.x.hi, .bool v.x.all, .int .i64 v.y.lo, .int .i64 v.y.hi, .bool v.y.all, .int .i64 v.z.lo, .int .i64 v.z.hi, .bool v.z.all]] W (PVal (.agg #[.int .i64 n.lo, .int .i64 n.hi, .bool n.all]) W)) (hHdN : ∀ W : World, Calls Try.prog 15 #[.agg #[.int .i64 n.lo, .int .i64 n.hi, .bool n.all]] W (PVal (.agg #[.int .i64 n.lo, .int .i64 n.hi, .bool n.all]) W)) (hHrN : ∀ W : World, Calls Try.prog 24 #[.agg #[.int .i64 v.x.lo, .int .i64 v.x.hi, .bool v.x.all, .int .i64 v.y.lo, .int .i64 v.y.hi, .bool v.y.all, .int .i64 v.z.lo, .int .i64 v.z.hi, .bool v.z.all]] W (PVal (.agg #[.int .i64 n.lo, .int .i64 n.hi, .bool n.all]) W)) (hHos : ∀ W : World, Calls Try.prog 15 #[.agg #[.int .i64 s.lo, .int .i64 s.hi, .bool s.all]] W (PVal (.agg #[.int .i64 s.lo, .int .i64 s.hi, .bool s.all]) W))  (w : World) : Calls Try.prog 3 #[.agg #[.int .i64 v.x.lo, .int .i64 v.x.hi, .bool v.x.all, .int .i64 v.y.lo, .int .i64 v.y.hi, .bool v.y.all, .int .i64 v.z.lo, .int .i64 v.z.hi, .bool v.z.all], .agg #[.int .i64 u.x.lo, .int .i64 u.x.hi, .bool u.x.all, .int .i64 u.y.lo, .int .i64 u.y.hi, .bool u.y.all, .int .i64 u.z.lo, .int .i64 u.z.hi, .bool u.z.all], .agg #[.int .i64 s.lo, .int .i64 s.hi, .bool s.all]] w (PVal (.bool true) w) := by
 have Haw := Lib.hid hHaw
 have Hda := Lib.hid hHda
 have Hdb := Lib.hid hHdb
 have HA := Lib.hid hHA
 have HdA := Lib.hid hHdA
 have HrA := Lib.hid hHrA
 have HS := Lib.hid hHS
 have HdS := Lib.hid hHdS
 have HrS := Lib.hid hHrS
 have HC := Lib.hid hHC
 have HdC := Lib.hid hHdC
 have HrC := Lib.hid hHrC
 have HD := Lib.hid hHD
 have HdD := Lib.hid hHdD
 have HrD := Lib.hid hHrD
 have HX := Lib.hid hHX
 have HdX := Lib.hid hHdX
 have HrX := Lib.hid hHrX
 have HN := Lib.hid hHN
 have HdN := Lib.hid hHdN
 have HrN := Lib.hid hHrN
 have Hos := Lib.hid hHos
 clear hHaw hHda hHdb hHA hHdA hHrA hHS hHdS hHrS hHC hHdC hHrC hHD hHdD hHrD hHX hHdX hHrX hHN hHdN hHrN hHos
 have hJ0 := es_nil w
 go_enter Try.func3, Try.ntmps3
 go_wp2_with (refine stop_box 25 (.tmp 0) #[.int .i64 v.x.lo, .int .i64 v.x.hi, .bool v.x.all, .int .i64 v.y.lo, .int .i64 v.y.hi, .bool v.y.all, .int .i64 v.z.lo, .int .i64 v.z.hi, .bool v.z.all] rfl rfl rfl hJ0 (fun b1 W1 hJ1 => ?_))
 clear hJ0
 unfold Stop
 try simp only [Act.put, List.setIfInBounds_toArray, List.set_cons_succ, List.set_cons_zero]
 go_wp2_with (refine stop_box 25 (.tmp 1) #[.int .i64 u.x.lo, .int .i64 u.x.hi, .bool u.x.all, .int .i64 u.y.lo, .int .i64 u.y.hi, .bool u.y.all, .int .i64 u.z.lo, .int .i64 u.z.hi, .bool u.z.all] rfl rfl rfl hJ1 (fun b2 W2 hJ2 => ?_))
 clear hJ1
 unfold Stop
 try simp only [Act.put, List.setIfInBounds_toArray, List.set_cons_succ, List.set_cons_zero]
 go_wp2_with (refine stop_box 23 (.tmp 2) #[.int .i64 s.lo, .int .i64 s.hi, .bool s.all] rfl rfl rfl hJ2 (fun b3 W3 hJ3 => ?_))
 clear hJ2
 unfold Stop
 try simp only [Act.put, List.setIfInBounds_toArray, List.set_cons_succ, List.set_cons_zero]
 go_wp2_with fail
 refine (Haw.out _).mono ?_
 rintro e W4 ⟨rfl, hB⟩
 have hJ4 := hJ3.later hB
 clear hB
 clear hJ3
 have f0 : W4.cell? ⟨b1, 0, none⟩ = some (.int .i64 v.x.lo) := hJ4.cell 2 rfl 0 rfl
 have f1 : W4.cell? ⟨b1, 1, none⟩ = some (.int .i64 v.x.hi) := hJ4.cell 2 rfl 1 rfl
 have f2 : W4.cell? ⟨b1, 2, none⟩ = some (.bool v.x.all) := hJ4.cell 2 rfl 2 rfl
 have f3 : W4.cell? ⟨b1, 3, none⟩ = some (.int .i64 v.y.lo) := hJ4.cell 2 rfl 3 rfl
 have f4 : W4.cell? ⟨b1, 4, none⟩ = some (.int .i64 v.y.hi) := hJ4.cell 2 rfl 4 rfl
 have f5 : W4.cell? ⟨b1, 5, none⟩ = some (.bool v.y.all) := hJ4.cell 2 rfl 5 rfl
 have f6 : W4.cell? ⟨b1, 6, none⟩ = some (.int .i64 v.z.lo) := hJ4.cell 2 rfl 6 rfl
 have f7 : W4.cell? ⟨b1, 7, none⟩ = some (.int .i64 v.z.hi) := hJ4.cell 2 rfl 7 rfl
 have f8 : W4.cell? ⟨b1, 8, none⟩ = some (.bool v.z.all) := hJ4.cell 2 rfl 8 rfl
 go_wp2_with fail
 refine (Hda.out _).mono ?_
 rintro e W5 ⟨rfl, hB⟩
 have hJ5 := hJ4.later hB
 clear hB
 clear f0 f1 f2 f3 f4 f5 f6 f7 f8
 clear hJ4
 go_wp2_with (refine stop_alloc 29 #[.int .i64 0, .int .i64 0, .bool false, .int .i64 0, .int .i64 0, .bool false, .int .i64 0, .int .i64 0, .bool false] (.agg #[.int .i64 0, .int .i64 0, .bool false, .int .i64 0, .int .i64 0, .bool false, .int .i64 0, .int .i64 0, .bool false]) rfl rfl zv29 rfl hJ5 (fun b4 W6 hJ6 => ?_))
 clear hJ5
 unfold Stop
 try simp only [Act.put, List.setIfInBounds_toArray, List.set_cons_succ, List.set_cons_zero]
 go_wp2_with (refine stop_store 29 (.tmp 8) (.tmp 18) 0 b4 0 #[.int .i64 0, .int .i64 0, .bool false, .int .i64 0, .int .i64 0, .bool false, .int .i64 0, .int .i64 0, .bool false] 29 9 [.int .i64 v.x.lo, .int .i64 v.x.hi, .bool v.x.all, .int .i64 v.y.lo, .int .i64 v.y.hi, .bool v.y.all, .int .i64 v.z.lo, .int .i64 v.z.hi, .bool v.z.all] #[.int .i64 v.x.lo, .int .i64 v.x.hi, .bool v.x.all, .int .i64 v.y.lo, .int .i64 v.y.hi, .bool v.y.all, .int .i64 v.z.lo, .int .i64 v.z.hi, .bool v.z.all] [(b4, #[.int .i64 v.x.lo, .int .i64 v.x.hi, .bool v.x.all, .int .i64 v.y.lo, .int .i64 v.y.hi, .bool v.y.all, .int .i64 v.z.lo, .int .i64 v.z.hi, .bool v.z.all], 29), (b3, #[.int .i64 s.lo, .int .i64 s.hi, .bool s.all], 23), (b2, #[.int .i64 u.x.lo, .int .i64 u.x.hi, .bool u.x.all, .int .i64 u.y.lo, .int .i64 u.y.hi, .bool u.y.all, .int .i64 u.z.lo, .int .i64 u.z.hi, .bool u.z.all], 25), (b1, #[.int .i64 v.x.lo, .int .i64 v.x.hi, .bool v.x.all, .int .i64 v.y.lo, .int .i64 v.y.hi, .bool v.y.all, .int .i64 v.z.lo, .int .i64 v.z.hi, .bool v.z.all], 25)] rfl rfl rfl rfl sz29 hJ6 rfl rfl (Nat.le_of_ble_eq_true (by kernel_rfl)) (by kernel_rfl) (by kernel_rfl) (by kernel_rfl) (fun W7 hJ7 => ?_))
 clear hJ6
 unfold Stop
 try simp only [Act.put, List.setIfInBounds_toArray, List.set_cons_succ, List.set_cons_zero]
 have f0 : W7.cell? ⟨b2, 0, none⟩ = some (.int .i64 u.x.lo) := hJ7.cell 2 rfl 0 rfl
 have f1 : W7.cell? ⟨b2, 1, none⟩ = some (.int .i64 u.x.hi) := hJ7.cell 2 rfl 1 rfl
 have f2 : W7.cell? ⟨b2, 2, none⟩ = some (.bool u.x.all) := hJ7.cell 2 rfl 2 rfl
 have f3 : W7.cell? ⟨b2, 3, none⟩ = some (.int .i64 u.y.lo) := hJ7.cell 2 rfl 3 rfl
 have f4 : W7.cell? ⟨b2, 4, none⟩ = some (.int .i64 u.y.hi) := hJ7.cell 2 rfl 4 rfl
 have f5 : W7.cell? ⟨b2, 5, none⟩ = some (.bool u.y.all) := hJ7.cell 2 rfl 5 rfl
 have f6 : W7.cell? ⟨b2, 6, none⟩ = some (.int .i64 u.z.lo) := hJ7.cell 2 rfl 6 rfl
 have f7 : W7.cell? ⟨b2, 7, none⟩ = some (.int .i64 u.z.hi) := hJ7.cell 2 rfl 7 rfl
 have f8 : W7.cell? ⟨b2, 8, none⟩ = some (.bool u.z.all) := hJ7.cell 2 rfl 8 rfl
 go_wp2_with fail
 refine (Hdb.out _).mono ?_
 rintro e W8 ⟨rfl, hB⟩
 have hJ8 := hJ7.later hB
 clear hB
 clear f0 f1 f2 f3 f4 f5 f6 f7 f8
 clear hJ7
 go_wp2_with (refine stop_alloc 29 #[.int .i64 0, .int .i64 0, .bool false, .int .i64 0, .int .i64 0, .bool false, .int .i64 0, .int .i64 0, .bool false] (.agg #[.int .i64 0, .int .i64 0, .bool false, .int .i64 0, .int .i64 0, .bool false, .int .i64 0, .int .i64 0, .bool false]) rfl rfl zv29 rfl hJ8 (fun b5 W9 hJ9 => ?_))
 clear hJ8
 unfold Stop
 try simp only [Act.put, List.setIfInBounds_toArray, List.set_cons_succ, List.set_cons_zero]
 go_wp2_with (refine stop_store 29 (.tmp 9) (.tmp 20) 0 b5 0 #[.int .i64 0, .int .i64 0, .bool false, .int .i64 0, .int .i64 0, .bool false, .int .i64 0, .int .i64 0, .bool false] 29 9 [.int .i64 u.x.lo, .int .i64 u.x.hi, .bool u.x.all, .int .i64 u.y.lo, .int .i64 u.y.hi, .bool u.y.all, .int .i64 u.z.lo, .int .i64 u.z.hi, .bool u.z.all] #[.int .i64 u.x.lo, .int .i64 u.x.hi, .bool u.x.all, .int .i64 u.y.lo, .int .i64 u.y.hi, .bool u.y.all, .int .i64 u.z.lo, .int .i64 u.z.hi, .bool u.z.all] [(b5, #[.int .i64 u.x.lo, .int .i64 u.x.hi, .bool u.x.all, .int .i64 u.y.lo, .int .i64 u.y.hi, .bool u.y.all, .int .i64 u.z.lo, .int .i64 u.z.hi, .bool u.z.all], 29), (b4, #[.int .i64 v.x.lo, .int .i64 v.x.hi, .bool v.x.all, .int .i64 v.y.lo, .int .i64 v.y.hi, .bool v.y.all, .int .i64 v.z.lo, .int .i64 v.z.hi, .bool v.z.all], 29), (b3, #[.int .i64 s.lo, .int .i64 s.hi, .bool s.all], 23), (b2, #[.int .i64 u.x.lo, .int .i64 u.x.hi, .bool u.x.all, .int .i64 u.y.lo, .int .i64 u.y.hi, .bool u.y.all, .int .i64 u.z.lo, .int .i64 u.z.hi, .bool u.z.all], 25), (b1, #[.int .i64 v.x.lo, .int .i64 v.x.hi, .bool v.x.all, .int .i64 v.y.lo, .int .i64 v.y.hi, .bool v.y.all, .int .i64 v.z.lo, .int .i64 v.z.hi, .bool v.z.all], 25)] rfl rfl rfl rfl sz29 hJ9 rfl rfl (Nat.le_of_ble_eq_true (by kernel_rfl)) (by kernel_rfl) (by kernel_rfl) (by kernel_rfl) (fun W10 hJ10 => ?_))
 clear hJ9
 unfold Stop
 try simp only [Act.put, List.setIfInBounds_toArray, List.set_cons_succ, List.set_cons_zero]
 have f0 : W10.cell? ⟨b1, 0, none⟩ = some (.int .i64 v.x.lo) := hJ10.cell 4 rfl 0 rfl
 have f1 : W10.cell? ⟨b1, 1, none⟩ = some (.int .i64 v.x.hi) := hJ10.cell 4 rfl 1 rfl
 have f2 : W10.cell? ⟨b1, 2, none⟩ = some (.bool v.x.all) := hJ10.cell 4 rfl 2 rfl
 have f3 : W10.cell? ⟨b1, 3, none⟩ = some (.int .i64 v.y.lo) := hJ10.cell 4 rfl 3 rfl
 have f4 : W10.cell? ⟨b1, 4, none⟩ = some (.int .i64 v.y.hi) := hJ10.cell 4 rfl 4 rfl
 have f5 : W10.cell? ⟨b1, 5, none⟩ = some (.bool v.y.all) := hJ10.cell 4 rfl 5 rfl
 have f6 : W10.cell? ⟨b1, 6, none⟩ = some (.int .i64 v.z.lo) := hJ10.cell 4 rfl 6 rfl
 have f7 : W10.cell? ⟨b1, 7, none⟩ = some (.int .i64 v.z.hi) := hJ10.cell 4 rfl 7 rfl
 have f8 : W10.cell? ⟨b1, 8, none⟩ = some (.bool v.z.all) := hJ10.cell 4 rfl 8 rfl
 have f9 : W10.cell? ⟨b2, 0, none⟩ = some (.int .i64 u.x.lo) := hJ10.cell 3 rfl 0 rfl
 have f10 : W10.cell? ⟨b2, 1, none⟩ = some (.int .i64 u.x.hi) := hJ10.cell 3 rfl 1 rfl
 have f11 : W10.cell? ⟨b2, 2, none⟩ = some (.bool u.x.all) := hJ10.cell 3 rfl 2 rfl
 have f12 : W10.cell? ⟨b2, 3, none⟩ = some (.int .i64 u.y.lo) := hJ10.cell 3 rfl 3 rfl
 have f13 : W10.cell? ⟨b2, 4, none⟩ = some (.int .i64 u.y.hi) := hJ10.cell 3 rfl 4 rfl
 have f14 : W10.cell? ⟨b2, 5, none⟩ = some (.bool u.y.all) := hJ10.cell 3 rfl 5 rfl
 have f15 : W10.cell? ⟨b2, 6, none⟩ = some (.int .i64 u.z.lo) := hJ10.cell 3 rfl 6 rfl
 have f16 : W10.cell? ⟨b2, 7, none⟩ = some (.int .i64 u.z.hi) := hJ10.cell 3 rfl 7 rfl
 have f17 : W10.cell? ⟨b2, 8, none⟩ = some (.bool u.z.all) := hJ10.cell 3 rfl 8 rfl
 go_wp2_with fail
 refine (HA.out _).mono ?_
 rintro e W11 ⟨rfl, hB⟩
 have hJ11 := hJ10.later hB
 clear hB
 clear f0 f1 f2 f3 f4 f5 f6 f7 f8 f9 f10 f11 f12 f13 f14 f15 f16 f17
 clear hJ10
 go_wp2_with fail
 refine (HdA.out _).mono ?_
 rintro e W12 ⟨rfl, hB⟩
 have hJ12 := hJ11.later hB
 clear hB
 clear hJ11
 go_wp2_with (refine stop_alloc 29 #[.int .i64 0, .int .i64 0, .bool false, .int .i64 0, .int .i64 0, .bool false, .int .i64 0, .int .i64 0, .bool false] (.agg #[.int .i64 0, .int .i64 0, .bool false, .int .i64 0, .int .i64 0, .bool false, .int .i64 0, .int .i64 0, .bool false]) rfl rfl zv29 rfl hJ12 (fun b6 W13 hJ13 => ?_))
 clear hJ12
 unfold Stop
 try simp only [Act.put, List.setIfInBounds_toArray, List.set_cons_succ, List.set_cons_zero]
 go_wp2_with (refine stop_store 29 (.tmp 10) (.tmp 24) 0 b6 0 #[.int .i64 0, .int .i64 0, .bool false, .int .i64 0, .int .i64 0, .bool false, .int .i64 0, .int .i64 0, .bool false] 29 9 [.int .i64 p.x.lo, .int .i64 p.x.hi, .bool p.x.all, .int .i64 p.y.lo, .int .i64 p.y.hi, .bool p.y.all, .int .i64 p.z.lo, .int .i64 p.z.hi, .bool p.z.all] #[.int .i64 p.x.lo, .int .i64 p.x.hi, .bool p.x.all, .int .i64 p.y.lo, .int .i64 p.y.hi, .bool p.y.all, .int .i64 p.z.lo, .int .i64 p.z.hi, .bool p.z.all] [(b6, #[.int .i64 p.x.lo, .int .i64 p.x.hi, .bool p.x.all, .int .i64 p.y.lo, .int .i64 p.y.hi, .bool p.y.all, .int .i64 p.z.lo, .int .i64 p.z.hi, .bool p.z.all], 29), (b5, #[.int .i64 u.x.lo, .int .i64 u.x.hi, .bool u.x.all, .int .i64 u.y.lo, .int .i64 u.y.hi, .bool u.y.all, .int .i64 u.z.lo, .int .i64 u.z.hi, .bool u.z.all], 29), (b4, #[.int .i64 v.x.lo, .int .i64 v.x.hi, .bool v.x.all, .int .i64 v.y.lo, .int .i64 v.y.hi, .bool v.y.all, .int .i64 v.z.lo, .int .i64 v.z.hi, .bool v.z.all], 29), (b3, #[.int .i64 s.lo, .int .i64 s.hi, .bool s.all], 23), (b2, #[.int .i64 u.x.lo, .int .i64 u.x.hi, .bool u.x.all, .int .i64 u.y.lo, .int .i64 u.y.hi, .bool u.y.all, .int .i64 u.z.lo, .int .i64 u.z.hi, .bool u.z.all], 25), (b1, #[.int .i64 v.x.lo, .int .i64 v.x.hi, .bool v.x.all, .int .i64 v.y.lo, .int .i64 v.y.hi, .bool v.y.all, .int .i64 v.z.lo, .int .i64 v.z.hi, .bool v.z.all], 25)] rfl rfl rfl rfl sz29 hJ13 rfl rfl (Nat.le_of_ble_eq_true (by kernel_rfl)) (by kernel_rfl) (by kernel_rfl) (by kernel_rfl) (fun W14 hJ14 => ?_))
 clear hJ13
 unfold Stop
 try simp only [Act.put, List.setIfInBounds_toArray, List.set_cons_succ, List.set_cons_zero]
 have f0 : W14.cell? ⟨b1, 0, none⟩ = some (.int .i64 v.x.lo) := hJ14.cell 5 rfl 0 rfl
 have f1 : W14.cell? ⟨b1, 1, none⟩ = some (.int .i64 v.x.hi) := hJ14.cell 5 rfl 1 rfl
 have f2 : W14.cell? ⟨b1, 2, none⟩ = some (.bool v.x.all) := hJ14.cell 5 rfl 2 rfl
 have f3 : W14.cell? ⟨b1, 3, none⟩ = some (.int .i64 v.y.lo) := hJ14.cell 5 rfl 3 rfl
 have f4 : W14.cell? ⟨b1, 4, none⟩ = some (.int .i64 v.y.hi) := hJ14.cell 5 rfl 4 rfl
 have f5 : W14.cell? ⟨b1, 5, none⟩ = some (.bool v.y.all) := hJ14.cell 5 rfl 5 rfl
 have f6 : W14.cell? ⟨b1, 6, none⟩ = some (.int .i64 v.z.lo) := hJ14.cell 5 rfl 6 rfl
 have f7 : W14.cell? ⟨b1, 7, none⟩ = some (.int .i64 v.z.hi) := hJ14.cell 5 rfl 7 rfl
 have f8 : W14.cell? ⟨b1, 8, none⟩ = some (.bool v.z.all) := hJ14.cell 5 rfl 8 rfl
 have f9 : W14.cell? ⟨b2, 0, none⟩ = some (.int .i64 u.x.lo) := hJ14.cell 4 rfl 0 rfl
 have f10 : W14.cell? ⟨b2, 1, none⟩ = some (.int .i64 u.x.hi) := hJ14.cell 4 rfl 1 rfl
 have f11 : W14.cell? ⟨b2, 2, none⟩ = some (.bool u.x.all) := hJ14.cell 4 rfl 2 rfl
 have f12 : W14.cell? ⟨b2, 3, none⟩ = some (.int .i64 u.y.lo) := hJ14.cell 4 rfl 3 rfl
 have f13 : W14.cell? ⟨b2, 4, none⟩ = some (.int .i64 u.y.hi) := hJ14.cell 4 rfl 4 rfl
 have f14 : W14.cell? ⟨b2, 5, none⟩ = some (.bool u.y.all) := hJ14.cell 4 rfl 5 rfl
 have f15 : W14.cell? ⟨b2, 6, none⟩ = some (.int .i64 u.z.lo) := hJ14.cell 4 rfl 6 rfl
 have f16 : W14.cell? ⟨b2, 7, none⟩ = some (.int .i64 u.z.hi) := hJ14.cell 4 rfl 7 rfl
 have f17 : W14.cell? ⟨b2, 8, none⟩ = some (.bool u.z.all) := hJ14.cell 4 rfl 8 rfl
 go_wp2_with fail
 refine (HS.out _).mono ?_
 rintro e W15 ⟨rfl, hB⟩
 have hJ15 := hJ14.later hB
 clear hB
 clear f0 f1 f2 f3 f4 f5 f6 f7 f8 f9 f10 f11 f12 f13 f14 f15 f16 f17
 clear hJ14
 go_wp2_with fail
 refine (HdS.out _).mono ?_
 rintro e W16 ⟨rfl, hB⟩
 have hJ16 := hJ15.later hB
 clear hB
 clear hJ15
 go_wp2_with (refine stop_alloc 29 #[.int .i64 0, .int .i64 0, .bool false, .int .i64 0, .int .i64 0, .bool false, .int .i64 0, .int .i64 0, .bool false] (.agg #[.int .i64 0, .int .i64 0, .bool false, .int .i64 0, .int .i64 0, .bool false, .int .i64 0, .int .i64 0, .bool false]) rfl rfl zv29 rfl hJ16 (fun b7 W17 hJ17 => ?_))
 clear hJ16
 unfold Stop
 try simp only [Act.put, List.setIfInBounds_toArray, List.set_cons_succ, List.set_cons_zero]
 go_wp2_with (refine stop_store 29 (.tmp 11) (.tmp 28) 0 b7 0 #[.int .i64 0, .int .i64 0, .bool false, .int .i64 0, .int .i64 0, .bool false, .int .i64 0, .int .i64 0, .bool false] 29 9 [.int .i64 q.x.lo, .int .i64 q.x.hi, .bool q.x.all, .int .i64 q.y.lo, .int .i64 q.y.hi, .bool q.y.all, .int .i64 q.z.lo, .int .i64 q.z.hi, .bool q.z.all] #[.int .i64 q.x.lo, .int .i64 q.x.hi, .bool q.x.all, .int .i64 q.y.lo, .int .i64 q.y.hi, .bool q.y.all, .int .i64 q.z.lo, .int .i64 q.z.hi, .bool q.z.all] [(b7, #[.int .i64 q.x.lo, .int .i64 q.x.hi, .bool q.x.all, .int .i64 q.y.lo, .int .i64 q.y.hi, .bool q.y.all, .int .i64 q.z.lo, .int .i64 q.z.hi, .bool q.z.all], 29), (b6, #[.int .i64 p.x.lo, .int .i64 p.x.hi, .bool p.x.all, .int .i64 p.y.lo, .int .i64 p.y.hi, .bool p.y.all, .int .i64 p.z.lo, .int .i64 p.z.hi, .bool p.z.all], 29), (b5, #[.int .i64 u.x.lo, .int .i64 u.x.hi, .bool u.x.all, .int .i64 u.y.lo, .int .i64 u.y.hi, .bool u.y.all, .int .i64 u.z.lo, .int .i64 u.z.hi, .bool u.z.all], 29), (b4, #[.int .i64 v.x.lo, .int .i64 v.x.hi, .bool v.x.all, .int .i64 v.y.lo, .int .i64 v.y.hi, .bool v.y.all, .int .i64 v.z.lo, .int .i64 v.z.hi, .bool v.z.all], 29), (b3, #[.int .i64 s.lo, .int .i64 s.hi, .bool s.all], 23), (b2, #[.int .i64 u.x.lo, .int .i64 u.x.hi, .bool u.x.all, .int .i64 u.y.lo, .int .i64 u.y.hi, .bool u.y.all, .int .i64 u.z.lo, .int .i64 u.z.hi, .bool u.z.all], 25), (b1, #[.int .i64 v.x.lo, .int .i64 v.x.hi, .bool v.x.all, .int .i64 v.y.lo, .int .i64 v.y.hi, .bool v.y.all, .int .i64 v.z.lo, .int .i64 v.z.hi, .bool v.z.all], 25)] rfl rfl rfl rfl sz29 hJ17 rfl rfl (Nat.le_of_ble_eq_true (by kernel_rfl)) (by kernel_rfl) (by kernel_rfl) (by kernel_rfl) (fun W18 hJ18 => ?_))
 clear hJ17
 unfold Stop
 try simp only [Act.put, List.setIfInBounds_toArray, List.set_cons_succ, List.set_cons_zero]
 have f0 : W18.cell? ⟨b1, 0, none⟩ = some (.int .i64 v.x.lo) := hJ18.cell 6 rfl 0 rfl
 have f1 : W18.cell? ⟨b1, 1, none⟩ = some (.int .i64 v.x.hi) := hJ18.cell 6 rfl 1 rfl
 have f2 : W18.cell? ⟨b1, 2, none⟩ = some (.bool v.x.all) := hJ18.cell 6 rfl 2 rfl
 have f3 : W18.cell? ⟨b1, 3, none⟩ = some (.int .i64 v.y.lo) := hJ18.cell 6 rfl 3 rfl
 have f4 : W18.cell? ⟨b1, 4, none⟩ = some (.int .i64 v.y.hi) := hJ18.cell 6 rfl 4 rfl
 have f5 : W18.cell? ⟨b1, 5, none⟩ = some (.bool v.y.all) := hJ18.cell 6 rfl 5 rfl
 have f6 : W18.cell? ⟨b1, 6, none⟩ = some (.int .i64 v.z.lo) := hJ18.cell 6 rfl 6 rfl
 have f7 : W18.cell? ⟨b1, 7, none⟩ = some (.int .i64 v.z.hi) := hJ18.cell 6 rfl 7 rfl
 have f8 : W18.cell? ⟨b1, 8, none⟩ = some (.bool v.z.all) := hJ18.cell 6 rfl 8 rfl
 have f9 : W18.cell? ⟨b3, 0, none⟩ = some (.int .i64 s.lo) := hJ18.cell 4 rfl 0 rfl
 have f10 : W18.cell? ⟨b3, 1, none⟩ = some (.int .i64 s.hi) := hJ18.cell 4 rfl 1 rfl
 have f11 : W18.cell? ⟨b3, 2, none⟩ = some (.bool s.all) := hJ18.cell 4 rfl 2 rfl
 go_wp2_with fail
 refine (HC.out _).mono ?_
 rintro e W19 ⟨rfl, hB⟩
 have hJ19 := hJ18.later hB
 clear hB
 clear f0 f1 f2 f3 f4 f5 f6 f7 f8 f9 f10 f11
 clear hJ18
 go_wp2_with fail
 refine (HdC.out _).mono ?_
 rintro e W20 ⟨rfl, hB⟩
 have hJ20 := hJ19.later hB
 clear hB
 clear hJ19
 go_wp2_with (refine stop_alloc 29 #[.int .i64 0, .int .i64 0, .bool false, .int .i64 0, .int .i64 0, .bool false, .int .i64 0, .int .i64 0, .bool false] (.agg #[.int .i64 0, .int .i64 0, .bool false, .int .i64 0, .int .i64 0, .bool false, .int .i64 0, .int .i64 0, .bool false]) rfl rfl zv29 rfl hJ20 (fun b8 W21 hJ21 => ?_))
 clear hJ20
 unfold Stop
 try simp only [Act.put, List.setIfInBounds_toArray, List.set_cons_succ, List.set_cons_zero]
 go_wp2_with (refine stop_store 29 (.tmp 12) (.tmp 32) 0 b8 0 #[.int .i64 0, .int .i64 0, .bool false, .int .i64 0, .int .i64 0, .bool false, .int .i64 0, .int .i64 0, .bool false] 29 9 [.int .i64 r.x.lo, .int .i64 r.x.hi, .bool r.x.all, .int .i64 r.y.lo, .int .i64 r.y.hi, .bool r.y.all, .int .i64 r.z.lo, .int .i64 r.z.hi, .bool r.z.all] #[.int .i64 r.x.lo, .int .i64 r.x.hi, .bool r.x.all, .int .i64 r.y.lo, .int .i64 r.y.hi, .bool r.y.all, .int .i64 r.z.lo, .int .i64 r.z.hi, .bool r.z.all] [(b8, #[.int .i64 r.x.lo, .int .i64 r.x.hi, .bool r.x.all, .int .i64 r.y.lo, .int .i64 r.y.hi, .bool r.y.all, .int .i64 r.z.lo, .int .i64 r.z.hi, .bool r.z.all], 29), (b7, #[.int .i64 q.x.lo, .int .i64 q.x.hi, .bool q.x.all, .int .i64 q.y.lo, .int .i64 q.y.hi, .bool q.y.all, .int .i64 q.z.lo, .int .i64 q.z.hi, .bool q.z.all], 29), (b6, #[.int .i64 p.x.lo, .int .i64 p.x.hi, .bool p.x.all, .int .i64 p.y.lo, .int .i64 p.y.hi, .bool p.y.all, .int .i64 p.z.lo, .int .i64 p.z.hi, .bool p.z.all], 29), (b5, #[.int .i64 u.x.lo, .int .i64 u.x.hi, .bool u.x.all, .int .i64 u.y.lo, .int .i64 u.y.hi, .bool u.y.all, .int .i64 u.z.lo, .int .i64 u.z.hi, .bool u.z.all], 29), (b4, #[.int .i64 v.x.lo, .int .i64 v.x.hi, .bool v.x.all, .int .i64 v.y.lo, .int .i64 v.y.hi, .bool v.y.all, .int .i64 v.z.lo, .int .i64 v.z.hi, .bool v.z.all], 29), (b3, #[.int .i64 s.lo, .int .i64 s.hi, .bool s.all], 23), (b2, #[.int .i64 u.x.lo, .int .i64 u.x.hi, .bool u.x.all, .int .i64 u.y.lo, .int .i64 u.y.hi, .bool u.y.all, .int .i64 u.z.lo, .int .i64 u.z.hi, .bool u.z.all], 25), (b1, #[.int .i64 v.x.lo, .int .i64 v.x.hi, .bool v.x.all, .int .i64 v.y.lo, .int .i64 v.y.hi, .bool v.y.all, .int .i64 v.z.lo, .int .i64 v.z.hi, .bool v.z.all], 25)] rfl rfl rfl rfl sz29 hJ21 rfl rfl (Nat.le_of_ble_eq_true (by kernel_rfl)) (by kernel_rfl) (by kernel_rfl) (by kernel_rfl) (fun W22 hJ22 => ?_))
 clear hJ21
 unfold Stop
 try simp only [Act.put, List.setIfInBounds_toArray, List.set_cons_succ, List.set_cons_zero]
 have f0 : W22.cell? ⟨b1, 0, none⟩ = some (.int .i64 v.x.lo) := hJ22.cell 7 rfl 0 rfl
 have f1 : W22.cell? ⟨b1, 1, none⟩ = some (.int .i64 v.x.hi) := hJ22.cell 7 rfl 1 rfl
 have f2 : W22.cell? ⟨b1, 2, none⟩ = some (.bool v.x.all) := hJ22.cell 7 rfl 2 rfl
 have f3 : W22.cell? ⟨b1, 3, none⟩ = some (.int .i64 v.y.lo) := hJ22.cell 7 rfl 3 rfl
 have f4 : W22.cell? ⟨b1, 4, none⟩ = some (.int .i64 v.y.hi) := hJ22.cell 7 rfl 4 rfl
 have f5 : W22.cell? ⟨b1, 5, none⟩ = some (.bool v.y.all) := hJ22.cell 7 rfl 5 rfl
 have f6 : W22.cell? ⟨b1, 6, none⟩ = some (.int .i64 v.z.lo) := hJ22.cell 7 rfl 6 rfl
 have f7 : W22.cell? ⟨b1, 7, none⟩ = some (.int .i64 v.z.hi) := hJ22.cell 7 rfl 7 rfl
 have f8 : W22.cell? ⟨b1, 8, none⟩ = some (.bool v.z.all) := hJ22.cell 7 rfl 8 rfl
 have f9 : W22.cell? ⟨b2, 0, none⟩ = some (.int .i64 u.x.lo) := hJ22.cell 6 rfl 0 rfl
 have f10 : W22.cell? ⟨b2, 1, none⟩ = some (.int .i64 u.x.hi) := hJ22.cell 6 rfl 1 rfl
 have f11 : W22.cell? ⟨b2, 2, none⟩ = some (.bool u.x.all) := hJ22.cell 6 rfl 2 rfl
 have f12 : W22.cell? ⟨b2, 3, none⟩ = some (.int .i64 u.y.lo) := hJ22.cell 6 rfl 3 rfl
 have f13 : W22.cell? ⟨b2, 4, none⟩ = some (.int .i64 u.y.hi) := hJ22.cell 6 rfl 4 rfl
 have f14 : W22.cell? ⟨b2, 5, none⟩ = some (.bool u.y.all) := hJ22.cell 6 rfl 5 rfl
 have f15 : W22.cell? ⟨b2, 6, none⟩ = some (.int .i64 u.z.lo) := hJ22.cell 6 rfl 6 rfl
 have f16 : W22.cell? ⟨b2, 7, none⟩ = some (.int .i64 u.z.hi) := hJ22.cell 6 rfl 7 rfl
 have f17 : W22.cell? ⟨b2, 8, none⟩ = some (.bool u.z.all) := hJ22.cell 6 rfl 8 rfl
 go_wp2_with fail
 refine (HD.out _).mono ?_
 rintro e W23 ⟨rfl, hB⟩
 have hJ23 := hJ22.later hB
 clear hB
 clear f0 f1 f2 f3 f4 f5 f6 f7 f8 f9 f10 f11 f12 f13 f14 f15 f16 f17
 clear hJ22
 go_wp2_with fail
 refine (HdD.out _).mono ?_
 rintro e W24 ⟨rfl, hB⟩
 have hJ24 := hJ23.later hB
 clear hB
 clear hJ23
 go_wp2_with (refine stop_alloc 27 #[.int .i64 0, .int .i64 0, .bool false] (.agg #[.int .i64 0, .int .i64 0, .bool false]) rfl rfl zv27 rfl hJ24 (fun b9 W25 hJ25 => ?_))
 clear hJ24
 unfold Stop
 try simp only [Act.put, List.setIfInBounds_toArray, List.set_cons_succ, List.set_cons_zero]
 go_wp2_with (refine stop_store 27 (.tmp 13) (.tmp 36) 0 b9 0 #[.int .i64 0, .int .i64 0, .bool false] 27 3 [.int .i64 d.lo, .int .i64 d.hi, .bool d.all] #[.int .i64 d.lo, .int .i64 d.hi, .bool d.all] [(b9, #[.int .i64 d.lo, .int .i64 d.hi, .bool d.all], 27), (b8, #[.int .i64 r.x.lo, .int .i64 r.x.hi, .bool r.x.all, .int .i64 r.y.lo, .int .i64 r.y.hi, .bool r.y.all, .int .i64 r.z.lo, .int .i64 r.z.hi, .bool r.z.all], 29), (b7, #[.int .i64 q.x.lo, .int .i64 q.x.hi, .bool q.x.all, .int .i64 q.y.lo, .int .i64 q.y.hi, .bool q.y.all, .int .i64 q.z.lo, .int .i64 q.z.hi, .bool q.z.all], 29), (b6, #[.int .i64 p.x.lo, .int .i64 p.x.hi, .bool p.x.all, .int .i64 p.y.lo, .int .i64 p.y.hi, .bool p.y.all, .int .i64 p.z.lo, .int .i64 p.z.hi, .bool p.z.all], 29), (b5, #[.int .i64 u.x.lo, .int .i64 u.x.hi, .bool u.x.all, .int .i64 u.y.lo, .int .i64 u.y.hi, .bool u.y.all, .int .i64 u.z.lo, .int .i64 u.z.hi, .bool u.z.all], 29), (b4, #[.int .i64 v.x.lo, .int .i64 v.x.hi, .bool v.x.all, .int .i64 v.y.lo, .int .i64 v.y.hi, .bool v.y.all, .int .i64 v.z.lo, .int .i64 v.z.hi, .bool v.z.all], 29), (b3, #[.int .i64 s.lo, .int .i64 s.hi, .bool s.all], 23), (b2, #[.int .i64 u.x.lo, .int .i64 u.x.hi, .bool u.x.all, .int .i64 u.y.lo, .int .i64 u.y.hi, .bool u.y.all, .int .i64 u.z.lo, .int .i64 u.z.hi, .bool u.z.all], 25), (b1, #[.int .i64 v.x.lo, .int .i64 v.x.hi, .bool v.x.all, .int .i64 v.y.lo, .int .i64 v.y.hi, .bool v.y.all, .int .i64 v.z.lo, .int .i64 v.z.hi, .bool v.z.all], 25)] rfl rfl rfl rfl sz27 hJ25 rfl rfl (Nat.le_of_ble_eq_true (by kernel_rfl)) (by kernel_rfl) (by kernel_rfl) (by kernel_rfl) (fun W26 hJ26 => ?_))
 clear hJ25
 unfold Stop
 try simp only [Act.put, List.setIfInBounds_toArray, List.set_cons_succ, List.set_cons_zero]
 have f0 : W26.cell? ⟨b1, 0, none⟩ = some (.int .i64 v.x.lo) := hJ26.cell 8 rfl 0 rfl
 have f1 : W26.cell? ⟨b1, 1, none⟩ = some (.int .i64 v.x.hi) := hJ26.cell 8 rfl 1 rfl
 have f2 : W26.cell? ⟨b1, 2, none⟩ = some (.bool v.x.all) := hJ26.cell 8 rfl 2 rfl
 have f3 : W26.cell? ⟨b1, 3, none⟩ = some (.int .i64 v.y.lo) := hJ26.cell 8 rfl 3 rfl
 have f4 : W26.cell? ⟨b1, 4, none⟩ = some (.int .i64 v.y.hi) := hJ26.cell 8 rfl 4 rfl
 have f5 : W26.cell? ⟨b1, 5, none⟩ = some (.bool v.y.all) := hJ26.cell 8 rfl 5 rfl
 have f6 : W26.cell? ⟨b1, 6, none⟩ = some (.int .i64 v.z.lo) := hJ26.cell 8 rfl 6 rfl
 have f7 : W26.cell? ⟨b1, 7, none⟩ = some (.int .i64 v.z.hi) := hJ26.cell 8 rfl 7 rfl
 have f8 : W26.cell? ⟨b1, 8, none⟩ = some (.bool v.z.all) := hJ26.cell 8 rfl 8 rfl
 have f9 : W26.cell? ⟨b2, 0, none⟩ = some (.int .i64 u.x.lo) := hJ26.cell 7 rfl 0 rfl
 have f10 : W26.cell? ⟨b2, 1, none⟩ = some (.int .i64 u.x.hi) := hJ26.cell 7 rfl 1 rfl
 have f11 : W26.cell? ⟨b2, 2, none⟩ = some (.bool u.x.all) := hJ26.cell 7 rfl 2 rfl
 have f12 : W26.cell? ⟨b2, 3, none⟩ = some (.int .i64 u.y.lo) := hJ26.cell 7 rfl 3 rfl
 have f13 : W26.cell? ⟨b2, 4, none⟩ = some (.int .i64 u.y.hi) := hJ26.cell 7 rfl 4 rfl
 have f14 : W26.cell? ⟨b2, 5, none⟩ = some (.bool u.y.all) := hJ26.cell 7 rfl 5 rfl
 have f15 : W26.cell? ⟨b2, 6, none⟩ = some (.int .i64 u.z.lo) := hJ26.cell 7 rfl 6 rfl
 have f16 : W26.cell? ⟨b2, 7, none⟩ = some (.int .i64 u.z.hi) := hJ26.cell 7 rfl 7 rfl
 have f17 : W26.cell? ⟨b2, 8, none⟩ = some (.bool u.z.all) := hJ26.cell 7 rfl 8 rfl
 go_wp2_with fail
 refine (HX.out _).mono ?_
 rintro e W27 ⟨rfl, hB⟩
 have hJ27 := hJ26.later hB
 clear hB
 clear f0 f1 f2 f3 f4 f5 f6 f7 f8 f9 f10 f11 f12 f13 f14 f15 f16 f17
 clear hJ26
 go_wp2_with fail
 refine (HdX.out _).mono ?_
 rintro e W28 ⟨rfl, hB⟩
 have hJ28 := hJ27.later hB
 clear hB
 clear hJ27
 go_wp2_with (refine stop_alloc 29 #[.int .i64 0, .int .i64 0, .bool false, .int .i64 0, .int .i64 0, .bool false, .int .i64 0, .int .i64 0, .bool false] (.agg #[.int .i64 0, .int .i64 0, .bool false, .int .i64 0, .int .i64 0, .bool false, .int .i64 0, .int .i64 0, .bool false]) rfl rfl zv29 rfl hJ28 (fun b10 W29 hJ29 => ?_))
 clear hJ28
 unfold Stop
 try simp only [Act.put, List.setIfInBounds_toArray, List.set_cons_succ, List.set_cons_zero]
 go_wp2_with (refine stop_store 29 (.tmp 14) (.tmp 40) 0 b10 0 #[.int .i64 0, .int .i64 0, .bool false, .int .i64 0, .int .i64 0, .bool false, .int .i64 0, .int .i64 0, .bool false] 29 9 [.int .i64 c.x.lo, .int .i64 c.x.hi, .bool c.x.all, .int .i64 c.y.lo, .int .i64 c.y.hi, .bool c.y.all, .int .i64 c.z.lo, .int .i64 c.z.hi, .bool c.z.all] #[.int .i64 c.x.lo, .int .i64 c.x.hi, .bool c.x.all, .int .i64 c.y.lo, .int .i64 c.y.hi, .bool c.y.all, .int .i64 c.z.lo, .int .i64 c.z.hi, .bool c.z.all] [(b10, #[.int .i64 c.x.lo, .int .i64 c.x.hi, .bool c.x.all, .int .i64 c.y.lo, .int .i64 c.y.hi, .bool c.y.all, .int .i64 c.z.lo, .int .i64 c.z.hi, .bool c.z.all], 29), (b9, #[.int .i64 d.lo, .int .i64 d.hi, .bool d.all], 27), (b8, #[.int .i64 r.x.lo, .int .i64 r.x.hi, .bool r.x.all, .int .i64 r.y.lo, .int .i64 r.y.hi, .bool r.y.all, .int .i64 r.z.lo, .int .i64 r.z.hi, .bool r.z.all], 29), (b7, #[.int .i64 q.x.lo, .int .i64 q.x.hi, .bool q.x.all, .int .i64 q.y.lo, .int .i64 q.y.hi, .bool q.y.all, .int .i64 q.z.lo, .int .i64 q.z.hi, .bool q.z.all], 29), (b6, #[.int .i64 p.x.lo, .int .i64 p.x.hi, .bool p.x.all, .int .i64 p.y.lo, .int .i64 p.y.hi, .bool p.y.all, .int .i64 p.z.lo, .int .i64 p.z.hi, .bool p.z.all], 29), (b5, #[.int .i64 u.x.lo, .int .i64 u.x.hi, .bool u.x.all, .int .i64 u.y.lo, .int .i64 u.y.hi, .bool u.y.all, .int .i64 u.z.lo, .int .i64 u.z.hi, .bool u.z.all], 29), (b4, #[.int .i64 v.x.lo, .int .i64 v.x.hi, .bool v.x.all, .int .i64 v.y.lo, .int .i64 v.y.hi, .bool v.y.all, .int .i64 v.z.lo, .int .i64 v.z.hi, .bool v.z.all], 29), (b3, #[.int .i64 s.lo, .int .i64 s.hi, .bool s.all], 23), (b2, #[.int .i64 u.x.lo, .int .i64 u.x.hi, .bool u.x.all, .int .i64 u.y.lo, .int .i64 u.y.hi, .bool u.y.all, .int .i64 u.z.lo, .int .i64 u.z.hi, .bool u.z.all], 25), (b1, #[.int .i64 v.x.lo, .int .i64 v.x.hi, .bool v.x.all, .int .i64 v.y.lo, .int .i64 v.y.hi, .bool v.y.all, .int .i64 v.z.lo, .int .i64 v.z.hi, .bool v.z.all], 25)] rfl rfl rfl rfl sz29 hJ29 rfl rfl (Nat.le_of_ble_eq_true (by kernel_rfl)) (by kernel_rfl) (by kernel_rfl) (by kernel_rfl) (fun W30 hJ30 => ?_))
 clear hJ29
 unfold Stop
 try simp only [Act.put, List.setIfInBounds_toArray, List.set_cons_succ, List.set_cons_zero]
 have f0 : W30.cell? ⟨b1, 0, none⟩ = some (.int .i64 v.x.lo) := hJ30.cell 9 rfl 0 rfl
 have f1 : W30.cell? ⟨b1, 1, none⟩ = some (.int .i64 v.x.hi) := hJ30.cell 9 rfl 1 rfl
 have f2 : W30.cell? ⟨b1, 2, none⟩ = some (.bool v.x.all) := hJ30.cell 9 rfl 2 rfl
 have f3 : W30.cell? ⟨b1, 3, none⟩ = some (.int .i64 v.y.lo) := hJ30.cell 9 rfl 3 rfl
 have f4 : W30.cell? ⟨b1, 4, none⟩ = some (.int .i64 v.y.hi) := hJ30.cell 9 rfl 4 rfl
 have f5 : W30.cell? ⟨b1, 5, none⟩ = some (.bool v.y.all) := hJ30.cell 9 rfl 5 rfl
 have f6 : W30.cell? ⟨b1, 6, none⟩ = some (.int .i64 v.z.lo) := hJ30.cell 9 rfl 6 rfl
 have f7 : W30.cell? ⟨b1, 7, none⟩ = some (.int .i64 v.z.hi) := hJ30.cell 9 rfl 7 rfl
 have f8 : W30.cell? ⟨b1, 8, none⟩ = some (.bool v.z.all) := hJ30.cell 9 rfl 8 rfl
 go_wp2_with fail
 refine (HN.out _).mono ?_
 rintro e W31 ⟨rfl, hB⟩
 have hJ31 := hJ30.later hB
 clear hB
 clear f0 f1 f2 f3 f4 f5 f6 f7 f8
 clear hJ30
 go_wp2_with fail
 refine (HdN.out _).mono ?_
 rintro e W32 ⟨rfl, hB⟩
 have hJ32 := hJ31.later hB
 clear hB
 clear hJ31
 go_wp2_with (refine stop_alloc 27 #[.int .i64 0, .int .i64 0, .bool false] (.agg #[.int .i64 0, .int .i64 0, .bool false]) rfl rfl zv27 rfl hJ32 (fun b11 W33 hJ33 => ?_))
 clear hJ32
 unfold Stop
 try simp only [Act.put, List.setIfInBounds_toArray, List.set_cons_succ, List.set_cons_zero]
 go_wp2_with (refine stop_store 27 (.tmp 15) (.tmp 43) 0 b11 0 #[.int .i64 0, .int .i64 0, .bool false] 27 3 [.int .i64 n.lo, .int .i64 n.hi, .bool n.all] #[.int .i64 n.lo, .int .i64 n.hi, .bool n.all] [(b11, #[.int .i64 n.lo, .int .i64 n.hi, .bool n.all], 27), (b10, #[.int .i64 c.x.lo, .int .i64 c.x.hi, .bool c.x.all, .int .i64 c.y.lo, .int .i64 c.y.hi, .bool c.y.all, .int .i64 c.z.lo, .int .i64 c.z.hi, .bool c.z.all], 29), (b9, #[.int .i64 d.lo, .int .i64 d.hi, .bool d.all], 27), (b8, #[.int .i64 r.x.lo, .int .i64 r.x.hi, .bool r.x.all, .int .i64 r.y.lo, .int .i64 r.y.hi, .bool r.y.all, .int .i64 r.z.lo, .int .i64 r.z.hi, .bool r.z.all], 29), (b7, #[.int .i64 q.x.lo, .int .i64 q.x.hi, .bool q.x.all, .int .i64 q.y.lo, .int .i64 q.y.hi, .bool q.y.all, .int .i64 q.z.lo, .int .i64 q.z.hi, .bool q.z.all], 29), (b6, #[.int .i64 p.x.lo, .int .i64 p.x.hi, .bool p.x.all, .int .i64 p.y.lo, .int .i64 p.y.hi, .bool p.y.all, .int .i64 p.z.lo, .int .i64 p.z.hi, .bool p.z.all], 29), (b5, #[.int .i64 u.x.lo, .int .i64 u.x.hi, .bool u.x.all, .int .i64 u.y.lo, .int .i64 u.y.hi, .bool u.y.all, .int .i64 u.z.lo, .int .i64 u.z.hi, .bool u.z.all], 29), (b4, #[.int .i64 v.x.lo, .int .i64 v.x.hi, .bool v.x.all, .int .i64 v.y.lo, .int .i64 v.y.hi, .bool v.y.all, .int .i64 v.z.lo, .int .i64 v.z.hi, .bool v.z.all], 29), (b3, #[.int .i64 s.lo, .int .i64 s.hi, .bool s.all], 23), (b2, #[.int .i64 u.x.lo, .int .i64 u.x.hi, .bool u.x.all, .int .i64 u.y.lo, .int .i64 u.y.hi, .bool u.y.all, .int .i64 u.z.lo, .int .i64 u.z.hi, .bool u.z.all], 25), (b1, #[.int .i64 v.x.lo, .int .i64 v.x.hi, .bool v.x.all, .int .i64 v.y.lo, .int .i64 v.y.hi, .bool v.y.all, .int .i64 v.z.lo, .int .i64 v.z.hi, .bool v.z.all], 25)] rfl rfl rfl rfl sz27 hJ33 rfl rfl (Nat.le_of_ble_eq_true (by kernel_rfl)) (by kernel_rfl) (by kernel_rfl) (by kernel_rfl) (fun W34 hJ34 => ?_))
 clear hJ33
 unfold Stop
 try simp only [Act.put, List.setIfInBounds_toArray, List.set_cons_succ, List.set_cons_zero]
 go_wp2
 obtain ⟨m10_34, hm⟩ : ∃ m, m = W34.heap.size := ⟨_, rfl⟩
 have hM := hJ34.em
 rw [← hm] at hM
 clear hm hJ34
 refine wp_region_z 44 [some 44, some 45, some 46, some 47, some 48, some 49, some 50, some 51, some 52, some 53, some 54, some 55, some 56, some 57, some 58, some 59, some 60, some 61, some 62, some 63, some 64, some 65, some 66, some 67, some 68, some 69, some 70, some 71, some 72, some 73, some 74, some 75, some 76, some 77, some 78, some 79, some 80, some 81, some 82, some 83, some 84, some 85, some 86, some 6] (veL m10_34 [.eq (.bool true), .eq (.bool true), .eq (.agg #[.int .i64 p.x.lo, .int .i64 p.x.hi, .bool p.x.all, .int .i64 p.y.lo, .int .i64 p.y.hi, .bool p.y.all, .int .i64 p.z.lo, .int .i64 p.z.hi, .bool p.z.all]), .eq (.agg #[.int .i64 v.x.lo, .int .i64 v.x.hi, .bool v.x.all, .int .i64 v.y.lo, .int .i64 v.y.hi, .bool v.y.all, .int .i64 v.z.lo, .int .i64 v.z.hi, .bool v.z.all]), .eq (.agg #[.int .i64 u.x.lo, .int .i64 u.x.hi, .bool u.x.all, .int .i64 u.y.lo, .int .i64 u.y.hi, .bool u.y.all, .int .i64 u.z.lo, .int .i64 u.z.hi, .bool u.z.all]), .eq (.agg #[.int .i64 p.x.lo, .int .i64 p.x.hi, .bool p.x.all, .int .i64 p.y.lo, .int .i64 p.y.hi, .bool p.y.all, .int .i64 p.z.lo, .int .i64 p.z.hi, .bool p.z.all]), .eq (.bool true), .eq (.bool true), .eq (.bool true), .eq (.agg #[.int .i64 q.x.lo, .int .i64 q.x.hi, .bool q.x.all, .int .i64 q.y.lo, .int .i64 q.y.hi, .bool q.y.all, .int .i64 q.z.lo, .int .i64 q.z.hi, .bool q.z.all]), .eq (.agg #[.int .i64 v.x.lo, .int .i64 v.x.hi, .bool v.x.all, .int .i64 v.y.lo, .int .i64 v.y.hi, .bool v.y.all, .int .i64 v.z.lo, .int .i64 v.z.hi, .bool v.z.all]), .eq (.agg #[.int .i64 u.x.lo, .int .i64 u.x.hi, .bool u.x.all, .int .i64 u.y.lo, .int .i64 u.y.hi, .bool u.y.all, .int .i64 u.z.lo, .int .i64 u.z.hi, .bool u.z.all]), .eq (.agg #[.int .i64 q.x.lo, .int .i64 q.x.hi, .bool q.x.all, .int .i64 q.y.lo, .int .i64 q.y.hi, .bool q.y.all, .int .i64 q.z.lo, .int .i64 q.z.hi, .bool q.z.all]), .eq (.bool true), .eq (.bool true), .eq (.bool true), .eq (.agg #[.int .i64 r.x.lo, .int .i64 r.x.hi, .bool r.x.all, .int .i64 r.y.lo, .int .i64 r.y.hi, .bool r.y.all, .int .i64 r.z.lo, .int .i64 r.z.hi, .bool r.z.all]), .eq (.agg #[.int .i64 v.x.lo, .int .i64 v.x.hi, .bool v.x.all, .int .i64 v.y.lo, .int .i64 v.y.hi, .bool v.y.all, .int .i64 v.z.lo, .int .i64 v.z.hi, .bool v.z.all]), .eq (.agg #[.int .i64 s.lo, .int .i64 s.hi, .bool s.all]), .eq (.agg #[.int .i64 s.lo, .int .i64 s.hi, .bool s.all]), .eq (.agg #[.int .i64 r.x.lo, .int .i64 r.x.hi, .bool r.x.all, .int .i64 r.y.lo, .int .i64 r.y.hi, .bool r.y.all, .int .i64 r.z.lo, .int .i64 r.z.hi, .bool r.z.all]), .eq (.bool true), .eq (.bool true), .eq (.bool true), .eq (.agg #[.int .i64 d.lo, .int .i64 d.hi, .bool d.all]), .eq (.agg #[.int .i64 v.x.lo, .int .i64 v.x.hi, .bool v.x.all, .int .i64 v.y.lo, .int .i64 v.y.hi, .bool v.y.all, .int .i64 v.z.lo, .int .i64 v.z.hi, .bool v.z.all]), .eq (.agg #[.int .i64 u.x.lo, .int .i64 u.x.hi, .bool u.x.all, .int .i64 u.y.lo, .int .i64 u.y.hi, .bool u.y.all, .int .i64 u.z.lo, .int .i64 u.z.hi, .bool u.z.all]), .eq (.agg #[.int .i64 d.lo, .int .i64 d.hi, .bool d.all]), .eq (.bool true), .eq (.bool true), .eq (.bool true), .eq (.agg #[.int .i64 c.x.lo, .int .i64 c.x.hi, .bool c.x.all, .int .i64 c.y.lo, .int .i64 c.y.hi, .bool c.y.all, .int .i64 c.z.lo, .int .i64 c.z.hi, .bool c.z.all]), .eq (.agg #[.int .i64 v.x.lo, .int .i64 v.x.hi, .bool v.x.all, .int .i64 v.y.lo, .int .i64 v.y.hi, .bool v.y.all, .int .i64 v.z.lo, .int .i64 v.z.hi, .bool v.z.all]), .eq (.agg #[.int .i64 u.x.lo, .int .i64 u.x.hi, .bool u.x.all, .int .i64 u.y.lo, .int .i64 u.y.hi, .bool u.y.all, .int .i64 u.z.lo, .int .i64 u.z.hi, .bool u.z.all]), .eq (.agg #[.int .i64 c.x.lo, .int .i64 c.x.hi, .bool c.x.all, .int .i64 c.y.lo, .int .i64 c.y.hi, .bool c.y.all, .int .i64 c.z.lo, .int .i64 c.z.hi, .bool c.z.all]), .eq (.bool true), .eq (.bool true), .eq (.bool true), .eq (.agg #[.int .i64 n.lo, .int .i64 n.hi, .bool n.all]), .eq (.agg #[.int .i64 v.x.lo, .int .i64 v.x.hi, .bool v.x.all, .int .i64 v.y.lo, .int .i64 v.y.hi, .bool v.y.all, .int .i64 v.z.lo, .int .i64 v.z.hi, .bool v.z.all]), .eq (.agg #[.int .i64 n.lo, .int .i64 n.hi, .bool n.all]), .eq (.bool true), .eq (.bool true), .eq (.bool true)]) (Em w m10_34 [(b11, #[.int .i64 n.lo, .int .i64 n.hi, .bool n.all], 27), (b10, #[.int .i64 c.x.lo, .int .i64 c.x.hi, .bool c.x.all, .int .i64 c.y.lo, .int .i64 c.y.hi, .bool c.y.all, .int .i64 c.z.lo, .int .i64 c.z.hi, .bool c.z.all], 29), (b9, #[.int .i64 d.lo, .int .i64 d.hi, .bool d.all], 27), (b8, #[.int .i64 r.x.lo, .int .i64 r.x.hi, .bool r.x.all, .int .i64 r.y.lo, .int .i64 r.y.hi, .bool r.y.all, .int .i64 r.z.lo, .int .i64 r.z.hi, .bool r.z.all], 29), (b7, #[.int .i64 q.x.lo, .int .i64 q.x.hi, .bool q.x.all, .int .i64 q.y.lo, .int .i64 q.y.hi, .bool q.y.all, .int .i64 q.z.lo, .int .i64 q.z.hi, .bool q.z.all], 29), (b6, #[.int .i64 p.x.lo, .int .i64 p.x.hi, .bool p.x.all, .int .i64 p.y.lo, .int .i64 p.y.hi, .bool p.y.all, .int .i64 p.z.lo, .int .i64 p.z.hi, .bool p.z.all], 29), (b5, #[.int .i64 u.x.lo, .int .i64 u.x.hi, .bool u.x.all, .int .i64 u.y.lo, .int .i64 u.y.hi, .bool u.y.all, .int .i64 u.z.lo, .int .i64 u.z.hi, .bool u.z.all], 29), (b4, #[.int .i64 v.x.lo, .int .i64 v.x.hi, .bool v.x.all, .int .i64 v.y.lo, .int .i64 v.y.hi, .bool v.y.all, .int .i64 v.z.lo, .int .i64 v.z.hi, .bool v.z.all], 29), (b3, #[.int .i64 s.lo, .int .i64 s.hi, .bool s.all], 23), (b2, #[.int .i64 u.x.lo, .int .i64 u.x.hi, .bool u.x.all, .int .i64 u.y.lo, .int .i64 u.y.hi, .bool u.y.all, .int .i64 u.z.lo, .int .i64 u.z.hi, .bool u.z.all], 25), (b1, #[.int .i64 v.x.lo, .int .i64 v.x.hi, .bool v.x.all, .int .i64 v.y.lo, .int .i64 v.y.hi, .bool v.y.all, .int .i64 v.z.lo, .int .i64 v.z.hi, .bool v.z.all], 25)]) (by kernel_rfl) (by kernel_rfl) (by rfl) (by decide) (by rfl) hM ?_ ?_
 ·
  intro i hl hi uu ww aa hJ hd hev hin
  clear hM
  obtain rfl | rfl | rfl | rfl | rfl | rfl | rfl | rfl | rfl | rfl | rfl | rfl | rfl | rfl | rfl | rfl | rfl | rfl | rfl | rfl | rfl | rfl | rfl | rfl | rfl | rfl | rfl | rfl | rfl | rfl | rfl | rfl | rfl | rfl | rfl | rfl | rfl | rfl | rfl | rfl | rfl | rfl | rfl | rfl : i = 0 ∨ i = 1 ∨ i = 2 ∨ i = 3 ∨ i = 4 ∨ i = 5 ∨ i = 6 ∨ i = 7 ∨ i = 8 ∨ i = 9 ∨ i = 10 ∨ i = 11 ∨ i = 12 ∨ i = 13 ∨ i = 14 ∨ i = 15 ∨ i = 16 ∨ i = 17 ∨ i = 18 ∨ i = 19 ∨ i = 20 ∨ i = 21 ∨ i = 22 ∨ i = 23 ∨ i = 24 ∨ i = 25 ∨ i = 26 ∨ i = 27 ∨ i = 28 ∨ i = 29 ∨ i = 30 ∨ i = 31 ∨ i = 32 ∨ i = 33 ∨ i = 34 ∨ i = 35 ∨ i = 36 ∨ i = 37 ∨ i = 38 ∨ i = 39 ∨ i = 40 ∨ i = 41 ∨ i = 42 ∨ i = 43 := by omega
  ·
   have x7 : aa.tmps[7]? = some (.bool true) := (hev 7 (by decide)).trans rfl
   clear hd hev hin
   simp only [List.getElem_cons_succ, List.getElem_cons_zero]
   clear hl
   refine .inr ⟨rfl, fun K' hK => ?_⟩
   have HK := Lib.hid hK
   clear hK
   go_simp
   exact HK.out (.bool true) _ hJ rfl veL_same
  ·
   have x44 : aa.tmps[44]? = some (.bool true) := (hin 0 44 rfl).trans (congrArg some (show uu 0 = .bool true from hd 0 (by decide) (by kernel_rfl)))
   clear hd hev hin
   simp only [List.getElem_cons_succ, List.getElem_cons_zero]
   clear hl
   refine .inr ⟨rfl, fun K' hK => ?_⟩
   have HK := Lib.hid hK
   clear hK
   go_simp
   exact HK.out (.bool true) _ hJ rfl veL_same
  ·
   have x10 : aa.tmps[10]? = some (.pointer (some ⟨b6, 0, none⟩)) := (hev 10 (by decide)).trans rfl
   have y1 : aa.tmps[45]? = some (.bool true) := (hin 1 45 rfl).trans (congrArg some (show uu 1 = .bool true from hd 1 (by decide) (by kernel_rfl)))
   clear hd hev hin
   simp only [List.getElem_cons_succ, List.getElem_cons_zero]
   clear hl
   refine .inr ⟨?_, fun K' hK => ?_⟩
   ·
    simp [Region.wanted, yielded, y1]
   clear y1
   have HK := Lib.hid hK
   clear hK
   have f0 : ww.cell? ⟨b6, 0, none⟩ = some (.int .i64 p.x.lo) := hJ.es.cell 5 rfl 0 rfl
   have f1 : ww.cell? ⟨b6, 1, none⟩ = some (.int .i64 p.x.hi) := hJ.es.cell 5 rfl 1 rfl
   have f2 : ww.cell? ⟨b6, 2, none⟩ = some (.bool p.x.all) := hJ.es.cell 5 rfl 2 rfl
   have f3 : ww.cell? ⟨b6, 3, none⟩ = some (.int .i64 p.y.lo) := hJ.es.cell 5 rfl 3 rfl
   have f4 : ww.cell? ⟨b6, 4, none⟩ = some (.int .i64 p.y.hi) := hJ.es.cell 5 rfl 4 rfl
   have f5 : ww.cell? ⟨b6, 5, none⟩ = some (.bool p.y.all) := hJ.es.cell 5 rfl 5 rfl
   have f6 : ww.cell? ⟨b6, 6, none⟩ = some (.int .i64 p.z.lo) := hJ.es.cell 5 rfl 6 rfl
   have f7 : ww.cell? ⟨b6, 7, none⟩ = some (.int .i64 p.z.hi) := hJ.es.cell 5 rfl 7 rfl
   have f8 : ww.cell? ⟨b6, 8, none⟩ = some (.bool p.z.all) := hJ.es.cell 5 rfl 8 rfl
   go_simp
   exact HK.out (.agg #[.int .i64 p.x.lo, .int .i64 p.x.hi, .bool p.x.all, .int .i64 p.y.lo, .int .i64 p.y.hi, .bool p.y.all, .int .i64 p.z.lo, .int .i64 p.z.hi, .bool p.z.all]) _ hJ rfl veL_same
  ·
   have x8 : aa.tmps[8]? = some (.pointer (some ⟨b4, 0, none⟩)) := (hev 8 (by decide)).trans rfl
   have y1 : aa.tmps[45]? = some (.bool true) := (hin 1 45 rfl).trans (congrArg some (show uu 1 = .bool true from hd 1 (by decide) (by kernel_rfl)))
   clear hd hev hin
   simp only [List.getElem_cons_succ, List.getElem_cons_zero]
   clear hl
   refine .inr ⟨?_, fun K' hK => ?_⟩
   ·
    simp [Region.wanted, yielded, y1]
   clear y1
   have HK := Lib.hid hK
   clear hK
   have f0 : ww.cell? ⟨b4, 0, none⟩ = some (.int .i64 v.x.lo) := hJ.es.cell 7 rfl 0 rfl
   have f1 : ww.cell? ⟨b4, 1, none⟩ = some (.int .i64 v.x.hi) := hJ.es.cell 7 rfl 1 rfl
   have f2 : ww.cell? ⟨b4, 2, none⟩ = some (.bool v.x.all) := hJ.es.cell 7 rfl 2 rfl
   have f3 : ww.cell? ⟨b4, 3, none⟩ = some (.int .i64 v.y.lo) := hJ.es.cell 7 rfl 3 rfl
   have f4 : ww.cell? ⟨b4, 4, none⟩ = some (.int .i64 v.y.hi) := hJ.es.cell 7 rfl 4 rfl
   have f5 : ww.cell? ⟨b4, 5, none⟩ = some (.bool v.y.all) := hJ.es.cell 7 rfl 5 rfl
   have f6 : ww.cell? ⟨b4, 6, none⟩ = some (.int .i64 v.z.lo) := hJ.es.cell 7 rfl 6 rfl
   have f7 : ww.cell? ⟨b4, 7, none⟩ = some (.int .i64 v.z.hi) := hJ.es.cell 7 rfl 7 rfl
   have f8 : ww.cell? ⟨b4, 8, none⟩ = some (.bool v.z.all) := hJ.es.cell 7 rfl 8 rfl
   go_simp
   exact HK.out (.agg #[.int .i64 v.x.lo, .int .i64 v.x.hi, .bool v.x.all, .int .i64 v.y.lo, .int .i64 v.y.hi, .bool v.y.all, .int .i64 v.z.lo, .int .i64 v.z.hi, .bool v.z.all]) _ hJ rfl veL_same
  ·
   have x9 : aa.tmps[9]? = some (.pointer (some ⟨b5, 0, none⟩)) := (hev 9 (by decide)).trans rfl
   have y1 : aa.tmps[45]? = some (.bool true) := (hin 1 45 rfl).trans (congrArg some (show uu 1 = .bool true from hd 1 (by decide) (by kernel_rfl)))
   clear hd hev hin
   simp only [List.getElem_cons_succ, List.getElem_cons_zero]
   clear hl
   refine .inr ⟨?_, fun K' hK => ?_⟩
   ·
    simp [Region.wanted, yielded, y1]
   clear y1
   have HK := Lib.hid hK
   clear hK
   have f0 : ww.cell? ⟨b5, 0, none⟩ = some (.int .i64 u.x.lo) := hJ.es.cell 6 rfl 0 rfl
   have f1 : ww.cell? ⟨b5, 1, none⟩ = some (.int .i64 u.x.hi) := hJ.es.cell 6 rfl 1 rfl
   have f2 : ww.cell? ⟨b5, 2, none⟩ = some (.bool u.x.all) := hJ.es.cell 6 rfl 2 rfl
   have f3 : ww.cell? ⟨b5, 3, none⟩ = some (.int .i64 u.y.lo) := hJ.es.cell 6 rfl 3 rfl
   have f4 : ww.cell? ⟨b5, 4, none⟩ = some (.int .i64 u.y.hi) := hJ.es.cell 6 rfl 4 rfl
   have f5 : ww.cell? ⟨b5, 5, none⟩ = some (.bool u.y.all) := hJ.es.cell 6 rfl 5 rfl
   have f6 : ww.cell? ⟨b5, 6, none⟩ = some (.int .i64 u.z.lo) := hJ.es.cell 6 rfl 6 rfl
   have f7 : ww.cell? ⟨b5, 7, none⟩ = some (.int .i64 u.z.hi) := hJ.es.cell 6 rfl 7 rfl
   have f8 : ww.cell? ⟨b5, 8, none⟩ = some (.bool u.z.all) := hJ.es.cell 6 rfl 8 rfl
   go_simp
   exact HK.out (.agg #[.int .i64 u.x.lo, .int .i64 u.x.hi, .bool u.x.all, .int .i64 u.y.lo, .int .i64 u.y.hi, .bool u.y.all, .int .i64 u.z.lo, .int .i64 u.z.hi, .bool u.z.all]) _ hJ rfl veL_same
  ·
   have x47 : aa.tmps[47]? = some (.agg #[.int .i64 v.x.lo, .int .i64 v.x.hi, .bool v.x.all, .int .i64 v.y.lo, .int .i64 v.y.hi, .bool v.y.all, .int .i64 v.z.lo, .int .i64 v.z.hi, .bool v.z.all]) := (hin 3 47 rfl).trans (congrArg some (show uu 3 = .agg #[.int .i64 v.x.lo, .int .i64 v.x.hi, .bool v.x.all, .int .i64 v.y.lo, .int .i64 v.y.hi, .bool v.y.all, .int .i64 v.z.lo, .int .i64 v.z.hi, .bool v.z.all] from hd 3 (by decide) (by kernel_rfl)))
   have x48 : aa.tmps[48]? = some (.agg #[.int .i64 u.x.lo, .int .i64 u.x.hi, .bool u.x.all, .int .i64 u.y.lo, .int .i64 u.y.hi, .bool u.y.all, .int .i64 u.z.lo, .int .i64 u.z.hi, .bool u.z.all]) := (hin 4 48 rfl).trans (congrArg some (show uu 4 = .agg #[.int .i64 u.x.lo, .int .i64 u.x.hi, .bool u.x.all, .int .i64 u.y.lo, .int .i64 u.y.hi, .bool u.y.all, .int .i64 u.z.lo, .int .i64 u.z.hi, .bool u.z.all] from hd 4 (by decide) (by kernel_rfl)))
   have y1 : aa.tmps[45]? = some (.bool true) := (hin 1 45 rfl).trans (congrArg some (show uu 1 = .bool true from hd 1 (by decide) (by kernel_rfl)))
   clear hd hev hin
   simp only [List.getElem_cons_succ, List.getElem_cons_zero]
   clear hl
   refine .inr ⟨?_, fun K' hK => ?_⟩
   ·
    simp [Region.wanted, yielded, y1]
   clear y1
   have HK := Lib.hid hK
   clear hK
   go_simp
   refine (HrA.out ww).mono ?_
   rintro e W' ⟨rfl, hB⟩
   exact HK.out (.agg #[.int .i64 p.x.lo, .int .i64 p.x.hi, .bool p.x.all, .int .i64 p.y.lo, .int .i64 p.y.hi, .bool p.y.all, .int .i64 p.z.lo, .int .i64 p.z.hi, .bool p.z.all]) _ (hJ.later hB) rfl (veL_later hB)
  ·
   have x46 : aa.tmps[46]? = some (.agg #[.int .i64 p.x.lo, .int .i64 p.x.hi, .bool p.x.all, .int .i64 p.y.lo, .int .i64 p.y.hi, .bool p.y.all, .int .i64 p.z.lo, .int .i64 p.z.hi, .bool p.z.all]) := (hin 2 46 rfl).trans (congrArg some (show uu 2 = .agg #[.int .i64 p.x.lo, .int .i64 p.x.hi, .bool p.x.all, .int .i64 p.y.lo, .int .i64 p.y.hi, .bool p.y.all, .int .i64 p.z.lo, .int .i64 p.z.hi, .bool p.z.all] from hd 2 (by decide) (by kernel_rfl)))
   have x49 : aa.tmps[49]? = some (.agg #[.int .i64 p.x.lo, .int .i64 p.x.hi, .bool p.x.all, .int .i64 p.y.lo, .int .i64 p.y.hi, .bool p.y.all, .int .i64 p.z.lo, .int .i64 p.z.hi, .bool p.z.all]) := (hin 5 49 rfl).trans (congrArg some (show uu 5 = .agg #[.int .i64 p.x.lo, .int .i64 p.x.hi, .bool p.x.all, .int .i64 p.y.lo, .int .i64 p.y.hi, .bool p.y.all, .int .i64 p.z.lo, .int .i64 p.z.hi, .bool p.z.all] from hd 5 (by decide) (by kernel_rfl)))
   have y1 : aa.tmps[45]? = some (.bool true) := (hin 1 45 rfl).trans (congrArg some (show uu 1 = .bool true from hd 1 (by decide) (by kernel_rfl)))
   clear hd hev hin
   simp only [List.getElem_cons_succ, List.getElem_cons_zero]
   clear hl
   refine .inr ⟨?_, fun K' hK => ?_⟩
   ·
    simp [Region.wanted, yielded, y1]
   clear y1
   have HK := Lib.hid hK
   clear hK
   go_simp
   exact HK.out (.bool true) _ hJ rfl veL_same
  ·
   have x45 : aa.tmps[45]? = some (.bool true) := (hin 1 45 rfl).trans (congrArg some (show uu 1 = .bool true from hd 1 (by decide) (by kernel_rfl)))
   have x50 : aa.tmps[50]? = some (.bool true) := (hin 6 50 rfl).trans (congrArg some (show uu 6 = .bool true from hd 6 (by decide) (by kernel_rfl)))
   clear hd hev hin
   simp only [List.getElem_cons_succ, List.getElem_cons_zero]
   clear hl
   refine .inr ⟨rfl, fun K' hK => ?_⟩
   have HK := Lib.hid hK
   clear hK
   go_simp
   exact HK.out (.bool true) _ hJ rfl veL_same
  ·
   have x51 : aa.tmps[51]? = some (.bool true) := (hin 7 51 rfl).trans (congrArg some (show uu 7 = .bool true from hd 7 (by decide) (by kernel_rfl)))
   clear hd hev hin
   simp only [List.getElem_cons_succ, List.getElem_cons_zero]
   clear hl
   refine .inr ⟨rfl, fun K' hK => ?_⟩
   have HK := Lib.hid hK
   clear hK
   go_simp
   exact HK.out (.bool true) _ hJ rfl veL_same
  ·
   have x11 : aa.tmps[11]? = some (.pointer (some ⟨b7, 0, none⟩)) := (hev 11 (by decide)).trans rfl
   have y8 : aa.tmps[52]? = some (.bool true) := (hin 8 52 rfl).trans (congrArg some (show uu 8 = .bool true from hd 8 (by decide) (by kernel_rfl)))
   clear hd hev hin
   simp only [List.getElem_cons_succ, List.getElem_cons_zero]
   clear hl
   refine .inr ⟨?_, fun K' hK => ?_⟩
   ·
    simp [Region.wanted, yielded, y8]
   clear y8
   have HK := Lib.hid hK
   clear hK
   have f0 : ww.cell? ⟨b7, 0, none⟩ = some (.int .i64 q.x.lo) := hJ.es.cell 4 rfl 0 rfl
   have f1 : ww.cell? ⟨b7, 1, none⟩ = some (.int .i64 q.x.hi) := hJ.es.cell 4 rfl 1 rfl
   have f2 : ww.cell? ⟨b7, 2, none⟩ = some (.bool q.x.all) := hJ.es.cell 4 rfl 2 rfl
   have f3 : ww.cell? ⟨b7, 3, none⟩ = some (.int .i64 q.y.lo) := hJ.es.cell 4 rfl 3 rfl
   have f4 : ww.cell? ⟨b7, 4, none⟩ = some (.int .i64 q.y.hi) := hJ.es.cell 4 rfl 4 rfl
   have f5 : ww.cell? ⟨b7, 5, none⟩ = some (.bool q.y.all) := hJ.es.cell 4 rfl 5 rfl
   have f6 : ww.cell? ⟨b7, 6, none⟩ = some (.int .i64 q.z.lo) := hJ.es.cell 4 rfl 6 rfl
   have f7 : ww.cell? ⟨b7, 7, none⟩ = some (.int .i64 q.z.hi) := hJ.es.cell 4 rfl 7 rfl
   have f8 : ww.cell? ⟨b7, 8, none⟩ = some (.bool q.z.all) := hJ.es.cell 4 rfl 8 rfl
   go_simp
   exact HK.out (.agg #[.int .i64 q.x.lo, .int .i64 q.x.hi, .bool q.x.all, .int .i64 q.y.lo, .int .i64 q.y.hi, .bool q.y.all, .int .i64 q.z.lo, .int .i64 q.z.hi, .bool q.z.all]) _ hJ rfl veL_same
  ·
   have x8 : aa.tmps[8]? = some (.pointer (some ⟨b4, 0, none⟩)) := (hev 8 (by decide)).trans rfl
   have y8 : aa.tmps[52]? = some (.bool true) := (hin 8 52 rfl).trans (congrArg some (show uu 8 = .bool true from hd 8 (by decide) (by kernel_rfl)))
   clear hd hev hin
   simp only [List.getElem_cons_succ, List.getElem_cons_zero]
   clear hl
   refine .inr ⟨?_, fun K' hK => ?_⟩
   ·
    simp [Region.wanted, yielded, y8]
   clear y8
   have HK := Lib.hid hK
   clear hK
   have f0 : ww.cell? ⟨b4, 0, none⟩ = some (.int .i64 v.x.lo) := hJ.es.cell 7 rfl 0 rfl
   have f1 : ww.cell? ⟨b4, 1, none⟩ = some (.int .i64 v.x.hi) := hJ.es.cell 7 rfl 1 rfl
   have f2 : ww.cell? ⟨b4, 2, none⟩ = some (.bool v.x.all) := hJ.es.cell 7 rfl 2 rfl
   have f3 : ww.cell? ⟨b4, 3, none⟩ = some (.int .i64 v.y.lo) := hJ.es.cell 7 rfl 3 rfl
   have f4 : ww.cell? ⟨b4, 4, none⟩ = some (.int .i64 v.y.hi) := hJ.es.cell 7 rfl 4 rfl
   have f5 : ww.cell? ⟨b4, 5, none⟩ = some (.bool v.y.all) := hJ.es.cell 7 rfl 5 rfl
   have f6 : ww.cell? ⟨b4, 6, none⟩ = some (.int .i64 v.z.lo) := hJ.es.cell 7 rfl 6 rfl
   have f7 : ww.cell? ⟨b4, 7, none⟩ = some (.int .i64 v.z.hi) := hJ.es.cell 7 rfl 7 rfl
   have f8 : ww.cell? ⟨b4, 8, none⟩ = some (.bool v.z.all) := hJ.es.cell 7 rfl 8 rfl
   go_simp
   exact HK.out (.agg #[.int .i64 v.x.lo, .int .i64 v.x.hi, .bool v.x.all, .int .i64 v.y.lo, .int .i64 v.y.hi, .bool v.y.all, .int .i64 v.z.lo, .int .i64 v.z.hi, .bool v.z.all]) _ hJ rfl veL_same
  ·
   have x9 : aa.tmps[9]? = some (.pointer (some ⟨b5, 0, none⟩)) := (hev 9 (by decide)).trans rfl
   have y8 : aa.tmps[52]? = some (.bool true) := (hin 8 52 rfl).trans (congrArg some (show uu 8 = .bool true from hd 8 (by decide) (by kernel_rfl)))
   clear hd hev hin
   simp only [List.getElem_cons_succ, List.getElem_cons_zero]
   clear hl
   refine .inr ⟨?_, fun K' hK => ?_⟩
   ·
    simp [Region.wanted, yielded, y8]
   clear y8
   have HK := Lib.hid hK
   clear hK
   have f0 : ww.cell? ⟨b5, 0, none⟩ = some (.int .i64 u.x.lo) := hJ.es.cell 6 rfl 0 rfl
   have f1 : ww.cell? ⟨b5, 1, none⟩ = some (.int .i64 u.x.hi) := hJ.es.cell 6 rfl 1 rfl
   have f2 : ww.cell? ⟨b5, 2, none⟩ = some (.bool u.x.all) := hJ.es.cell 6 rfl 2 rfl
   have f3 : ww.cell? ⟨b5, 3, none⟩ = some (.int .i64 u.y.lo) := hJ.es.cell 6 rfl 3 rfl
   have f4 : ww.cell? ⟨b5, 4, none⟩ = some (.int .i64 u.y.hi) := hJ.es.cell 6 rfl 4 rfl
   have f5 : ww.cell? ⟨b5, 5, none⟩ = some (.bool u.y.all) := hJ.es.cell 6 rfl 5 rfl
   have f6 : ww.cell? ⟨b5, 6, none⟩ = some (.int .i64 u.z.lo) := hJ.es.cell 6 rfl 6 rfl
   have f7 : ww.cell? ⟨b5, 7, none⟩ = some (.int .i64 u.z.hi) := hJ.es.cell 6 rfl 7 rfl
   have f8 : ww.cell? ⟨b5, 8, none⟩ = some (.bool u.z.all) := hJ.es.cell 6 rfl 8 rfl
   go_simp
   exact HK.out (.agg #[.int .i64 u.x.lo, .int .i64 u.x.hi, .bool u.x.all, .int .i64 u.y.lo, .int .i64 u.y.hi, .bool u.y.all, .int .i64 u.z.lo, .int .i64 u.z.hi, .bool u.z.all]) _ hJ rfl veL_same
  ·
   have x54 : aa.tmps[54]? = some (.agg #[.int .i64 v.x.lo, .int .i64 v.x.hi, .bool v.x.all, .int .i64 v.y.lo, .int .i64 v.y.hi, .bool v.y.all, .int .i64 v.z.lo, .int .i64 v.z.hi, .bool v.z.all]) := (hin 10 54 rfl).trans (congrArg some (show uu 10 = .agg #[.int .i64 v.x.lo, .int .i64 v.x.hi, .bool v.x.all, .int .i64 v.y.lo, .int .i64 v.y.hi, .bool v.y.all, .int .i64 v.z.lo, .int .i64 v.z.hi, .bool v.z.all] from hd 10 (by decide) (by kernel_rfl)))
   have x55 : aa.tmps[55]? = some (.agg #[.int .i64 u.x.lo, .int .i64 u.x.hi, .bool u.x.all, .int .i64 u.y.lo, .int .i64 u.y.hi, .bool u.y.all, .int .i64 u.z.lo, .int .i64 u.z.hi, .bool u.z.all]) := (hin 11 55 rfl).trans (congrArg some (show uu 11 = .agg #[.int .i64 u.x.lo, .int .i64 u.x.hi, .bool u.x.all, .int .i64 u.y.lo, .int .i64 u.y.hi, .bool u.y.all, .int .i64 u.z.lo, .int .i64 u.z.hi, .bool u.z.all] from hd 11 (by decide) (by kernel_rfl)))
   have y8 : aa.tmps[52]? = some (.bool true) := (hin 8 52 rfl).trans (congrArg some (show uu 8 = .bool true from hd 8 (by decide) (by kernel_rfl)))
   clear hd hev hin
   simp only [List.getElem_cons_succ, List.getElem_cons_zero]
   clear hl
   refine .inr ⟨?_, fun K' hK => ?_⟩
   ·
    simp [Region.wanted, yielded, y8]
   clear y8
   have HK := Lib.hid hK
   clear hK
   go_simp
   refine (HrS.out ww).mono ?_
   rintro e W' ⟨rfl, hB⟩
   exact HK.out (.agg #[.int .i64 q.x.lo, .int .i64 q.x.hi, .bool q.x.all, .int .i64 q.y.lo, .int .i64 q.y.hi, .bool q.y.all, .int .i64 q.z.lo, .int .i64 q.z.hi, .bool q.z.all]) _ (hJ.later hB) rfl (veL_later hB)
  ·
   have x53 : aa.tmps[53]? = some (.agg #[.int .i64 q.x.lo, .int .i64 q.x.hi, .bool q.x.all, .int .i64 q.y.lo, .int .i64 q.y.hi, .bool q.y.all, .int .i64 q.z.lo, .int .i64 q.z.hi, .bool q.z.all]) := (hin 9 53 rfl).trans (congrArg some (show uu 9 = .agg #[.int .i64 q.x.lo, .int .i64 q.x.hi, .bool q.x.all, .int .i64 q.y.lo, .int .i64 q.y.hi, .bool q.y.all, .int .i64 q.z.lo, .int .i64 q.z.hi, .bool q.z.all] from hd 9 (by decide) (by kernel_rfl)))
   have x56 : aa.tmps[56]? = some (.agg #[.int .i64 q.x.lo, .int .i64 q.x.hi, .bool q.x.all, .int .i64 q.y.lo, .int .i64 q.y.hi, .bool q.y.all, .int .i64 q.z.lo, .int .i64 q.z.hi, .bool q.z.all]) := (hin 12 56 rfl).trans (congrArg some (show uu 12 = .agg #[.int .i64 q.x.lo, .int .i64 q.x.hi, .bool q.x.all, .int .i64 q.y.lo, .int .i64 q.y.hi, .bool q.y.all, .int .i64 q.z.lo, .int .i64 q.z.hi, .bool q.z.all] from hd 12 (by decide) (by kernel_rfl)))
   have y8 : aa.tmps[52]? = some (.bool true) := (hin 8 52 rfl).trans (congrArg some (show uu 8 = .bool true from hd 8 (by decide) (by kernel_rfl)))
   clear hd hev hin
   simp only [List.getElem_cons_succ, List.getElem_cons_zero]
   clear hl
   refine .inr ⟨?_, fun K' hK => ?_⟩
   ·
    simp [Region.wanted, yielded, y8]
   clear y8
   have HK := Lib.hid hK
   clear hK
   go_simp
   exact HK.out (.bool true) _ hJ rfl veL_same
  ·
   have x52 : aa.tmps[52]? = some (.bool true) := (hin 8 52 rfl).trans (congrArg some (show uu 8 = .bool true from hd 8 (by decide) (by kernel_rfl)))
   have x57 : aa.tmps[57]? = some (.bool true) := (hin 13 57 rfl).trans (congrArg some (show uu 13 = .bool true from hd 13 (by decide) (by kernel_rfl)))
   clear hd hev hin
   simp only [List.getElem_cons_succ, List.getElem_cons_zero]
   clear hl
   refine .inr ⟨rfl, fun K' hK => ?_⟩
   have HK := Lib.hid hK
   clear hK
   go_simp
   exact HK.out (.bool true) _ hJ rfl veL_same
  ·
   have x58 : aa.tmps[58]? = some (.bool true) := (hin 14 58 rfl).trans (congrArg some (show uu 14 = .bool true from hd 14 (by decide) (by kernel_rfl)))
   clear hd hev hin
   simp only [List.getElem_cons_succ, List.getElem_cons_zero]
   clear hl
   refine .inr ⟨rfl, fun K' hK => ?_⟩
   have HK := Lib.hid hK
   clear hK
   go_simp
   exact HK.out (.bool true) _ hJ rfl veL_same
  ·
   have x12 : aa.tmps[12]? = some (.pointer (some ⟨b8, 0, none⟩)) := (hev 12 (by decide)).trans rfl
   have y15 : aa.tmps[59]? = some (.bool true) := (hin 15 59 rfl).trans (congrArg some (show uu 15 = .bool true from hd 15 (by decide) (by kernel_rfl)))
   clear hd hev hin
   simp only [List.getElem_cons_succ, List.getElem_cons_zero]
   clear hl
   refine .inr ⟨?_, fun K' hK => ?_⟩
   ·
    simp [Region.wanted, yielded, y15]
   clear y15
   have HK := Lib.hid hK
   clear hK
   have f0 : ww.cell? ⟨b8, 0, none⟩ = some (.int .i64 r.x.lo) := hJ.es.cell 3 rfl 0 rfl
   have f1 : ww.cell? ⟨b8, 1, none⟩ = some (.int .i64 r.x.hi) := hJ.es.cell 3 rfl 1 rfl
   have f2 : ww.cell? ⟨b8, 2, none⟩ = some (.bool r.x.all) := hJ.es.cell 3 rfl 2 rfl
   have f3 : ww.cell? ⟨b8, 3, none⟩ = some (.int .i64 r.y.lo) := hJ.es.cell 3 rfl 3 rfl
   have f4 : ww.cell? ⟨b8, 4, none⟩ = some (.int .i64 r.y.hi) := hJ.es.cell 3 rfl 4 rfl
   have f5 : ww.cell? ⟨b8, 5, none⟩ = some (.bool r.y.all) := hJ.es.cell 3 rfl 5 rfl
   have f6 : ww.cell? ⟨b8, 6, none⟩ = some (.int .i64 r.z.lo) := hJ.es.cell 3 rfl 6 rfl
   have f7 : ww.cell? ⟨b8, 7, none⟩ = some (.int .i64 r.z.hi) := hJ.es.cell 3 rfl 7 rfl
   have f8 : ww.cell? ⟨b8, 8, none⟩ = some (.bool r.z.all) := hJ.es.cell 3 rfl 8 rfl
   go_simp
   exact HK.out (.agg #[.int .i64 r.x.lo, .int .i64 r.x.hi, .bool r.x.all, .int .i64 r.y.lo, .int .i64 r.y.hi, .bool r.y.all, .int .i64 r.z.lo, .int .i64 r.z.hi, .bool r.z.all]) _ hJ rfl veL_same
  ·
   have x8 : aa.tmps[8]? = some (.pointer (some ⟨b4, 0, none⟩)) := (hev 8 (by decide)).trans rfl
   have y15 : aa.tmps[59]? = some (.bool true) := (hin 15 59 rfl).trans (congrArg some (show uu 15 = .bool true from hd 15 (by decide) (by kernel_rfl)))
   clear hd hev hin
   simp only [List.getElem_cons_succ, List.getElem_cons_zero]
   clear hl
   refine .inr ⟨?_, fun K' hK => ?_⟩
   ·
    simp [Region.wanted, yielded, y15]
   clear y15
   have HK := Lib.hid hK
   clear hK
   have f0 : ww.cell? ⟨b4, 0, none⟩ = some (.int .i64 v.x.lo) := hJ.es.cell 7 rfl 0 rfl
   have f1 : ww.cell? ⟨b4, 1, none⟩ = some (.int .i64 v.x.hi) := hJ.es.cell 7 rfl 1 rfl
   have f2 : ww.cell? ⟨b4, 2, none⟩ = some (.bool v.x.all) := hJ.es.cell 7 rfl 2 rfl
   have f3 : ww.cell? ⟨b4, 3, none⟩ = some (.int .i64 v.y.lo) := hJ.es.cell 7 rfl 3 rfl
   have f4 : ww.cell? ⟨b4, 4, none⟩ = some (.int .i64 v.y.hi) := hJ.es.cell 7 rfl 4 rfl
   have f5 : ww.cell? ⟨b4, 5, none⟩ = some (.bool v.y.all) := hJ.es.cell 7 rfl 5 rfl
   have f6 : ww.cell? ⟨b4, 6, none⟩ = some (.int .i64 v.z.lo) := hJ.es.cell 7 rfl 6 rfl
   have f7 : ww.cell? ⟨b4, 7, none⟩ = some (.int .i64 v.z.hi) := hJ.es.cell 7 rfl 7 rfl
   have f8 : ww.cell? ⟨b4, 8, none⟩ = some (.bool v.z.all) := hJ.es.cell 7 rfl 8 rfl
   go_simp
   exact HK.out (.agg #[.int .i64 v.x.lo, .int .i64 v.x.hi, .bool v.x.all, .int .i64 v.y.lo, .int .i64 v.y.hi, .bool v.y.all, .int .i64 v.z.lo, .int .i64 v.z.hi, .bool v.z.all]) _ hJ rfl veL_same
  ·
   have x5 : aa.tmps[5]? = some (.pointer (some ⟨b3, 0, none⟩)) := (hev 5 (by decide)).trans rfl
   have y15 : aa.tmps[59]? = some (.bool true) := (hin 15 59 rfl).trans (congrArg some (show uu 15 = .bool true from hd 15 (by decide) (by kernel_rfl)))
   clear hd hev hin
   simp only [List.getElem_cons_succ, List.getElem_cons_zero]
   clear hl
   refine .inr ⟨?_, fun K' hK => ?_⟩
   ·
    simp [Region.wanted, yielded, y15]
   clear y15
   have HK := Lib.hid hK
   clear hK
   have f0 : ww.cell? ⟨b3, 0, none⟩ = some (.int .i64 s.lo) := hJ.es.cell 8 rfl 0 rfl
   have f1 : ww.cell? ⟨b3, 1, none⟩ = some (.int .i64 s.hi) := hJ.es.cell 8 rfl 1 rfl
   have f2 : ww.cell? ⟨b3, 2, none⟩ = some (.bool s.all) := hJ.es.cell 8 rfl 2 rfl
   go_simp
   exact HK.out (.agg #[.int .i64 s.lo, .int .i64 s.hi, .bool s.all]) _ hJ rfl veL_same
  ·
   have x62 : aa.tmps[62]? = some (.agg #[.int .i64 s.lo, .int .i64 s.hi, .bool s.all]) := (hin 18 62 rfl).trans (congrArg some (show uu 18 = .agg #[.int .i64 s.lo, .int .i64 s.hi, .bool s.all] from hd 18 (by decide) (by kernel_rfl)))
   have y15 : aa.tmps[59]? = some (.bool true) := (hin 15 59 rfl).trans (congrArg some (show uu 15 = .bool true from hd 15 (by decide) (by kernel_rfl)))
   clear hd hev hin
   simp only [List.getElem_cons_succ, List.getElem_cons_zero]
   clear hl
   refine .inr ⟨?_, fun K' hK => ?_⟩
   ·
    simp [Region.wanted, yielded, y15]
   clear y15
   have HK := Lib.hid hK
   clear hK
   go_simp
   refine (Hos.out ww).mono ?_
   rintro e W' ⟨rfl, hB⟩
   exact HK.out (.agg #[.int .i64 s.lo, .int .i64 s.hi, .bool s.all]) _ (hJ.later hB) rfl (veL_later hB)
  ·
   have x61 : aa.tmps[61]? = some (.agg #[.int .i64 v.x.lo, .int .i64 v.x.hi, .bool v.x.all, .int .i64 v.y.lo, .int .i64 v.y.hi, .bool v.y.all, .int .i64 v.z.lo, .int .i64 v.z.hi, .bool v.z.all]) := (hin 17 61 rfl).trans (congrArg some (show uu 17 = .agg #[.int .i64 v.x.lo, .int .i64 v.x.hi, .bool v.x.all, .int .i64 v.y.lo, .int .i64 v.y.hi, .bool v.y.all, .int .i64 v.z.lo, .int .i64 v.z.hi, .bool v.z.all] from hd 17 (by decide) (by kernel_rfl)))
   have x63 : aa.tmps[63]? = some (.agg #[.int .i64 s.lo, .int .i64 s.hi, .bool s.all]) := (hin 19 63 rfl).trans (congrArg some (show uu 19 = .agg #[.int .i64 s.lo, .int .i64 s.hi, .bool s.all] from hd 19 (by decide) (by kernel_rfl)))
   have y15 : aa.tmps[59]? = some (.bool true) := (hin 15 59 rfl).trans (congrArg some (show uu 15 = .bool true from hd 15 (by decide) (by kernel_rfl)))
   clear hd hev hin
   simp only [List.getElem_cons_succ, List.getElem_cons_zero]
   clear hl
   refine .inr ⟨?_, fun K' hK => ?_⟩
   ·
    simp [Region.wanted, yielded, y15]
   clear y15
   have HK := Lib.hid hK
   clear hK
   go_simp
   refine (HrC.out ww).mono ?_
   rintro e W' ⟨rfl, hB⟩
   exact HK.out (.agg #[.int .i64 r.x.lo, .int .i64 r.x.hi, .bool r.x.all, .int .i64 r.y.lo, .int .i64 r.y.hi, .bool r.y.all, .int .i64 r.z.lo, .int .i64 r.z.hi, .bool r.z.all]) _ (hJ.later hB) rfl (veL_later hB)
  ·
   have x60 : aa.tmps[60]? = some (.agg #[.int .i64 r.x.lo, .int .i64 r.x.hi, .bool r.x.all, .int .i64 r.y.lo, .int .i64 r.y.hi, .bool r.y.all, .int .i64 r.z.lo, .int .i64 r.z.hi, .bool r.z.all]) := (hin 16 60 rfl).trans (congrArg some (show uu 16 = .agg #[.int .i64 r.x.lo, .int .i64 r.x.hi, .bool r.x.all, .int .i64 r.y.lo, .int .i64 r.y.hi, .bool r.y.all, .int .i64 r.z.lo, .int .i64 r.z.hi, .bool r.z.all] from hd 16 (by decide) (by kernel_rfl)))
   have x64 : aa.tmps[64]? = some (.agg #[.int .i64 r.x.lo, .int .i64 r.x.hi, .bool r.x.all, .int .i64 r.y.lo, .int .i64 r.y.hi, .bool r.y.all, .int .i64 r.z.lo, .int .i64 r.z.hi, .bool r.z.all]) := (hin 20 64 rfl).trans (congrArg some (show uu 20 = .agg #[.int .i64 r.x.lo, .int .i64 r.x.hi, .bool r.x.all, .int .i64 r.y.lo, .int .i64 r.y.hi, .bool r.y.all, .int .i64 r.z.lo, .int .i64 r.z.hi, .bool r.z.all] from hd 20 (by decide) (by kernel_rfl)))
   have y15 : aa.tmps[59]? = some (.bool true) := (hin 15 59 rfl).trans (congrArg some (show uu 15 = .bool true from hd 15 (by decide) (by kernel_rfl)))
   clear hd hev hin
   simp only [List.getElem_cons_succ, List.getElem_cons_zero]
   clear hl
   refine .inr ⟨?_, fun K' hK => ?_⟩
   ·
    simp [Region.wanted, yielded, y15]
   clear y15
   have HK := Lib.hid hK
   clear hK
   go_simp
   exact HK.out (.bool true) _ hJ rfl veL_same
  ·
   have x59 : aa.tmps[59]? = some (.bool true) := (hin 15 59 rfl).trans (congrArg some (show uu 15 = .bool true from hd 15 (by decide) (by kernel_rfl)))
   have x65 : aa.tmps[65]? = some (.bool true) := (hin 21 65 rfl).trans (congrArg some (show uu 21 = .bool true from hd 21 (by decide) (by kernel_rfl)))
   clear hd hev hin
   simp only [List.getElem_cons_succ, List.getElem_cons_zero]
   clear hl
   refine .inr ⟨rfl, fun K' hK => ?_⟩
   have HK := Lib.hid hK
   clear hK
   go_simp
   exact HK.out (.bool true) _ hJ rfl veL_same
  ·
   have x66 : aa.tmps[66]? = some (.bool true) := (hin 22 66 rfl).trans (congrArg some (show uu 22 = .bool true from hd 22 (by decide) (by kernel_rfl)))
   clear hd hev hin
   simp only [List.getElem_cons_succ, List.getElem_cons_zero]
   clear hl
   refine .inr ⟨rfl, fun K' hK => ?_⟩
   have HK := Lib.hid hK
   clear hK
   go_simp
   exact HK.out (.bool true) _ hJ rfl veL_same
  ·
   have x13 : aa.tmps[13]? = some (.pointer (some ⟨b9, 0, none⟩)) := (hev 13 (by decide)).trans rfl
   have y23 : aa.tmps[67]? = some (.bool true) := (hin 23 67 rfl).trans (congrArg some (show uu 23 = .bool true from hd 23 (by decide) (by kernel_rfl)))
   clear hd hev hin
   simp only [List.getElem_cons_succ, List.getElem_cons_zero]
   clear hl
   refine .inr ⟨?_, fun K' hK => ?_⟩
   ·
    simp [Region.wanted, yielded, y23]
   clear y23
   have HK := Lib.hid hK
   clear hK
   have f0 : ww.cell? ⟨b9, 0, none⟩ = some (.int .i64 d.lo) := hJ.es.cell 2 rfl 0 rfl
   have f1 : ww.cell? ⟨b9, 1, none⟩ = some (.int .i64 d.hi) := hJ.es.cell 2 rfl 1 rfl
   have f2 : ww.cell? ⟨b9, 2, none⟩ = some (.bool d.all) := hJ.es.cell 2 rfl 2 rfl
   go_simp
   exact HK.out (.agg #[.int .i64 d.lo, .int .i64 d.hi, .bool d.all]) _ hJ rfl veL_same
  ·
   have x8 : aa.tmps[8]? = some (.pointer (some ⟨b4, 0, none⟩)) := (hev 8 (by decide)).trans rfl
   have y23 : aa.tmps[67]? = some (.bool true) := (hin 23 67 rfl).trans (congrArg some (show uu 23 = .bool true from hd 23 (by decide) (by kernel_rfl)))
   clear hd hev hin
   simp only [List.getElem_cons_succ, List.getElem_cons_zero]
   clear hl
   refine .inr ⟨?_, fun K' hK => ?_⟩
   ·
    simp [Region.wanted, yielded, y23]
   clear y23
   have HK := Lib.hid hK
   clear hK
   have f0 : ww.cell? ⟨b4, 0, none⟩ = some (.int .i64 v.x.lo) := hJ.es.cell 7 rfl 0 rfl
   have f1 : ww.cell? ⟨b4, 1, none⟩ = some (.int .i64 v.x.hi) := hJ.es.cell 7 rfl 1 rfl
   have f2 : ww.cell? ⟨b4, 2, none⟩ = some (.bool v.x.all) := hJ.es.cell 7 rfl 2 rfl
   have f3 : ww.cell? ⟨b4, 3, none⟩ = some (.int .i64 v.y.lo) := hJ.es.cell 7 rfl 3 rfl
   have f4 : ww.cell? ⟨b4, 4, none⟩ = some (.int .i64 v.y.hi) := hJ.es.cell 7 rfl 4 rfl
   have f5 : ww.cell? ⟨b4, 5, none⟩ = some (.bool v.y.all) := hJ.es.cell 7 rfl 5 rfl
   have f6 : ww.cell? ⟨b4, 6, none⟩ = some (.int .i64 v.z.lo) := hJ.es.cell 7 rfl 6 rfl
   have f7 : ww.cell? ⟨b4, 7, none⟩ = some (.int .i64 v.z.hi) := hJ.es.cell 7 rfl 7 rfl
   have f8 : ww.cell? ⟨b4, 8, none⟩ = some (.bool v.z.all) := hJ.es.cell 7 rfl 8 rfl
   go_simp
   exact HK.out (.agg #[.int .i64 v.x.lo, .int .i64 v.x.hi, .bool v.x.all, .int .i64 v.y.lo, .int .i64 v.y.hi, .bool v.y.all, .int .i64 v.z.lo, .int .i64 v.z.hi, .bool v.z.all]) _ hJ rfl veL_same
  ·
   have x9 : aa.tmps[9]? = some (.pointer (some ⟨b5, 0, none⟩)) := (hev 9 (by decide)).trans rfl
   have y23 : aa.tmps[67]? = some (.bool true) := (hin 23 67 rfl).trans (congrArg some (show uu 23 = .bool true from hd 23 (by decide) (by kernel_rfl)))
   clear hd hev hin
   simp only [List.getElem_cons_succ, List.getElem_cons_zero]
   clear hl
   refine .inr ⟨?_, fun K' hK => ?_⟩
   ·
    simp [Region.wanted, yielded, y23]
   clear y23
   have HK := Lib.hid hK
   clear hK
   have f0 : ww.cell? ⟨b5, 0, none⟩ = some (.int .i64 u.x.lo) := hJ.es.cell 6 rfl 0 rfl
   have f1 : ww.cell? ⟨b5, 1, none⟩ = some (.int .i64 u.x.hi) := hJ.es.cell 6 rfl 1 rfl
   have f2 : ww.cell? ⟨b5, 2, none⟩ = some (.bool u.x.all) := hJ.es.cell 6 rfl 2 rfl
   have f3 : ww.cell? ⟨b5, 3, none⟩ = some (.int .i64 u.y.lo) := hJ.es.cell 6 rfl 3 rfl
   have f4 : ww.cell? ⟨b5, 4, none⟩ = some (.int .i64 u.y.hi) := hJ.es.cell 6 rfl 4 rfl
   have f5 : ww.cell? ⟨b5, 5, none⟩ = some (.bool u.y.all) := hJ.es.cell 6 rfl 5 rfl
   have f6 : ww.cell? ⟨b5, 6, none⟩ = some (.int .i64 u.z.lo) := hJ.es.cell 6 rfl 6 rfl
   have f7 : ww.cell? ⟨b5, 7, none⟩ = some (.int .i64 u.z.hi) := hJ.es.cell 6 rfl 7 rfl
   have f8 : ww.cell? ⟨b5, 8, none⟩ = some (.bool u.z.all) := hJ.es.cell 6 rfl 8 rfl
   go_simp
   exact HK.out (.agg #[.int .i64 u.x.lo, .int .i64 u.x.hi, .bool u.x.all, .int .i64 u.y.lo, .int .i64 u.y.hi, .bool u.y.all, .int .i64 u.z.lo, .int .i64 u.z.hi, .bool u.z.all]) _ hJ rfl veL_same
  ·
   have x69 : aa.tmps[69]? = some (.agg #[.int .i64 v.x.lo, .int .i64 v.x.hi, .bool v.x.all, .int .i64 v.y.lo, .int .i64 v.y.hi, .bool v.y.all, .int .i64 v.z.lo, .int .i64 v.z.hi, .bool v.z.all]) := (hin 25 69 rfl).trans (congrArg some (show uu 25 = .agg #[.int .i64 v.x.lo, .int .i64 v.x.hi, .bool v.x.all, .int .i64 v.y.lo, .int .i64 v.y.hi, .bool v.y.all, .int .i64 v.z.lo, .int .i64 v.z.hi, .bool v.z.all] from hd 25 (by decide) (by kernel_rfl)))
   have x70 : aa.tmps[70]? = some (.agg #[.int .i64 u.x.lo, .int .i64 u.x.hi, .bool u.x.all, .int .i64 u.y.lo, .int .i64 u.y.hi, .bool u.y.all, .int .i64 u.z.lo, .int .i64 u.z.hi, .bool u.z.all]) := (hin 26 70 rfl).trans (congrArg some (show uu 26 = .agg #[.int .i64 u.x.lo, .int .i64 u.x.hi, .bool u.x.all, .int .i64 u.y.lo, .int .i64 u.y.hi, .bool u.y.all, .int .i64 u.z.lo, .int .i64 u.z.hi, .bool u.z.all] from hd 26 (by decide) (by kernel_rfl)))
   have y23 : aa.tmps[67]? = some (.bool true) := (hin 23 67 rfl).trans (congrArg some (show uu 23 = .bool true from hd 23 (by decide) (by kernel_rfl)))
   clear hd hev hin
   simp only [List.getElem_cons_succ, List.getElem_cons_zero]
   clear hl
   refine .inr ⟨?_, fun K' hK => ?_⟩
   ·
    simp [Region.wanted, yielded, y23]
   clear y23
   have HK := Lib.hid hK
   clear hK
   go_simp
   refine (HrD.out ww).mono ?_
   rintro e W' ⟨rfl, hB⟩
   exact HK.out (.agg #[.int .i64 d.lo, .int .i64 d.hi, .bool d.all]) _ (hJ.later hB) rfl (veL_later hB)
  ·
   have x68 : aa.tmps[68]? = some (.agg #[.int .i64 d.lo, .int .i64 d.hi, .bool d.all]) := (hin 24 68 rfl).trans (congrArg some (show uu 24 = .agg #[.int .i64 d.lo, .int .i64 d.hi, .bool d.all] from hd 24 (by decide) (by kernel_rfl)))
   have x71 : aa.tmps[71]? = some (.agg #[.int .i64 d.lo, .int .i64 d.hi, .bool d.all]) := (hin 27 71 rfl).trans (congrArg some (show uu 27 = .agg #[.int .i64 d.lo, .int .i64 d.hi, .bool d.all] from hd 27 (by decide) (by kernel_rfl)))
   have y23 : aa.tmps[67]? = some (.bool true) := (hin 23 67 rfl).trans (congrArg some (show uu 23 = .bool true from hd 23 (by decide) (by kernel_rfl)))
   clear hd hev hin
   simp only [List.getElem_cons_succ, List.getElem_cons_zero]
   clear hl
   refine .inr ⟨?_, fun K' hK => ?_⟩
   ·
    simp [Region.wanted, yielded, y23]
   clear y23
   have HK := Lib.hid hK
   clear hK
   go_simp
   exact HK.out (.bool true) _ hJ rfl veL_same
  ·
   have x67 : aa.tmps[67]? = some (.bool true) := (hin 23 67 rfl).trans (congrArg some (show uu 23 = .bool true from hd 23 (by decide) (by kernel_rfl)))
   have x72 : aa.tmps[72]? = some (.bool true) := (hin 28 72 rfl).trans (congrArg some (show uu 28 = .bool true from hd 28 (by decide) (by kernel_rfl)))
   clear hd hev hin
   simp only [List.getElem_cons_succ, List.getElem_cons_zero]
   clear hl
   refine .inr ⟨rfl, fun K' hK => ?_⟩
   have HK := Lib.hid hK
   clear hK
   go_simp
   exact HK.out (.bool true) _ hJ rfl veL_same
  ·
   have x73 : aa.tmps[73]? = some (.bool true) := (hin 29 73 rfl).trans (congrArg some (show uu 29 = .bool true from hd 29 (by decide) (by kernel_rfl)))
   clear hd hev hin
   simp only [List.getElem_cons_succ, List.getElem_cons_zero]
   clear hl
   refine .inr ⟨rfl, fun K' hK => ?_⟩
   have HK := Lib.hid hK
   clear hK
   go_simp
   exact HK.out (.bool true) _ hJ rfl veL_same
  ·
   have x14 : aa.tmps[14]? = some (.pointer (some ⟨b10, 0, none⟩)) := (hev 14 (by decide)).trans rfl
   have y30 : aa.tmps[74]? = some (.bool true) := (hin 30 74 rfl).trans (congrArg some (show uu 30 = .bool true from hd 30 (by decide) (by kernel_rfl)))
   clear hd hev hin
   simp only [List.getElem_cons_succ, List.getElem_cons_zero]
   clear hl
   refine .inr ⟨?_, fun K' hK => ?_⟩
   ·
    simp [Region.wanted, yielded, y30]
   clear y30
   have HK := Lib.hid hK
   clear hK
   have f0 : ww.cell? ⟨b10, 0, none⟩ = some (.int .i64 c.x.lo) := hJ.es.cell 1 rfl 0 rfl
   have f1 : ww.cell? ⟨b10, 1, none⟩ = some (.int .i64 c.x.hi) := hJ.es.cell 1 rfl 1 rfl
   have f2 : ww.cell? ⟨b10, 2, none⟩ = some (.bool c.x.all) := hJ.es.cell 1 rfl 2 rfl
   have f3 : ww.cell? ⟨b10, 3, none⟩ = some (.int .i64 c.y.lo) := hJ.es.cell 1 rfl 3 rfl
   have f4 : ww.cell? ⟨b10, 4, none⟩ = some (.int .i64 c.y.hi) := hJ.es.cell 1 rfl 4 rfl
   have f5 : ww.cell? ⟨b10, 5, none⟩ = some (.bool c.y.all) := hJ.es.cell 1 rfl 5 rfl
   have f6 : ww.cell? ⟨b10, 6, none⟩ = some (.int .i64 c.z.lo) := hJ.es.cell 1 rfl 6 rfl
   have f7 : ww.cell? ⟨b10, 7, none⟩ = some (.int .i64 c.z.hi) := hJ.es.cell 1 rfl 7 rfl
   have f8 : ww.cell? ⟨b10, 8, none⟩ = some (.bool c.z.all) := hJ.es.cell 1 rfl 8 rfl
   go_simp
   exact HK.out (.agg #[.int .i64 c.x.lo, .int .i64 c.x.hi, .bool c.x.all, .int .i64 c.y.lo, .int .i64 c.y.hi, .bool c.y.all, .int .i64 c.z.lo, .int .i64 c.z.hi, .bool c.z.all]) _ hJ rfl veL_same
  ·
   have x8 : aa.tmps[8]? = some (.pointer (some ⟨b4, 0, none⟩)) := (hev 8 (by decide)).trans rfl
   have y30 : aa.tmps[74]? = some (.bool true) := (hin 30 74 rfl).trans (congrArg some (show uu 30 = .bool true from hd 30 (by decide) (by kernel_rfl)))
   clear hd hev hin
   simp only [List.getElem_cons_succ, List.getElem_cons_zero]
   clear hl
   refine .inr ⟨?_, fun K' hK => ?_⟩
   ·
    simp [Region.wanted, yielded, y30]
   clear y30
   have HK := Lib.hid hK
   clear hK
   have f0 : ww.cell? ⟨b4, 0, none⟩ = some (.int .i64 v.x.lo) := hJ.es.cell 7 rfl 0 rfl
   have f1 : ww.cell? ⟨b4, 1, none⟩ = some (.int .i64 v.x.hi) := hJ.es.cell 7 rfl 1 rfl
   have f2 : ww.cell? ⟨b4, 2, none⟩ = some (.bool v.x.all) := hJ.es.cell 7 rfl 2 rfl
   have f3 : ww.cell? ⟨b4, 3, none⟩ = some (.int .i64 v.y.lo) := hJ.es.cell 7 rfl 3 rfl
   have f4 : ww.cell? ⟨b4, 4, none⟩ = some (.int .i64 v.y.hi) := hJ.es.cell 7 rfl 4 rfl
   have f5 : ww.cell? ⟨b4, 5, none⟩ = some (.bool v.y.all) := hJ.es.cell 7 rfl 5 rfl
   have f6 : ww.cell? ⟨b4, 6, none⟩ = some (.int .i64 v.z.lo) := hJ.es.cell 7 rfl 6 rfl
   have f7 : ww.cell? ⟨b4, 7, none⟩ = some (.int .i64 v.z.hi) := hJ.es.cell 7 rfl 7 rfl
   have f8 : ww.cell? ⟨b4, 8, none⟩ = some (.bool v.z.all) := hJ.es.cell 7 rfl 8 rfl
   go_simp
   exact HK.out (.agg #[.int .i64 v.x.lo, .int .i64 v.x.hi, .bool v.x.all, .int .i64 v.y.lo, .int .i64 v.y.hi, .bool v.y.all, .int .i64 v.z.lo, .int .i64 v.z.hi, .bool v.z.all]) _ hJ rfl veL_same
  ·
   have x9 : aa.tmps[9]? = some (.pointer (some ⟨b5, 0, none⟩)) := (hev 9 (by decide)).trans rfl
   have y30 : aa.tmps[74]? = some (.bool true) := (hin 30 74 rfl).trans (congrArg some (show uu 30 = .bool true from hd 30 (by decide) (by kernel_rfl)))
   clear hd hev hin
   simp only [List.getElem_cons_succ, List.getElem_cons_zero]
   clear hl
   refine .inr ⟨?_, fun K' hK => ?_⟩
   ·
    simp [Region.wanted, yielded, y30]
   clear y30
   have HK := Lib.hid hK
   clear hK
   have f0 : ww.cell? ⟨b5, 0, none⟩ = some (.int .i64 u.x.lo) := hJ.es.cell 6 rfl 0 rfl
   have f1 : ww.cell? ⟨b5, 1, none⟩ = some (.int .i64 u.x.hi) := hJ.es.cell 6 rfl 1 rfl
   have f2 : ww.cell? ⟨b5, 2, none⟩ = some (.bool u.x.all) := hJ.es.cell 6 rfl 2 rfl
   have f3 : ww.cell? ⟨b5, 3, none⟩ = some (.int .i64 u.y.lo) := hJ.es.cell 6 rfl 3 rfl
   have f4 : ww.cell? ⟨b5, 4, none⟩ = some (.int .i64 u.y.hi) := hJ.es.cell 6 rfl 4 rfl
   have f5 : ww.cell? ⟨b5, 5, none⟩ = some (.bool u.y.all) := hJ.es.cell 6 rfl 5 rfl
   have f6 : ww.cell? ⟨b5, 6, none⟩ = some (.int .i64 u.z.lo) := hJ.es.cell 6 rfl 6 rfl
   have f7 : ww.cell? ⟨b5, 7, none⟩ = some (.int .i64 u.z.hi) := hJ.es.cell 6 rfl 7 rfl
   have f8 : ww.cell? ⟨b5, 8, none⟩ = some (.bool u.z.all) := hJ.es.cell 6 rfl 8 rfl
   go_simp
   exact HK.out (.agg #[.int .i64 u.x.lo, .int .i64 u.x.hi, .bool u.x.all, .int .i64 u.y.lo, .int .i64 u.y.hi, .bool u.y.all, .int .i64 u.z.lo, .int .i64 u.z.hi, .bool u.z.all]) _ hJ rfl veL_same
  ·
   have x76 : aa.tmps[76]? = some (.agg #[.int .i64 v.x.lo, .int .i64 v.x.hi, .bool v.x.all, .int .i64 v.y.lo, .int .i64 v.y.hi, .bool v.y.all, .int .i64 v.z.lo, .int .i64 v.z.hi, .bool v.z.all]) := (hin 32 76 rfl).trans (congrArg some (show uu 32 = .agg #[.int .i64 v.x.lo, .int .i64 v.x.hi, .bool v.x.all, .int .i64 v.y.lo, .int .i64 v.y.hi, .bool v.y.all, .int .i64 v.z.lo, .int .i64 v.z.hi, .bool v.z.all] from hd 32 (by decide) (by kernel_rfl)))
   have x77 : aa.tmps[77]? = some (.agg #[.int .i64 u.x.lo, .int .i64 u.x.hi, .bool u.x.all, .int .i64 u.y.lo, .int .i64 u.y.hi, .bool u.y.all, .int .i64 u.z.lo, .int .i64 u.z.hi, .bool u.z.all]) := (hin 33 77 rfl).trans (congrArg some (show uu 33 = .agg #[.int .i64 u.x.lo, .int .i64 u.x.hi, .bool u.x.all, .int .i64 u.y.lo, .int .i64 u.y.hi, .bool u.y.all, .int .i64 u.z.lo, .int .i64 u.z.hi, .bool u.z.all] from hd 33 (by decide) (by kernel_rfl)))
   have y30 : aa.tmps[74]? = some (.bool true) := (hin 30 74 rfl).trans (congrArg some (show uu 30 = .bool true from hd 30 (by decide) (by kernel_rfl)))
   clear hd hev hin
   simp only [List.getElem_cons_succ, List.getElem_cons_zero]
   clear hl
   refine .inr ⟨?_, fun K' hK => ?_⟩
   ·
    simp [Region.wanted, yielded, y30]
   clear y30
   have HK := Lib.hid hK
   clear hK
   go_simp
   refine (HrX.out ww).mono ?_
   rintro e W' ⟨rfl, hB⟩
   exact HK.out (.agg #[.int .i64 c.x.lo, .int .i64 c.x.hi, .bool c.x.all, .int .i64 c.y.lo, .int .i64 c.y.hi, .bool c.y.all, .int .i64 c.z.lo, .int .i64 c.z.hi, .bool c.z.all]) _ (hJ.later hB) rfl (veL_later hB)
  ·
   have x75 : aa.tmps[75]? = some (.agg #[.int .i64 c.x.lo, .int .i64 c.x.hi, .bool c.x.all, .int .i64 c.y.lo, .int .i64 c.y.hi, .bool c.y.all, .int .i64 c.z.lo, .int .i64 c.z.hi, .bool c.z.all]) := (hin 31 75 rfl).trans (congrArg some (show uu 31 = .agg #[.int .i64 c.x.lo, .int .i64 c.x.hi, .bool c.x.all, .int .i64 c.y.lo, .int .i64 c.y.hi, .bool c.y.all, .int .i64 c.z.lo, .int .i64 c.z.hi, .bool c.z.all] from hd 31 (by decide) (by kernel_rfl)))
   have x78 : aa.tmps[78]? = some (.agg #[.int .i64 c.x.lo, .int .i64 c.x.hi, .bool c.x.all, .int .i64 c.y.lo, .int .i64 c.y.hi, .bool c.y.all, .int .i64 c.z.lo, .int .i64 c.z.hi, .bool c.z.all]) := (hin 34 78 rfl).trans (congrArg some (show uu 34 = .agg #[.int .i64 c.x.lo, .int .i64 c.x.hi, .bool c.x.all, .int .i64 c.y.lo, .int .i64 c.y.hi, .bool c.y.all, .int .i64 c.z.lo, .int .i64 c.z.hi, .bool c.z.all] from hd 34 (by decide) (by kernel_rfl)))
   have y30 : aa.tmps[74]? = some (.bool true) := (hin 30 74 rfl).trans (congrArg some (show uu 30 = .bool true from hd 30 (by decide) (by kernel_rfl)))
   clear hd hev hin
   simp only [List.getElem_cons_succ, List.getElem_cons_zero]
   clear hl
   refine .inr ⟨?_, fun K' hK => ?_⟩
   ·
    simp [Region.wanted, yielded, y30]
   clear y30
   have HK := Lib.hid hK
   clear hK
   go_simp
   exact HK.out (.bool true) _ hJ rfl veL_same
  ·
   have x74 : aa.tmps[74]? = some (.bool true) := (hin 30 74 rfl).trans (congrArg some (show uu 30 = .bool true from hd 30 (by decide) (by kernel_rfl)))
   have x79 : aa.tmps[79]? = some (.bool true) := (hin 35 79 rfl).trans (congrArg some (show uu 35 = .bool true from hd 35 (by decide) (by kernel_rfl)))
   clear hd hev hin
   simp only [List.getElem_cons_succ, List.getElem_cons_zero]
   clear hl
   refine .inr ⟨rfl, fun K' hK => ?_⟩
   have HK := Lib.hid hK
   clear hK
   go_simp
   exact HK.out (.bool true) _ hJ rfl veL_same
  ·
   have x80 : aa.tmps[80]? = some (.bool true) := (hin 36 80 rfl).trans (congrArg some (show uu 36 = .bool true from hd 36 (by decide) (by kernel_rfl)))
   clear hd hev hin
   simp only [List.getElem_cons_succ, List.getElem_cons_zero]
   clear hl
   refine .inr ⟨rfl, fun K' hK => ?_⟩
   have HK := Lib.hid hK
   clear hK
   go_simp
   exact HK.out (.bool true) _ hJ rfl veL_same
  ·
   have x15 : aa.tmps[15]? = some (.pointer (some ⟨b11, 0, none⟩)) := (hev 15 (by decide)).trans rfl
   have y37 : aa.tmps[81]? = some (.bool true) := (hin 37 81 rfl).trans (congrArg some (show uu 37 = .bool true from hd 37 (by decide) (by kernel_rfl)))
   clear hd hev hin
   simp only [List.getElem_cons_succ, List.getElem_cons_zero]
   clear hl
   refine .inr ⟨?_, fun K' hK => ?_⟩
   ·
    simp [Region.wanted, yielded, y37]
   clear y37
   have HK := Lib.hid hK
   clear hK
   have f0 : ww.cell? ⟨b11, 0, none⟩ = some (.int .i64 n.lo) := hJ.es.cell 0 rfl 0 rfl
   have f1 : ww.cell? ⟨b11, 1, none⟩ = some (.int .i64 n.hi) := hJ.es.cell 0 rfl 1 rfl
   have f2 : ww.cell? ⟨b11, 2, none⟩ = some (.bool n.all) := hJ.es.cell 0 rfl 2 rfl
   go_simp
   exact HK.out (.agg #[.int .i64 n.lo, .int .i64 n.hi, .bool n.all]) _ hJ rfl veL_same
  ·
   have x8 : aa.tmps[8]? = some (.pointer (some ⟨b4, 0, none⟩)) := (hev 8 (by decide)).trans rfl
   have y37 : aa.tmps[81]? = some (.bool true) := (hin 37 81 rfl).trans (congrArg some (show uu 37 = .bool true from hd 37 (by decide) (by kernel_rfl)))
   clear hd hev hin
   simp only [List.getElem_cons_succ, List.getElem_cons_zero]
   clear hl
   refine .inr ⟨?_, fun K' hK => ?_⟩
   ·
    simp [Region.wanted, yielded, y37]
   clear y37
   have HK := Lib.hid hK
   clear hK
   have f0 : ww.cell? ⟨b4, 0, none⟩ = some (.int .i64 v.x.lo) := hJ.es.cell 7 rfl 0 rfl
   have f1 : ww.cell? ⟨b4, 1, none⟩ = some (.int .i64 v.x.hi) := hJ.es.cell 7 rfl 1 rfl
   have f2 : ww.cell? ⟨b4, 2, none⟩ = some (.bool v.x.all) := hJ.es.cell 7 rfl 2 rfl
   have f3 : ww.cell? ⟨b4, 3, none⟩ = some (.int .i64 v.y.lo) := hJ.es.cell 7 rfl 3 rfl
   have f4 : ww.cell? ⟨b4, 4, none⟩ = some (.int .i64 v.y.hi) := hJ.es.cell 7 rfl 4 rfl
   have f5 : ww.cell? ⟨b4, 5, none⟩ = some (.bool v.y.all) := hJ.es.cell 7 rfl 5 rfl
   have f6 : ww.cell? ⟨b4, 6, none⟩ = some (.int .i64 v.z.lo) := hJ.es.cell 7 rfl 6 rfl
   have f7 : ww.cell? ⟨b4, 7, none⟩ = some (.int .i64 v.z.hi) := hJ.es.cell 7 rfl 7 rfl
   have f8 : ww.cell? ⟨b4, 8, none⟩ = some (.bool v.z.all) := hJ.es.cell 7 rfl 8 rfl
   go_simp
   exact HK.out (.agg #[.int .i64 v.x.lo, .int .i64 v.x.hi, .bool v.x.all, .int .i64 v.y.lo, .int .i64 v.y.hi, .bool v.y.all, .int .i64 v.z.lo, .int .i64 v.z.hi, .bool v.z.all]) _ hJ rfl veL_same
  ·
   have x83 : aa.tmps[83]? = some (.agg #[.int .i64 v.x.lo, .int .i64 v.x.hi, .bool v.x.all, .int .i64 v.y.lo, .int .i64 v.y.hi, .bool v.y.all, .int .i64 v.z.lo, .int .i64 v.z.hi, .bool v.z.all]) := (hin 39 83 rfl).trans (congrArg some (show uu 39 = .agg #[.int .i64 v.x.lo, .int .i64 v.x.hi, .bool v.x.all, .int .i64 v.y.lo, .int .i64 v.y.hi, .bool v.y.all, .int .i64 v.z.lo, .int .i64 v.z.hi, .bool v.z.all] from hd 39 (by decide) (by kernel_rfl)))
   have y37 : aa.tmps[81]? = some (.bool true) := (hin 37 81 rfl).trans (congrArg some (show uu 37 = .bool true from hd 37 (by decide) (by kernel_rfl)))
   clear hd hev hin
   simp only [List.getElem_cons_succ, List.getElem_cons_zero]
   clear hl
   refine .inr ⟨?_, fun K' hK => ?_⟩
   ·
    simp [Region.wanted, yielded, y37]
   clear y37
   have HK := Lib.hid hK
   clear hK
   go_simp
   refine (HrN.out ww).mono ?_
   rintro e W' ⟨rfl, hB⟩
   exact HK.out (.agg #[.int .i64 n.lo, .int .i64 n.hi, .bool n.all]) _ (hJ.later hB) rfl (veL_later hB)
  ·
   have x82 : aa.tmps[82]? = some (.agg #[.int .i64 n.lo, .int .i64 n.hi, .bool n.all]) := (hin 38 82 rfl).trans (congrArg some (show uu 38 = .agg #[.int .i64 n.lo, .int .i64 n.hi, .bool n.all] from hd 38 (by decide) (by kernel_rfl)))
   have x84 : aa.tmps[84]? = some (.agg #[.int .i64 n.lo, .int .i64 n.hi, .bool n.all]) := (hin 40 84 rfl).trans (congrArg some (show uu 40 = .agg #[.int .i64 n.lo, .int .i64 n.hi, .bool n.all] from hd 40 (by decide) (by kernel_rfl)))
   have y37 : aa.tmps[81]? = some (.bool true) := (hin 37 81 rfl).trans (congrArg some (show uu 37 = .bool true from hd 37 (by decide) (by kernel_rfl)))
   clear hd hev hin
   simp only [List.getElem_cons_succ, List.getElem_cons_zero]
   clear hl
   refine .inr ⟨?_, fun K' hK => ?_⟩
   ·
    simp [Region.wanted, yielded, y37]
   clear y37
   have HK := Lib.hid hK
   clear hK
   go_simp
   exact HK.out (.bool true) _ hJ rfl veL_same
  ·
   have x81 : aa.tmps[81]? = some (.bool true) := (hin 37 81 rfl).trans (congrArg some (show uu 37 = .bool true from hd 37 (by decide) (by kernel_rfl)))
   have x85 : aa.tmps[85]? = some (.bool true) := (hin 41 85 rfl).trans (congrArg some (show uu 41 = .bool true from hd 41 (by decide) (by kernel_rfl)))
   clear hd hev hin
   simp only [List.getElem_cons_succ, List.getElem_cons_zero]
   clear hl
   refine .inr ⟨rfl, fun K' hK => ?_⟩
   have HK := Lib.hid hK
   clear hK
   go_simp
   exact HK.out (.bool true) _ hJ rfl veL_same
  ·
   have x86 : aa.tmps[86]? = some (.bool true) := (hin 42 86 rfl).trans (congrArg some (show uu 42 = .bool true from hd 42 (by decide) (by kernel_rfl)))
   clear hd hev hin
   simp only [List.getElem_cons_succ, List.getElem_cons_zero]
   clear hl
   refine .inr ⟨rfl, fun K' hK => ?_⟩
   have HK := Lib.hid hK
   clear hK
   go_simp
   exact HK.out (.bool true) _ hJ rfl veL_same
 clear hM
 intro uu W35 hJm hd
 have e_0 : uu 0 = .bool true := hd 0 (by decide)
 have e_1 : uu 1 = .bool true := hd 1 (by decide)
 have e_2 : uu 2 = .agg #[.int .i64 p.x.lo, .int .i64 p.x.hi, .bool p.x.all, .int .i64 p.y.lo, .int .i64 p.y.hi, .bool p.y.all, .int .i64 p.z.lo, .int .i64 p.z.hi, .bool p.z.all] := hd 2 (by decide)
 have e_3 : uu 3 = .agg #[.int .i64 v.x.lo, .int .i64 v.x.hi, .bool v.x.all, .int .i64 v.y.lo, .int .i64 v.y.hi, .bool v.y.all, .int .i64 v.z.lo, .int .i64 v.z.hi, .bool v.z.all] := hd 3 (by decide)
 have e_4 : uu 4 = .agg #[.int .i64 u.x.lo, .int .i64 u.x.hi, .bool u.x.all, .int .i64 u.y.lo, .int .i64 u.y.hi, .bool u.y.all, .int .i64 u.z.lo, .int .i64 u.z.hi, .bool u.z.all] := hd 4 (by decide)
 have e_5 : uu 5 = .agg #[.int .i64 p.x.lo, .int .i64 p.x.hi, .bool p.x.all, .int .i64 p.y.lo, .int .i64 p.y.hi, .bool p.y.all, .int .i64 p.z.lo, .int .i64 p.z.hi, .bool p.z.all] := hd 5 (by decide)
 have e_6 : uu 6 = .bool true := hd 6 (by decide)
 have e_7 : uu 7 = .bool true := hd 7 (by decide)
 have e_8 : uu 8 = .bool true := hd 8 (by decide)
 have e_9 : uu 9 = .agg #[.int .i64 q.x.lo, .int .i64 q.x.hi, .bool q.x.all, .int .i64 q.y.lo, .int .i64 q.y.hi, .bool q.y.all, .int .i64 q.z.lo, .int .i64 q.z.hi, .bool q.z.all] := hd 9 (by decide)
 have e_10 : uu 10 = .agg #[.int .i64 v.x.lo, .int .i64 v.x.hi, .bool v.x.all, .int .i64 v.y.lo, .int .i64 v.y.hi, .bool v.y.all, .int .i64 v.z.lo, .int .i64 v.z.hi, .bool v.z.all] := hd 10 (by decide)
 have e_11 : uu 11 = .agg #[.int .i64 u.x.lo, .int .i64 u.x.hi, .bool u.x.all, .int .i64 u.y.lo, .int .i64 u.y.hi, .bool u.y.all, .int .i64 u.z.lo, .int .i64 u.z.hi, .bool u.z.all] := hd 11 (by decide)
 have e_12 : uu 12 = .agg #[.int .i64 q.x.lo, .int .i64 q.x.hi, .bool q.x.all, .int .i64 q.y.lo, .int .i64 q.y.hi, .bool q.y.all, .int .i64 q.z.lo, .int .i64 q.z.hi, .bool q.z.all] := hd 12 (by decide)
 have e_13 : uu 13 = .bool true := hd 13 (by decide)
 have e_14 : uu 14 = .bool true := hd 14 (by decide)
 have e_15 : uu 15 = .bool true := hd 15 (by decide)
 have e_16 : uu 16 = .agg #[.int .i64 r.x.lo, .int .i64 r.x.hi, .bool r.x.all, .int .i64 r.y.lo, .int .i64 r.y.hi, .bool r.y.all, .int .i64 r.z.lo, .int .i64 r.z.hi, .bool r.z.all] := hd 16 (by decide)
 have e_17 : uu 17 = .agg #[.int .i64 v.x.lo, .int .i64 v.x.hi, .bool v.x.all, .int .i64 v.y.lo, .int .i64 v.y.hi, .bool v.y.all, .int .i64 v.z.lo, .int .i64 v.z.hi, .bool v.z.all] := hd 17 (by decide)
 have e_18 : uu 18 = .agg #[.int .i64 s.lo, .int .i64 s.hi, .bool s.all] := hd 18 (by decide)
 have e_19 : uu 19 = .agg #[.int .i64 s.lo, .int .i64 s.hi, .bool s.all] := hd 19 (by decide)
 have e_20 : uu 20 = .agg #[.int .i64 r.x.lo, .int .i64 r.x.hi, .bool r.x.all, .int .i64 r.y.lo, .int .i64 r.y.hi, .bool r.y.all, .int .i64 r.z.lo, .int .i64 r.z.hi, .bool r.z.all] := hd 20 (by decide)
 have e_21 : uu 21 = .bool true := hd 21 (by decide)
 have e_22 : uu 22 = .bool true := hd 22 (by decide)
 have e_23 : uu 23 = .bool true := hd 23 (by decide)
 have e_24 : uu 24 = .agg #[.int .i64 d.lo, .int .i64 d.hi, .bool d.all] := hd 24 (by decide)
 have e_25 : uu 25 = .agg #[.int .i64 v.x.lo, .int .i64 v.x.hi, .bool v.x.all, .int .i64 v.y.lo, .int .i64 v.y.hi, .bool v.y.all, .int .i64 v.z.lo, .int .i64 v.z.hi, .bool v.z.all] := hd 25 (by decide)
 have e_26 : uu 26 = .agg #[.int .i64 u.x.lo, .int .i64 u.x.hi, .bool u.x.all, .int .i64 u.y.lo, .int .i64 u.y.hi, .bool u.y.all, .int .i64 u.z.lo, .int .i64 u.z.hi, .bool u.z.all] := hd 26 (by decide)
 have e_27 : uu 27 = .agg #[.int .i64 d.lo, .int .i64 d.hi, .bool d.all] := hd 27 (by decide)
 have e_28 : uu 28 = .bool true := hd 28 (by decide)
 have e_29 : uu 29 = .bool true := hd 29 (by decide)
 have e_30 : uu 30 = .bool true := hd 30 (by decide)
 have e_31 : uu 31 = .agg #[.int .i64 c.x.lo, .int .i64 c.x.hi, .bool c.x.all, .int .i64 c.y.lo, .int .i64 c.y.hi, .bool c.y.all, .int .i64 c.z.lo, .int .i64 c.z.hi, .bool c.z.all] := hd 31 (by decide)
 have e_32 : uu 32 = .agg #[.int .i64 v.x.lo, .int .i64 v.x.hi, .bool v.x.all, .int .i64 v.y.lo, .int .i64 v.y.hi, .bool v.y.all, .int .i64 v.z.lo, .int .i64 v.z.hi, .bool v.z.all] := hd 32 (by decide)
 have e_33 : uu 33 = .agg #[.int .i64 u.x.lo, .int .i64 u.x.hi, .bool u.x.all, .int .i64 u.y.lo, .int .i64 u.y.hi, .bool u.y.all, .int .i64 u.z.lo, .int .i64 u.z.hi, .bool u.z.all] := hd 33 (by decide)
 have e_34 : uu 34 = .agg #[.int .i64 c.x.lo, .int .i64 c.x.hi, .bool c.x.all, .int .i64 c.y.lo, .int .i64 c.y.hi, .bool c.y.all, .int .i64 c.z.lo, .int .i64 c.z.hi, .bool c.z.all] := hd 34 (by decide)
 have e_35 : uu 35 = .bool true := hd 35 (by decide)
 have e_36 : uu 36 = .bool true := hd 36 (by decide)
 have e_37 : uu 37 = .bool true := hd 37 (by decide)
 have e_38 : uu 38 = .agg #[.int .i64 n.lo, .int .i64 n.hi, .bool n.all] := hd 38 (by decide)
 have e_39 : uu 39 = .agg #[.int .i64 v.x.lo, .int .i64 v.x.hi, .bool v.x.all, .int .i64 v.y.lo, .int .i64 v.y.hi, .bool v.y.all, .int .i64 v.z.lo, .int .i64 v.z.hi, .bool v.z.all] := hd 39 (by decide)
 have e_40 : uu 40 = .agg #[.int .i64 n.lo, .int .i64 n.hi, .bool n.all] := hd 40 (by decide)
 have e_41 : uu 41 = .bool true := hd 41 (by decide)
 have e_42 : uu 42 = .bool true := hd 42 (by decide)
 have e_43 : uu 43 = .bool true := hd 43 (by decide)
 clear hd
 simp only [layS, Act.put, List.setIfInBounds_toArray, List.set_cons_succ, List.set_cons_zero, Nat.zero_add, Nat.reduceAdd, List.drop_succ_cons, List.drop_zero, List.drop_nil, e_0, e_1, e_2, e_3, e_4, e_5, e_6, e_7, e_8, e_9, e_10, e_11, e_12, e_13, e_14, e_15, e_16, e_17, e_18, e_19, e_20, e_21, e_22, e_23, e_24, e_25, e_26, e_27, e_28, e_29, e_30, e_31, e_32, e_33, e_34, e_35, e_36, e_37, e_38, e_39, e_40, e_41, e_42, e_43]
 clear e_0 e_1 e_2 e_3 e_4 e_5 e_6 e_7 e_8 e_9 e_10 e_11 e_12 e_13 e_14 e_15 e_16 e_17 e_18 e_19 e_20 e_21 e_22 e_23 e_24 e_25 e_26 e_27 e_28 e_29 e_30 e_31 e_32 e_33 e_34 e_35 e_36 e_37 e_38 e_39 e_40 e_41 e_42 e_43
 have hJ35 := hJm.es
 clear hJm
 go_wp2
 go_ret
 exact ⟨rfl, hJ35.below⟩
theorem VecPlays_any (v u : Vc) (s : Sp) (w : World) : Calls Try.prog 3 #[.agg #[.int .i64 v.x.lo, .int .i64 v.x.hi, .bool v.x.all, .int .i64 v.y.lo, .int .i64 v.y.hi, .bool v.y.all, .int .i64 v.z.lo, .int .i64 v.z.hi, .bool v.z.all], .agg #[.int .i64 u.x.lo, .int .i64 u.x.hi, .bool u.x.all, .int .i64 u.y.lo, .int .i64 u.y.hi, .bool u.y.all, .int .i64 u.z.lo, .int .i64 u.z.hi, .bool u.z.all], .agg #[.int .i64 s.lo, .int .i64 s.hi, .bool s.all]] w (PVal (.bool true) w) :=
 Plays_w v u (addV v u) (subV v u) (scaV v s) (crossV v u) s (dotV v u) (normV v) vawake_any (vdoc_any v) (vdoc_any u) (vAdd_any v u) (vdoc_any _) (dAdd_any v u) (vSub_any v u) (vdoc_any _) (dSub_any v u) (vScale_any v s) (vdoc_any _) (dScale_any v s) (vDot_any v u) (one_any _) (dDot_any v u) (vCross_any v u) (vdoc_any _) (dCross_any v u) (vNorm_any v) (one_any _) (dNorm_any v) (one_any s) w
end Go.Proofs.Ytdochhhepmlapaa
