/- Parts of the proof. -/
import Derived.Test.YtpahkpcoinbgcaaGa15
import Derived.Test.YtpahkpcoinbgcaaGa2
import Derived.Lib.SmallJoins
import Derived.WalkKit
import Derived.ProofKit
import Derived.OpenShut
/- The walk of the law VecTurns. -/
namespace Go.Proofs.Ytpahkpcoinbgcaa
open Go Go.RowKit
attribute [local go_sem ↓] run_eqlSs run_eqlDs run_eqlV run_eqlW run_eqlI
set_option maxRecDepth 100000 in
set_option maxHeartbeats 12800000 in
theorem Turns_w (v u c z x : Vc) (p q m n mn d dd nc sm me : Sp) (hHaw : ∀ W : World, Calls Try.prog 40 #[] W (PVal (.bool true) W)) (hHc : ∀ W : World, Calls Try.prog 47 #[.agg #[.int .i64 v.x.lo, .int .i64 v.x.hi, .bool v.x.all, .int .i64 v.y.lo, .int .i64 v.y.hi, .bool v.y.all, .int .i64 v.z.lo, .int .i64 v.z.hi, .bool v.z.all], .agg #[.int .i64 u.x.lo, .int .i64 u.x.hi, .bool u.x.all, .int .i64 u.y.lo, .int .i64 u.y.hi, .bool u.y.all, .int .i64 u.z.lo, .int .i64 u.z.hi, .bool u.z.all]] W (PVal (.agg #[.int .i64 c.x.lo, .int .i64 c.x.hi, .bool c.x.all, .int .i64 c.y.lo, .int .i64 c.y.hi, .bool c.y.all, .int .i64 c.z.lo, .int .i64 c.z.hi, .bool c.z.all]) W)) (hHd1 : ∀ W : World, Calls Try.prog 46 #[.agg #[.int .i64 v.x.lo, .int .i64 v.x.hi, .bool v.x.all, .int .i64 v.y.lo, .int .i64 v.y.hi, .bool v.y.all, .int .i64 v.z.lo, .int .i64 v.z.hi, .bool v.z.all], .agg #[.int .i64 c.x.lo, .int .i64 c.x.hi, .bool c.x.all, .int .i64 c.y.lo, .int .i64 c.y.hi, .bool c.y.all, .int .i64 c.z.lo, .int .i64 c.z.hi, .bool c.z.all]] W (PVal (.agg #[.int .i64 p.lo, .int .i64 p.hi, .bool p.all]) W)) (hHh1 : ∀ W : World, Calls Try.prog 63 #[.agg #[.int .i64 p.lo, .int .i64 p.hi, .bool p.all], .int .i64 0] W (PVal (.bool true) W)) (hHd2 : ∀ W : World, Calls Try.prog 46 #[.agg #[.int .i64 u.x.lo, .int .i64 u.x.hi, .bool u.x.all, .int .i64 u.y.lo, .int .i64 u.y.hi, .bool u.y.all, .int .i64 u.z.lo, .int .i64 u.z.hi, .bool u.z.all], .agg #[.int .i64 c.x.lo, .int .i64 c.x.hi, .bool c.x.all, .int .i64 c.y.lo, .int .i64 c.y.hi, .bool c.y.all, .int .i64 c.z.lo, .int .i64 c.z.hi, .bool c.z.all]] W (PVal (.agg #[.int .i64 q.lo, .int .i64 q.hi, .bool q.all]) W)) (hHh2 : ∀ W : World, Calls Try.prog 63 #[.agg #[.int .i64 q.lo, .int .i64 q.hi, .bool q.all], .int .i64 0] W (PVal (.bool true) W)) (hHz : ∀ W : World, Calls Try.prog 58 #[.int .i64 0, .int .i64 0, .int .i64 0] W (PVal (.agg #[.int .i64 z.x.lo, .int .i64 z.x.hi, .bool z.x.all, .int .i64 z.y.lo, .int .i64 z.y.hi, .bool z.y.all, .int .i64 z.z.lo, .int .i64 z.z.hi, .bool z.z.all]) W)) (hHx : ∀ W : World, Calls Try.prog 47 #[.agg #[.int .i64 u.x.lo, .int .i64 u.x.hi, .bool u.x.all, .int .i64 u.y.lo, .int .i64 u.y.hi, .bool u.y.all, .int .i64 u.z.lo, .int .i64 u.z.hi, .bool u.z.all], .agg #[.int .i64 v.x.lo, .int .i64 v.x.hi, .bool v.x.all, .int .i64 v.y.lo, .int .i64 v.y.hi, .bool v.y.all, .int .i64 v.z.lo, .int .i64 v.z.hi, .bool v.z.all]] W (PVal (.agg #[.int .i64 x.x.lo, .int .i64 x.x.hi, .bool x.x.all, .int .i64 x.y.lo, .int .i64 x.y.hi, .bool x.y.all, .int .i64 x.z.lo, .int .i64 x.z.hi, .bool x.z.all]) W)) (hHs : ∀ W : World, Calls Try.prog 43 #[.agg #[.int .i64 z.x.lo, .int .i64 z.x.hi, .bool z.x.all, .int .i64 z.y.lo, .int .i64 z.y.hi, .bool z.y.all, .int .i64 z.z.lo, .int .i64 z.z.hi, .bool z.z.all], .agg #[.int .i64 x.x.lo, .int .i64 x.x.hi, .bool x.x.all, .int .i64 x.y.lo, .int .i64 x.y.hi, .bool x.y.all, .int .i64 x.z.lo, .int .i64 x.z.hi, .bool x.z.all]] W (PVal (.agg #[.int .i64 c.x.lo, .int .i64 c.x.hi, .bool c.x.all, .int .i64 c.y.lo, .int .i64 c.y.hi, .bool c.y.all, .int .i64 c.z.lo, .int .i64 c.z.hi, .bool c.z.all]) W)) (hHn1 : ∀ W : World, Calls Try.prog 48 #[.agg #[.int .i64 v.x.lo, .int .i64 v.x.hi, .bool v.x.all, .int .i64 v.y.lo, .int .i64 v.y.hi, .bool v.y.all, .int .i64 v.z.lo, .int .i64 v.z.hi, .bool v.z.all]] W (PVal (.agg #[.int .i64 m.lo, .int .i64 m.hi, .bool m.all]) W)) (hHn2 : ∀ W : World, Calls Try.prog 48 #[.agg #[.int .i64 u.x.lo, .int .i64 u.x.hi, .bool u.x.all, .int .i64 u.y.lo, .int .i64 u.y.hi, .bool u.y.all, .int .i64 u.z.lo, .int .i64 u.z.hi, .bool u.z.all]] W (PVal (.agg #[.int .i64 n.lo, .int .i64 n.hi, .bool n.all]) W)) (hHmu : ∀ W : World, Calls Try.prog 16 #[.agg #[.int .i64 m.lo, .int .i64 m.hi, .bool m.all], .agg #[.int .i64 n.lo, .int .i64 n.hi, .bool n.all]] W (PVal (.agg #[.int .i64 mn.lo, .int .i64 mn.hi, .bool mn.all]) W)) (hHd3 : ∀ W : World, Calls Try.prog 46 #[.agg #[.int .i64 v.x.lo, .int .i64 v.x.hi, .bool v.x.all, .int .i64 v.y.lo, .int .i64 v.y.hi, .bool v.y.all, .int .i64 v.z.lo, .int .i64 v.z.hi, .bool v.z.all], .agg #[.int .i64 u.x.lo, .int .i64 u.x.hi, .bool u.x.all, .int .i64 u.y.lo, .int .i64 u.y.hi, .bool u.y.all, .int .i64 u.z.lo, .int .i64 u.z.hi, .bool u.z.all]] W (PVal (.agg #[.int .i64 d.lo, .int .i64 d.hi, .bool d.all]) W)) (hHsq : ∀ W : World, Calls Try.prog 23 #[.agg #[.int .i64 d.lo, .int .i64 d.hi, .bool d.all]] W (PVal (.agg #[.int .i64 dd.lo, .int .i64 dd.hi, .bool dd.all]) W)) (hHn3 : ∀ W : World, Calls Try.prog 48 #[.agg #[.int .i64 c.x.lo, .int .i64 c.x.hi, .bool c.x.all, .int .i64 c.y.lo, .int .i64 c.y.hi, .bool c.y.all, .int .i64 c.z.lo, .int .i64 c.z.hi, .bool c.z.all]] W (PVal (.agg #[.int .i64 nc.lo, .int .i64 nc.hi, .bool nc.all]) W)) (hHad : ∀ W : World, Calls Try.prog 14 #[.agg #[.int .i64 dd.lo, .int .i64 dd.hi, .bool dd.all], .agg #[.int .i64 nc.lo, .int .i64 nc.hi, .bool nc.all]] W (PVal (.agg #[.int .i64 sm.lo, .int .i64 sm.hi, .bool sm.all]) W)) (hHme : ∀ W : World, Calls Try.prog 65 #[.agg #[.int .i64 mn.lo, .int .i64 mn.hi, .bool mn.all], .agg #[.int .i64 sm.lo, .int .i64 sm.hi, .bool sm.all]] W (PVal (.tuple #[.agg #[.int .i64 me.lo, .int .i64 me.hi, .bool me.all], .bool true]) W))  (w : World) : Calls Try.prog 10 #[.agg #[.int .i64 v.x.lo, .int .i64 v.x.hi, .bool v.x.all, .int .i64 v.y.lo, .int .i64 v.y.hi, .bool v.y.all, .int .i64 v.z.lo, .int .i64 v.z.hi, .bool v.z.all], .agg #[.int .i64 u.x.lo, .int .i64 u.x.hi, .bool u.x.all, .int .i64 u.y.lo, .int .i64 u.y.hi, .bool u.y.all, .int .i64 u.z.lo, .int .i64 u.z.hi, .bool u.z.all]] w (PVal (.bool true) w) := by
 have Haw := Lib.hid hHaw
 have Hc := Lib.hid hHc
 have Hd1 := Lib.hid hHd1
 have Hh1 := Lib.hid hHh1
 have Hd2 := Lib.hid hHd2
 have Hh2 := Lib.hid hHh2
 have Hz := Lib.hid hHz
 have Hx := Lib.hid hHx
 have Hs := Lib.hid hHs
 have Hn1 := Lib.hid hHn1
 have Hn2 := Lib.hid hHn2
 have Hmu := Lib.hid hHmu
 have Hd3 := Lib.hid hHd3
 have Hsq := Lib.hid hHsq
 have Hn3 := Lib.hid hHn3
 have Had := Lib.hid hHad
 have Hme := Lib.hid hHme
 clear hHaw hHc hHd1 hHh1 hHd2 hHh2 hHz hHx hHs hHn1 hHn2 hHmu hHd3 hHsq hHn3 hHad hHme
 have hJ0 := es_nil w
 go_enter Try.func10, Try.ntmps10
 go_wp2_with (refine stop_box 34 (.tmp 0) #[.int .i64 v.x.lo, .int .i64 v.x.hi, .bool v.x.all, .int .i64 v.y.lo, .int .i64 v.y.hi, .bool v.y.all, .int .i64 v.z.lo, .int .i64 v.z.hi, .bool v.z.all] rfl rfl rfl hJ0 (fun b1 W1 hJ1 => ?_))
 clear hJ0
 unfold Stop
 try simp only [Act.put, List.setIfInBounds_toArray, List.set_cons_succ, List.set_cons_zero]
 go_wp2_with (refine stop_box 34 (.tmp 1) #[.int .i64 u.x.lo, .int .i64 u.x.hi, .bool u.x.all, .int .i64 u.y.lo, .int .i64 u.y.hi, .bool u.y.all, .int .i64 u.z.lo, .int .i64 u.z.hi, .bool u.z.all] rfl rfl rfl hJ1 (fun b2 W2 hJ2 => ?_))
 clear hJ1
 unfold Stop
 try simp only [Act.put, List.setIfInBounds_toArray, List.set_cons_succ, List.set_cons_zero]
 go_wp2_with fail
 refine (Haw.out _).mono ?_
 rintro e W3 ⟨rfl, hB⟩
 have hJ3 := hJ2.later hB
 clear hB
 clear hJ2
 have f0 : W3.cell? ⟨b1, 0, none⟩ = some (.int .i64 v.x.lo) := hJ3.cell 1 rfl 0 rfl
 have f1 : W3.cell? ⟨b1, 1, none⟩ = some (.int .i64 v.x.hi) := hJ3.cell 1 rfl 1 rfl
 have f2 : W3.cell? ⟨b1, 2, none⟩ = some (.bool v.x.all) := hJ3.cell 1 rfl 2 rfl
 have f3 : W3.cell? ⟨b1, 3, none⟩ = some (.int .i64 v.y.lo) := hJ3.cell 1 rfl 3 rfl
 have f4 : W3.cell? ⟨b1, 4, none⟩ = some (.int .i64 v.y.hi) := hJ3.cell 1 rfl 4 rfl
 have f5 : W3.cell? ⟨b1, 5, none⟩ = some (.bool v.y.all) := hJ3.cell 1 rfl 5 rfl
 have f6 : W3.cell? ⟨b1, 6, none⟩ = some (.int .i64 v.z.lo) := hJ3.cell 1 rfl 6 rfl
 have f7 : W3.cell? ⟨b1, 7, none⟩ = some (.int .i64 v.z.hi) := hJ3.cell 1 rfl 7 rfl
 have f8 : W3.cell? ⟨b1, 8, none⟩ = some (.bool v.z.all) := hJ3.cell 1 rfl 8 rfl
 have f9 : W3.cell? ⟨b2, 0, none⟩ = some (.int .i64 u.x.lo) := hJ3.cell 0 rfl 0 rfl
 have f10 : W3.cell? ⟨b2, 1, none⟩ = some (.int .i64 u.x.hi) := hJ3.cell 0 rfl 1 rfl
 have f11 : W3.cell? ⟨b2, 2, none⟩ = some (.bool u.x.all) := hJ3.cell 0 rfl 2 rfl
 have f12 : W3.cell? ⟨b2, 3, none⟩ = some (.int .i64 u.y.lo) := hJ3.cell 0 rfl 3 rfl
 have f13 : W3.cell? ⟨b2, 4, none⟩ = some (.int .i64 u.y.hi) := hJ3.cell 0 rfl 4 rfl
 have f14 : W3.cell? ⟨b2, 5, none⟩ = some (.bool u.y.all) := hJ3.cell 0 rfl 5 rfl
 have f15 : W3.cell? ⟨b2, 6, none⟩ = some (.int .i64 u.z.lo) := hJ3.cell 0 rfl 6 rfl
 have f16 : W3.cell? ⟨b2, 7, none⟩ = some (.int .i64 u.z.hi) := hJ3.cell 0 rfl 7 rfl
 have f17 : W3.cell? ⟨b2, 8, none⟩ = some (.bool u.z.all) := hJ3.cell 0 rfl 8 rfl
 go_wp2_with fail
 refine (Hc.out _).mono ?_
 rintro e W4 ⟨rfl, hB⟩
 have hJ4 := hJ3.later hB
 clear hB
 clear f0 f1 f2 f3 f4 f5 f6 f7 f8 f9 f10 f11 f12 f13 f14 f15 f16 f17
 clear hJ3
 go_wp2_with (refine stop_alloc 34 #[.int .i64 0, .int .i64 0, .bool false, .int .i64 0, .int .i64 0, .bool false, .int .i64 0, .int .i64 0, .bool false] (.agg #[.int .i64 0, .int .i64 0, .bool false, .int .i64 0, .int .i64 0, .bool false, .int .i64 0, .int .i64 0, .bool false]) rfl rfl zv34 rfl hJ4 (fun b3 W5 hJ5 => ?_))
 clear hJ4
 unfold Stop
 try simp only [Act.put, List.setIfInBounds_toArray, List.set_cons_succ, List.set_cons_zero]
 go_wp2_with (refine stop_store 34 (.tmp 6) (.tmp 16) 0 b3 0 #[.int .i64 0, .int .i64 0, .bool false, .int .i64 0, .int .i64 0, .bool false, .int .i64 0, .int .i64 0, .bool false] 34 9 [.int .i64 c.x.lo, .int .i64 c.x.hi, .bool c.x.all, .int .i64 c.y.lo, .int .i64 c.y.hi, .bool c.y.all, .int .i64 c.z.lo, .int .i64 c.z.hi, .bool c.z.all] #[.int .i64 c.x.lo, .int .i64 c.x.hi, .bool c.x.all, .int .i64 c.y.lo, .int .i64 c.y.hi, .bool c.y.all, .int .i64 c.z.lo, .int .i64 c.z.hi, .bool c.z.all] [(b3, #[.int .i64 c.x.lo, .int .i64 c.x.hi, .bool c.x.all, .int .i64 c.y.lo, .int .i64 c.y.hi, .bool c.y.all, .int .i64 c.z.lo, .int .i64 c.z.hi, .bool c.z.all], 34), (b2, #[.int .i64 u.x.lo, .int .i64 u.x.hi, .bool u.x.all, .int .i64 u.y.lo, .int .i64 u.y.hi, .bool u.y.all, .int .i64 u.z.lo, .int .i64 u.z.hi, .bool u.z.all], 34), (b1, #[.int .i64 v.x.lo, .int .i64 v.x.hi, .bool v.x.all, .int .i64 v.y.lo, .int .i64 v.y.hi, .bool v.y.all, .int .i64 v.z.lo, .int .i64 v.z.hi, .bool v.z.all], 34)] rfl rfl rfl rfl sz34 hJ5 rfl rfl (Nat.le_of_ble_eq_true (by kernel_rfl)) (by kernel_rfl) (by kernel_rfl) (by kernel_rfl) (fun W6 hJ6 => ?_))
 clear hJ5
 unfold Stop
 try simp only [Act.put, List.setIfInBounds_toArray, List.set_cons_succ, List.set_cons_zero]
 have f0 : W6.cell? ⟨b1, 0, none⟩ = some (.int .i64 v.x.lo) := hJ6.cell 2 rfl 0 rfl
 have f1 : W6.cell? ⟨b1, 1, none⟩ = some (.int .i64 v.x.hi) := hJ6.cell 2 rfl 1 rfl
 have f2 : W6.cell? ⟨b1, 2, none⟩ = some (.bool v.x.all) := hJ6.cell 2 rfl 2 rfl
 have f3 : W6.cell? ⟨b1, 3, none⟩ = some (.int .i64 v.y.lo) := hJ6.cell 2 rfl 3 rfl
 have f4 : W6.cell? ⟨b1, 4, none⟩ = some (.int .i64 v.y.hi) := hJ6.cell 2 rfl 4 rfl
 have f5 : W6.cell? ⟨b1, 5, none⟩ = some (.bool v.y.all) := hJ6.cell 2 rfl 5 rfl
 have f6 : W6.cell? ⟨b1, 6, none⟩ = some (.int .i64 v.z.lo) := hJ6.cell 2 rfl 6 rfl
 have f7 : W6.cell? ⟨b1, 7, none⟩ = some (.int .i64 v.z.hi) := hJ6.cell 2 rfl 7 rfl
 have f8 : W6.cell? ⟨b1, 8, none⟩ = some (.bool v.z.all) := hJ6.cell 2 rfl 8 rfl
 have f9 : W6.cell? ⟨b3, 0, none⟩ = some (.int .i64 c.x.lo) := hJ6.cell 0 rfl 0 rfl
 have f10 : W6.cell? ⟨b3, 1, none⟩ = some (.int .i64 c.x.hi) := hJ6.cell 0 rfl 1 rfl
 have f11 : W6.cell? ⟨b3, 2, none⟩ = some (.bool c.x.all) := hJ6.cell 0 rfl 2 rfl
 have f12 : W6.cell? ⟨b3, 3, none⟩ = some (.int .i64 c.y.lo) := hJ6.cell 0 rfl 3 rfl
 have f13 : W6.cell? ⟨b3, 4, none⟩ = some (.int .i64 c.y.hi) := hJ6.cell 0 rfl 4 rfl
 have f14 : W6.cell? ⟨b3, 5, none⟩ = some (.bool c.y.all) := hJ6.cell 0 rfl 5 rfl
 have f15 : W6.cell? ⟨b3, 6, none⟩ = some (.int .i64 c.z.lo) := hJ6.cell 0 rfl 6 rfl
 have f16 : W6.cell? ⟨b3, 7, none⟩ = some (.int .i64 c.z.hi) := hJ6.cell 0 rfl 7 rfl
 have f17 : W6.cell? ⟨b3, 8, none⟩ = some (.bool c.z.all) := hJ6.cell 0 rfl 8 rfl
 go_wp2_with fail
 refine (Hd1.out _).mono ?_
 rintro e W7 ⟨rfl, hB⟩
 have hJ7 := hJ6.later hB
 clear hB
 clear f0 f1 f2 f3 f4 f5 f6 f7 f8 f9 f10 f11 f12 f13 f14 f15 f16 f17
 clear hJ6
 go_wp2_with fail
 refine (Hh1.out _).mono ?_
 rintro e W8 ⟨rfl, hB⟩
 have hJ8 := hJ7.later hB
 clear hB
 clear hJ7
 have f0 : W8.cell? ⟨b2, 0, none⟩ = some (.int .i64 u.x.lo) := hJ8.cell 1 rfl 0 rfl
 have f1 : W8.cell? ⟨b2, 1, none⟩ = some (.int .i64 u.x.hi) := hJ8.cell 1 rfl 1 rfl
 have f2 : W8.cell? ⟨b2, 2, none⟩ = some (.bool u.x.all) := hJ8.cell 1 rfl 2 rfl
 have f3 : W8.cell? ⟨b2, 3, none⟩ = some (.int .i64 u.y.lo) := hJ8.cell 1 rfl 3 rfl
 have f4 : W8.cell? ⟨b2, 4, none⟩ = some (.int .i64 u.y.hi) := hJ8.cell 1 rfl 4 rfl
 have f5 : W8.cell? ⟨b2, 5, none⟩ = some (.bool u.y.all) := hJ8.cell 1 rfl 5 rfl
 have f6 : W8.cell? ⟨b2, 6, none⟩ = some (.int .i64 u.z.lo) := hJ8.cell 1 rfl 6 rfl
 have f7 : W8.cell? ⟨b2, 7, none⟩ = some (.int .i64 u.z.hi) := hJ8.cell 1 rfl 7 rfl
 have f8 : W8.cell? ⟨b2, 8, none⟩ = some (.bool u.z.all) := hJ8.cell 1 rfl 8 rfl
 have f9 : W8.cell? ⟨b3, 0, none⟩ = some (.int .i64 c.x.lo) := hJ8.cell 0 rfl 0 rfl
 have f10 : W8.cell? ⟨b3, 1, none⟩ = some (.int .i64 c.x.hi) := hJ8.cell 0 rfl 1 rfl
 have f11 : W8.cell? ⟨b3, 2, none⟩ = some (.bool c.x.all) := hJ8.cell 0 rfl 2 rfl
 have f12 : W8.cell? ⟨b3, 3, none⟩ = some (.int .i64 c.y.lo) := hJ8.cell 0 rfl 3 rfl
 have f13 : W8.cell? ⟨b3, 4, none⟩ = some (.int .i64 c.y.hi) := hJ8.cell 0 rfl 4 rfl
 have f14 : W8.cell? ⟨b3, 5, none⟩ = some (.bool c.y.all) := hJ8.cell 0 rfl 5 rfl
 have f15 : W8.cell? ⟨b3, 6, none⟩ = some (.int .i64 c.z.lo) := hJ8.cell 0 rfl 6 rfl
 have f16 : W8.cell? ⟨b3, 7, none⟩ = some (.int .i64 c.z.hi) := hJ8.cell 0 rfl 7 rfl
 have f17 : W8.cell? ⟨b3, 8, none⟩ = some (.bool c.z.all) := hJ8.cell 0 rfl 8 rfl
 go_wp2_with fail
 refine (Hd2.out _).mono ?_
 rintro e W9 ⟨rfl, hB⟩
 have hJ9 := hJ8.later hB
 clear hB
 clear f0 f1 f2 f3 f4 f5 f6 f7 f8 f9 f10 f11 f12 f13 f14 f15 f16 f17
 clear hJ8
 go_wp2_with fail
 refine (Hh2.out _).mono ?_
 rintro e W10 ⟨rfl, hB⟩
 have hJ10 := hJ9.later hB
 clear hB
 clear hJ9
 go_wp2_with fail
 refine (Hz.out _).mono ?_
 rintro e W11 ⟨rfl, hB⟩
 have hJ11 := hJ10.later hB
 clear hB
 clear hJ10
 go_wp2_with (refine stop_alloc 34 #[.int .i64 0, .int .i64 0, .bool false, .int .i64 0, .int .i64 0, .bool false, .int .i64 0, .int .i64 0, .bool false] (.agg #[.int .i64 0, .int .i64 0, .bool false, .int .i64 0, .int .i64 0, .bool false, .int .i64 0, .int .i64 0, .bool false]) rfl rfl zv34 rfl hJ11 (fun b4 W12 hJ12 => ?_))
 clear hJ11
 unfold Stop
 try simp only [Act.put, List.setIfInBounds_toArray, List.set_cons_succ, List.set_cons_zero]
 go_wp2_with (refine stop_store 34 (.tmp 9) (.tmp 25) 0 b4 0 #[.int .i64 0, .int .i64 0, .bool false, .int .i64 0, .int .i64 0, .bool false, .int .i64 0, .int .i64 0, .bool false] 34 9 [.int .i64 z.x.lo, .int .i64 z.x.hi, .bool z.x.all, .int .i64 z.y.lo, .int .i64 z.y.hi, .bool z.y.all, .int .i64 z.z.lo, .int .i64 z.z.hi, .bool z.z.all] #[.int .i64 z.x.lo, .int .i64 z.x.hi, .bool z.x.all, .int .i64 z.y.lo, .int .i64 z.y.hi, .bool z.y.all, .int .i64 z.z.lo, .int .i64 z.z.hi, .bool z.z.all] [(b4, #[.int .i64 z.x.lo, .int .i64 z.x.hi, .bool z.x.all, .int .i64 z.y.lo, .int .i64 z.y.hi, .bool z.y.all, .int .i64 z.z.lo, .int .i64 z.z.hi, .bool z.z.all], 34), (b3, #[.int .i64 c.x.lo, .int .i64 c.x.hi, .bool c.x.all, .int .i64 c.y.lo, .int .i64 c.y.hi, .bool c.y.all, .int .i64 c.z.lo, .int .i64 c.z.hi, .bool c.z.all], 34), (b2, #[.int .i64 u.x.lo, .int .i64 u.x.hi, .bool u.x.all, .int .i64 u.y.lo, .int .i64 u.y.hi, .bool u.y.all, .int .i64 u.z.lo, .int .i64 u.z.hi, .bool u.z.all], 34), (b1, #[.int .i64 v.x.lo, .int .i64 v.x.hi, .bool v.x.all, .int .i64 v.y.lo, .int .i64 v.y.hi, .bool v.y.all, .int .i64 v.z.lo, .int .i64 v.z.hi, .bool v.z.all], 34)] rfl rfl rfl rfl sz34 hJ12 rfl rfl (Nat.le_of_ble_eq_true (by kernel_rfl)) (by kernel_rfl) (by kernel_rfl) (by kernel_rfl) (fun W13 hJ13 => ?_))
 clear hJ12
 unfold Stop
 try simp only [Act.put, List.setIfInBounds_toArray, List.set_cons_succ, List.set_cons_zero]
 go_wp2
 obtain ⟨m6_13, hm⟩ : ∃ m, m = W13.heap.size := ⟨_, rfl⟩
 have hM := hJ13.em
 rw [← hm] at hM
 clear hm hJ13
 refine wp_region_z 6 [some 26, some 27, some 28, some 29, some 30, some 10] (veL m6_13 [.eq (.agg #[.int .i64 z.x.lo, .int .i64 z.x.hi, .bool z.x.all, .int .i64 z.y.lo, .int .i64 z.y.hi, .bool z.y.all, .int .i64 z.z.lo, .int .i64 z.z.hi, .bool z.z.all]), .eq (.agg #[.int .i64 u.x.lo, .int .i64 u.x.hi, .bool u.x.all, .int .i64 u.y.lo, .int .i64 u.y.hi, .bool u.y.all, .int .i64 u.z.lo, .int .i64 u.z.hi, .bool u.z.all]), .eq (.agg #[.int .i64 v.x.lo, .int .i64 v.x.hi, .bool v.x.all, .int .i64 v.y.lo, .int .i64 v.y.hi, .bool v.y.all, .int .i64 v.z.lo, .int .i64 v.z.hi, .bool v.z.all]), .eq (.agg #[.int .i64 x.x.lo, .int .i64 x.x.hi, .bool x.x.all, .int .i64 x.y.lo, .int .i64 x.y.hi, .bool x.y.all, .int .i64 x.z.lo, .int .i64 x.z.hi, .bool x.z.all]), .eq (.agg #[.int .i64 c.x.lo, .int .i64 c.x.hi, .bool c.x.all, .int .i64 c.y.lo, .int .i64 c.y.hi, .bool c.y.all, .int .i64 c.z.lo, .int .i64 c.z.hi, .bool c.z.all]), .box #[.int .i64 0, .int .i64 0, .bool false, .int .i64 0, .int .i64 0, .bool false, .int .i64 0, .int .i64 0, .bool false] 34]) (Em w m6_13 [(b4, #[.int .i64 z.x.lo, .int .i64 z.x.hi, .bool z.x.all, .int .i64 z.y.lo, .int .i64 z.y.hi, .bool z.y.all, .int .i64 z.z.lo, .int .i64 z.z.hi, .bool z.z.all], 34), (b3, #[.int .i64 c.x.lo, .int .i64 c.x.hi, .bool c.x.all, .int .i64 c.y.lo, .int .i64 c.y.hi, .bool c.y.all, .int .i64 c.z.lo, .int .i64 c.z.hi, .bool c.z.all], 34), (b2, #[.int .i64 u.x.lo, .int .i64 u.x.hi, .bool u.x.all, .int .i64 u.y.lo, .int .i64 u.y.hi, .bool u.y.all, .int .i64 u.z.lo, .int .i64 u.z.hi, .bool u.z.all], 34), (b1, #[.int .i64 v.x.lo, .int .i64 v.x.hi, .bool v.x.all, .int .i64 v.y.lo, .int .i64 v.y.hi, .bool v.y.all, .int .i64 v.z.lo, .int .i64 v.z.hi, .bool v.z.all], 34)]) (by kernel_rfl) (by kernel_rfl) (by rfl) (by decide) (by rfl) hM ?_ ?_
 ·
  intro i hl hi uu ww aa hJ hd hev hin
  clear hM
  obtain rfl | rfl | rfl | rfl | rfl | rfl : i = 0 ∨ i = 1 ∨ i = 2 ∨ i = 3 ∨ i = 4 ∨ i = 5 := by omega
  ·
   have x9 : aa.tmps[9]? = some (.pointer (some ⟨b4, 0, none⟩)) := (hev 9 (by decide)).trans rfl
   clear hd hev hin
   simp only [List.getElem_cons_succ, List.getElem_cons_zero]
   clear hl
   refine .inr ⟨rfl, fun K' hK => ?_⟩
   have HK := Lib.hid hK
   clear hK
   have f0 : ww.cell? ⟨b4, 0, none⟩ = some (.int .i64 z.x.lo) := hJ.es.cell 0 rfl 0 rfl
   have f1 : ww.cell? ⟨b4, 1, none⟩ = some (.int .i64 z.x.hi) := hJ.es.cell 0 rfl 1 rfl
   have f2 : ww.cell? ⟨b4, 2, none⟩ = some (.bool z.x.all) := hJ.es.cell 0 rfl 2 rfl
   have f3 : ww.cell? ⟨b4, 3, none⟩ = some (.int .i64 z.y.lo) := hJ.es.cell 0 rfl 3 rfl
   have f4 : ww.cell? ⟨b4, 4, none⟩ = some (.int .i64 z.y.hi) := hJ.es.cell 0 rfl 4 rfl
   have f5 : ww.cell? ⟨b4, 5, none⟩ = some (.bool z.y.all) := hJ.es.cell 0 rfl 5 rfl
   have f6 : ww.cell? ⟨b4, 6, none⟩ = some (.int .i64 z.z.lo) := hJ.es.cell 0 rfl 6 rfl
   have f7 : ww.cell? ⟨b4, 7, none⟩ = some (.int .i64 z.z.hi) := hJ.es.cell 0 rfl 7 rfl
   have f8 : ww.cell? ⟨b4, 8, none⟩ = some (.bool z.z.all) := hJ.es.cell 0 rfl 8 rfl
   go_simp
   exact HK.out (.agg #[.int .i64 z.x.lo, .int .i64 z.x.hi, .bool z.x.all, .int .i64 z.y.lo, .int .i64 z.y.hi, .bool z.y.all, .int .i64 z.z.lo, .int .i64 z.z.hi, .bool z.z.all]) _ hJ rfl veL_same
  ·
   have x3 : aa.tmps[3]? = some (.pointer (some ⟨b2, 0, none⟩)) := (hev 3 (by decide)).trans rfl
   clear hd hev hin
   simp only [List.getElem_cons_succ, List.getElem_cons_zero]
   clear hl
   refine .inr ⟨rfl, fun K' hK => ?_⟩
   have HK := Lib.hid hK
   clear hK
   have f0 : ww.cell? ⟨b2, 0, none⟩ = some (.int .i64 u.x.lo) := hJ.es.cell 2 rfl 0 rfl
   have f1 : ww.cell? ⟨b2, 1, none⟩ = some (.int .i64 u.x.hi) := hJ.es.cell 2 rfl 1 rfl
   have f2 : ww.cell? ⟨b2, 2, none⟩ = some (.bool u.x.all) := hJ.es.cell 2 rfl 2 rfl
   have f3 : ww.cell? ⟨b2, 3, none⟩ = some (.int .i64 u.y.lo) := hJ.es.cell 2 rfl 3 rfl
   have f4 : ww.cell? ⟨b2, 4, none⟩ = some (.int .i64 u.y.hi) := hJ.es.cell 2 rfl 4 rfl
   have f5 : ww.cell? ⟨b2, 5, none⟩ = some (.bool u.y.all) := hJ.es.cell 2 rfl 5 rfl
   have f6 : ww.cell? ⟨b2, 6, none⟩ = some (.int .i64 u.z.lo) := hJ.es.cell 2 rfl 6 rfl
   have f7 : ww.cell? ⟨b2, 7, none⟩ = some (.int .i64 u.z.hi) := hJ.es.cell 2 rfl 7 rfl
   have f8 : ww.cell? ⟨b2, 8, none⟩ = some (.bool u.z.all) := hJ.es.cell 2 rfl 8 rfl
   go_simp
   exact HK.out (.agg #[.int .i64 u.x.lo, .int .i64 u.x.hi, .bool u.x.all, .int .i64 u.y.lo, .int .i64 u.y.hi, .bool u.y.all, .int .i64 u.z.lo, .int .i64 u.z.hi, .bool u.z.all]) _ hJ rfl veL_same
  ·
   have x2 : aa.tmps[2]? = some (.pointer (some ⟨b1, 0, none⟩)) := (hev 2 (by decide)).trans rfl
   clear hd hev hin
   simp only [List.getElem_cons_succ, List.getElem_cons_zero]
   clear hl
   refine .inr ⟨rfl, fun K' hK => ?_⟩
   have HK := Lib.hid hK
   clear hK
   have f0 : ww.cell? ⟨b1, 0, none⟩ = some (.int .i64 v.x.lo) := hJ.es.cell 3 rfl 0 rfl
   have f1 : ww.cell? ⟨b1, 1, none⟩ = some (.int .i64 v.x.hi) := hJ.es.cell 3 rfl 1 rfl
   have f2 : ww.cell? ⟨b1, 2, none⟩ = some (.bool v.x.all) := hJ.es.cell 3 rfl 2 rfl
   have f3 : ww.cell? ⟨b1, 3, none⟩ = some (.int .i64 v.y.lo) := hJ.es.cell 3 rfl 3 rfl
   have f4 : ww.cell? ⟨b1, 4, none⟩ = some (.int .i64 v.y.hi) := hJ.es.cell 3 rfl 4 rfl
   have f5 : ww.cell? ⟨b1, 5, none⟩ = some (.bool v.y.all) := hJ.es.cell 3 rfl 5 rfl
   have f6 : ww.cell? ⟨b1, 6, none⟩ = some (.int .i64 v.z.lo) := hJ.es.cell 3 rfl 6 rfl
   have f7 : ww.cell? ⟨b1, 7, none⟩ = some (.int .i64 v.z.hi) := hJ.es.cell 3 rfl 7 rfl
   have f8 : ww.cell? ⟨b1, 8, none⟩ = some (.bool v.z.all) := hJ.es.cell 3 rfl 8 rfl
   go_simp
   exact HK.out (.agg #[.int .i64 v.x.lo, .int .i64 v.x.hi, .bool v.x.all, .int .i64 v.y.lo, .int .i64 v.y.hi, .bool v.y.all, .int .i64 v.z.lo, .int .i64 v.z.hi, .bool v.z.all]) _ hJ rfl veL_same
  ·
   have x27 : aa.tmps[27]? = some (.agg #[.int .i64 u.x.lo, .int .i64 u.x.hi, .bool u.x.all, .int .i64 u.y.lo, .int .i64 u.y.hi, .bool u.y.all, .int .i64 u.z.lo, .int .i64 u.z.hi, .bool u.z.all]) := (hin 1 27 rfl).trans (congrArg some (show uu 1 = .agg #[.int .i64 u.x.lo, .int .i64 u.x.hi, .bool u.x.all, .int .i64 u.y.lo, .int .i64 u.y.hi, .bool u.y.all, .int .i64 u.z.lo, .int .i64 u.z.hi, .bool u.z.all] from hd 1 (by decide) (by kernel_rfl)))
   have x28 : aa.tmps[28]? = some (.agg #[.int .i64 v.x.lo, .int .i64 v.x.hi, .bool v.x.all, .int .i64 v.y.lo, .int .i64 v.y.hi, .bool v.y.all, .int .i64 v.z.lo, .int .i64 v.z.hi, .bool v.z.all]) := (hin 2 28 rfl).trans (congrArg some (show uu 2 = .agg #[.int .i64 v.x.lo, .int .i64 v.x.hi, .bool v.x.all, .int .i64 v.y.lo, .int .i64 v.y.hi, .bool v.y.all, .int .i64 v.z.lo, .int .i64 v.z.hi, .bool v.z.all] from hd 2 (by decide) (by kernel_rfl)))
   clear hd hev hin
   simp only [List.getElem_cons_succ, List.getElem_cons_zero]
   clear hl
   refine .inr ⟨rfl, fun K' hK => ?_⟩
   have HK := Lib.hid hK
   clear hK
   go_simp
   refine (Hx.out ww).mono ?_
   rintro e W' ⟨rfl, hB⟩
   exact HK.out (.agg #[.int .i64 x.x.lo, .int .i64 x.x.hi, .bool x.x.all, .int .i64 x.y.lo, .int .i64 x.y.hi, .bool x.y.all, .int .i64 x.z.lo, .int .i64 x.z.hi, .bool x.z.all]) _ (hJ.later hB) rfl (veL_later hB)
  ·
   have x26 : aa.tmps[26]? = some (.agg #[.int .i64 z.x.lo, .int .i64 z.x.hi, .bool z.x.all, .int .i64 z.y.lo, .int .i64 z.y.hi, .bool z.y.all, .int .i64 z.z.lo, .int .i64 z.z.hi, .bool z.z.all]) := (hin 0 26 rfl).trans (congrArg some (show uu 0 = .agg #[.int .i64 z.x.lo, .int .i64 z.x.hi, .bool z.x.all, .int .i64 z.y.lo, .int .i64 z.y.hi, .bool z.y.all, .int .i64 z.z.lo, .int .i64 z.z.hi, .bool z.z.all] from hd 0 (by decide) (by kernel_rfl)))
   have x29 : aa.tmps[29]? = some (.agg #[.int .i64 x.x.lo, .int .i64 x.x.hi, .bool x.x.all, .int .i64 x.y.lo, .int .i64 x.y.hi, .bool x.y.all, .int .i64 x.z.lo, .int .i64 x.z.hi, .bool x.z.all]) := (hin 3 29 rfl).trans (congrArg some (show uu 3 = .agg #[.int .i64 x.x.lo, .int .i64 x.x.hi, .bool x.x.all, .int .i64 x.y.lo, .int .i64 x.y.hi, .bool x.y.all, .int .i64 x.z.lo, .int .i64 x.z.hi, .bool x.z.all] from hd 3 (by decide) (by kernel_rfl)))
   clear hd hev hin
   simp only [List.getElem_cons_succ, List.getElem_cons_zero]
   clear hl
   refine .inr ⟨rfl, fun K' hK => ?_⟩
   have HK := Lib.hid hK
   clear hK
   go_simp
   refine (Hs.out ww).mono ?_
   rintro e W' ⟨rfl, hB⟩
   exact HK.out (.agg #[.int .i64 c.x.lo, .int .i64 c.x.hi, .bool c.x.all, .int .i64 c.y.lo, .int .i64 c.y.hi, .bool c.y.all, .int .i64 c.z.lo, .int .i64 c.z.hi, .bool c.z.all]) _ (hJ.later hB) rfl (veL_later hB)
  ·
   clear hd hev hin
   simp only [List.getElem_cons_succ, List.getElem_cons_zero]
   clear hl
   refine .inr ⟨rfl, fun K' hK => ?_⟩
   have HK := Lib.hid hK
   clear hK
   refine wp_alloc 34 rfl (.agg #[.int .i64 0, .int .i64 0, .bool false, .int .i64 0, .int .i64 0, .bool false, .int .i64 0, .int .i64 0, .bool false]) zv34 ?_
   exact HK.out _ _ (hJ.later ((Below.refl _ _).alloc (Nat.le_refl _) _)) ⟨ww.heap.size, rfl, hJ.le, heap_new ww _⟩ (veL_later ((Below.refl _ _).alloc (Nat.le_refl _) _))
 clear hM
 intro uu W14 hJm hd
 have e_0 : uu 0 = .agg #[.int .i64 z.x.lo, .int .i64 z.x.hi, .bool z.x.all, .int .i64 z.y.lo, .int .i64 z.y.hi, .bool z.y.all, .int .i64 z.z.lo, .int .i64 z.z.hi, .bool z.z.all] := hd 0 (by decide)
 have e_1 : uu 1 = .agg #[.int .i64 u.x.lo, .int .i64 u.x.hi, .bool u.x.all, .int .i64 u.y.lo, .int .i64 u.y.hi, .bool u.y.all, .int .i64 u.z.lo, .int .i64 u.z.hi, .bool u.z.all] := hd 1 (by decide)
 have e_2 : uu 2 = .agg #[.int .i64 v.x.lo, .int .i64 v.x.hi, .bool v.x.all, .int .i64 v.y.lo, .int .i64 v.y.hi, .bool v.y.all, .int .i64 v.z.lo, .int .i64 v.z.hi, .bool v.z.all] := hd 2 (by decide)
 have e_3 : uu 3 = .agg #[.int .i64 x.x.lo, .int .i64 x.x.hi, .bool x.x.all, .int .i64 x.y.lo, .int .i64 x.y.hi, .bool x.y.all, .int .i64 x.z.lo, .int .i64 x.z.hi, .bool x.z.all] := hd 3 (by decide)
 have e_4 : uu 4 = .agg #[.int .i64 c.x.lo, .int .i64 c.x.hi, .bool c.x.all, .int .i64 c.y.lo, .int .i64 c.y.hi, .bool c.y.all, .int .i64 c.z.lo, .int .i64 c.z.hi, .bool c.z.all] := hd 4 (by decide)
 obtain ⟨b5, e_5, nge5, nB5⟩ := (show veP m6_13 (.box #[.int .i64 0, .int .i64 0, .bool false, .int .i64 0, .int .i64 0, .bool false, .int .i64 0, .int .i64 0, .bool false] 34) (uu 5) W14 from hd 5 (by decide))
 clear hd
 simp only [layS, Act.put, List.setIfInBounds_toArray, List.set_cons_succ, List.set_cons_zero, Nat.zero_add, Nat.reduceAdd, List.drop_succ_cons, List.drop_zero, List.drop_nil, e_0, e_1, e_2, e_3, e_4, e_5]
 clear e_0 e_1 e_2 e_3 e_4 e_5
 have hJ14 := hJm.join nge5 nB5
 clear hJm nge5 nB5
 go_wp2_with (refine stop_store 34 (.tmp 10) (.tmp 30) 0 b5 0 #[.int .i64 0, .int .i64 0, .bool false, .int .i64 0, .int .i64 0, .bool false, .int .i64 0, .int .i64 0, .bool false] 34 9 [.int .i64 c.x.lo, .int .i64 c.x.hi, .bool c.x.all, .int .i64 c.y.lo, .int .i64 c.y.hi, .bool c.y.all, .int .i64 c.z.lo, .int .i64 c.z.hi, .bool c.z.all] #[.int .i64 c.x.lo, .int .i64 c.x.hi, .bool c.x.all, .int .i64 c.y.lo, .int .i64 c.y.hi, .bool c.y.all, .int .i64 c.z.lo, .int .i64 c.z.hi, .bool c.z.all] [(b5, #[.int .i64 c.x.lo, .int .i64 c.x.hi, .bool c.x.all, .int .i64 c.y.lo, .int .i64 c.y.hi, .bool c.y.all, .int .i64 c.z.lo, .int .i64 c.z.hi, .bool c.z.all], 34), (b4, #[.int .i64 z.x.lo, .int .i64 z.x.hi, .bool z.x.all, .int .i64 z.y.lo, .int .i64 z.y.hi, .bool z.y.all, .int .i64 z.z.lo, .int .i64 z.z.hi, .bool z.z.all], 34), (b3, #[.int .i64 c.x.lo, .int .i64 c.x.hi, .bool c.x.all, .int .i64 c.y.lo, .int .i64 c.y.hi, .bool c.y.all, .int .i64 c.z.lo, .int .i64 c.z.hi, .bool c.z.all], 34), (b2, #[.int .i64 u.x.lo, .int .i64 u.x.hi, .bool u.x.all, .int .i64 u.y.lo, .int .i64 u.y.hi, .bool u.y.all, .int .i64 u.z.lo, .int .i64 u.z.hi, .bool u.z.all], 34), (b1, #[.int .i64 v.x.lo, .int .i64 v.x.hi, .bool v.x.all, .int .i64 v.y.lo, .int .i64 v.y.hi, .bool v.y.all, .int .i64 v.z.lo, .int .i64 v.z.hi, .bool v.z.all], 34)] rfl rfl rfl rfl sz34 hJ14 rfl rfl (Nat.le_of_ble_eq_true (by kernel_rfl)) (by kernel_rfl) (by kernel_rfl) (by kernel_rfl) (fun W15 hJ15 => ?_))
 clear hJ14
 unfold Stop
 try simp only [Act.put, List.setIfInBounds_toArray, List.set_cons_succ, List.set_cons_zero]
 go_wp2
 obtain ⟨m7_15, hm⟩ : ∃ m, m = W15.heap.size := ⟨_, rfl⟩
 have hM : ∀ uu, Jz w m7_15 [(b5, #[.int .i64 c.x.lo, .int .i64 c.x.hi, .bool c.x.all, .int .i64 c.y.lo, .int .i64 c.y.hi, .bool c.y.all, .int .i64 c.z.lo, .int .i64 c.z.hi, .bool c.z.all], 34), (b4, #[.int .i64 z.x.lo, .int .i64 z.x.hi, .bool z.x.all, .int .i64 z.y.lo, .int .i64 z.y.hi, .bool z.y.all, .int .i64 z.z.lo, .int .i64 z.z.hi, .bool z.z.all], 34), (b3, #[.int .i64 c.x.lo, .int .i64 c.x.hi, .bool c.x.all, .int .i64 c.y.lo, .int .i64 c.y.hi, .bool c.y.all, .int .i64 c.z.lo, .int .i64 c.z.hi, .bool c.z.all], 34), (b2, #[.int .i64 u.x.lo, .int .i64 u.x.hi, .bool u.x.all, .int .i64 u.y.lo, .int .i64 u.y.hi, .bool u.y.all, .int .i64 u.z.lo, .int .i64 u.z.hi, .bool u.z.all], 34), (b1, #[.int .i64 v.x.lo, .int .i64 v.x.hi, .bool v.x.all, .int .i64 v.y.lo, .int .i64 v.y.hi, .bool v.y.all, .int .i64 v.z.lo, .int .i64 v.z.hi, .bool v.z.all], 34)] [(16, 3, 23)] [(17, 16, #[.int .i64 me.lo, .int .i64 me.hi, .bool me.all], 23)] (fun _ => false) uu W15.drew := fun uu => by rw [hm]; exact Jz.start hJ15 uu
 clear hm hJ15
 refine wp_region_y 19 [some 32, some 33, some 34, some 35, some 36, some 37, some 38, some 39, some 40, some 41, some 42, some 43, some 44, some 31, some 45, some 46, some 11, none, some 12] (veL m7_15 [.eq (.agg #[.int .i64 v.x.lo, .int .i64 v.x.hi, .bool v.x.all, .int .i64 v.y.lo, .int .i64 v.y.hi, .bool v.y.all, .int .i64 v.z.lo, .int .i64 v.z.hi, .bool v.z.all]), .eq (.agg #[.int .i64 m.lo, .int .i64 m.hi, .bool m.all]), .eq (.agg #[.int .i64 u.x.lo, .int .i64 u.x.hi, .bool u.x.all, .int .i64 u.y.lo, .int .i64 u.y.hi, .bool u.y.all, .int .i64 u.z.lo, .int .i64 u.z.hi, .bool u.z.all]), .eq (.agg #[.int .i64 n.lo, .int .i64 n.hi, .bool n.all]), .eq (.agg #[.int .i64 mn.lo, .int .i64 mn.hi, .bool mn.all]), .eq (.agg #[.int .i64 v.x.lo, .int .i64 v.x.hi, .bool v.x.all, .int .i64 v.y.lo, .int .i64 v.y.hi, .bool v.y.all, .int .i64 v.z.lo, .int .i64 v.z.hi, .bool v.z.all]), .eq (.agg #[.int .i64 u.x.lo, .int .i64 u.x.hi, .bool u.x.all, .int .i64 u.y.lo, .int .i64 u.y.hi, .bool u.y.all, .int .i64 u.z.lo, .int .i64 u.z.hi, .bool u.z.all]), .eq (.agg #[.int .i64 d.lo, .int .i64 d.hi, .bool d.all]), .eq (.agg #[.int .i64 dd.lo, .int .i64 dd.hi, .bool dd.all]), .eq (.agg #[.int .i64 c.x.lo, .int .i64 c.x.hi, .bool c.x.all, .int .i64 c.y.lo, .int .i64 c.y.hi, .bool c.y.all, .int .i64 c.z.lo, .int .i64 c.z.hi, .bool c.z.all]), .eq (.agg #[.int .i64 nc.lo, .int .i64 nc.hi, .bool nc.all]), .eq (.agg #[.int .i64 sm.lo, .int .i64 sm.hi, .bool sm.all]), .eq (.tuple #[.agg #[.int .i64 me.lo, .int .i64 me.hi, .bool me.all], .bool true]), .eq (.tuple #[.agg #[.int .i64 me.lo, .int .i64 me.hi, .bool me.all], .bool true]), .eq (.agg #[.int .i64 me.lo, .int .i64 me.hi, .bool me.all]), .eq (.bool true), .any, .any, .eq (.bool true)]) (Jz w m7_15 [(b5, #[.int .i64 c.x.lo, .int .i64 c.x.hi, .bool c.x.all, .int .i64 c.y.lo, .int .i64 c.y.hi, .bool c.y.all, .int .i64 c.z.lo, .int .i64 c.z.hi, .bool c.z.all], 34), (b4, #[.int .i64 z.x.lo, .int .i64 z.x.hi, .bool z.x.all, .int .i64 z.y.lo, .int .i64 z.y.hi, .bool z.y.all, .int .i64 z.z.lo, .int .i64 z.z.hi, .bool z.z.all], 34), (b3, #[.int .i64 c.x.lo, .int .i64 c.x.hi, .bool c.x.all, .int .i64 c.y.lo, .int .i64 c.y.hi, .bool c.y.all, .int .i64 c.z.lo, .int .i64 c.z.hi, .bool c.z.all], 34), (b2, #[.int .i64 u.x.lo, .int .i64 u.x.hi, .bool u.x.all, .int .i64 u.y.lo, .int .i64 u.y.hi, .bool u.y.all, .int .i64 u.z.lo, .int .i64 u.z.hi, .bool u.z.all], 34), (b1, #[.int .i64 v.x.lo, .int .i64 v.x.hi, .bool v.x.all, .int .i64 v.y.lo, .int .i64 v.y.hi, .bool v.y.all, .int .i64 v.z.lo, .int .i64 v.z.hi, .bool v.z.all], 34)] [(16, 3, 23)] [(17, 16, #[.int .i64 me.lo, .int .i64 me.hi, .bool me.all], 23)]) (by kernel_rfl) (by kernel_rfl) (by rfl) (by decide) (by rfl) hM ?_ ?_
 ·
  intro i hl hi LL uu ww aa hLi hJ hd hev hin
  clear hM
  obtain rfl | rfl | rfl | rfl | rfl | rfl | rfl | rfl | rfl | rfl | rfl | rfl | rfl | rfl | rfl | rfl | rfl | rfl | rfl : i = 0 ∨ i = 1 ∨ i = 2 ∨ i = 3 ∨ i = 4 ∨ i = 5 ∨ i = 6 ∨ i = 7 ∨ i = 8 ∨ i = 9 ∨ i = 10 ∨ i = 11 ∨ i = 12 ∨ i = 13 ∨ i = 14 ∨ i = 15 ∨ i = 16 ∨ i = 17 ∨ i = 18 := by omega
  ·
   have x2 : aa.tmps[2]? = some (.pointer (some ⟨b1, 0, none⟩)) := (hev 2 (by decide)).trans rfl
   clear hd hev hin
   simp only [List.getElem_cons_succ, List.getElem_cons_zero]
   clear hl
   refine .inr ⟨rfl, fun K' hK => ?_⟩
   have HK := Lib.hid hK
   clear hK
   have f0 : ww.cell? ⟨b1, 0, none⟩ = some (.int .i64 v.x.lo) := hJ.em.es.cell 4 rfl 0 rfl
   have f1 : ww.cell? ⟨b1, 1, none⟩ = some (.int .i64 v.x.hi) := hJ.em.es.cell 4 rfl 1 rfl
   have f2 : ww.cell? ⟨b1, 2, none⟩ = some (.bool v.x.all) := hJ.em.es.cell 4 rfl 2 rfl
   have f3 : ww.cell? ⟨b1, 3, none⟩ = some (.int .i64 v.y.lo) := hJ.em.es.cell 4 rfl 3 rfl
   have f4 : ww.cell? ⟨b1, 4, none⟩ = some (.int .i64 v.y.hi) := hJ.em.es.cell 4 rfl 4 rfl
   have f5 : ww.cell? ⟨b1, 5, none⟩ = some (.bool v.y.all) := hJ.em.es.cell 4 rfl 5 rfl
   have f6 : ww.cell? ⟨b1, 6, none⟩ = some (.int .i64 v.z.lo) := hJ.em.es.cell 4 rfl 6 rfl
   have f7 : ww.cell? ⟨b1, 7, none⟩ = some (.int .i64 v.z.hi) := hJ.em.es.cell 4 rfl 7 rfl
   have f8 : ww.cell? ⟨b1, 8, none⟩ = some (.bool v.z.all) := hJ.em.es.cell 4 rfl 8 rfl
   go_simp
   exact HK.out (.agg #[.int .i64 v.x.lo, .int .i64 v.x.hi, .bool v.x.all, .int .i64 v.y.lo, .int .i64 v.y.hi, .bool v.y.all, .int .i64 v.z.lo, .int .i64 v.z.hi, .bool v.z.all]) _ (hJ.grow hLi (by simp) (by simp) (Below.refl _ _)) rfl veL_same
  ·
   have x32 : aa.tmps[32]? = some (.agg #[.int .i64 v.x.lo, .int .i64 v.x.hi, .bool v.x.all, .int .i64 v.y.lo, .int .i64 v.y.hi, .bool v.y.all, .int .i64 v.z.lo, .int .i64 v.z.hi, .bool v.z.all]) := (hin 0 32 rfl).trans (congrArg some (show uu 0 = .agg #[.int .i64 v.x.lo, .int .i64 v.x.hi, .bool v.x.all, .int .i64 v.y.lo, .int .i64 v.y.hi, .bool v.y.all, .int .i64 v.z.lo, .int .i64 v.z.hi, .bool v.z.all] from (hd 0 (by decide) (by kernel_rfl)).2))
   clear hd hev hin
   simp only [List.getElem_cons_succ, List.getElem_cons_zero]
   clear hl
   refine .inr ⟨rfl, fun K' hK => ?_⟩
   have HK := Lib.hid hK
   clear hK
   go_simp
   refine (Hn1.out ww).mono ?_
   rintro e W' ⟨rfl, hB⟩
   exact HK.out (.agg #[.int .i64 m.lo, .int .i64 m.hi, .bool m.all]) _ (hJ.grow hLi (by simp) (by simp) hB) rfl (veL_flat rfl)
  ·
   have x3 : aa.tmps[3]? = some (.pointer (some ⟨b2, 0, none⟩)) := (hev 3 (by decide)).trans rfl
   clear hd hev hin
   simp only [List.getElem_cons_succ, List.getElem_cons_zero]
   clear hl
   refine .inr ⟨rfl, fun K' hK => ?_⟩
   have HK := Lib.hid hK
   clear hK
   have f0 : ww.cell? ⟨b2, 0, none⟩ = some (.int .i64 u.x.lo) := hJ.em.es.cell 3 rfl 0 rfl
   have f1 : ww.cell? ⟨b2, 1, none⟩ = some (.int .i64 u.x.hi) := hJ.em.es.cell 3 rfl 1 rfl
   have f2 : ww.cell? ⟨b2, 2, none⟩ = some (.bool u.x.all) := hJ.em.es.cell 3 rfl 2 rfl
   have f3 : ww.cell? ⟨b2, 3, none⟩ = some (.int .i64 u.y.lo) := hJ.em.es.cell 3 rfl 3 rfl
   have f4 : ww.cell? ⟨b2, 4, none⟩ = some (.int .i64 u.y.hi) := hJ.em.es.cell 3 rfl 4 rfl
   have f5 : ww.cell? ⟨b2, 5, none⟩ = some (.bool u.y.all) := hJ.em.es.cell 3 rfl 5 rfl
   have f6 : ww.cell? ⟨b2, 6, none⟩ = some (.int .i64 u.z.lo) := hJ.em.es.cell 3 rfl 6 rfl
   have f7 : ww.cell? ⟨b2, 7, none⟩ = some (.int .i64 u.z.hi) := hJ.em.es.cell 3 rfl 7 rfl
   have f8 : ww.cell? ⟨b2, 8, none⟩ = some (.bool u.z.all) := hJ.em.es.cell 3 rfl 8 rfl
   go_simp
   exact HK.out (.agg #[.int .i64 u.x.lo, .int .i64 u.x.hi, .bool u.x.all, .int .i64 u.y.lo, .int .i64 u.y.hi, .bool u.y.all, .int .i64 u.z.lo, .int .i64 u.z.hi, .bool u.z.all]) _ (hJ.grow hLi (by simp) (by simp) (Below.refl _ _)) rfl veL_same
  ·
   have x34 : aa.tmps[34]? = some (.agg #[.int .i64 u.x.lo, .int .i64 u.x.hi, .bool u.x.all, .int .i64 u.y.lo, .int .i64 u.y.hi, .bool u.y.all, .int .i64 u.z.lo, .int .i64 u.z.hi, .bool u.z.all]) := (hin 2 34 rfl).trans (congrArg some (show uu 2 = .agg #[.int .i64 u.x.lo, .int .i64 u.x.hi, .bool u.x.all, .int .i64 u.y.lo, .int .i64 u.y.hi, .bool u.y.all, .int .i64 u.z.lo, .int .i64 u.z.hi, .bool u.z.all] from (hd 2 (by decide) (by kernel_rfl)).2))
   clear hd hev hin
   simp only [List.getElem_cons_succ, List.getElem_cons_zero]
   clear hl
   refine .inr ⟨rfl, fun K' hK => ?_⟩
   have HK := Lib.hid hK
   clear hK
   go_simp
   refine (Hn2.out ww).mono ?_
   rintro e W' ⟨rfl, hB⟩
   exact HK.out (.agg #[.int .i64 n.lo, .int .i64 n.hi, .bool n.all]) _ (hJ.grow hLi (by simp) (by simp) hB) rfl (veL_flat rfl)
  ·
   have x33 : aa.tmps[33]? = some (.agg #[.int .i64 m.lo, .int .i64 m.hi, .bool m.all]) := (hin 1 33 rfl).trans (congrArg some (show uu 1 = .agg #[.int .i64 m.lo, .int .i64 m.hi, .bool m.all] from (hd 1 (by decide) (by kernel_rfl)).2))
   have x35 : aa.tmps[35]? = some (.agg #[.int .i64 n.lo, .int .i64 n.hi, .bool n.all]) := (hin 3 35 rfl).trans (congrArg some (show uu 3 = .agg #[.int .i64 n.lo, .int .i64 n.hi, .bool n.all] from (hd 3 (by decide) (by kernel_rfl)).2))
   clear hd hev hin
   simp only [List.getElem_cons_succ, List.getElem_cons_zero]
   clear hl
   refine .inr ⟨rfl, fun K' hK => ?_⟩
   have HK := Lib.hid hK
   clear hK
   go_simp
   refine (Hmu.out ww).mono ?_
   rintro e W' ⟨rfl, hB⟩
   exact HK.out (.agg #[.int .i64 mn.lo, .int .i64 mn.hi, .bool mn.all]) _ (hJ.grow hLi (by simp) (by simp) hB) rfl (veL_flat rfl)
  ·
   have x2 : aa.tmps[2]? = some (.pointer (some ⟨b1, 0, none⟩)) := (hev 2 (by decide)).trans rfl
   clear hd hev hin
   simp only [List.getElem_cons_succ, List.getElem_cons_zero]
   clear hl
   refine .inr ⟨rfl, fun K' hK => ?_⟩
   have HK := Lib.hid hK
   clear hK
   have f0 : ww.cell? ⟨b1, 0, none⟩ = some (.int .i64 v.x.lo) := hJ.em.es.cell 4 rfl 0 rfl
   have f1 : ww.cell? ⟨b1, 1, none⟩ = some (.int .i64 v.x.hi) := hJ.em.es.cell 4 rfl 1 rfl
   have f2 : ww.cell? ⟨b1, 2, none⟩ = some (.bool v.x.all) := hJ.em.es.cell 4 rfl 2 rfl
   have f3 : ww.cell? ⟨b1, 3, none⟩ = some (.int .i64 v.y.lo) := hJ.em.es.cell 4 rfl 3 rfl
   have f4 : ww.cell? ⟨b1, 4, none⟩ = some (.int .i64 v.y.hi) := hJ.em.es.cell 4 rfl 4 rfl
   have f5 : ww.cell? ⟨b1, 5, none⟩ = some (.bool v.y.all) := hJ.em.es.cell 4 rfl 5 rfl
   have f6 : ww.cell? ⟨b1, 6, none⟩ = some (.int .i64 v.z.lo) := hJ.em.es.cell 4 rfl 6 rfl
   have f7 : ww.cell? ⟨b1, 7, none⟩ = some (.int .i64 v.z.hi) := hJ.em.es.cell 4 rfl 7 rfl
   have f8 : ww.cell? ⟨b1, 8, none⟩ = some (.bool v.z.all) := hJ.em.es.cell 4 rfl 8 rfl
   go_simp
   exact HK.out (.agg #[.int .i64 v.x.lo, .int .i64 v.x.hi, .bool v.x.all, .int .i64 v.y.lo, .int .i64 v.y.hi, .bool v.y.all, .int .i64 v.z.lo, .int .i64 v.z.hi, .bool v.z.all]) _ (hJ.grow hLi (by simp) (by simp) (Below.refl _ _)) rfl veL_same
  ·
   have x3 : aa.tmps[3]? = some (.pointer (some ⟨b2, 0, none⟩)) := (hev 3 (by decide)).trans rfl
   clear hd hev hin
   simp only [List.getElem_cons_succ, List.getElem_cons_zero]
   clear hl
   refine .inr ⟨rfl, fun K' hK => ?_⟩
   have HK := Lib.hid hK
   clear hK
   have f0 : ww.cell? ⟨b2, 0, none⟩ = some (.int .i64 u.x.lo) := hJ.em.es.cell 3 rfl 0 rfl
   have f1 : ww.cell? ⟨b2, 1, none⟩ = some (.int .i64 u.x.hi) := hJ.em.es.cell 3 rfl 1 rfl
   have f2 : ww.cell? ⟨b2, 2, none⟩ = some (.bool u.x.all) := hJ.em.es.cell 3 rfl 2 rfl
   have f3 : ww.cell? ⟨b2, 3, none⟩ = some (.int .i64 u.y.lo) := hJ.em.es.cell 3 rfl 3 rfl
   have f4 : ww.cell? ⟨b2, 4, none⟩ = some (.int .i64 u.y.hi) := hJ.em.es.cell 3 rfl 4 rfl
   have f5 : ww.cell? ⟨b2, 5, none⟩ = some (.bool u.y.all) := hJ.em.es.cell 3 rfl 5 rfl
   have f6 : ww.cell? ⟨b2, 6, none⟩ = some (.int .i64 u.z.lo) := hJ.em.es.cell 3 rfl 6 rfl
   have f7 : ww.cell? ⟨b2, 7, none⟩ = some (.int .i64 u.z.hi) := hJ.em.es.cell 3 rfl 7 rfl
   have f8 : ww.cell? ⟨b2, 8, none⟩ = some (.bool u.z.all) := hJ.em.es.cell 3 rfl 8 rfl
   go_simp
   exact HK.out (.agg #[.int .i64 u.x.lo, .int .i64 u.x.hi, .bool u.x.all, .int .i64 u.y.lo, .int .i64 u.y.hi, .bool u.y.all, .int .i64 u.z.lo, .int .i64 u.z.hi, .bool u.z.all]) _ (hJ.grow hLi (by simp) (by simp) (Below.refl _ _)) rfl veL_same
  ·
   have x37 : aa.tmps[37]? = some (.agg #[.int .i64 v.x.lo, .int .i64 v.x.hi, .bool v.x.all, .int .i64 v.y.lo, .int .i64 v.y.hi, .bool v.y.all, .int .i64 v.z.lo, .int .i64 v.z.hi, .bool v.z.all]) := (hin 5 37 rfl).trans (congrArg some (show uu 5 = .agg #[.int .i64 v.x.lo, .int .i64 v.x.hi, .bool v.x.all, .int .i64 v.y.lo, .int .i64 v.y.hi, .bool v.y.all, .int .i64 v.z.lo, .int .i64 v.z.hi, .bool v.z.all] from (hd 5 (by decide) (by kernel_rfl)).2))
   have x38 : aa.tmps[38]? = some (.agg #[.int .i64 u.x.lo, .int .i64 u.x.hi, .bool u.x.all, .int .i64 u.y.lo, .int .i64 u.y.hi, .bool u.y.all, .int .i64 u.z.lo, .int .i64 u.z.hi, .bool u.z.all]) := (hin 6 38 rfl).trans (congrArg some (show uu 6 = .agg #[.int .i64 u.x.lo, .int .i64 u.x.hi, .bool u.x.all, .int .i64 u.y.lo, .int .i64 u.y.hi, .bool u.y.all, .int .i64 u.z.lo, .int .i64 u.z.hi, .bool u.z.all] from (hd 6 (by decide) (by kernel_rfl)).2))
   clear hd hev hin
   simp only [List.getElem_cons_succ, List.getElem_cons_zero]
   clear hl
   refine .inr ⟨rfl, fun K' hK => ?_⟩
   have HK := Lib.hid hK
   clear hK
   go_simp
   refine (Hd3.out ww).mono ?_
   rintro e W' ⟨rfl, hB⟩
   exact HK.out (.agg #[.int .i64 d.lo, .int .i64 d.hi, .bool d.all]) _ (hJ.grow hLi (by simp) (by simp) hB) rfl (veL_flat rfl)
  ·
   have x39 : aa.tmps[39]? = some (.agg #[.int .i64 d.lo, .int .i64 d.hi, .bool d.all]) := (hin 7 39 rfl).trans (congrArg some (show uu 7 = .agg #[.int .i64 d.lo, .int .i64 d.hi, .bool d.all] from (hd 7 (by decide) (by kernel_rfl)).2))
   clear hd hev hin
   simp only [List.getElem_cons_succ, List.getElem_cons_zero]
   clear hl
   refine .inr ⟨rfl, fun K' hK => ?_⟩
   have HK := Lib.hid hK
   clear hK
   go_simp
   refine (Hsq.out ww).mono ?_
   rintro e W' ⟨rfl, hB⟩
   exact HK.out (.agg #[.int .i64 dd.lo, .int .i64 dd.hi, .bool dd.all]) _ (hJ.grow hLi (by simp) (by simp) hB) rfl (veL_flat rfl)
  ·
   have x6 : aa.tmps[6]? = some (.pointer (some ⟨b3, 0, none⟩)) := (hev 6 (by decide)).trans rfl
   clear hd hev hin
   simp only [List.getElem_cons_succ, List.getElem_cons_zero]
   clear hl
   refine .inr ⟨rfl, fun K' hK => ?_⟩
   have HK := Lib.hid hK
   clear hK
   have f0 : ww.cell? ⟨b3, 0, none⟩ = some (.int .i64 c.x.lo) := hJ.em.es.cell 2 rfl 0 rfl
   have f1 : ww.cell? ⟨b3, 1, none⟩ = some (.int .i64 c.x.hi) := hJ.em.es.cell 2 rfl 1 rfl
   have f2 : ww.cell? ⟨b3, 2, none⟩ = some (.bool c.x.all) := hJ.em.es.cell 2 rfl 2 rfl
   have f3 : ww.cell? ⟨b3, 3, none⟩ = some (.int .i64 c.y.lo) := hJ.em.es.cell 2 rfl 3 rfl
   have f4 : ww.cell? ⟨b3, 4, none⟩ = some (.int .i64 c.y.hi) := hJ.em.es.cell 2 rfl 4 rfl
   have f5 : ww.cell? ⟨b3, 5, none⟩ = some (.bool c.y.all) := hJ.em.es.cell 2 rfl 5 rfl
   have f6 : ww.cell? ⟨b3, 6, none⟩ = some (.int .i64 c.z.lo) := hJ.em.es.cell 2 rfl 6 rfl
   have f7 : ww.cell? ⟨b3, 7, none⟩ = some (.int .i64 c.z.hi) := hJ.em.es.cell 2 rfl 7 rfl
   have f8 : ww.cell? ⟨b3, 8, none⟩ = some (.bool c.z.all) := hJ.em.es.cell 2 rfl 8 rfl
   go_simp
   exact HK.out (.agg #[.int .i64 c.x.lo, .int .i64 c.x.hi, .bool c.x.all, .int .i64 c.y.lo, .int .i64 c.y.hi, .bool c.y.all, .int .i64 c.z.lo, .int .i64 c.z.hi, .bool c.z.all]) _ (hJ.grow hLi (by simp) (by simp) (Below.refl _ _)) rfl veL_same
  ·
   have x41 : aa.tmps[41]? = some (.agg #[.int .i64 c.x.lo, .int .i64 c.x.hi, .bool c.x.all, .int .i64 c.y.lo, .int .i64 c.y.hi, .bool c.y.all, .int .i64 c.z.lo, .int .i64 c.z.hi, .bool c.z.all]) := (hin 9 41 rfl).trans (congrArg some (show uu 9 = .agg #[.int .i64 c.x.lo, .int .i64 c.x.hi, .bool c.x.all, .int .i64 c.y.lo, .int .i64 c.y.hi, .bool c.y.all, .int .i64 c.z.lo, .int .i64 c.z.hi, .bool c.z.all] from (hd 9 (by decide) (by kernel_rfl)).2))
   clear hd hev hin
   simp only [List.getElem_cons_succ, List.getElem_cons_zero]
   clear hl
   refine .inr ⟨rfl, fun K' hK => ?_⟩
   have HK := Lib.hid hK
   clear hK
   go_simp
   refine (Hn3.out ww).mono ?_
   rintro e W' ⟨rfl, hB⟩
   exact HK.out (.agg #[.int .i64 nc.lo, .int .i64 nc.hi, .bool nc.all]) _ (hJ.grow hLi (by simp) (by simp) hB) rfl (veL_flat rfl)
  ·
   have x40 : aa.tmps[40]? = some (.agg #[.int .i64 dd.lo, .int .i64 dd.hi, .bool dd.all]) := (hin 8 40 rfl).trans (congrArg some (show uu 8 = .agg #[.int .i64 dd.lo, .int .i64 dd.hi, .bool dd.all] from (hd 8 (by decide) (by kernel_rfl)).2))
   have x42 : aa.tmps[42]? = some (.agg #[.int .i64 nc.lo, .int .i64 nc.hi, .bool nc.all]) := (hin 10 42 rfl).trans (congrArg some (show uu 10 = .agg #[.int .i64 nc.lo, .int .i64 nc.hi, .bool nc.all] from (hd 10 (by decide) (by kernel_rfl)).2))
   clear hd hev hin
   simp only [List.getElem_cons_succ, List.getElem_cons_zero]
   clear hl
   refine .inr ⟨rfl, fun K' hK => ?_⟩
   have HK := Lib.hid hK
   clear hK
   go_simp
   refine (Had.out ww).mono ?_
   rintro e W' ⟨rfl, hB⟩
   exact HK.out (.agg #[.int .i64 sm.lo, .int .i64 sm.hi, .bool sm.all]) _ (hJ.grow hLi (by simp) (by simp) hB) rfl (veL_flat rfl)
  ·
   have x36 : aa.tmps[36]? = some (.agg #[.int .i64 mn.lo, .int .i64 mn.hi, .bool mn.all]) := (hin 4 36 rfl).trans (congrArg some (show uu 4 = .agg #[.int .i64 mn.lo, .int .i64 mn.hi, .bool mn.all] from (hd 4 (by decide) (by kernel_rfl)).2))
   have x43 : aa.tmps[43]? = some (.agg #[.int .i64 sm.lo, .int .i64 sm.hi, .bool sm.all]) := (hin 11 43 rfl).trans (congrArg some (show uu 11 = .agg #[.int .i64 sm.lo, .int .i64 sm.hi, .bool sm.all] from (hd 11 (by decide) (by kernel_rfl)).2))
   clear hd hev hin
   simp only [List.getElem_cons_succ, List.getElem_cons_zero]
   clear hl
   refine .inr ⟨rfl, fun K' hK => ?_⟩
   have HK := Lib.hid hK
   clear hK
   go_simp
   refine (Hme.out ww).mono ?_
   rintro e W' ⟨rfl, hB⟩
   exact HK.out (.tuple #[.agg #[.int .i64 me.lo, .int .i64 me.hi, .bool me.all], .bool true]) _ (hJ.grow hLi (by simp) (by simp) hB) rfl (veL_flat rfl)
  ·
   have x44 : aa.tmps[44]? = some (.tuple #[.agg #[.int .i64 me.lo, .int .i64 me.hi, .bool me.all], .bool true]) := (hin 12 44 rfl).trans (congrArg some (show uu 12 = .tuple #[.agg #[.int .i64 me.lo, .int .i64 me.hi, .bool me.all], .bool true] from (hd 12 (by decide) (by kernel_rfl)).2))
   clear hd hev hin
   simp only [List.getElem_cons_succ, List.getElem_cons_zero]
   clear hl
   refine .inr ⟨rfl, fun K' hK => ?_⟩
   have HK := Lib.hid hK
   clear hK
   go_simp
   exact HK.out (.tuple #[.agg #[.int .i64 me.lo, .int .i64 me.hi, .bool me.all], .bool true]) _ (hJ.grow hLi (by simp) (by simp) (Below.refl _ _)) rfl veL_same
  ·
   have x31 : aa.tmps[31]? = some (.tuple #[.agg #[.int .i64 me.lo, .int .i64 me.hi, .bool me.all], .bool true]) := (hin 13 31 rfl).trans (congrArg some (show uu 13 = .tuple #[.agg #[.int .i64 me.lo, .int .i64 me.hi, .bool me.all], .bool true] from (hd 13 (by decide) (by kernel_rfl)).2))
   clear hd hev hin
   simp only [List.getElem_cons_succ, List.getElem_cons_zero]
   clear hl
   refine .inr ⟨rfl, fun K' hK => ?_⟩
   have HK := Lib.hid hK
   clear hK
   go_simp
   exact HK.out (.agg #[.int .i64 me.lo, .int .i64 me.hi, .bool me.all]) _ (hJ.grow hLi (by simp) (by simp) (Below.refl _ _)) rfl veL_same
  ·
   have x31 : aa.tmps[31]? = some (.tuple #[.agg #[.int .i64 me.lo, .int .i64 me.hi, .bool me.all], .bool true]) := (hin 13 31 rfl).trans (congrArg some (show uu 13 = .tuple #[.agg #[.int .i64 me.lo, .int .i64 me.hi, .bool me.all], .bool true] from (hd 13 (by decide) (by kernel_rfl)).2))
   clear hd hev hin
   simp only [List.getElem_cons_succ, List.getElem_cons_zero]
   clear hl
   refine .inr ⟨rfl, fun K' hK => ?_⟩
   have HK := Lib.hid hK
   clear hK
   go_simp
   exact HK.out (.bool true) _ (hJ.grow hLi (by simp) (by simp) (Below.refl _ _)) rfl veL_same
  ·
   clear hd hev hin
   simp only [List.getElem_cons_succ, List.getElem_cons_zero]
   clear hl
   refine .inr ⟨rfl, fun K' hK => ?_⟩
   have HK := Lib.hid hK
   clear hK
   refine wp_alloc 23 rfl (.agg #[.int .i64 0, .int .i64 0, .bool false]) zv23 ?_
   exact HK.out _ _ (hJ.alloc hLi (n := 3) rfl (by simp) (by simp)) trivial (veL_flat rfl)
  ·
   have hLa := (hd 16 (by decide) (by kernel_rfl)).1
   obtain ⟨kb, kC, ke, kge, ksz, kcl⟩ := hJ.bx (16, 3, 23) (by simp) hLa
   have x11 : aa.tmps[11]? = some (.pointer (some ⟨kb, 0, none⟩)) := (hin 16 11 rfl).trans (congrArg some ke)
   have x45 : aa.tmps[45]? = some (.agg #[.int .i64 me.lo, .int .i64 me.hi, .bool me.all]) := (hin 14 45 rfl).trans (congrArg some (show uu 14 = .agg #[.int .i64 me.lo, .int .i64 me.hi, .bool me.all] from (hd 14 (by decide) (by kernel_rfl)).2))
   clear hd hev hin
   simp only [List.getElem_cons_succ, List.getElem_cons_zero]
   clear hl
   refine .inr ⟨rfl, fun K' hK => ?_⟩
   have HK := Lib.hid hK
   clear hK
   refine wp_store 23 (.tmp 11) (.tmp 45) rfl 0 kb 0 kC 23 3 [.int .i64 me.lo, .int .i64 me.hi, .bool me.all] (hJ.em.join kge kcl) rfl (eval_tmp x11) (by rw [eval_tmp x45]; rfl) sz23 rfl (by rw [ksz]; decide) (by kernel_rfl) (fun ww2 hE hk hz => ?_)
   rw [putC_full (show kC.size = ([.int .i64 me.lo, .int .i64 me.hi, .bool me.all] : List Value).length from ksz)] at hE
   exact HK.out undef _ (hJ.store (a := 16) (n := 3) (T := 23) (Cn := #[.int .i64 me.lo, .int .i64 me.hi, .bool me.all]) hLi (by simp) (by simp) (by simp) (by simp) (by simp) (by simp) hLa ke kge rfl hE hk hz) trivial (veL_flat rfl)
  ·
   have x46 : aa.tmps[46]? = some (.bool true) := (hin 15 46 rfl).trans (congrArg some (show uu 15 = .bool true from (hd 15 (by decide) (by kernel_rfl)).2))
   clear hd hev hin
   simp only [List.getElem_cons_succ, List.getElem_cons_zero]
   clear hl
   refine .inr ⟨rfl, fun K' hK => ?_⟩
   have HK := Lib.hid hK
   clear hK
   go_simp
   exact HK.out (.bool true) _ (hJ.grow hLi (by simp) (by simp) (Below.refl _ _)) rfl veL_same
 clear hM
 intro LL uu W16 hLL hJm hd
 have e_0 : uu 0 = .agg #[.int .i64 v.x.lo, .int .i64 v.x.hi, .bool v.x.all, .int .i64 v.y.lo, .int .i64 v.y.hi, .bool v.y.all, .int .i64 v.z.lo, .int .i64 v.z.hi, .bool v.z.all] := hd 0 (by decide)
 have e_1 : uu 1 = .agg #[.int .i64 m.lo, .int .i64 m.hi, .bool m.all] := hd 1 (by decide)
 have e_2 : uu 2 = .agg #[.int .i64 u.x.lo, .int .i64 u.x.hi, .bool u.x.all, .int .i64 u.y.lo, .int .i64 u.y.hi, .bool u.y.all, .int .i64 u.z.lo, .int .i64 u.z.hi, .bool u.z.all] := hd 2 (by decide)
 have e_3 : uu 3 = .agg #[.int .i64 n.lo, .int .i64 n.hi, .bool n.all] := hd 3 (by decide)
 have e_4 : uu 4 = .agg #[.int .i64 mn.lo, .int .i64 mn.hi, .bool mn.all] := hd 4 (by decide)
 have e_5 : uu 5 = .agg #[.int .i64 v.x.lo, .int .i64 v.x.hi, .bool v.x.all, .int .i64 v.y.lo, .int .i64 v.y.hi, .bool v.y.all, .int .i64 v.z.lo, .int .i64 v.z.hi, .bool v.z.all] := hd 5 (by decide)
 have e_6 : uu 6 = .agg #[.int .i64 u.x.lo, .int .i64 u.x.hi, .bool u.x.all, .int .i64 u.y.lo, .int .i64 u.y.hi, .bool u.y.all, .int .i64 u.z.lo, .int .i64 u.z.hi, .bool u.z.all] := hd 6 (by decide)
 have e_7 : uu 7 = .agg #[.int .i64 d.lo, .int .i64 d.hi, .bool d.all] := hd 7 (by decide)
 have e_8 : uu 8 = .agg #[.int .i64 dd.lo, .int .i64 dd.hi, .bool dd.all] := hd 8 (by decide)
 have e_9 : uu 9 = .agg #[.int .i64 c.x.lo, .int .i64 c.x.hi, .bool c.x.all, .int .i64 c.y.lo, .int .i64 c.y.hi, .bool c.y.all, .int .i64 c.z.lo, .int .i64 c.z.hi, .bool c.z.all] := hd 9 (by decide)
 have e_10 : uu 10 = .agg #[.int .i64 nc.lo, .int .i64 nc.hi, .bool nc.all] := hd 10 (by decide)
 have e_11 : uu 11 = .agg #[.int .i64 sm.lo, .int .i64 sm.hi, .bool sm.all] := hd 11 (by decide)
 have e_12 : uu 12 = .tuple #[.agg #[.int .i64 me.lo, .int .i64 me.hi, .bool me.all], .bool true] := hd 12 (by decide)
 have e_13 : uu 13 = .tuple #[.agg #[.int .i64 me.lo, .int .i64 me.hi, .bool me.all], .bool true] := hd 13 (by decide)
 have e_14 : uu 14 = .agg #[.int .i64 me.lo, .int .i64 me.hi, .bool me.all] := hd 14 (by decide)
 have e_15 : uu 15 = .bool true := hd 15 (by decide)
 obtain ⟨b6, kC16, e_16, nge16, ksz16, nB16⟩ := hJm.bx (16, 3, 23) (by simp) (hLL 16 (by decide))
 have e_18 : uu 18 = .bool true := hd 18 (by decide)
 obtain ⟨_, kb17, ke17, kl17⟩ := hJm.st (17, 16, #[.int .i64 me.lo, .int .i64 me.hi, .bool me.all], 23) (by simp) (hLL 17 (by decide))
 have kq17 : kb17 = b6 := by
  have hq := ke17.symm.trans e_16
  injection hq with hq
  injection hq with hq
  injection hq with hq
 subst kq17
 clear ke17
 have g16 := hJm.em.join nge16 kl17
 clear hd hLL
 simp only [layS, Act.put, List.setIfInBounds_toArray, List.set_cons_succ, List.set_cons_zero, Nat.zero_add, Nat.reduceAdd, List.drop_succ_cons, List.drop_zero, List.drop_nil, e_0, e_1, e_2, e_3, e_4, e_5, e_6, e_7, e_8, e_9, e_10, e_11, e_12, e_13, e_14, e_15, e_16, e_18]
 have hJ16 := g16
 clear hJm e_0 e_1 e_2 e_3 e_4 e_5 e_6 e_7 e_8 e_9 e_10 e_11 e_12 e_13 e_14 e_15 e_16 e_18 nge16 nB16 ksz16 g16
 have f0 : W16.cell? ⟨b5, 0, none⟩ = some (.int .i64 c.x.lo) := hJ16.cell 1 rfl 0 rfl
 have f1 : W16.cell? ⟨b5, 1, none⟩ = some (.int .i64 c.x.hi) := hJ16.cell 1 rfl 1 rfl
 have f2 : W16.cell? ⟨b5, 2, none⟩ = some (.bool c.x.all) := hJ16.cell 1 rfl 2 rfl
 have f3 : W16.cell? ⟨b5, 3, none⟩ = some (.int .i64 c.y.lo) := hJ16.cell 1 rfl 3 rfl
 have f4 : W16.cell? ⟨b5, 4, none⟩ = some (.int .i64 c.y.hi) := hJ16.cell 1 rfl 4 rfl
 have f5 : W16.cell? ⟨b5, 5, none⟩ = some (.bool c.y.all) := hJ16.cell 1 rfl 5 rfl
 have f6 : W16.cell? ⟨b5, 6, none⟩ = some (.int .i64 c.z.lo) := hJ16.cell 1 rfl 6 rfl
 have f7 : W16.cell? ⟨b5, 7, none⟩ = some (.int .i64 c.z.hi) := hJ16.cell 1 rfl 7 rfl
 have f8 : W16.cell? ⟨b5, 8, none⟩ = some (.bool c.z.all) := hJ16.cell 1 rfl 8 rfl
 have f9 : W16.cell? ⟨b3, 0, none⟩ = some (.int .i64 c.x.lo) := hJ16.cell 3 rfl 0 rfl
 have f10 : W16.cell? ⟨b3, 1, none⟩ = some (.int .i64 c.x.hi) := hJ16.cell 3 rfl 1 rfl
 have f11 : W16.cell? ⟨b3, 2, none⟩ = some (.bool c.x.all) := hJ16.cell 3 rfl 2 rfl
 have f12 : W16.cell? ⟨b3, 3, none⟩ = some (.int .i64 c.y.lo) := hJ16.cell 3 rfl 3 rfl
 have f13 : W16.cell? ⟨b3, 4, none⟩ = some (.int .i64 c.y.hi) := hJ16.cell 3 rfl 4 rfl
 have f14 : W16.cell? ⟨b3, 5, none⟩ = some (.bool c.y.all) := hJ16.cell 3 rfl 5 rfl
 have f15 : W16.cell? ⟨b3, 6, none⟩ = some (.int .i64 c.z.lo) := hJ16.cell 3 rfl 6 rfl
 have f16 : W16.cell? ⟨b3, 7, none⟩ = some (.int .i64 c.z.hi) := hJ16.cell 3 rfl 7 rfl
 have f17 : W16.cell? ⟨b3, 8, none⟩ = some (.bool c.z.all) := hJ16.cell 3 rfl 8 rfl
 go_wp2
 go_ret
 exact ⟨rfl, hJ16.below⟩
theorem VecTurns_any (v u : Vc) (w : World) : Calls Try.prog 10 #[.agg #[.int .i64 v.x.lo, .int .i64 v.x.hi, .bool v.x.all, .int .i64 v.y.lo, .int .i64 v.y.hi, .bool v.y.all, .int .i64 v.z.lo, .int .i64 v.z.hi, .bool v.z.all], .agg #[.int .i64 u.x.lo, .int .i64 u.x.hi, .bool u.x.all, .int .i64 u.y.lo, .int .i64 u.y.hi, .bool u.y.all, .int .i64 u.z.lo, .int .i64 u.z.hi, .bool u.z.all]] w (PVal (.bool true) w) := by
 have h1 := Has_any (dotV v (crossV v u)) 0
 rw [turns_x] at h1
 have h2 := Has_any (dotV u (crossV v u)) 0
 rw [turns_y] at h2
 have h3 := vSub_any (ofV 0 0 0) (crossV u v)
 rw [show ofV 0 0 0 = ⟨⟨0, 0, false⟩, ⟨0, 0, false⟩, ⟨0, 0, false⟩⟩ from by kernel_rfl, turns_d] at h3
 have h4 := Meet_any (mulS (normV v) (normV u)) (addS (sqrS (dotV v u)) (normV (crossV v u)))
 rw [turns_m] at h4
 exact Turns_w v u (crossV v u) ⟨⟨0, 0, false⟩, ⟨0, 0, false⟩, ⟨0, 0, false⟩⟩ (crossV u v) _ _ _ _ _ _ _ _ _ _ vawake_any (vCross_any v u) (vDot_any _ _) h1 (vDot_any _ _) h2 (vOf_any 0 0 0) (vCross_any u v) h3 (vNorm_any v) (vNorm_any u) (sMul_any _ _) (vDot_any v u) (sSqr_any _) (vNorm_any _) (sAdd_any _ _) h4 w
end Go.Proofs.Ytpahkpcoinbgcaa

/- How a span that comes in reads, for the rows of package span's laws. -/
namespace Go.Proofs.Ytpahkpcoinbgcaa
open Go.Joins Go.ChangeShapes Go.WideShapes Go.RowKit Go.Deep
/-- A span, as it reads. -/
def spD {H : Type} (x : Sp) : DataW H := .agg [.lit (.int .i64 x.lo), .lit (.int .i64 x.hi), .lit (.bool x.all)]
section
variable {H : Type} {enc : TypeId × Value → H} {w : World} {base : Nat} {spare : Nat → Bool} {held : Bool}
end
end Go.Proofs.Ytpahkpcoinbgcaa
