/- Parts of the proof. -/
import Derived.Test.YtpahkpcoinbgcabGp14
import Derived.Test.YtpahkpcoinbgcabGp2
import Derived.Lib.SmallJoins
import Derived.WalkKit
import Derived.ProofKit
import Derived.OpenShut
import Derived.Test.YtpahkpcoinbgcabGp9
/- The walk of the law VecPlain. -/
namespace Go.Proofs.Ytpahkpcoinbgcab
open Go Go.RowKit
attribute [local go_sem ↓] run_eqlSs run_eqlV run_eqlI
set_option maxRecDepth 100000 in
set_option maxHeartbeats 12800000 in
theorem Plain_w (v u a e s q : Vc) (c o : Sp) (hHaw : ∀ W : World, Calls Try.prog 4 #[] W (PVal (.bool true) W)) (hHa : ∀ W : World, Calls Try.prog 5 #[.agg #[.int .i64 v.x.lo, .int .i64 v.x.hi, .bool v.x.all, .int .i64 v.y.lo, .int .i64 v.y.hi, .bool v.y.all, .int .i64 v.z.lo, .int .i64 v.z.hi, .bool v.z.all], .agg #[.int .i64 u.x.lo, .int .i64 u.x.hi, .bool u.x.all, .int .i64 u.y.lo, .int .i64 u.y.hi, .bool u.y.all, .int .i64 u.z.lo, .int .i64 u.z.hi, .bool u.z.all]] W (PVal (.agg #[.int .i64 a.x.lo, .int .i64 a.x.hi, .bool a.x.all, .int .i64 a.y.lo, .int .i64 a.y.hi, .bool a.y.all, .int .i64 a.z.lo, .int .i64 a.z.hi, .bool a.z.all]) W)) (hHb : ∀ W : World, Calls Try.prog 5 #[.agg #[.int .i64 u.x.lo, .int .i64 u.x.hi, .bool u.x.all, .int .i64 u.y.lo, .int .i64 u.y.hi, .bool u.y.all, .int .i64 u.z.lo, .int .i64 u.z.hi, .bool u.z.all], .agg #[.int .i64 v.x.lo, .int .i64 v.x.hi, .bool v.x.all, .int .i64 v.y.lo, .int .i64 v.y.hi, .bool v.y.all, .int .i64 v.z.lo, .int .i64 v.z.hi, .bool v.z.all]] W (PVal (.agg #[.int .i64 a.x.lo, .int .i64 a.x.hi, .bool a.x.all, .int .i64 a.y.lo, .int .i64 a.y.hi, .bool a.y.all, .int .i64 a.z.lo, .int .i64 a.z.hi, .bool a.z.all]) W)) (hHc : ∀ W : World, Calls Try.prog 6 #[.agg #[.int .i64 v.x.lo, .int .i64 v.x.hi, .bool v.x.all, .int .i64 v.y.lo, .int .i64 v.y.hi, .bool v.y.all, .int .i64 v.z.lo, .int .i64 v.z.hi, .bool v.z.all], .agg #[.int .i64 u.x.lo, .int .i64 u.x.hi, .bool u.x.all, .int .i64 u.y.lo, .int .i64 u.y.hi, .bool u.y.all, .int .i64 u.z.lo, .int .i64 u.z.hi, .bool u.z.all]] W (PVal (.agg #[.int .i64 c.lo, .int .i64 c.hi, .bool c.all]) W)) (hHd9 : ∀ W : World, Calls Try.prog 6 #[.agg #[.int .i64 u.x.lo, .int .i64 u.x.hi, .bool u.x.all, .int .i64 u.y.lo, .int .i64 u.y.hi, .bool u.y.all, .int .i64 u.z.lo, .int .i64 u.z.hi, .bool u.z.all], .agg #[.int .i64 v.x.lo, .int .i64 v.x.hi, .bool v.x.all, .int .i64 v.y.lo, .int .i64 v.y.hi, .bool v.y.all, .int .i64 v.z.lo, .int .i64 v.z.hi, .bool v.z.all]] W (PVal (.agg #[.int .i64 c.lo, .int .i64 c.hi, .bool c.all]) W)) (hHo : ∀ W : World, Calls Try.prog 8 #[.int .i64 1048576, .int .i64 1048576] W (PVal (.agg #[.int .i64 o.lo, .int .i64 o.hi, .bool o.all]) W)) (hHe : ∀ W : World, Calls Try.prog 7 #[.agg #[.int .i64 v.x.lo, .int .i64 v.x.hi, .bool v.x.all, .int .i64 v.y.lo, .int .i64 v.y.hi, .bool v.y.all, .int .i64 v.z.lo, .int .i64 v.z.hi, .bool v.z.all], .agg #[.int .i64 o.lo, .int .i64 o.hi, .bool o.all]] W (PVal (.agg #[.int .i64 e.x.lo, .int .i64 e.x.hi, .bool e.x.all, .int .i64 e.y.lo, .int .i64 e.y.hi, .bool e.y.all, .int .i64 e.z.lo, .int .i64 e.z.hi, .bool e.z.all]) W)) (hHs : ∀ W : World, Calls Try.prog 10 #[.agg #[.int .i64 v.x.lo, .int .i64 v.x.hi, .bool v.x.all, .int .i64 v.y.lo, .int .i64 v.y.hi, .bool v.y.all, .int .i64 v.z.lo, .int .i64 v.z.hi, .bool v.z.all], .agg #[.int .i64 u.x.lo, .int .i64 u.x.hi, .bool u.x.all, .int .i64 u.y.lo, .int .i64 u.y.hi, .bool u.y.all, .int .i64 u.z.lo, .int .i64 u.z.hi, .bool u.z.all]] W (PVal (.agg #[.int .i64 s.x.lo, .int .i64 s.x.hi, .bool s.x.all, .int .i64 s.y.lo, .int .i64 s.y.hi, .bool s.y.all, .int .i64 s.z.lo, .int .i64 s.z.hi, .bool s.z.all]) W)) (hHq : ∀ W : World, Calls Try.prog 5 #[.agg #[.int .i64 s.x.lo, .int .i64 s.x.hi, .bool s.x.all, .int .i64 s.y.lo, .int .i64 s.y.hi, .bool s.y.all, .int .i64 s.z.lo, .int .i64 s.z.hi, .bool s.z.all], .agg #[.int .i64 u.x.lo, .int .i64 u.x.hi, .bool u.x.all, .int .i64 u.y.lo, .int .i64 u.y.hi, .bool u.y.all, .int .i64 u.z.lo, .int .i64 u.z.hi, .bool u.z.all]] W (PVal (.agg #[.int .i64 q.x.lo, .int .i64 q.x.hi, .bool q.x.all, .int .i64 q.y.lo, .int .i64 q.y.hi, .bool q.y.all, .int .i64 q.z.lo, .int .i64 q.z.hi, .bool q.z.all]) W)) (hHf : ∀ W : World, Calls Try.prog 9 #[.agg #[.int .i64 v.x.lo, .int .i64 v.x.hi, .bool v.x.all, .int .i64 v.y.lo, .int .i64 v.y.hi, .bool v.y.all, .int .i64 v.z.lo, .int .i64 v.z.hi, .bool v.z.all], .agg #[.int .i64 q.x.lo, .int .i64 q.x.hi, .bool q.x.all, .int .i64 q.y.lo, .int .i64 q.y.hi, .bool q.y.all, .int .i64 q.z.lo, .int .i64 q.z.hi, .bool q.z.all]] W (PVal (.bool true) W)) (hHg : ∀ W : World, Calls Try.prog 9 #[.agg #[.int .i64 v.x.lo, .int .i64 v.x.hi, .bool v.x.all, .int .i64 v.y.lo, .int .i64 v.y.hi, .bool v.y.all, .int .i64 v.z.lo, .int .i64 v.z.hi, .bool v.z.all], .agg #[.int .i64 e.x.lo, .int .i64 e.x.hi, .bool e.x.all, .int .i64 e.y.lo, .int .i64 e.y.hi, .bool e.y.all, .int .i64 e.z.lo, .int .i64 e.z.hi, .bool e.z.all]] W (PVal (.bool true) W)) (hHh : ∀ W : World, Calls Try.prog 9 #[.agg #[.int .i64 e.x.lo, .int .i64 e.x.hi, .bool e.x.all, .int .i64 e.y.lo, .int .i64 e.y.hi, .bool e.y.all, .int .i64 e.z.lo, .int .i64 e.z.hi, .bool e.z.all], .agg #[.int .i64 v.x.lo, .int .i64 v.x.hi, .bool v.x.all, .int .i64 v.y.lo, .int .i64 v.y.hi, .bool v.y.all, .int .i64 v.z.lo, .int .i64 v.z.hi, .bool v.z.all]] W (PVal (.bool true) W))   (w : World) : Calls Try.prog 3 #[.agg #[.int .i64 v.x.lo, .int .i64 v.x.hi, .bool v.x.all, .int .i64 v.y.lo, .int .i64 v.y.hi, .bool v.y.all, .int .i64 v.z.lo, .int .i64 v.z.hi, .bool v.z.all], .agg #[.int .i64 u.x.lo, .int .i64 u.x.hi, .bool u.x.all, .int .i64 u.y.lo, .int .i64 u.y.hi, .bool u.y.all, .int .i64 u.z.lo, .int .i64 u.z.hi, .bool u.z.all]] w (PVal (.bool true) w) := by
 have Haw := Lib.hid hHaw
 have Ha := Lib.hid hHa
 have Hb := Lib.hid hHb
 have Hc := Lib.hid hHc
 have Hd9 := Lib.hid hHd9
 have Ho := Lib.hid hHo
 have He := Lib.hid hHe
 have Hs := Lib.hid hHs
 have Hq := Lib.hid hHq
 have Hf := Lib.hid hHf
 have Hg := Lib.hid hHg
 have Hh := Lib.hid hHh
 clear hHaw hHa hHb hHc hHd9 hHo hHe hHs hHq hHf hHg hHh
 have hJ0 := es_nil w
 go_enter Try.func3, Try.ntmps3
 go_wp2_with (refine stop_box 25 (.tmp 0) #[.int .i64 v.x.lo, .int .i64 v.x.hi, .bool v.x.all, .int .i64 v.y.lo, .int .i64 v.y.hi, .bool v.y.all, .int .i64 v.z.lo, .int .i64 v.z.hi, .bool v.z.all] rfl rfl rfl hJ0 (fun bk1 W1 hJ1 => ?_))
 clear hJ0
 unfold Stop
 try simp only [Act.put, List.setIfInBounds_toArray, List.set_cons_succ, List.set_cons_zero]
 go_wp2_with (refine stop_box 25 (.tmp 1) #[.int .i64 u.x.lo, .int .i64 u.x.hi, .bool u.x.all, .int .i64 u.y.lo, .int .i64 u.y.hi, .bool u.y.all, .int .i64 u.z.lo, .int .i64 u.z.hi, .bool u.z.all] rfl rfl rfl hJ1 (fun bk2 W2 hJ2 => ?_))
 clear hJ1
 unfold Stop
 try simp only [Act.put, List.setIfInBounds_toArray, List.set_cons_succ, List.set_cons_zero]
 go_wp2_with fail
 refine (Haw.out _).mono ?_
 rintro zz W3 ⟨rfl, hB⟩
 have hJ3 := hJ2.later hB
 clear hB
 clear hJ2
 have f0 : W3.cell? ⟨bk1, 0, none⟩ = some (.int .i64 v.x.lo) := hJ3.cell 1 rfl 0 rfl
 have f1 : W3.cell? ⟨bk1, 1, none⟩ = some (.int .i64 v.x.hi) := hJ3.cell 1 rfl 1 rfl
 have f2 : W3.cell? ⟨bk1, 2, none⟩ = some (.bool v.x.all) := hJ3.cell 1 rfl 2 rfl
 have f3 : W3.cell? ⟨bk1, 3, none⟩ = some (.int .i64 v.y.lo) := hJ3.cell 1 rfl 3 rfl
 have f4 : W3.cell? ⟨bk1, 4, none⟩ = some (.int .i64 v.y.hi) := hJ3.cell 1 rfl 4 rfl
 have f5 : W3.cell? ⟨bk1, 5, none⟩ = some (.bool v.y.all) := hJ3.cell 1 rfl 5 rfl
 have f6 : W3.cell? ⟨bk1, 6, none⟩ = some (.int .i64 v.z.lo) := hJ3.cell 1 rfl 6 rfl
 have f7 : W3.cell? ⟨bk1, 7, none⟩ = some (.int .i64 v.z.hi) := hJ3.cell 1 rfl 7 rfl
 have f8 : W3.cell? ⟨bk1, 8, none⟩ = some (.bool v.z.all) := hJ3.cell 1 rfl 8 rfl
 have f9 : W3.cell? ⟨bk2, 0, none⟩ = some (.int .i64 u.x.lo) := hJ3.cell 0 rfl 0 rfl
 have f10 : W3.cell? ⟨bk2, 1, none⟩ = some (.int .i64 u.x.hi) := hJ3.cell 0 rfl 1 rfl
 have f11 : W3.cell? ⟨bk2, 2, none⟩ = some (.bool u.x.all) := hJ3.cell 0 rfl 2 rfl
 have f12 : W3.cell? ⟨bk2, 3, none⟩ = some (.int .i64 u.y.lo) := hJ3.cell 0 rfl 3 rfl
 have f13 : W3.cell? ⟨bk2, 4, none⟩ = some (.int .i64 u.y.hi) := hJ3.cell 0 rfl 4 rfl
 have f14 : W3.cell? ⟨bk2, 5, none⟩ = some (.bool u.y.all) := hJ3.cell 0 rfl 5 rfl
 have f15 : W3.cell? ⟨bk2, 6, none⟩ = some (.int .i64 u.z.lo) := hJ3.cell 0 rfl 6 rfl
 have f16 : W3.cell? ⟨bk2, 7, none⟩ = some (.int .i64 u.z.hi) := hJ3.cell 0 rfl 7 rfl
 have f17 : W3.cell? ⟨bk2, 8, none⟩ = some (.bool u.z.all) := hJ3.cell 0 rfl 8 rfl
 go_wp2_with fail
 refine (Ha.out _).mono ?_
 rintro zz W4 ⟨rfl, hB⟩
 have hJ4 := hJ3.later hB
 clear hB
 clear f0 f1 f2 f3 f4 f5 f6 f7 f8 f9 f10 f11 f12 f13 f14 f15 f16 f17
 clear hJ3
 go_wp2_with (refine stop_alloc 25 #[.int .i64 0, .int .i64 0, .bool false, .int .i64 0, .int .i64 0, .bool false, .int .i64 0, .int .i64 0, .bool false] (.agg #[.int .i64 0, .int .i64 0, .bool false, .int .i64 0, .int .i64 0, .bool false, .int .i64 0, .int .i64 0, .bool false]) rfl rfl zv25 rfl hJ4 (fun bk3 W5 hJ5 => ?_))
 clear hJ4
 unfold Stop
 try simp only [Act.put, List.setIfInBounds_toArray, List.set_cons_succ, List.set_cons_zero]
 go_wp2_with (refine stop_store 25 (.tmp 6) (.tmp 16) 0 bk3 0 #[.int .i64 0, .int .i64 0, .bool false, .int .i64 0, .int .i64 0, .bool false, .int .i64 0, .int .i64 0, .bool false] 25 9 [.int .i64 a.x.lo, .int .i64 a.x.hi, .bool a.x.all, .int .i64 a.y.lo, .int .i64 a.y.hi, .bool a.y.all, .int .i64 a.z.lo, .int .i64 a.z.hi, .bool a.z.all] #[.int .i64 a.x.lo, .int .i64 a.x.hi, .bool a.x.all, .int .i64 a.y.lo, .int .i64 a.y.hi, .bool a.y.all, .int .i64 a.z.lo, .int .i64 a.z.hi, .bool a.z.all] [(bk3, #[.int .i64 a.x.lo, .int .i64 a.x.hi, .bool a.x.all, .int .i64 a.y.lo, .int .i64 a.y.hi, .bool a.y.all, .int .i64 a.z.lo, .int .i64 a.z.hi, .bool a.z.all], 25), (bk2, #[.int .i64 u.x.lo, .int .i64 u.x.hi, .bool u.x.all, .int .i64 u.y.lo, .int .i64 u.y.hi, .bool u.y.all, .int .i64 u.z.lo, .int .i64 u.z.hi, .bool u.z.all], 25), (bk1, #[.int .i64 v.x.lo, .int .i64 v.x.hi, .bool v.x.all, .int .i64 v.y.lo, .int .i64 v.y.hi, .bool v.y.all, .int .i64 v.z.lo, .int .i64 v.z.hi, .bool v.z.all], 25)] rfl rfl rfl rfl sz25 hJ5 rfl rfl (Nat.le_of_ble_eq_true (by kernel_rfl)) (by kernel_rfl) (by kernel_rfl) (by kernel_rfl) (fun W6 hJ6 => ?_))
 clear hJ5
 unfold Stop
 try simp only [Act.put, List.setIfInBounds_toArray, List.set_cons_succ, List.set_cons_zero]
 have f0 : W6.cell? ⟨bk2, 0, none⟩ = some (.int .i64 u.x.lo) := hJ6.cell 1 rfl 0 rfl
 have f1 : W6.cell? ⟨bk2, 1, none⟩ = some (.int .i64 u.x.hi) := hJ6.cell 1 rfl 1 rfl
 have f2 : W6.cell? ⟨bk2, 2, none⟩ = some (.bool u.x.all) := hJ6.cell 1 rfl 2 rfl
 have f3 : W6.cell? ⟨bk2, 3, none⟩ = some (.int .i64 u.y.lo) := hJ6.cell 1 rfl 3 rfl
 have f4 : W6.cell? ⟨bk2, 4, none⟩ = some (.int .i64 u.y.hi) := hJ6.cell 1 rfl 4 rfl
 have f5 : W6.cell? ⟨bk2, 5, none⟩ = some (.bool u.y.all) := hJ6.cell 1 rfl 5 rfl
 have f6 : W6.cell? ⟨bk2, 6, none⟩ = some (.int .i64 u.z.lo) := hJ6.cell 1 rfl 6 rfl
 have f7 : W6.cell? ⟨bk2, 7, none⟩ = some (.int .i64 u.z.hi) := hJ6.cell 1 rfl 7 rfl
 have f8 : W6.cell? ⟨bk2, 8, none⟩ = some (.bool u.z.all) := hJ6.cell 1 rfl 8 rfl
 have f9 : W6.cell? ⟨bk1, 0, none⟩ = some (.int .i64 v.x.lo) := hJ6.cell 2 rfl 0 rfl
 have f10 : W6.cell? ⟨bk1, 1, none⟩ = some (.int .i64 v.x.hi) := hJ6.cell 2 rfl 1 rfl
 have f11 : W6.cell? ⟨bk1, 2, none⟩ = some (.bool v.x.all) := hJ6.cell 2 rfl 2 rfl
 have f12 : W6.cell? ⟨bk1, 3, none⟩ = some (.int .i64 v.y.lo) := hJ6.cell 2 rfl 3 rfl
 have f13 : W6.cell? ⟨bk1, 4, none⟩ = some (.int .i64 v.y.hi) := hJ6.cell 2 rfl 4 rfl
 have f14 : W6.cell? ⟨bk1, 5, none⟩ = some (.bool v.y.all) := hJ6.cell 2 rfl 5 rfl
 have f15 : W6.cell? ⟨bk1, 6, none⟩ = some (.int .i64 v.z.lo) := hJ6.cell 2 rfl 6 rfl
 have f16 : W6.cell? ⟨bk1, 7, none⟩ = some (.int .i64 v.z.hi) := hJ6.cell 2 rfl 7 rfl
 have f17 : W6.cell? ⟨bk1, 8, none⟩ = some (.bool v.z.all) := hJ6.cell 2 rfl 8 rfl
 go_wp2_with fail
 refine (Hb.out _).mono ?_
 rintro zz W7 ⟨rfl, hB⟩
 have hJ7 := hJ6.later hB
 clear hB
 clear f0 f1 f2 f3 f4 f5 f6 f7 f8 f9 f10 f11 f12 f13 f14 f15 f16 f17
 clear hJ6
 go_wp2_with (refine stop_alloc 25 #[.int .i64 0, .int .i64 0, .bool false, .int .i64 0, .int .i64 0, .bool false, .int .i64 0, .int .i64 0, .bool false] (.agg #[.int .i64 0, .int .i64 0, .bool false, .int .i64 0, .int .i64 0, .bool false, .int .i64 0, .int .i64 0, .bool false]) rfl rfl zv25 rfl hJ7 (fun bk4 W8 hJ8 => ?_))
 clear hJ7
 unfold Stop
 try simp only [Act.put, List.setIfInBounds_toArray, List.set_cons_succ, List.set_cons_zero]
 go_wp2_with (refine stop_store 25 (.tmp 7) (.tmp 19) 0 bk4 0 #[.int .i64 0, .int .i64 0, .bool false, .int .i64 0, .int .i64 0, .bool false, .int .i64 0, .int .i64 0, .bool false] 25 9 [.int .i64 a.x.lo, .int .i64 a.x.hi, .bool a.x.all, .int .i64 a.y.lo, .int .i64 a.y.hi, .bool a.y.all, .int .i64 a.z.lo, .int .i64 a.z.hi, .bool a.z.all] #[.int .i64 a.x.lo, .int .i64 a.x.hi, .bool a.x.all, .int .i64 a.y.lo, .int .i64 a.y.hi, .bool a.y.all, .int .i64 a.z.lo, .int .i64 a.z.hi, .bool a.z.all] [(bk4, #[.int .i64 a.x.lo, .int .i64 a.x.hi, .bool a.x.all, .int .i64 a.y.lo, .int .i64 a.y.hi, .bool a.y.all, .int .i64 a.z.lo, .int .i64 a.z.hi, .bool a.z.all], 25), (bk3, #[.int .i64 a.x.lo, .int .i64 a.x.hi, .bool a.x.all, .int .i64 a.y.lo, .int .i64 a.y.hi, .bool a.y.all, .int .i64 a.z.lo, .int .i64 a.z.hi, .bool a.z.all], 25), (bk2, #[.int .i64 u.x.lo, .int .i64 u.x.hi, .bool u.x.all, .int .i64 u.y.lo, .int .i64 u.y.hi, .bool u.y.all, .int .i64 u.z.lo, .int .i64 u.z.hi, .bool u.z.all], 25), (bk1, #[.int .i64 v.x.lo, .int .i64 v.x.hi, .bool v.x.all, .int .i64 v.y.lo, .int .i64 v.y.hi, .bool v.y.all, .int .i64 v.z.lo, .int .i64 v.z.hi, .bool v.z.all], 25)] rfl rfl rfl rfl sz25 hJ8 rfl rfl (Nat.le_of_ble_eq_true (by kernel_rfl)) (by kernel_rfl) (by kernel_rfl) (by kernel_rfl) (fun W9 hJ9 => ?_))
 clear hJ8
 unfold Stop
 try simp only [Act.put, List.setIfInBounds_toArray, List.set_cons_succ, List.set_cons_zero]
 have f0 : W9.cell? ⟨bk1, 0, none⟩ = some (.int .i64 v.x.lo) := hJ9.cell 3 rfl 0 rfl
 have f1 : W9.cell? ⟨bk1, 1, none⟩ = some (.int .i64 v.x.hi) := hJ9.cell 3 rfl 1 rfl
 have f2 : W9.cell? ⟨bk1, 2, none⟩ = some (.bool v.x.all) := hJ9.cell 3 rfl 2 rfl
 have f3 : W9.cell? ⟨bk1, 3, none⟩ = some (.int .i64 v.y.lo) := hJ9.cell 3 rfl 3 rfl
 have f4 : W9.cell? ⟨bk1, 4, none⟩ = some (.int .i64 v.y.hi) := hJ9.cell 3 rfl 4 rfl
 have f5 : W9.cell? ⟨bk1, 5, none⟩ = some (.bool v.y.all) := hJ9.cell 3 rfl 5 rfl
 have f6 : W9.cell? ⟨bk1, 6, none⟩ = some (.int .i64 v.z.lo) := hJ9.cell 3 rfl 6 rfl
 have f7 : W9.cell? ⟨bk1, 7, none⟩ = some (.int .i64 v.z.hi) := hJ9.cell 3 rfl 7 rfl
 have f8 : W9.cell? ⟨bk1, 8, none⟩ = some (.bool v.z.all) := hJ9.cell 3 rfl 8 rfl
 have f9 : W9.cell? ⟨bk2, 0, none⟩ = some (.int .i64 u.x.lo) := hJ9.cell 2 rfl 0 rfl
 have f10 : W9.cell? ⟨bk2, 1, none⟩ = some (.int .i64 u.x.hi) := hJ9.cell 2 rfl 1 rfl
 have f11 : W9.cell? ⟨bk2, 2, none⟩ = some (.bool u.x.all) := hJ9.cell 2 rfl 2 rfl
 have f12 : W9.cell? ⟨bk2, 3, none⟩ = some (.int .i64 u.y.lo) := hJ9.cell 2 rfl 3 rfl
 have f13 : W9.cell? ⟨bk2, 4, none⟩ = some (.int .i64 u.y.hi) := hJ9.cell 2 rfl 4 rfl
 have f14 : W9.cell? ⟨bk2, 5, none⟩ = some (.bool u.y.all) := hJ9.cell 2 rfl 5 rfl
 have f15 : W9.cell? ⟨bk2, 6, none⟩ = some (.int .i64 u.z.lo) := hJ9.cell 2 rfl 6 rfl
 have f16 : W9.cell? ⟨bk2, 7, none⟩ = some (.int .i64 u.z.hi) := hJ9.cell 2 rfl 7 rfl
 have f17 : W9.cell? ⟨bk2, 8, none⟩ = some (.bool u.z.all) := hJ9.cell 2 rfl 8 rfl
 go_wp2_with fail
 refine (Hc.out _).mono ?_
 rintro zz W10 ⟨rfl, hB⟩
 have hJ10 := hJ9.later hB
 clear hB
 clear f0 f1 f2 f3 f4 f5 f6 f7 f8 f9 f10 f11 f12 f13 f14 f15 f16 f17
 clear hJ9
 go_wp2_with (refine stop_alloc 23 #[.int .i64 0, .int .i64 0, .bool false] (.agg #[.int .i64 0, .int .i64 0, .bool false]) rfl rfl zv23 rfl hJ10 (fun bk5 W11 hJ11 => ?_))
 clear hJ10
 unfold Stop
 try simp only [Act.put, List.setIfInBounds_toArray, List.set_cons_succ, List.set_cons_zero]
 go_wp2_with (refine stop_store 23 (.tmp 8) (.tmp 22) 0 bk5 0 #[.int .i64 0, .int .i64 0, .bool false] 23 3 [.int .i64 c.lo, .int .i64 c.hi, .bool c.all] #[.int .i64 c.lo, .int .i64 c.hi, .bool c.all] [(bk5, #[.int .i64 c.lo, .int .i64 c.hi, .bool c.all], 23), (bk4, #[.int .i64 a.x.lo, .int .i64 a.x.hi, .bool a.x.all, .int .i64 a.y.lo, .int .i64 a.y.hi, .bool a.y.all, .int .i64 a.z.lo, .int .i64 a.z.hi, .bool a.z.all], 25), (bk3, #[.int .i64 a.x.lo, .int .i64 a.x.hi, .bool a.x.all, .int .i64 a.y.lo, .int .i64 a.y.hi, .bool a.y.all, .int .i64 a.z.lo, .int .i64 a.z.hi, .bool a.z.all], 25), (bk2, #[.int .i64 u.x.lo, .int .i64 u.x.hi, .bool u.x.all, .int .i64 u.y.lo, .int .i64 u.y.hi, .bool u.y.all, .int .i64 u.z.lo, .int .i64 u.z.hi, .bool u.z.all], 25), (bk1, #[.int .i64 v.x.lo, .int .i64 v.x.hi, .bool v.x.all, .int .i64 v.y.lo, .int .i64 v.y.hi, .bool v.y.all, .int .i64 v.z.lo, .int .i64 v.z.hi, .bool v.z.all], 25)] rfl rfl rfl rfl sz23 hJ11 rfl rfl (Nat.le_of_ble_eq_true (by kernel_rfl)) (by kernel_rfl) (by kernel_rfl) (by kernel_rfl) (fun W12 hJ12 => ?_))
 clear hJ11
 unfold Stop
 try simp only [Act.put, List.setIfInBounds_toArray, List.set_cons_succ, List.set_cons_zero]
 have f0 : W12.cell? ⟨bk2, 0, none⟩ = some (.int .i64 u.x.lo) := hJ12.cell 3 rfl 0 rfl
 have f1 : W12.cell? ⟨bk2, 1, none⟩ = some (.int .i64 u.x.hi) := hJ12.cell 3 rfl 1 rfl
 have f2 : W12.cell? ⟨bk2, 2, none⟩ = some (.bool u.x.all) := hJ12.cell 3 rfl 2 rfl
 have f3 : W12.cell? ⟨bk2, 3, none⟩ = some (.int .i64 u.y.lo) := hJ12.cell 3 rfl 3 rfl
 have f4 : W12.cell? ⟨bk2, 4, none⟩ = some (.int .i64 u.y.hi) := hJ12.cell 3 rfl 4 rfl
 have f5 : W12.cell? ⟨bk2, 5, none⟩ = some (.bool u.y.all) := hJ12.cell 3 rfl 5 rfl
 have f6 : W12.cell? ⟨bk2, 6, none⟩ = some (.int .i64 u.z.lo) := hJ12.cell 3 rfl 6 rfl
 have f7 : W12.cell? ⟨bk2, 7, none⟩ = some (.int .i64 u.z.hi) := hJ12.cell 3 rfl 7 rfl
 have f8 : W12.cell? ⟨bk2, 8, none⟩ = some (.bool u.z.all) := hJ12.cell 3 rfl 8 rfl
 have f9 : W12.cell? ⟨bk1, 0, none⟩ = some (.int .i64 v.x.lo) := hJ12.cell 4 rfl 0 rfl
 have f10 : W12.cell? ⟨bk1, 1, none⟩ = some (.int .i64 v.x.hi) := hJ12.cell 4 rfl 1 rfl
 have f11 : W12.cell? ⟨bk1, 2, none⟩ = some (.bool v.x.all) := hJ12.cell 4 rfl 2 rfl
 have f12 : W12.cell? ⟨bk1, 3, none⟩ = some (.int .i64 v.y.lo) := hJ12.cell 4 rfl 3 rfl
 have f13 : W12.cell? ⟨bk1, 4, none⟩ = some (.int .i64 v.y.hi) := hJ12.cell 4 rfl 4 rfl
 have f14 : W12.cell? ⟨bk1, 5, none⟩ = some (.bool v.y.all) := hJ12.cell 4 rfl 5 rfl
 have f15 : W12.cell? ⟨bk1, 6, none⟩ = some (.int .i64 v.z.lo) := hJ12.cell 4 rfl 6 rfl
 have f16 : W12.cell? ⟨bk1, 7, none⟩ = some (.int .i64 v.z.hi) := hJ12.cell 4 rfl 7 rfl
 have f17 : W12.cell? ⟨bk1, 8, none⟩ = some (.bool v.z.all) := hJ12.cell 4 rfl 8 rfl
 go_wp2_with fail
 refine (Hd9.out _).mono ?_
 rintro zz W13 ⟨rfl, hB⟩
 have hJ13 := hJ12.later hB
 clear hB
 clear f0 f1 f2 f3 f4 f5 f6 f7 f8 f9 f10 f11 f12 f13 f14 f15 f16 f17
 clear hJ12
 go_wp2_with (refine stop_alloc 23 #[.int .i64 0, .int .i64 0, .bool false] (.agg #[.int .i64 0, .int .i64 0, .bool false]) rfl rfl zv23 rfl hJ13 (fun bk6 W14 hJ14 => ?_))
 clear hJ13
 unfold Stop
 try simp only [Act.put, List.setIfInBounds_toArray, List.set_cons_succ, List.set_cons_zero]
 go_wp2_with (refine stop_store 23 (.tmp 9) (.tmp 25) 0 bk6 0 #[.int .i64 0, .int .i64 0, .bool false] 23 3 [.int .i64 c.lo, .int .i64 c.hi, .bool c.all] #[.int .i64 c.lo, .int .i64 c.hi, .bool c.all] [(bk6, #[.int .i64 c.lo, .int .i64 c.hi, .bool c.all], 23), (bk5, #[.int .i64 c.lo, .int .i64 c.hi, .bool c.all], 23), (bk4, #[.int .i64 a.x.lo, .int .i64 a.x.hi, .bool a.x.all, .int .i64 a.y.lo, .int .i64 a.y.hi, .bool a.y.all, .int .i64 a.z.lo, .int .i64 a.z.hi, .bool a.z.all], 25), (bk3, #[.int .i64 a.x.lo, .int .i64 a.x.hi, .bool a.x.all, .int .i64 a.y.lo, .int .i64 a.y.hi, .bool a.y.all, .int .i64 a.z.lo, .int .i64 a.z.hi, .bool a.z.all], 25), (bk2, #[.int .i64 u.x.lo, .int .i64 u.x.hi, .bool u.x.all, .int .i64 u.y.lo, .int .i64 u.y.hi, .bool u.y.all, .int .i64 u.z.lo, .int .i64 u.z.hi, .bool u.z.all], 25), (bk1, #[.int .i64 v.x.lo, .int .i64 v.x.hi, .bool v.x.all, .int .i64 v.y.lo, .int .i64 v.y.hi, .bool v.y.all, .int .i64 v.z.lo, .int .i64 v.z.hi, .bool v.z.all], 25)] rfl rfl rfl rfl sz23 hJ14 rfl rfl (Nat.le_of_ble_eq_true (by kernel_rfl)) (by kernel_rfl) (by kernel_rfl) (by kernel_rfl) (fun W15 hJ15 => ?_))
 clear hJ14
 unfold Stop
 try simp only [Act.put, List.setIfInBounds_toArray, List.set_cons_succ, List.set_cons_zero]
 go_wp2
 obtain ⟨m6_15, hm⟩ : ∃ m, m = W15.heap.size := ⟨_, rfl⟩
 have hM := hJ15.em
 rw [← hm] at hM
 clear hm hJ15
 refine wp_region_z 4 [some 26, some 27, some 28, some 10] (veL m6_15 [.eq (.agg #[.int .i64 v.x.lo, .int .i64 v.x.hi, .bool v.x.all, .int .i64 v.y.lo, .int .i64 v.y.hi, .bool v.y.all, .int .i64 v.z.lo, .int .i64 v.z.hi, .bool v.z.all]), .eq (.agg #[.int .i64 o.lo, .int .i64 o.hi, .bool o.all]), .eq (.agg #[.int .i64 e.x.lo, .int .i64 e.x.hi, .bool e.x.all, .int .i64 e.y.lo, .int .i64 e.y.hi, .bool e.y.all, .int .i64 e.z.lo, .int .i64 e.z.hi, .bool e.z.all]), .box #[.int .i64 0, .int .i64 0, .bool false, .int .i64 0, .int .i64 0, .bool false, .int .i64 0, .int .i64 0, .bool false] 25]) (Em w m6_15 [(bk6, #[.int .i64 c.lo, .int .i64 c.hi, .bool c.all], 23), (bk5, #[.int .i64 c.lo, .int .i64 c.hi, .bool c.all], 23), (bk4, #[.int .i64 a.x.lo, .int .i64 a.x.hi, .bool a.x.all, .int .i64 a.y.lo, .int .i64 a.y.hi, .bool a.y.all, .int .i64 a.z.lo, .int .i64 a.z.hi, .bool a.z.all], 25), (bk3, #[.int .i64 a.x.lo, .int .i64 a.x.hi, .bool a.x.all, .int .i64 a.y.lo, .int .i64 a.y.hi, .bool a.y.all, .int .i64 a.z.lo, .int .i64 a.z.hi, .bool a.z.all], 25), (bk2, #[.int .i64 u.x.lo, .int .i64 u.x.hi, .bool u.x.all, .int .i64 u.y.lo, .int .i64 u.y.hi, .bool u.y.all, .int .i64 u.z.lo, .int .i64 u.z.hi, .bool u.z.all], 25), (bk1, #[.int .i64 v.x.lo, .int .i64 v.x.hi, .bool v.x.all, .int .i64 v.y.lo, .int .i64 v.y.hi, .bool v.y.all, .int .i64 v.z.lo, .int .i64 v.z.hi, .bool v.z.all], 25)]) (by kernel_rfl) (by kernel_rfl) (by rfl) (by decide) (by rfl) hM ?_ ?_
 ·
  intro i hl hi uu ww aa hJ hd hev hin
  clear hM
  obtain rfl | rfl | rfl | rfl : i = 0 ∨ i = 1 ∨ i = 2 ∨ i = 3 := by omega
  ·
   have x2 : aa.tmps[2]? = some (.pointer (some ⟨bk1, 0, none⟩)) := (hev 2 (by decide)).trans rfl
   clear hd hev hin
   simp only [List.getElem_cons_succ, List.getElem_cons_zero]
   clear hl
   refine .inr ⟨rfl, fun K' hK => ?_⟩
   have HK := Lib.hid hK
   clear hK
   have f0 : ww.cell? ⟨bk1, 0, none⟩ = some (.int .i64 v.x.lo) := hJ.es.cell 5 rfl 0 rfl
   have f1 : ww.cell? ⟨bk1, 1, none⟩ = some (.int .i64 v.x.hi) := hJ.es.cell 5 rfl 1 rfl
   have f2 : ww.cell? ⟨bk1, 2, none⟩ = some (.bool v.x.all) := hJ.es.cell 5 rfl 2 rfl
   have f3 : ww.cell? ⟨bk1, 3, none⟩ = some (.int .i64 v.y.lo) := hJ.es.cell 5 rfl 3 rfl
   have f4 : ww.cell? ⟨bk1, 4, none⟩ = some (.int .i64 v.y.hi) := hJ.es.cell 5 rfl 4 rfl
   have f5 : ww.cell? ⟨bk1, 5, none⟩ = some (.bool v.y.all) := hJ.es.cell 5 rfl 5 rfl
   have f6 : ww.cell? ⟨bk1, 6, none⟩ = some (.int .i64 v.z.lo) := hJ.es.cell 5 rfl 6 rfl
   have f7 : ww.cell? ⟨bk1, 7, none⟩ = some (.int .i64 v.z.hi) := hJ.es.cell 5 rfl 7 rfl
   have f8 : ww.cell? ⟨bk1, 8, none⟩ = some (.bool v.z.all) := hJ.es.cell 5 rfl 8 rfl
   go_simp
   exact HK.out (.agg #[.int .i64 v.x.lo, .int .i64 v.x.hi, .bool v.x.all, .int .i64 v.y.lo, .int .i64 v.y.hi, .bool v.y.all, .int .i64 v.z.lo, .int .i64 v.z.hi, .bool v.z.all]) _ hJ rfl veL_same
  ·
   clear hd hev hin
   simp only [List.getElem_cons_succ, List.getElem_cons_zero]
   clear hl
   refine .inr ⟨rfl, fun K' hK => ?_⟩
   have HK := Lib.hid hK
   clear hK
   go_simp
   refine (Ho.out ww).mono ?_
   rintro zz W' ⟨rfl, hB⟩
   exact HK.out (.agg #[.int .i64 o.lo, .int .i64 o.hi, .bool o.all]) _ (hJ.later hB) rfl (veL_later hB)
  ·
   have x26 : aa.tmps[26]? = some (.agg #[.int .i64 v.x.lo, .int .i64 v.x.hi, .bool v.x.all, .int .i64 v.y.lo, .int .i64 v.y.hi, .bool v.y.all, .int .i64 v.z.lo, .int .i64 v.z.hi, .bool v.z.all]) := (hin 0 26 rfl).trans (congrArg some (show uu 0 = .agg #[.int .i64 v.x.lo, .int .i64 v.x.hi, .bool v.x.all, .int .i64 v.y.lo, .int .i64 v.y.hi, .bool v.y.all, .int .i64 v.z.lo, .int .i64 v.z.hi, .bool v.z.all] from hd 0 (by decide) (by kernel_rfl)))
   have x27 : aa.tmps[27]? = some (.agg #[.int .i64 o.lo, .int .i64 o.hi, .bool o.all]) := (hin 1 27 rfl).trans (congrArg some (show uu 1 = .agg #[.int .i64 o.lo, .int .i64 o.hi, .bool o.all] from hd 1 (by decide) (by kernel_rfl)))
   clear hd hev hin
   simp only [List.getElem_cons_succ, List.getElem_cons_zero]
   clear hl
   refine .inr ⟨rfl, fun K' hK => ?_⟩
   have HK := Lib.hid hK
   clear hK
   go_simp
   refine (He.out ww).mono ?_
   rintro zz W' ⟨rfl, hB⟩
   exact HK.out (.agg #[.int .i64 e.x.lo, .int .i64 e.x.hi, .bool e.x.all, .int .i64 e.y.lo, .int .i64 e.y.hi, .bool e.y.all, .int .i64 e.z.lo, .int .i64 e.z.hi, .bool e.z.all]) _ (hJ.later hB) rfl (veL_later hB)
  ·
   clear hd hev hin
   simp only [List.getElem_cons_succ, List.getElem_cons_zero]
   clear hl
   refine .inr ⟨rfl, fun K' hK => ?_⟩
   have HK := Lib.hid hK
   clear hK
   refine wp_alloc 25 rfl (.agg #[.int .i64 0, .int .i64 0, .bool false, .int .i64 0, .int .i64 0, .bool false, .int .i64 0, .int .i64 0, .bool false]) zv25 ?_
   exact HK.out _ _ (hJ.later ((Below.refl _ _).alloc (Nat.le_refl _) _)) ⟨ww.heap.size, rfl, hJ.le, heap_new ww _⟩ (veL_later ((Below.refl _ _).alloc (Nat.le_refl _) _))
 clear hM
 intro uu W16 hJm hd
 have e_0 : uu 0 = .agg #[.int .i64 v.x.lo, .int .i64 v.x.hi, .bool v.x.all, .int .i64 v.y.lo, .int .i64 v.y.hi, .bool v.y.all, .int .i64 v.z.lo, .int .i64 v.z.hi, .bool v.z.all] := hd 0 (by decide)
 have e_1 : uu 1 = .agg #[.int .i64 o.lo, .int .i64 o.hi, .bool o.all] := hd 1 (by decide)
 have e_2 : uu 2 = .agg #[.int .i64 e.x.lo, .int .i64 e.x.hi, .bool e.x.all, .int .i64 e.y.lo, .int .i64 e.y.hi, .bool e.y.all, .int .i64 e.z.lo, .int .i64 e.z.hi, .bool e.z.all] := hd 2 (by decide)
 obtain ⟨bk7, e_3, nge3, nB3⟩ := (show veP m6_15 (.box #[.int .i64 0, .int .i64 0, .bool false, .int .i64 0, .int .i64 0, .bool false, .int .i64 0, .int .i64 0, .bool false] 25) (uu 3) W16 from hd 3 (by decide))
 clear hd
 simp only [layS, Act.put, List.setIfInBounds_toArray, List.set_cons_succ, List.set_cons_zero, Nat.zero_add, Nat.reduceAdd, List.drop_succ_cons, List.drop_zero, List.drop_nil, e_0, e_1, e_2, e_3]
 clear e_0 e_1 e_2 e_3
 have hJ16 := hJm.join nge3 nB3
 clear hJm nge3 nB3
 go_wp2_with (refine stop_store 25 (.tmp 10) (.tmp 28) 0 bk7 0 #[.int .i64 0, .int .i64 0, .bool false, .int .i64 0, .int .i64 0, .bool false, .int .i64 0, .int .i64 0, .bool false] 25 9 [.int .i64 e.x.lo, .int .i64 e.x.hi, .bool e.x.all, .int .i64 e.y.lo, .int .i64 e.y.hi, .bool e.y.all, .int .i64 e.z.lo, .int .i64 e.z.hi, .bool e.z.all] #[.int .i64 e.x.lo, .int .i64 e.x.hi, .bool e.x.all, .int .i64 e.y.lo, .int .i64 e.y.hi, .bool e.y.all, .int .i64 e.z.lo, .int .i64 e.z.hi, .bool e.z.all] [(bk7, #[.int .i64 e.x.lo, .int .i64 e.x.hi, .bool e.x.all, .int .i64 e.y.lo, .int .i64 e.y.hi, .bool e.y.all, .int .i64 e.z.lo, .int .i64 e.z.hi, .bool e.z.all], 25), (bk6, #[.int .i64 c.lo, .int .i64 c.hi, .bool c.all], 23), (bk5, #[.int .i64 c.lo, .int .i64 c.hi, .bool c.all], 23), (bk4, #[.int .i64 a.x.lo, .int .i64 a.x.hi, .bool a.x.all, .int .i64 a.y.lo, .int .i64 a.y.hi, .bool a.y.all, .int .i64 a.z.lo, .int .i64 a.z.hi, .bool a.z.all], 25), (bk3, #[.int .i64 a.x.lo, .int .i64 a.x.hi, .bool a.x.all, .int .i64 a.y.lo, .int .i64 a.y.hi, .bool a.y.all, .int .i64 a.z.lo, .int .i64 a.z.hi, .bool a.z.all], 25), (bk2, #[.int .i64 u.x.lo, .int .i64 u.x.hi, .bool u.x.all, .int .i64 u.y.lo, .int .i64 u.y.hi, .bool u.y.all, .int .i64 u.z.lo, .int .i64 u.z.hi, .bool u.z.all], 25), (bk1, #[.int .i64 v.x.lo, .int .i64 v.x.hi, .bool v.x.all, .int .i64 v.y.lo, .int .i64 v.y.hi, .bool v.y.all, .int .i64 v.z.lo, .int .i64 v.z.hi, .bool v.z.all], 25)] rfl rfl rfl rfl sz25 hJ16 rfl rfl (Nat.le_of_ble_eq_true (by kernel_rfl)) (by kernel_rfl) (by kernel_rfl) (by kernel_rfl) (fun W17 hJ17 => ?_))
 clear hJ16
 unfold Stop
 try simp only [Act.put, List.setIfInBounds_toArray, List.set_cons_succ, List.set_cons_zero]
 go_wp2
 obtain ⟨m7_17, hm⟩ : ∃ m, m = W17.heap.size := ⟨_, rfl⟩
 have hM := hJ17.em
 rw [← hm] at hM
 clear hm hJ17
 refine wp_region_z 8 [some 29, some 30, some 31, some 32, some 33, some 34, some 35, some 11] (veL m7_17 [.eq (.agg #[.int .i64 v.x.lo, .int .i64 v.x.hi, .bool v.x.all, .int .i64 v.y.lo, .int .i64 v.y.hi, .bool v.y.all, .int .i64 v.z.lo, .int .i64 v.z.hi, .bool v.z.all]), .eq (.agg #[.int .i64 v.x.lo, .int .i64 v.x.hi, .bool v.x.all, .int .i64 v.y.lo, .int .i64 v.y.hi, .bool v.y.all, .int .i64 v.z.lo, .int .i64 v.z.hi, .bool v.z.all]), .eq (.agg #[.int .i64 u.x.lo, .int .i64 u.x.hi, .bool u.x.all, .int .i64 u.y.lo, .int .i64 u.y.hi, .bool u.y.all, .int .i64 u.z.lo, .int .i64 u.z.hi, .bool u.z.all]), .eq (.agg #[.int .i64 s.x.lo, .int .i64 s.x.hi, .bool s.x.all, .int .i64 s.y.lo, .int .i64 s.y.hi, .bool s.y.all, .int .i64 s.z.lo, .int .i64 s.z.hi, .bool s.z.all]), .eq (.agg #[.int .i64 u.x.lo, .int .i64 u.x.hi, .bool u.x.all, .int .i64 u.y.lo, .int .i64 u.y.hi, .bool u.y.all, .int .i64 u.z.lo, .int .i64 u.z.hi, .bool u.z.all]), .eq (.agg #[.int .i64 q.x.lo, .int .i64 q.x.hi, .bool q.x.all, .int .i64 q.y.lo, .int .i64 q.y.hi, .bool q.y.all, .int .i64 q.z.lo, .int .i64 q.z.hi, .bool q.z.all]), .eq (.bool true), .eq (.bool true)]) (Em w m7_17 [(bk7, #[.int .i64 e.x.lo, .int .i64 e.x.hi, .bool e.x.all, .int .i64 e.y.lo, .int .i64 e.y.hi, .bool e.y.all, .int .i64 e.z.lo, .int .i64 e.z.hi, .bool e.z.all], 25), (bk6, #[.int .i64 c.lo, .int .i64 c.hi, .bool c.all], 23), (bk5, #[.int .i64 c.lo, .int .i64 c.hi, .bool c.all], 23), (bk4, #[.int .i64 a.x.lo, .int .i64 a.x.hi, .bool a.x.all, .int .i64 a.y.lo, .int .i64 a.y.hi, .bool a.y.all, .int .i64 a.z.lo, .int .i64 a.z.hi, .bool a.z.all], 25), (bk3, #[.int .i64 a.x.lo, .int .i64 a.x.hi, .bool a.x.all, .int .i64 a.y.lo, .int .i64 a.y.hi, .bool a.y.all, .int .i64 a.z.lo, .int .i64 a.z.hi, .bool a.z.all], 25), (bk2, #[.int .i64 u.x.lo, .int .i64 u.x.hi, .bool u.x.all, .int .i64 u.y.lo, .int .i64 u.y.hi, .bool u.y.all, .int .i64 u.z.lo, .int .i64 u.z.hi, .bool u.z.all], 25), (bk1, #[.int .i64 v.x.lo, .int .i64 v.x.hi, .bool v.x.all, .int .i64 v.y.lo, .int .i64 v.y.hi, .bool v.y.all, .int .i64 v.z.lo, .int .i64 v.z.hi, .bool v.z.all], 25)]) (by kernel_rfl) (by kernel_rfl) (by rfl) (by decide) (by rfl) hM ?_ ?_
 ·
  intro i hl hi uu ww aa hJ hd hev hin
  clear hM
  obtain rfl | rfl | rfl | rfl | rfl | rfl | rfl | rfl : i = 0 ∨ i = 1 ∨ i = 2 ∨ i = 3 ∨ i = 4 ∨ i = 5 ∨ i = 6 ∨ i = 7 := by omega
  ·
   have x2 : aa.tmps[2]? = some (.pointer (some ⟨bk1, 0, none⟩)) := (hev 2 (by decide)).trans rfl
   clear hd hev hin
   simp only [List.getElem_cons_succ, List.getElem_cons_zero]
   clear hl
   refine .inr ⟨rfl, fun K' hK => ?_⟩
   have HK := Lib.hid hK
   clear hK
   have f0 : ww.cell? ⟨bk1, 0, none⟩ = some (.int .i64 v.x.lo) := hJ.es.cell 6 rfl 0 rfl
   have f1 : ww.cell? ⟨bk1, 1, none⟩ = some (.int .i64 v.x.hi) := hJ.es.cell 6 rfl 1 rfl
   have f2 : ww.cell? ⟨bk1, 2, none⟩ = some (.bool v.x.all) := hJ.es.cell 6 rfl 2 rfl
   have f3 : ww.cell? ⟨bk1, 3, none⟩ = some (.int .i64 v.y.lo) := hJ.es.cell 6 rfl 3 rfl
   have f4 : ww.cell? ⟨bk1, 4, none⟩ = some (.int .i64 v.y.hi) := hJ.es.cell 6 rfl 4 rfl
   have f5 : ww.cell? ⟨bk1, 5, none⟩ = some (.bool v.y.all) := hJ.es.cell 6 rfl 5 rfl
   have f6 : ww.cell? ⟨bk1, 6, none⟩ = some (.int .i64 v.z.lo) := hJ.es.cell 6 rfl 6 rfl
   have f7 : ww.cell? ⟨bk1, 7, none⟩ = some (.int .i64 v.z.hi) := hJ.es.cell 6 rfl 7 rfl
   have f8 : ww.cell? ⟨bk1, 8, none⟩ = some (.bool v.z.all) := hJ.es.cell 6 rfl 8 rfl
   go_simp
   exact HK.out (.agg #[.int .i64 v.x.lo, .int .i64 v.x.hi, .bool v.x.all, .int .i64 v.y.lo, .int .i64 v.y.hi, .bool v.y.all, .int .i64 v.z.lo, .int .i64 v.z.hi, .bool v.z.all]) _ hJ rfl veL_same
  ·
   have x2 : aa.tmps[2]? = some (.pointer (some ⟨bk1, 0, none⟩)) := (hev 2 (by decide)).trans rfl
   clear hd hev hin
   simp only [List.getElem_cons_succ, List.getElem_cons_zero]
   clear hl
   refine .inr ⟨rfl, fun K' hK => ?_⟩
   have HK := Lib.hid hK
   clear hK
   have f0 : ww.cell? ⟨bk1, 0, none⟩ = some (.int .i64 v.x.lo) := hJ.es.cell 6 rfl 0 rfl
   have f1 : ww.cell? ⟨bk1, 1, none⟩ = some (.int .i64 v.x.hi) := hJ.es.cell 6 rfl 1 rfl
   have f2 : ww.cell? ⟨bk1, 2, none⟩ = some (.bool v.x.all) := hJ.es.cell 6 rfl 2 rfl
   have f3 : ww.cell? ⟨bk1, 3, none⟩ = some (.int .i64 v.y.lo) := hJ.es.cell 6 rfl 3 rfl
   have f4 : ww.cell? ⟨bk1, 4, none⟩ = some (.int .i64 v.y.hi) := hJ.es.cell 6 rfl 4 rfl
   have f5 : ww.cell? ⟨bk1, 5, none⟩ = some (.bool v.y.all) := hJ.es.cell 6 rfl 5 rfl
   have f6 : ww.cell? ⟨bk1, 6, none⟩ = some (.int .i64 v.z.lo) := hJ.es.cell 6 rfl 6 rfl
   have f7 : ww.cell? ⟨bk1, 7, none⟩ = some (.int .i64 v.z.hi) := hJ.es.cell 6 rfl 7 rfl
   have f8 : ww.cell? ⟨bk1, 8, none⟩ = some (.bool v.z.all) := hJ.es.cell 6 rfl 8 rfl
   go_simp
   exact HK.out (.agg #[.int .i64 v.x.lo, .int .i64 v.x.hi, .bool v.x.all, .int .i64 v.y.lo, .int .i64 v.y.hi, .bool v.y.all, .int .i64 v.z.lo, .int .i64 v.z.hi, .bool v.z.all]) _ hJ rfl veL_same
  ·
   have x3 : aa.tmps[3]? = some (.pointer (some ⟨bk2, 0, none⟩)) := (hev 3 (by decide)).trans rfl
   clear hd hev hin
   simp only [List.getElem_cons_succ, List.getElem_cons_zero]
   clear hl
   refine .inr ⟨rfl, fun K' hK => ?_⟩
   have HK := Lib.hid hK
   clear hK
   have f0 : ww.cell? ⟨bk2, 0, none⟩ = some (.int .i64 u.x.lo) := hJ.es.cell 5 rfl 0 rfl
   have f1 : ww.cell? ⟨bk2, 1, none⟩ = some (.int .i64 u.x.hi) := hJ.es.cell 5 rfl 1 rfl
   have f2 : ww.cell? ⟨bk2, 2, none⟩ = some (.bool u.x.all) := hJ.es.cell 5 rfl 2 rfl
   have f3 : ww.cell? ⟨bk2, 3, none⟩ = some (.int .i64 u.y.lo) := hJ.es.cell 5 rfl 3 rfl
   have f4 : ww.cell? ⟨bk2, 4, none⟩ = some (.int .i64 u.y.hi) := hJ.es.cell 5 rfl 4 rfl
   have f5 : ww.cell? ⟨bk2, 5, none⟩ = some (.bool u.y.all) := hJ.es.cell 5 rfl 5 rfl
   have f6 : ww.cell? ⟨bk2, 6, none⟩ = some (.int .i64 u.z.lo) := hJ.es.cell 5 rfl 6 rfl
   have f7 : ww.cell? ⟨bk2, 7, none⟩ = some (.int .i64 u.z.hi) := hJ.es.cell 5 rfl 7 rfl
   have f8 : ww.cell? ⟨bk2, 8, none⟩ = some (.bool u.z.all) := hJ.es.cell 5 rfl 8 rfl
   go_simp
   exact HK.out (.agg #[.int .i64 u.x.lo, .int .i64 u.x.hi, .bool u.x.all, .int .i64 u.y.lo, .int .i64 u.y.hi, .bool u.y.all, .int .i64 u.z.lo, .int .i64 u.z.hi, .bool u.z.all]) _ hJ rfl veL_same
  ·
   have x30 : aa.tmps[30]? = some (.agg #[.int .i64 v.x.lo, .int .i64 v.x.hi, .bool v.x.all, .int .i64 v.y.lo, .int .i64 v.y.hi, .bool v.y.all, .int .i64 v.z.lo, .int .i64 v.z.hi, .bool v.z.all]) := (hin 1 30 rfl).trans (congrArg some (show uu 1 = .agg #[.int .i64 v.x.lo, .int .i64 v.x.hi, .bool v.x.all, .int .i64 v.y.lo, .int .i64 v.y.hi, .bool v.y.all, .int .i64 v.z.lo, .int .i64 v.z.hi, .bool v.z.all] from hd 1 (by decide) (by kernel_rfl)))
   have x31 : aa.tmps[31]? = some (.agg #[.int .i64 u.x.lo, .int .i64 u.x.hi, .bool u.x.all, .int .i64 u.y.lo, .int .i64 u.y.hi, .bool u.y.all, .int .i64 u.z.lo, .int .i64 u.z.hi, .bool u.z.all]) := (hin 2 31 rfl).trans (congrArg some (show uu 2 = .agg #[.int .i64 u.x.lo, .int .i64 u.x.hi, .bool u.x.all, .int .i64 u.y.lo, .int .i64 u.y.hi, .bool u.y.all, .int .i64 u.z.lo, .int .i64 u.z.hi, .bool u.z.all] from hd 2 (by decide) (by kernel_rfl)))
   clear hd hev hin
   simp only [List.getElem_cons_succ, List.getElem_cons_zero]
   clear hl
   refine .inr ⟨rfl, fun K' hK => ?_⟩
   have HK := Lib.hid hK
   clear hK
   go_simp
   refine (Hs.out ww).mono ?_
   rintro zz W' ⟨rfl, hB⟩
   exact HK.out (.agg #[.int .i64 s.x.lo, .int .i64 s.x.hi, .bool s.x.all, .int .i64 s.y.lo, .int .i64 s.y.hi, .bool s.y.all, .int .i64 s.z.lo, .int .i64 s.z.hi, .bool s.z.all]) _ (hJ.later hB) rfl (veL_later hB)
  ·
   have x3 : aa.tmps[3]? = some (.pointer (some ⟨bk2, 0, none⟩)) := (hev 3 (by decide)).trans rfl
   clear hd hev hin
   simp only [List.getElem_cons_succ, List.getElem_cons_zero]
   clear hl
   refine .inr ⟨rfl, fun K' hK => ?_⟩
   have HK := Lib.hid hK
   clear hK
   have f0 : ww.cell? ⟨bk2, 0, none⟩ = some (.int .i64 u.x.lo) := hJ.es.cell 5 rfl 0 rfl
   have f1 : ww.cell? ⟨bk2, 1, none⟩ = some (.int .i64 u.x.hi) := hJ.es.cell 5 rfl 1 rfl
   have f2 : ww.cell? ⟨bk2, 2, none⟩ = some (.bool u.x.all) := hJ.es.cell 5 rfl 2 rfl
   have f3 : ww.cell? ⟨bk2, 3, none⟩ = some (.int .i64 u.y.lo) := hJ.es.cell 5 rfl 3 rfl
   have f4 : ww.cell? ⟨bk2, 4, none⟩ = some (.int .i64 u.y.hi) := hJ.es.cell 5 rfl 4 rfl
   have f5 : ww.cell? ⟨bk2, 5, none⟩ = some (.bool u.y.all) := hJ.es.cell 5 rfl 5 rfl
   have f6 : ww.cell? ⟨bk2, 6, none⟩ = some (.int .i64 u.z.lo) := hJ.es.cell 5 rfl 6 rfl
   have f7 : ww.cell? ⟨bk2, 7, none⟩ = some (.int .i64 u.z.hi) := hJ.es.cell 5 rfl 7 rfl
   have f8 : ww.cell? ⟨bk2, 8, none⟩ = some (.bool u.z.all) := hJ.es.cell 5 rfl 8 rfl
   go_simp
   exact HK.out (.agg #[.int .i64 u.x.lo, .int .i64 u.x.hi, .bool u.x.all, .int .i64 u.y.lo, .int .i64 u.y.hi, .bool u.y.all, .int .i64 u.z.lo, .int .i64 u.z.hi, .bool u.z.all]) _ hJ rfl veL_same
  ·
   have x32 : aa.tmps[32]? = some (.agg #[.int .i64 s.x.lo, .int .i64 s.x.hi, .bool s.x.all, .int .i64 s.y.lo, .int .i64 s.y.hi, .bool s.y.all, .int .i64 s.z.lo, .int .i64 s.z.hi, .bool s.z.all]) := (hin 3 32 rfl).trans (congrArg some (show uu 3 = .agg #[.int .i64 s.x.lo, .int .i64 s.x.hi, .bool s.x.all, .int .i64 s.y.lo, .int .i64 s.y.hi, .bool s.y.all, .int .i64 s.z.lo, .int .i64 s.z.hi, .bool s.z.all] from hd 3 (by decide) (by kernel_rfl)))
   have x33 : aa.tmps[33]? = some (.agg #[.int .i64 u.x.lo, .int .i64 u.x.hi, .bool u.x.all, .int .i64 u.y.lo, .int .i64 u.y.hi, .bool u.y.all, .int .i64 u.z.lo, .int .i64 u.z.hi, .bool u.z.all]) := (hin 4 33 rfl).trans (congrArg some (show uu 4 = .agg #[.int .i64 u.x.lo, .int .i64 u.x.hi, .bool u.x.all, .int .i64 u.y.lo, .int .i64 u.y.hi, .bool u.y.all, .int .i64 u.z.lo, .int .i64 u.z.hi, .bool u.z.all] from hd 4 (by decide) (by kernel_rfl)))
   clear hd hev hin
   simp only [List.getElem_cons_succ, List.getElem_cons_zero]
   clear hl
   refine .inr ⟨rfl, fun K' hK => ?_⟩
   have HK := Lib.hid hK
   clear hK
   go_simp
   refine (Hq.out ww).mono ?_
   rintro zz W' ⟨rfl, hB⟩
   exact HK.out (.agg #[.int .i64 q.x.lo, .int .i64 q.x.hi, .bool q.x.all, .int .i64 q.y.lo, .int .i64 q.y.hi, .bool q.y.all, .int .i64 q.z.lo, .int .i64 q.z.hi, .bool q.z.all]) _ (hJ.later hB) rfl (veL_later hB)
  ·
   have x29 : aa.tmps[29]? = some (.agg #[.int .i64 v.x.lo, .int .i64 v.x.hi, .bool v.x.all, .int .i64 v.y.lo, .int .i64 v.y.hi, .bool v.y.all, .int .i64 v.z.lo, .int .i64 v.z.hi, .bool v.z.all]) := (hin 0 29 rfl).trans (congrArg some (show uu 0 = .agg #[.int .i64 v.x.lo, .int .i64 v.x.hi, .bool v.x.all, .int .i64 v.y.lo, .int .i64 v.y.hi, .bool v.y.all, .int .i64 v.z.lo, .int .i64 v.z.hi, .bool v.z.all] from hd 0 (by decide) (by kernel_rfl)))
   have x34 : aa.tmps[34]? = some (.agg #[.int .i64 q.x.lo, .int .i64 q.x.hi, .bool q.x.all, .int .i64 q.y.lo, .int .i64 q.y.hi, .bool q.y.all, .int .i64 q.z.lo, .int .i64 q.z.hi, .bool q.z.all]) := (hin 5 34 rfl).trans (congrArg some (show uu 5 = .agg #[.int .i64 q.x.lo, .int .i64 q.x.hi, .bool q.x.all, .int .i64 q.y.lo, .int .i64 q.y.hi, .bool q.y.all, .int .i64 q.z.lo, .int .i64 q.z.hi, .bool q.z.all] from hd 5 (by decide) (by kernel_rfl)))
   clear hd hev hin
   simp only [List.getElem_cons_succ, List.getElem_cons_zero]
   clear hl
   refine .inr ⟨rfl, fun K' hK => ?_⟩
   have HK := Lib.hid hK
   clear hK
   go_simp
   refine (Hf.out ww).mono ?_
   rintro zz W' ⟨rfl, hB⟩
   exact HK.out (.bool true) _ (hJ.later hB) rfl (veL_later hB)
  ·
   have x35 : aa.tmps[35]? = some (.bool true) := (hin 6 35 rfl).trans (congrArg some (show uu 6 = .bool true from hd 6 (by decide) (by kernel_rfl)))
   clear hd hev hin
   simp only [List.getElem_cons_succ, List.getElem_cons_zero]
   clear hl
   refine .inr ⟨rfl, fun K' hK => ?_⟩
   have HK := Lib.hid hK
   clear hK
   go_simp
   exact HK.out (.bool true) _ hJ rfl veL_same
 clear hM
 intro uu W18 hJm hd
 have e_0 : uu 0 = .agg #[.int .i64 v.x.lo, .int .i64 v.x.hi, .bool v.x.all, .int .i64 v.y.lo, .int .i64 v.y.hi, .bool v.y.all, .int .i64 v.z.lo, .int .i64 v.z.hi, .bool v.z.all] := hd 0 (by decide)
 have e_1 : uu 1 = .agg #[.int .i64 v.x.lo, .int .i64 v.x.hi, .bool v.x.all, .int .i64 v.y.lo, .int .i64 v.y.hi, .bool v.y.all, .int .i64 v.z.lo, .int .i64 v.z.hi, .bool v.z.all] := hd 1 (by decide)
 have e_2 : uu 2 = .agg #[.int .i64 u.x.lo, .int .i64 u.x.hi, .bool u.x.all, .int .i64 u.y.lo, .int .i64 u.y.hi, .bool u.y.all, .int .i64 u.z.lo, .int .i64 u.z.hi, .bool u.z.all] := hd 2 (by decide)
 have e_3 : uu 3 = .agg #[.int .i64 s.x.lo, .int .i64 s.x.hi, .bool s.x.all, .int .i64 s.y.lo, .int .i64 s.y.hi, .bool s.y.all, .int .i64 s.z.lo, .int .i64 s.z.hi, .bool s.z.all] := hd 3 (by decide)
 have e_4 : uu 4 = .agg #[.int .i64 u.x.lo, .int .i64 u.x.hi, .bool u.x.all, .int .i64 u.y.lo, .int .i64 u.y.hi, .bool u.y.all, .int .i64 u.z.lo, .int .i64 u.z.hi, .bool u.z.all] := hd 4 (by decide)
 have e_5 : uu 5 = .agg #[.int .i64 q.x.lo, .int .i64 q.x.hi, .bool q.x.all, .int .i64 q.y.lo, .int .i64 q.y.hi, .bool q.y.all, .int .i64 q.z.lo, .int .i64 q.z.hi, .bool q.z.all] := hd 5 (by decide)
 have e_6 : uu 6 = .bool true := hd 6 (by decide)
 have e_7 : uu 7 = .bool true := hd 7 (by decide)
 clear hd
 simp only [layS, Act.put, List.setIfInBounds_toArray, List.set_cons_succ, List.set_cons_zero, Nat.zero_add, Nat.reduceAdd, List.drop_succ_cons, List.drop_zero, List.drop_nil, e_0, e_1, e_2, e_3, e_4, e_5, e_6, e_7]
 clear e_0 e_1 e_2 e_3 e_4 e_5 e_6 e_7
 have hJ18 := hJm.es
 clear hJm
 have f0 : W18.cell? ⟨bk1, 0, none⟩ = some (.int .i64 v.x.lo) := hJ18.cell 6 rfl 0 rfl
 have f1 : W18.cell? ⟨bk1, 1, none⟩ = some (.int .i64 v.x.hi) := hJ18.cell 6 rfl 1 rfl
 have f2 : W18.cell? ⟨bk1, 2, none⟩ = some (.bool v.x.all) := hJ18.cell 6 rfl 2 rfl
 have f3 : W18.cell? ⟨bk1, 3, none⟩ = some (.int .i64 v.y.lo) := hJ18.cell 6 rfl 3 rfl
 have f4 : W18.cell? ⟨bk1, 4, none⟩ = some (.int .i64 v.y.hi) := hJ18.cell 6 rfl 4 rfl
 have f5 : W18.cell? ⟨bk1, 5, none⟩ = some (.bool v.y.all) := hJ18.cell 6 rfl 5 rfl
 have f6 : W18.cell? ⟨bk1, 6, none⟩ = some (.int .i64 v.z.lo) := hJ18.cell 6 rfl 6 rfl
 have f7 : W18.cell? ⟨bk1, 7, none⟩ = some (.int .i64 v.z.hi) := hJ18.cell 6 rfl 7 rfl
 have f8 : W18.cell? ⟨bk1, 8, none⟩ = some (.bool v.z.all) := hJ18.cell 6 rfl 8 rfl
 have f9 : W18.cell? ⟨bk7, 0, none⟩ = some (.int .i64 e.x.lo) := hJ18.cell 0 rfl 0 rfl
 have f10 : W18.cell? ⟨bk7, 1, none⟩ = some (.int .i64 e.x.hi) := hJ18.cell 0 rfl 1 rfl
 have f11 : W18.cell? ⟨bk7, 2, none⟩ = some (.bool e.x.all) := hJ18.cell 0 rfl 2 rfl
 have f12 : W18.cell? ⟨bk7, 3, none⟩ = some (.int .i64 e.y.lo) := hJ18.cell 0 rfl 3 rfl
 have f13 : W18.cell? ⟨bk7, 4, none⟩ = some (.int .i64 e.y.hi) := hJ18.cell 0 rfl 4 rfl
 have f14 : W18.cell? ⟨bk7, 5, none⟩ = some (.bool e.y.all) := hJ18.cell 0 rfl 5 rfl
 have f15 : W18.cell? ⟨bk7, 6, none⟩ = some (.int .i64 e.z.lo) := hJ18.cell 0 rfl 6 rfl
 have f16 : W18.cell? ⟨bk7, 7, none⟩ = some (.int .i64 e.z.hi) := hJ18.cell 0 rfl 7 rfl
 have f17 : W18.cell? ⟨bk7, 8, none⟩ = some (.bool e.z.all) := hJ18.cell 0 rfl 8 rfl
 go_wp2_with fail
 refine (Hg.out _).mono ?_
 rintro zz W19 ⟨rfl, hB⟩
 have hJ19 := hJ18.later hB
 clear hB
 clear f0 f1 f2 f3 f4 f5 f6 f7 f8 f9 f10 f11 f12 f13 f14 f15 f16 f17
 clear hJ18
 have f0 : W19.cell? ⟨bk7, 0, none⟩ = some (.int .i64 e.x.lo) := hJ19.cell 0 rfl 0 rfl
 have f1 : W19.cell? ⟨bk7, 1, none⟩ = some (.int .i64 e.x.hi) := hJ19.cell 0 rfl 1 rfl
 have f2 : W19.cell? ⟨bk7, 2, none⟩ = some (.bool e.x.all) := hJ19.cell 0 rfl 2 rfl
 have f3 : W19.cell? ⟨bk7, 3, none⟩ = some (.int .i64 e.y.lo) := hJ19.cell 0 rfl 3 rfl
 have f4 : W19.cell? ⟨bk7, 4, none⟩ = some (.int .i64 e.y.hi) := hJ19.cell 0 rfl 4 rfl
 have f5 : W19.cell? ⟨bk7, 5, none⟩ = some (.bool e.y.all) := hJ19.cell 0 rfl 5 rfl
 have f6 : W19.cell? ⟨bk7, 6, none⟩ = some (.int .i64 e.z.lo) := hJ19.cell 0 rfl 6 rfl
 have f7 : W19.cell? ⟨bk7, 7, none⟩ = some (.int .i64 e.z.hi) := hJ19.cell 0 rfl 7 rfl
 have f8 : W19.cell? ⟨bk7, 8, none⟩ = some (.bool e.z.all) := hJ19.cell 0 rfl 8 rfl
 have f9 : W19.cell? ⟨bk1, 0, none⟩ = some (.int .i64 v.x.lo) := hJ19.cell 6 rfl 0 rfl
 have f10 : W19.cell? ⟨bk1, 1, none⟩ = some (.int .i64 v.x.hi) := hJ19.cell 6 rfl 1 rfl
 have f11 : W19.cell? ⟨bk1, 2, none⟩ = some (.bool v.x.all) := hJ19.cell 6 rfl 2 rfl
 have f12 : W19.cell? ⟨bk1, 3, none⟩ = some (.int .i64 v.y.lo) := hJ19.cell 6 rfl 3 rfl
 have f13 : W19.cell? ⟨bk1, 4, none⟩ = some (.int .i64 v.y.hi) := hJ19.cell 6 rfl 4 rfl
 have f14 : W19.cell? ⟨bk1, 5, none⟩ = some (.bool v.y.all) := hJ19.cell 6 rfl 5 rfl
 have f15 : W19.cell? ⟨bk1, 6, none⟩ = some (.int .i64 v.z.lo) := hJ19.cell 6 rfl 6 rfl
 have f16 : W19.cell? ⟨bk1, 7, none⟩ = some (.int .i64 v.z.hi) := hJ19.cell 6 rfl 7 rfl
 have f17 : W19.cell? ⟨bk1, 8, none⟩ = some (.bool v.z.all) := hJ19.cell 6 rfl 8 rfl
 go_wp2_with fail
 refine (Hh.out _).mono ?_
 rintro zz W20 ⟨rfl, hB⟩
 have hJ20 := hJ19.later hB
 clear hB
 clear f0 f1 f2 f3 f4 f5 f6 f7 f8 f9 f10 f11 f12 f13 f14 f15 f16 f17
 clear hJ19
 have f0 : W20.cell? ⟨bk3, 0, none⟩ = some (.int .i64 a.x.lo) := hJ20.cell 4 rfl 0 rfl
 have f1 : W20.cell? ⟨bk3, 1, none⟩ = some (.int .i64 a.x.hi) := hJ20.cell 4 rfl 1 rfl
 have f2 : W20.cell? ⟨bk3, 2, none⟩ = some (.bool a.x.all) := hJ20.cell 4 rfl 2 rfl
 have f3 : W20.cell? ⟨bk3, 3, none⟩ = some (.int .i64 a.y.lo) := hJ20.cell 4 rfl 3 rfl
 have f4 : W20.cell? ⟨bk3, 4, none⟩ = some (.int .i64 a.y.hi) := hJ20.cell 4 rfl 4 rfl
 have f5 : W20.cell? ⟨bk3, 5, none⟩ = some (.bool a.y.all) := hJ20.cell 4 rfl 5 rfl
 have f6 : W20.cell? ⟨bk3, 6, none⟩ = some (.int .i64 a.z.lo) := hJ20.cell 4 rfl 6 rfl
 have f7 : W20.cell? ⟨bk3, 7, none⟩ = some (.int .i64 a.z.hi) := hJ20.cell 4 rfl 7 rfl
 have f8 : W20.cell? ⟨bk3, 8, none⟩ = some (.bool a.z.all) := hJ20.cell 4 rfl 8 rfl
 have f9 : W20.cell? ⟨bk4, 0, none⟩ = some (.int .i64 a.x.lo) := hJ20.cell 3 rfl 0 rfl
 have f10 : W20.cell? ⟨bk4, 1, none⟩ = some (.int .i64 a.x.hi) := hJ20.cell 3 rfl 1 rfl
 have f11 : W20.cell? ⟨bk4, 2, none⟩ = some (.bool a.x.all) := hJ20.cell 3 rfl 2 rfl
 have f12 : W20.cell? ⟨bk4, 3, none⟩ = some (.int .i64 a.y.lo) := hJ20.cell 3 rfl 3 rfl
 have f13 : W20.cell? ⟨bk4, 4, none⟩ = some (.int .i64 a.y.hi) := hJ20.cell 3 rfl 4 rfl
 have f14 : W20.cell? ⟨bk4, 5, none⟩ = some (.bool a.y.all) := hJ20.cell 3 rfl 5 rfl
 have f15 : W20.cell? ⟨bk4, 6, none⟩ = some (.int .i64 a.z.lo) := hJ20.cell 3 rfl 6 rfl
 have f16 : W20.cell? ⟨bk4, 7, none⟩ = some (.int .i64 a.z.hi) := hJ20.cell 3 rfl 7 rfl
 have f17 : W20.cell? ⟨bk4, 8, none⟩ = some (.bool a.z.all) := hJ20.cell 3 rfl 8 rfl
 have f18 : W20.cell? ⟨bk5, 0, none⟩ = some (.int .i64 c.lo) := hJ20.cell 2 rfl 0 rfl
 have f19 : W20.cell? ⟨bk5, 1, none⟩ = some (.int .i64 c.hi) := hJ20.cell 2 rfl 1 rfl
 have f20 : W20.cell? ⟨bk5, 2, none⟩ = some (.bool c.all) := hJ20.cell 2 rfl 2 rfl
 have f21 : W20.cell? ⟨bk6, 0, none⟩ = some (.int .i64 c.lo) := hJ20.cell 1 rfl 0 rfl
 have f22 : W20.cell? ⟨bk6, 1, none⟩ = some (.int .i64 c.hi) := hJ20.cell 1 rfl 1 rfl
 have f23 : W20.cell? ⟨bk6, 2, none⟩ = some (.bool c.all) := hJ20.cell 1 rfl 2 rfl
 go_wp2
 go_ret
 exact ⟨rfl, hJ20.below⟩
theorem VecPlain_any (v u : Vc) (w : World) : Calls Try.prog 3 #[.agg #[.int .i64 v.x.lo, .int .i64 v.x.hi, .bool v.x.all, .int .i64 v.y.lo, .int .i64 v.y.hi, .bool v.y.all, .int .i64 v.z.lo, .int .i64 v.z.hi, .bool v.z.all], .agg #[.int .i64 u.x.lo, .int .i64 u.x.hi, .bool u.x.all, .int .i64 u.y.lo, .int .i64 u.y.hi, .bool u.y.all, .int .i64 u.z.lo, .int .i64 u.z.hi, .bool u.z.all]] w (PVal (.bool true) w) := by
 have h1 := vAdd_any u v
 rw [← plain_add] at h1
 have h2 := vDot_any u v
 rw [← plain_dot] at h2
 have h3 := vIn_any v (addV (subV v u) u)
 rw [plain_back] at h3
 have h4 := vIn_any v (scaV v oneS)
 rw [(plain_sca v).1] at h4
 have h5 := vIn_any (scaV v oneS) v
 rw [(plain_sca v).2] at h5
 exact Plain_w v u (addV v u) (scaV v oneS) (subV v u) (addV (subV v u) u) (dotV v u) oneS vawake_any (vAdd_any v u) h1 (vDot_any v u) h2 (sOf_any 1048576 1048576) (vScale_any v oneS) (vSub_any v u) (vAdd_any _ _) h3 h4 h5 w
end Go.Proofs.Ytpahkpcoinbgcab

/- How a span that comes in reads, for the rows of package span's laws. -/
namespace Go.Proofs.Ytpahkpcoinbgcab
open Go.Joins Go.ChangeShapes Go.WideShapes Go.RowKit Go.Deep
/-- A span, as it reads. -/
def spD {H : Type} (x : Sp) : DataW H := .agg [.lit (.int .i64 x.lo), .lit (.int .i64 x.hi), .lit (.bool x.all)]
section
variable {H : Type} {enc : TypeId × Value → H} {w : World} {base : Nat} {spare : Nat → Bool} {held : Bool}
end
end Go.Proofs.Ytpahkpcoinbgcab

/- How vectors and arrays that come in read, for the rows of package vec's laws. -/
namespace Go.Proofs.Ytpahkpcoinbgcab
open Go.Joins Go.ChangeShapes Go.WideShapes Go.RowKit Go.Deep
section
variable {H : Type} {enc : TypeId × Value → H} {w : World} {base : Nat} {spare : Nat → Bool} {held : Bool}
set_option maxRecDepth 100000 in
theorem trod_span {n : Nat} {cs : List Value} {y : DataW H × List MemPlace} (h : DataW.trod enc Try.prog w base spare held n 23 cs = some y) :
  ∃ x : Sp, cs = [.int .i64 x.lo, .int .i64 x.hi, .bool x.all] ∧ y = (spD x, []) ∧ (Lit.int .i64 x.lo).wf = true ∧ (Lit.int .i64 x.hi).wf = true := by
 obtain ⟨y0, y1, y2, m, hx, hl, h0, h1, h2⟩ := trod_struct3 Try.underlying23 h
 have hC : Try.prog.cellsOf 23 = 3 := by kernel_rfl
 have k1 : Try.prog.cellsOf 2 = 1 := by kernel_rfl
 have k2 : Try.prog.cellsOf 4 = 1 := by kernel_rfl
 rw [hC] at hl
 match cs, hl with
 | [c0, c1, c2], _ =>
  simp only [k1, k2, List.drop_zero, List.drop_succ_cons, List.take_succ_cons, List.take_zero] at h0 h1 h2
  obtain ⟨a, ha, rfl, wa⟩ := DataW.trod_int Try.underlying2 h0
  obtain ⟨b, hb, rfl, wb⟩ := DataW.trod_int Try.underlying2 h1
  obtain ⟨c, hc, rfl⟩ := DataW.trod_bool Try.underlying4 h2
  cases ha
  cases hb
  cases hc
  exact ⟨⟨a, b, c⟩, rfl, hx, wa, wb⟩
theorem trod_int_mk {a : Int} (wa : (Lit.int .i64 a).wf = true) : DataW.trod enc Try.prog w base spare held 1 2 [.int .i64 a] = some (.lit (.int .i64 a), []) := by
 unfold DataW.trod
 rw [Try.underlying2]
 simp [wa]
set_option maxRecDepth 100000 in
theorem trod_span_mk {x : Sp} (wa : (Lit.int .i64 x.lo).wf = true) (wb : (Lit.int .i64 x.hi).wf = true) : DataW.trod enc Try.prog w base spare held 2 23 [.int .i64 x.lo, .int .i64 x.hi, .bool x.all] = some (spD x, []) := by
 have hC : Try.prog.cellsOf 23 = 3 := by kernel_rfl
 have k1 : Try.prog.cellsOf 2 = 1 := by kernel_rfl
 have k2 : Try.prog.cellsOf 4 = 1 := by kernel_rfl
 have hb : DataW.trod enc Try.prog w base spare held 1 4 [.bool x.all] = some (.lit (.bool x.all), []) := by
  unfold DataW.trod
  rw [Try.underlying4]
 exact trod_struct3_mk (y0 := (.lit (.int .i64 x.lo), [])) (y1 := (.lit (.int .i64 x.hi), [])) (y2 := (.lit (.bool x.all), [])) Try.underlying23 (by rw [hC]; rfl)
  (by rw [k1]; exact trod_int_mk wa) (by rw [k1]; exact trod_int_mk wb) (by rw [k2]; exact hb)
/-- An array of three, opened. -/
theorem trod_arr3 {P : Program} {n k : Nat} {t e : TypeId} {cs : List Value} {y : DataW H × List MemPlace} (hu : P.underlying t = some (.array 3 e)) (hC : P.cellsOf t = 3 * k) (hk : P.cellsOf e = k) (h : DataW.trod enc P w base spare held n t cs = some y) :
  ∃ (m : Nat) (y0 y1 y2 : DataW H × List MemPlace), cs.length = 3 * k ∧ DataW.trod enc P w base spare held m e (cs.take k) = some y0 ∧ DataW.trod enc P w base spare held m e ((cs.drop k).take k) = some y1 ∧ DataW.trod enc P w base spare held m e ((cs.drop (2 * k)).take k) = some y2 ∧ y = (.agg [y0.1, y1.1, y2.1], y0.2 ++ (y1.2 ++ y2.2)) := by
 cases n with
 | zero => unfold DataW.trod at h; cases h
 | succ m =>
  unfold DataW.trod at h
  rw [hu] at h
  simp only [hC, hk] at h
  split at h
  ·
   next hl =>
   rw [show List.range 3 = [0, 1, 2] from rfl] at h
   simp only [List.mapM_cons, List.mapM_nil, Nat.zero_mul, Nat.one_mul, List.drop_zero] at h
   cases e0 : DataW.trod enc P w base spare held m e (cs.take k) with
   | none => rw [e0] at h; cases h
   | some y0 =>
    cases e1 : DataW.trod enc P w base spare held m e ((cs.drop k).take k) with
    | none => rw [e0, e1] at h; cases h
    | some y1 =>
     cases e2 : DataW.trod enc P w base spare held m e ((cs.drop (2 * k)).take k) with
     | none => rw [e0, e1, e2] at h; cases h
     | some y2 =>
      rw [e0, e1, e2] at h
      refine ⟨m, y0, y1, y2, hl, e0, e1, e2, ?_⟩
      have := Option.some.inj h
      rw [← this]
      simp
  ·
   cases h
theorem trod_arr3_mk {P : Program} {m k : Nat} {t e : TypeId} {cs : List Value} {y0 y1 y2 : DataW H × List MemPlace} (hu : P.underlying t = some (.array 3 e)) (hC : P.cellsOf t = 3 * k) (hk : P.cellsOf e = k) (hl : cs.length = 3 * k) (h0 : DataW.trod enc P w base spare held m e (cs.take k) = some y0) (h1 : DataW.trod enc P w base spare held m e ((cs.drop k).take k) = some y1) (h2 : DataW.trod enc P w base spare held m e ((cs.drop (2 * k)).take k) = some y2) :
  DataW.trod enc P w base spare held (m + 1) t cs = some (.agg [y0.1, y1.1, y2.1], y0.2 ++ (y1.2 ++ y2.2)) := by
 unfold DataW.trod
 rw [hu]
 simp only [hC, hk, hl, if_true]
 rw [show List.range 3 = [0, 1, 2] from rfl]
 simp only [List.mapM_cons, List.mapM_nil, Nat.zero_mul, Nat.one_mul, List.drop_zero, h0, h1, h2]
 simp
/-- A vector, as it reads; an array of three numbers. -/
def vcD (v : Vc) : DataW H := .agg [spD v.x, spD v.y, spD v.z]
theorem agg_of {v : Value} {n : Nat} (h : v.cells.toList.length = n) (hn : n ≠ 1) : ∃ cs : Array Value, v = .agg cs := by
 cases v <;> first | exact ⟨_, rfl⟩ | (exfalso; apply hn; rw [← h]; rfl)
set_option maxRecDepth 100000 in
theorem open_vec {v : Value} {d : DataW H} {p : List MemPlace} (h : DataW.Trod enc Try.prog w base spare held 25 v d p) :
  ∃ x : Vc, v = .agg #[.int .i64 x.x.lo, .int .i64 x.x.hi, .bool x.x.all, .int .i64 x.y.lo, .int .i64 x.y.hi, .bool x.y.all, .int .i64 x.z.lo, .int .i64 x.z.hi, .bool x.z.all] ∧ d = vcD x ∧ p = [] ∧ ((Lit.int .i64 x.x.lo).wf = true ∧ (Lit.int .i64 x.x.hi).wf = true) ∧ ((Lit.int .i64 x.y.lo).wf = true ∧ (Lit.int .i64 x.y.hi).wf = true) ∧ ((Lit.int .i64 x.z.lo).wf = true ∧ (Lit.int .i64 x.z.hi).wf = true) := by
 obtain ⟨fuel, hf⟩ := h
 obtain ⟨m, y0, y1, y2, hl, h0, h1, h2, e⟩ := trod_arr3 (k := 3) (e := 23) (by kernel_rfl) (by kernel_rfl) (by kernel_rfl) hf
 obtain ⟨cs, rfl⟩ := agg_of hl (by decide)
 obtain ⟨x, c0, rfl, w0⟩ := trod_span h0
 obtain ⟨y, c1, rfl, w1⟩ := trod_span h1
 obtain ⟨z, c2, rfl, w2⟩ := trod_span h2
 obtain ⟨l⟩ := cs
 change l.length = 9 at hl
 change l.take 3 = _ at c0
 change (l.drop 3).take 3 = _ at c1
 change (l.drop 6).take 3 = _ at c2
 have hl' : l = l.take 3 ++ ((l.drop 3).take 3 ++ (l.drop 6).take 3) := by
  match l, hl with
  | [_, _, _, _, _, _, _, _, _], _ => rfl
 rw [c0, c1, c2] at hl'
 cases e
 exact ⟨⟨x, y, z⟩, by rw [hl']; rfl, rfl, rfl, w0, w1, w2⟩
set_option maxRecDepth 100000 in
theorem shut_vec {x : Vc} (w0 : (Lit.int .i64 x.x.lo).wf = true ∧ (Lit.int .i64 x.x.hi).wf = true) (w1 : (Lit.int .i64 x.y.lo).wf = true ∧ (Lit.int .i64 x.y.hi).wf = true) (w2 : (Lit.int .i64 x.z.lo).wf = true ∧ (Lit.int .i64 x.z.hi).wf = true) :
  DataW.Trod enc Try.prog w base spare held 25 (.agg #[.int .i64 x.x.lo, .int .i64 x.x.hi, .bool x.x.all, .int .i64 x.y.lo, .int .i64 x.y.hi, .bool x.y.all, .int .i64 x.z.lo, .int .i64 x.z.hi, .bool x.z.all]) (vcD x) [] :=
 ⟨3, trod_arr3_mk (P := Try.prog) (m := 2) (k := 3) (t := 25) (e := 23) (y0 := (spD x.x, [])) (y1 := (spD x.y, [])) (y2 := (spD x.z, [])) (by kernel_rfl) (by kernel_rfl) (by kernel_rfl) rfl (trod_span_mk w0.1 w0.2) (trod_span_mk w1.1 w1.2) (trod_span_mk w2.1 w2.2)⟩
end
end Go.Proofs.Ytpahkpcoinbgcab
