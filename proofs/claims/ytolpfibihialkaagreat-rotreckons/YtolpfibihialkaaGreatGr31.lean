/- Parts of the proof. -/
import Derived.Test.YtolpfibihialkaaGreatGr0
import Derived.Test.YtolpfibihialkaaGreatGr29
import Derived.LoopN
/- Package vec: the walks of both, each, sum, from. No statement of the seat is proved here. -/
namespace Go.Proofs.YtolpfibihialkaaGreat
open Go Go.RowKit
attribute [local go_sem] run_vix0 run_vix1 run_vix2
attribute [local go_sem ↓] run_vbuild run_dbuild
set_option maxRecDepth 100000 in
set_option maxHeartbeats 12800000 in
theorem each_s (k : FuncId) (v r : Vc) (hH0 : ∀ W : World, Calls Tryz.prog k #[.agg (cS v.x)] W (PVal (.agg (cS r.x)) W)) (hH1 : ∀ W : World, Calls Tryz.prog k #[.agg (cS v.y)] W (PVal (.agg (cS r.y)) W)) (hH2 : ∀ W : World, Calls Tryz.prog k #[.agg (cS v.z)] W (PVal (.agg (cS r.z)) W)) (hk : ∀ (args : Array Value) (W : World), (callFunc k args).run Tryz.prog W = .ok (.enter k args) W) (w : World)   : Calls Tryz.prog 59 #[.agg (cV v), .func (.func k) #[] #[]] w (PVal (.agg (cV r)) w) := by
 have H0 := Lib.hid hH0
 have H1 := Lib.hid hH1
 have H2 := Lib.hid hH2
 clear hH0 hH1 hH2
 have hJ0 := es_nil w
 go_enter Tryz.func59, Tryz.ntmps59
 go_wp2_with (refine stop_box 25 (.tmp 0) (cV v) rfl rfl rfl hJ0 (fun bk1 W1 hJ1 => ?_))
 clear hJ0
 unfold Stop
 try simp only [Act.put, zzC, zzD, zzE]
 go_wp2_with (refine stop_alloc 24 (cV zV) (.agg (cV zV)) rfl rfl zv24 rfl hJ1 (fun bk2 W2 hJ2 => ?_))
 clear hJ1
 unfold Stop
 try simp only [Act.put, zzC, zzD, zzE]
 go_wp2_with (refine stop_alloc 24 (cV zV) (.agg (cV zV)) rfl rfl zv24 rfl hJ2 (fun bk3 W3 hJ3 => ?_))
 clear hJ2
 unfold Stop
 try simp only [Act.put, zzC, zzD, zzE]
 go_wp2_with (refine stop_op rfl (fun K hK => wp_load 25 (.tmp 2) rfl bk1 0 9 (cV v) (cV v) 25 (hJ3.at' _ (zzG (i := 2) rfl)) rfl ag25 sz25 (zzF (by kernel_rfl)) (by kernel_rfl) (hK _ _ ?_)))
 unfold Stop
 try simp only [Act.put, zzC, zzD, zzE]
 go_wp2
 refine wp_loop_rounds 4 ?_
 rw [rounds_succ]
 go_wp2_with (refine stop_op rfl (fun K hK => wp_idx (v := .agg (cS v.x)) 25 (.tmp 8) (.tmp 9) rfl rfl rfl (fun _ => by kernel_rfl) (hK _ _ ?_)))
 unfold Stop
 try simp only [Act.put, zzC, zzD, zzE]
 go_wp2_with (refine stop_alloc 23 (cS zS) (.agg (cS zS)) rfl rfl zv23 rfl hJ3 (fun bk4 W4 hJ4 => ?_))
 clear hJ3
 unfold Stop
 try simp only [Act.put, zzC, zzD, zzE]
 go_wp2_with (refine stop_store 23 (.tmp 7) (.tmp 12) 0 bk4 0 (cS zS) 23 3 (cS v.x).toList (cS v.x) [(bk4, (cS v.x), 23), (bk3, (cV zV), 24), (bk2, (cV zV), 24), (bk1, (cV v), 25)] rfl rfl rfl rfl sz23 hJ4 rfl (by kernel_rfl) (zzF (by kernel_rfl)) (by kernel_rfl) (by kernel_rfl) (by kernel_rfl) (fun W5 hJ5 => ?_))
 clear hJ4
 unfold Stop
 try simp only [Act.put, zzC, zzD, zzE]
 go_wp2_with (refine stop_op rfl (fun K hK => wp_load 23 (.tmp 7) rfl bk4 0 3 (cS v.x) (cS v.x) 23 (hJ5.at' _ (zzG (i := 0) rfl)) rfl ag23 sz23 (zzF (by kernel_rfl)) (by kernel_rfl) (hK _ _ ?_)))
 unfold Stop
 try simp only [Act.put, zzC, zzD, zzE]
 go_wp2_with fail
 refine (H0.out _).mono ?_
 rintro zz W6 ⟨rfl, hB⟩
 have hJ6 := hJ5.later hB
 clear hB
 clear hJ5
 go_wp2_with (refine stop_store 23 (.tmp 17) (.tmp 16) 1 bk3 0 (cV zV) 24 3 (cS r.x).toList (cV ⟨r.x, zS, zS⟩) [(bk4, (cS v.x), 23), (bk3, (cV ⟨r.x, zS, zS⟩), 24), (bk2, (cV zV), 24), (bk1, (cV v), 25)] rfl rfl rfl rfl sz23 hJ6 rfl (by kernel_rfl) (zzF (by kernel_rfl)) (by kernel_rfl) (by kernel_rfl) (by kernel_rfl) (fun W7 hJ7 => ?_))
 clear hJ6
 unfold Stop
 try simp only [Act.put, zzC, zzD, zzE]
 go_wp2
 rw [rounds_succ]
 go_wp2_with (refine stop_op rfl (fun K hK => wp_idx (v := .agg (cS v.y)) 25 (.tmp 8) (.tmp 9) rfl rfl rfl (fun _ => by kernel_rfl) (hK _ _ ?_)))
 unfold Stop
 try simp only [Act.put, zzC, zzD, zzE]
 go_wp2_with (refine stop_alloc 23 (cS zS) (.agg (cS zS)) rfl rfl zv23 rfl hJ7 (fun bk5 W8 hJ8 => ?_))
 clear hJ7
 unfold Stop
 try simp only [Act.put, zzC, zzD, zzE]
 go_wp2_with (refine stop_store 23 (.tmp 7) (.tmp 12) 0 bk5 0 (cS zS) 23 3 (cS v.y).toList (cS v.y) [(bk5, (cS v.y), 23), (bk4, (cS v.x), 23), (bk3, (cV ⟨r.x, zS, zS⟩), 24), (bk2, (cV zV), 24), (bk1, (cV v), 25)] rfl rfl rfl rfl sz23 hJ8 rfl (by kernel_rfl) (zzF (by kernel_rfl)) (by kernel_rfl) (by kernel_rfl) (by kernel_rfl) (fun W9 hJ9 => ?_))
 clear hJ8
 unfold Stop
 try simp only [Act.put, zzC, zzD, zzE]
 go_wp2_with (refine stop_op rfl (fun K hK => wp_load 23 (.tmp 7) rfl bk5 0 3 (cS v.y) (cS v.y) 23 (hJ9.at' _ (zzG (i := 0) rfl)) rfl ag23 sz23 (zzF (by kernel_rfl)) (by kernel_rfl) (hK _ _ ?_)))
 unfold Stop
 try simp only [Act.put, zzC, zzD, zzE]
 go_wp2_with fail
 refine (H1.out _).mono ?_
 rintro zz W10 ⟨rfl, hB⟩
 have hJ10 := hJ9.later hB
 clear hB
 clear hJ9
 go_wp2_with (refine stop_store 23 (.tmp 17) (.tmp 16) 2 bk3 3 (cV ⟨r.x, zS, zS⟩) 24 3 (cS r.y).toList (cV ⟨r.x, r.y, zS⟩) [(bk5, (cS v.y), 23), (bk4, (cS v.x), 23), (bk3, (cV ⟨r.x, r.y, zS⟩), 24), (bk2, (cV zV), 24), (bk1, (cV v), 25)] rfl rfl rfl rfl sz23 hJ10 rfl (by kernel_rfl) (zzF (by kernel_rfl)) (by kernel_rfl) (by kernel_rfl) (by kernel_rfl) (fun W11 hJ11 => ?_))
 clear hJ10
 unfold Stop
 try simp only [Act.put, zzC, zzD, zzE]
 go_wp2
 rw [rounds_succ]
 go_wp2_with (refine stop_op rfl (fun K hK => wp_idx (v := .agg (cS v.z)) 25 (.tmp 8) (.tmp 9) rfl rfl rfl (fun _ => by kernel_rfl) (hK _ _ ?_)))
 unfold Stop
 try simp only [Act.put, zzC, zzD, zzE]
 go_wp2_with (refine stop_alloc 23 (cS zS) (.agg (cS zS)) rfl rfl zv23 rfl hJ11 (fun bk6 W12 hJ12 => ?_))
 clear hJ11
 unfold Stop
 try simp only [Act.put, zzC, zzD, zzE]
 go_wp2_with (refine stop_store 23 (.tmp 7) (.tmp 12) 0 bk6 0 (cS zS) 23 3 (cS v.z).toList (cS v.z) [(bk6, (cS v.z), 23), (bk5, (cS v.y), 23), (bk4, (cS v.x), 23), (bk3, (cV ⟨r.x, r.y, zS⟩), 24), (bk2, (cV zV), 24), (bk1, (cV v), 25)] rfl rfl rfl rfl sz23 hJ12 rfl (by kernel_rfl) (zzF (by kernel_rfl)) (by kernel_rfl) (by kernel_rfl) (by kernel_rfl) (fun W13 hJ13 => ?_))
 clear hJ12
 unfold Stop
 try simp only [Act.put, zzC, zzD, zzE]
 go_wp2_with (refine stop_op rfl (fun K hK => wp_load 23 (.tmp 7) rfl bk6 0 3 (cS v.z) (cS v.z) 23 (hJ13.at' _ (zzG (i := 0) rfl)) rfl ag23 sz23 (zzF (by kernel_rfl)) (by kernel_rfl) (hK _ _ ?_)))
 unfold Stop
 try simp only [Act.put, zzC, zzD, zzE]
 go_wp2_with fail
 refine (H2.out _).mono ?_
 rintro zz W14 ⟨rfl, hB⟩
 have hJ14 := hJ13.later hB
 clear hB
 clear hJ13
 go_wp2_with (refine stop_store 23 (.tmp 17) (.tmp 16) 3 bk3 6 (cV ⟨r.x, r.y, zS⟩) 24 3 (cS r.z).toList (cV r) [(bk6, (cS v.z), 23), (bk5, (cS v.y), 23), (bk4, (cS v.x), 23), (bk3, (cV r), 24), (bk2, (cV zV), 24), (bk1, (cV v), 25)] rfl rfl rfl rfl sz23 hJ14 rfl (by kernel_rfl) (zzF (by kernel_rfl)) (by kernel_rfl) (by kernel_rfl) (by kernel_rfl) (fun W15 hJ15 => ?_))
 clear hJ14
 unfold Stop
 try simp only [Act.put, zzC, zzD, zzE]
 go_wp2
 rw [rounds_succ]
 go_wp2_with (refine stop_op rfl (fun K hK => wp_load 24 (.tmp 5) rfl bk3 0 9 (cV r) (cV r) 24 (hJ15.at' _ (zzG (i := 3) rfl)) rfl ag24 sz24 (zzF (by kernel_rfl)) (by kernel_rfl) (hK _ _ ?_)))
 unfold Stop
 try simp only [Act.put, zzC, zzD, zzE]
 go_wp2_with (refine stop_store 24 (.tmp 4) (.tmp 19) 4 bk2 0 (cV zV) 24 9 (cV r).toList (cV r) [(bk6, (cS v.z), 23), (bk5, (cS v.y), 23), (bk4, (cS v.x), 23), (bk3, (cV r), 24), (bk2, (cV r), 24), (bk1, (cV v), 25)] rfl rfl rfl rfl sz24 hJ15 rfl (by kernel_rfl) (zzF (by kernel_rfl)) (by kernel_rfl) (by kernel_rfl) (by kernel_rfl) (fun W16 hJ16 => ?_))
 clear hJ15
 unfold Stop
 try simp only [Act.put, zzC, zzD, zzE]
 go_wp2
 exact bodyPost_ret (v := .agg (cV r)) (results_cell 4 Tryz.results59 hJ16 rfl ag24 sz24 (zzF (by kernel_rfl)) rfl (by kernel_rfl)) rfl ⟨rfl, hJ16.below⟩
set_option maxRecDepth 100000 in
set_option maxHeartbeats 12800000 in
theorem each_i (k : FuncId) (v : Vc) (r0 r1 r2 : Int) (hH0 : ∀ W : World, Calls Tryz.prog k #[.agg (cS v.x)] W (PVal (.int .i64 r0) W)) (hH1 : ∀ W : World, Calls Tryz.prog k #[.agg (cS v.y)] W (PVal (.int .i64 r1) W)) (hH2 : ∀ W : World, Calls Tryz.prog k #[.agg (cS v.z)] W (PVal (.int .i64 r2) W)) (hk : ∀ (args : Array Value) (W : World), (callFunc k args).run Tryz.prog W = .ok (.enter k args) W) (w : World)   : Calls Tryz.prog 52 #[.agg (cV v), .func (.func k) #[] #[]] w (PVal (.agg #[.int .i64 r0, .int .i64 r1, .int .i64 r2]) w) := by
 have H0 := Lib.hid hH0
 have H1 := Lib.hid hH1
 have H2 := Lib.hid hH2
 clear hH0 hH1 hH2
 have hJ0 := es_nil w
 go_enter Tryz.func52, Tryz.ntmps52
 go_wp2_with (refine stop_box 25 (.tmp 0) (cV v) rfl rfl rfl hJ0 (fun bk1 W1 hJ1 => ?_))
 clear hJ0
 unfold Stop
 try simp only [Act.put, zzC, zzD, zzE]
 go_wp2_with (refine stop_alloc 68 #[.int .i64 0, .int .i64 0, .int .i64 0] (.agg #[.int .i64 0, .int .i64 0, .int .i64 0]) rfl rfl zv68 rfl hJ1 (fun bk2 W2 hJ2 => ?_))
 clear hJ1
 unfold Stop
 try simp only [Act.put, zzC, zzD, zzE]
 go_wp2_with (refine stop_alloc 68 #[.int .i64 0, .int .i64 0, .int .i64 0] (.agg #[.int .i64 0, .int .i64 0, .int .i64 0]) rfl rfl zv68 rfl hJ2 (fun bk3 W3 hJ3 => ?_))
 clear hJ2
 unfold Stop
 try simp only [Act.put, zzC, zzD, zzE]
 go_wp2_with (refine stop_op rfl (fun K hK => wp_load 25 (.tmp 2) rfl bk1 0 9 (cV v) (cV v) 25 (hJ3.at' _ (zzG (i := 2) rfl)) rfl ag25 sz25 (zzF (by kernel_rfl)) (by kernel_rfl) (hK _ _ ?_)))
 unfold Stop
 try simp only [Act.put, zzC, zzD, zzE]
 go_wp2
 refine wp_loop_rounds 4 ?_
 rw [rounds_succ]
 go_wp2_with (refine stop_op rfl (fun K hK => wp_idx (v := .agg (cS v.x)) 25 (.tmp 8) (.tmp 9) rfl rfl rfl (fun _ => by kernel_rfl) (hK _ _ ?_)))
 unfold Stop
 try simp only [Act.put, zzC, zzD, zzE]
 go_wp2_with (refine stop_alloc 23 (cS zS) (.agg (cS zS)) rfl rfl zv23 rfl hJ3 (fun bk4 W4 hJ4 => ?_))
 clear hJ3
 unfold Stop
 try simp only [Act.put, zzC, zzD, zzE]
 go_wp2_with (refine stop_store 23 (.tmp 7) (.tmp 12) 0 bk4 0 (cS zS) 23 3 (cS v.x).toList (cS v.x) [(bk4, (cS v.x), 23), (bk3, #[.int .i64 0, .int .i64 0, .int .i64 0], 68), (bk2, #[.int .i64 0, .int .i64 0, .int .i64 0], 68), (bk1, (cV v), 25)] rfl rfl rfl rfl sz23 hJ4 rfl (by kernel_rfl) (zzF (by kernel_rfl)) (by kernel_rfl) (by kernel_rfl) (by kernel_rfl) (fun W5 hJ5 => ?_))
 clear hJ4
 unfold Stop
 try simp only [Act.put, zzC, zzD, zzE]
 go_wp2_with (refine stop_op rfl (fun K hK => wp_load 23 (.tmp 7) rfl bk4 0 3 (cS v.x) (cS v.x) 23 (hJ5.at' _ (zzG (i := 0) rfl)) rfl ag23 sz23 (zzF (by kernel_rfl)) (by kernel_rfl) (hK _ _ ?_)))
 unfold Stop
 try simp only [Act.put, zzC, zzD, zzE]
 go_wp2_with fail
 refine (H0.out _).mono ?_
 rintro zz W6 ⟨rfl, hB⟩
 have hJ6 := hJ5.later hB
 clear hB
 clear hJ5
 go_wp2_with (refine stop_store 2 (.tmp 17) (.tmp 16) 1 bk3 0 #[.int .i64 0, .int .i64 0, .int .i64 0] 68 1 [.int .i64 r0] #[.int .i64 r0, .int .i64 0, .int .i64 0] [(bk4, (cS v.x), 23), (bk3, #[.int .i64 r0, .int .i64 0, .int .i64 0], 68), (bk2, #[.int .i64 0, .int .i64 0, .int .i64 0], 68), (bk1, (cV v), 25)] rfl rfl rfl rfl sz2 hJ6 rfl (by kernel_rfl) (zzF (by kernel_rfl)) (by kernel_rfl) (by kernel_rfl) (by kernel_rfl) (fun W7 hJ7 => ?_))
 clear hJ6
 unfold Stop
 try simp only [Act.put, zzC, zzD, zzE]
 go_wp2
 rw [rounds_succ]
 go_wp2_with (refine stop_op rfl (fun K hK => wp_idx (v := .agg (cS v.y)) 25 (.tmp 8) (.tmp 9) rfl rfl rfl (fun _ => by kernel_rfl) (hK _ _ ?_)))
 unfold Stop
 try simp only [Act.put, zzC, zzD, zzE]
 go_wp2_with (refine stop_alloc 23 (cS zS) (.agg (cS zS)) rfl rfl zv23 rfl hJ7 (fun bk5 W8 hJ8 => ?_))
 clear hJ7
 unfold Stop
 try simp only [Act.put, zzC, zzD, zzE]
 go_wp2_with (refine stop_store 23 (.tmp 7) (.tmp 12) 0 bk5 0 (cS zS) 23 3 (cS v.y).toList (cS v.y) [(bk5, (cS v.y), 23), (bk4, (cS v.x), 23), (bk3, #[.int .i64 r0, .int .i64 0, .int .i64 0], 68), (bk2, #[.int .i64 0, .int .i64 0, .int .i64 0], 68), (bk1, (cV v), 25)] rfl rfl rfl rfl sz23 hJ8 rfl (by kernel_rfl) (zzF (by kernel_rfl)) (by kernel_rfl) (by kernel_rfl) (by kernel_rfl) (fun W9 hJ9 => ?_))
 clear hJ8
 unfold Stop
 try simp only [Act.put, zzC, zzD, zzE]
 go_wp2_with (refine stop_op rfl (fun K hK => wp_load 23 (.tmp 7) rfl bk5 0 3 (cS v.y) (cS v.y) 23 (hJ9.at' _ (zzG (i := 0) rfl)) rfl ag23 sz23 (zzF (by kernel_rfl)) (by kernel_rfl) (hK _ _ ?_)))
 unfold Stop
 try simp only [Act.put, zzC, zzD, zzE]
 go_wp2_with fail
 refine (H1.out _).mono ?_
 rintro zz W10 ⟨rfl, hB⟩
 have hJ10 := hJ9.later hB
 clear hB
 clear hJ9
 go_wp2_with (refine stop_store 2 (.tmp 17) (.tmp 16) 2 bk3 1 #[.int .i64 r0, .int .i64 0, .int .i64 0] 68 1 [.int .i64 r1] #[.int .i64 r0, .int .i64 r1, .int .i64 0] [(bk5, (cS v.y), 23), (bk4, (cS v.x), 23), (bk3, #[.int .i64 r0, .int .i64 r1, .int .i64 0], 68), (bk2, #[.int .i64 0, .int .i64 0, .int .i64 0], 68), (bk1, (cV v), 25)] rfl rfl rfl rfl sz2 hJ10 rfl (by kernel_rfl) (zzF (by kernel_rfl)) (by kernel_rfl) (by kernel_rfl) (by kernel_rfl) (fun W11 hJ11 => ?_))
 clear hJ10
 unfold Stop
 try simp only [Act.put, zzC, zzD, zzE]
 go_wp2
 rw [rounds_succ]
 go_wp2_with (refine stop_op rfl (fun K hK => wp_idx (v := .agg (cS v.z)) 25 (.tmp 8) (.tmp 9) rfl rfl rfl (fun _ => by kernel_rfl) (hK _ _ ?_)))
 unfold Stop
 try simp only [Act.put, zzC, zzD, zzE]
 go_wp2_with (refine stop_alloc 23 (cS zS) (.agg (cS zS)) rfl rfl zv23 rfl hJ11 (fun bk6 W12 hJ12 => ?_))
 clear hJ11
 unfold Stop
 try simp only [Act.put, zzC, zzD, zzE]
 go_wp2_with (refine stop_store 23 (.tmp 7) (.tmp 12) 0 bk6 0 (cS zS) 23 3 (cS v.z).toList (cS v.z) [(bk6, (cS v.z), 23), (bk5, (cS v.y), 23), (bk4, (cS v.x), 23), (bk3, #[.int .i64 r0, .int .i64 r1, .int .i64 0], 68), (bk2, #[.int .i64 0, .int .i64 0, .int .i64 0], 68), (bk1, (cV v), 25)] rfl rfl rfl rfl sz23 hJ12 rfl (by kernel_rfl) (zzF (by kernel_rfl)) (by kernel_rfl) (by kernel_rfl) (by kernel_rfl) (fun W13 hJ13 => ?_))
 clear hJ12
 unfold Stop
 try simp only [Act.put, zzC, zzD, zzE]
 go_wp2_with (refine stop_op rfl (fun K hK => wp_load 23 (.tmp 7) rfl bk6 0 3 (cS v.z) (cS v.z) 23 (hJ13.at' _ (zzG (i := 0) rfl)) rfl ag23 sz23 (zzF (by kernel_rfl)) (by kernel_rfl) (hK _ _ ?_)))
 unfold Stop
 try simp only [Act.put, zzC, zzD, zzE]
 go_wp2_with fail
 refine (H2.out _).mono ?_
 rintro zz W14 ⟨rfl, hB⟩
 have hJ14 := hJ13.later hB
 clear hB
 clear hJ13
 go_wp2_with (refine stop_store 2 (.tmp 17) (.tmp 16) 3 bk3 2 #[.int .i64 r0, .int .i64 r1, .int .i64 0] 68 1 [.int .i64 r2] #[.int .i64 r0, .int .i64 r1, .int .i64 r2] [(bk6, (cS v.z), 23), (bk5, (cS v.y), 23), (bk4, (cS v.x), 23), (bk3, #[.int .i64 r0, .int .i64 r1, .int .i64 r2], 68), (bk2, #[.int .i64 0, .int .i64 0, .int .i64 0], 68), (bk1, (cV v), 25)] rfl rfl rfl rfl sz2 hJ14 rfl (by kernel_rfl) (zzF (by kernel_rfl)) (by kernel_rfl) (by kernel_rfl) (by kernel_rfl) (fun W15 hJ15 => ?_))
 clear hJ14
 unfold Stop
 try simp only [Act.put, zzC, zzD, zzE]
 go_wp2
 rw [rounds_succ]
 go_wp2_with (refine stop_op rfl (fun K hK => wp_load 68 (.tmp 5) rfl bk3 0 3 #[.int .i64 r0, .int .i64 r1, .int .i64 r2] #[.int .i64 r0, .int .i64 r1, .int .i64 r2] 68 (hJ15.at' _ (zzG (i := 3) rfl)) rfl ag68 sz68 (zzF (by kernel_rfl)) (by kernel_rfl) (hK _ _ ?_)))
 unfold Stop
 try simp only [Act.put, zzC, zzD, zzE]
 go_wp2_with (refine stop_store 68 (.tmp 4) (.tmp 19) 4 bk2 0 #[.int .i64 0, .int .i64 0, .int .i64 0] 68 3 #[.int .i64 r0, .int .i64 r1, .int .i64 r2].toList #[.int .i64 r0, .int .i64 r1, .int .i64 r2] [(bk6, (cS v.z), 23), (bk5, (cS v.y), 23), (bk4, (cS v.x), 23), (bk3, #[.int .i64 r0, .int .i64 r1, .int .i64 r2], 68), (bk2, #[.int .i64 r0, .int .i64 r1, .int .i64 r2], 68), (bk1, (cV v), 25)] rfl rfl rfl rfl sz68 hJ15 rfl (by kernel_rfl) (zzF (by kernel_rfl)) (by kernel_rfl) (by kernel_rfl) (by kernel_rfl) (fun W16 hJ16 => ?_))
 clear hJ15
 unfold Stop
 try simp only [Act.put, zzC, zzD, zzE]
 go_wp2
 exact bodyPost_ret (v := .agg #[.int .i64 r0, .int .i64 r1, .int .i64 r2]) (results_cell 4 Tryz.results52 hJ16 rfl ag68 sz68 (zzF (by kernel_rfl)) rfl (by kernel_rfl)) rfl ⟨rfl, hJ16.below⟩
set_option maxRecDepth 100000 in
set_option maxHeartbeats 12800000 in
theorem sum_w (v : Vc) (p r : Sp) (hH0 : ∀ W : World, Calls Tryz.prog 41 #[.agg (cS v.x), .agg (cS v.y)] W (PVal (.agg (cS p)) W)) (hH1 : ∀ W : World, Calls Tryz.prog 41 #[.agg (cS p), .agg (cS v.z)] W (PVal (.agg (cS r)) W))  (w : World)   : Calls Tryz.prog 46 #[.agg (cV v)] w (PVal (.agg (cS r)) w) := by
 have H0 := Lib.hid hH0
 have H1 := Lib.hid hH1
 clear hH0 hH1
 have hJ0 := es_nil w
 go_enter Tryz.func46, Tryz.ntmps46
 go_wp2_with (refine stop_box 24 (.tmp 0) (cV v) rfl rfl rfl hJ0 (fun bk1 W1 hJ1 => ?_))
 clear hJ0
 unfold Stop
 try simp only [Act.put, zzC, zzD, zzE]
 go_wp2_with (refine stop_alloc 23 (cS zS) (.agg (cS zS)) rfl rfl zv23 rfl hJ1 (fun bk2 W2 hJ2 => ?_))
 clear hJ1
 unfold Stop
 try simp only [Act.put, zzC, zzD, zzE]
 go_wp2
 obtain ⟨m1_2, hm⟩ : ∃ m, m = W2.heap.size := ⟨_, rfl⟩
 have hM := hJ2.em
 rw [← hm] at hM
 clear hm hJ2
 refine wp_region_z 8 [some 3, some 4, some 5, some 6, some 7, some 8, some 9, some 10] (veL m1_2 [.eq (.pointer (some ⟨bk1, 0, none⟩)), .eq (.agg (cS v.x)), .eq (.pointer (some ⟨bk1, 3, none⟩)), .eq (.agg (cS v.y)), .eq (.agg (cS p)), .eq (.pointer (some ⟨bk1, 6, none⟩)), .eq (.agg (cS v.z)), .eq (.agg (cS r))]) (Em w m1_2 [(bk2, (cS zS), 23), (bk1, (cV v), 24)]) (by kernel_rfl) (by kernel_rfl) (by rfl) (by decide) (by rfl) hM ?_ ?_
 ·
  intro i hl hi uu ww aa hJ hd hev hin
  clear hM
  obtain rfl | rfl | rfl | rfl | rfl | rfl | rfl | rfl : i = 0 ∨ i = 1 ∨ i = 2 ∨ i = 3 ∨ i = 4 ∨ i = 5 ∨ i = 6 ∨ i = 7 := by omega
  ·
   exact .inr ⟨rfl, fun K' hK => wp_ixa 24 (.tmp 1) (.const (.int .i64 0)) rfl (eval_tmp ((hev 1 (by decide)).trans rfl)) rfl (fun _ => by kernel_rfl) (hK _ _ hJ rfl veL_same)⟩
  ·
   exact .inr ⟨rfl, fun K' hK => wp_load 23 (.tmp 3) rfl bk1 0 3 (cV v) (cS v.x) 24 (hJ.es.at' _ (zzG (i := 1) rfl)) (eval_tmp ((hin 0 3 rfl).trans (congrArg some (show uu 0 = .pointer (some ⟨bk1, 0, none⟩) from hd 0 (by decide) (by kernel_rfl))))) ag23 sz23 (zzF (by kernel_rfl)) (by kernel_rfl) (hK _ _ hJ rfl veL_same)⟩
  ·
   exact .inr ⟨rfl, fun K' hK => wp_ixa 24 (.tmp 1) (.const (.int .i64 1)) rfl (eval_tmp ((hev 1 (by decide)).trans rfl)) rfl (fun _ => by kernel_rfl) (hK _ _ hJ rfl veL_same)⟩
  ·
   exact .inr ⟨rfl, fun K' hK => wp_load 23 (.tmp 5) rfl bk1 3 3 (cV v) (cS v.y) 24 (hJ.es.at' _ (zzG (i := 1) rfl)) (eval_tmp ((hin 2 5 rfl).trans (congrArg some (show uu 2 = .pointer (some ⟨bk1, 3, none⟩) from hd 2 (by decide) (by kernel_rfl))))) ag23 sz23 (zzF (by kernel_rfl)) (by kernel_rfl) (hK _ _ hJ rfl veL_same)⟩
  ·
   exact .inr ⟨rfl, fun K' hK => wp_callv (.func 41) #[.tmp 4, .tmp 6] _ 41 #[] #[.agg (cS v.x), .agg (cS v.y)] #[.agg (cS v.x), .agg (cS v.y)] rfl rfl (map2 (eval_tmp ((hin 1 4 rfl).trans (congrArg some (show uu 1 = .agg (cS v.x) from hd 1 (by decide) (by kernel_rfl))))) (eval_tmp ((hin 3 6 rfl).trans (congrArg some (show uu 3 = .agg (cS v.y) from hd 3 (by decide) (by kernel_rfl)))))) (by kernel_rfl) (fun _ _ => by kernel_rfl) (H0.out ww) (fun _ hB => (hK _ _ (hJ.later hB) rfl (veL_later hB)))⟩
  ·
   exact .inr ⟨rfl, fun K' hK => wp_ixa 24 (.tmp 1) (.const (.int .i64 2)) rfl (eval_tmp ((hev 1 (by decide)).trans rfl)) rfl (fun _ => by kernel_rfl) (hK _ _ hJ rfl veL_same)⟩
  ·
   exact .inr ⟨rfl, fun K' hK => wp_load 23 (.tmp 8) rfl bk1 6 3 (cV v) (cS v.z) 24 (hJ.es.at' _ (zzG (i := 1) rfl)) (eval_tmp ((hin 5 8 rfl).trans (congrArg some (show uu 5 = .pointer (some ⟨bk1, 6, none⟩) from hd 5 (by decide) (by kernel_rfl))))) ag23 sz23 (zzF (by kernel_rfl)) (by kernel_rfl) (hK _ _ hJ rfl veL_same)⟩
  ·
   exact .inr ⟨rfl, fun K' hK => wp_callv (.func 41) #[.tmp 7, .tmp 9] _ 41 #[] #[.agg (cS p), .agg (cS v.z)] #[.agg (cS p), .agg (cS v.z)] rfl rfl (map2 (eval_tmp ((hin 4 7 rfl).trans (congrArg some (show uu 4 = .agg (cS p) from hd 4 (by decide) (by kernel_rfl))))) (eval_tmp ((hin 6 9 rfl).trans (congrArg some (show uu 6 = .agg (cS v.z) from hd 6 (by decide) (by kernel_rfl)))))) (by kernel_rfl) (fun _ _ => by kernel_rfl) (H1.out ww) (fun _ hB => (hK _ _ (hJ.later hB) rfl (veL_later hB)))⟩
 clear hM
 intro uu W3 hJm hd
 have e_0 : uu 0 = .pointer (some ⟨bk1, 0, none⟩) := hd 0 (by decide)
 have e_1 : uu 1 = .agg (cS v.x) := hd 1 (by decide)
 have e_2 : uu 2 = .pointer (some ⟨bk1, 3, none⟩) := hd 2 (by decide)
 have e_3 : uu 3 = .agg (cS v.y) := hd 3 (by decide)
 have e_4 : uu 4 = .agg (cS p) := hd 4 (by decide)
 have e_5 : uu 5 = .pointer (some ⟨bk1, 6, none⟩) := hd 5 (by decide)
 have e_6 : uu 6 = .agg (cS v.z) := hd 6 (by decide)
 have e_7 : uu 7 = .agg (cS r) := hd 7 (by decide)
 clear hd
 simp only [layS, Act.put, zzC, zzD, zzE, Nat.zero_add, Nat.reduceAdd, List.drop_succ_cons, List.drop_zero, List.drop_nil, e_0, e_1, e_2, e_3, e_4, e_5, e_6, e_7]
 clear e_0 e_1 e_2 e_3 e_4 e_5 e_6 e_7
 have hJ3 := hJm.es
 clear hJm
 go_wp2_with (refine stop_store 23 (.tmp 2) (.tmp 10) 0 bk2 0 (cS zS) 23 3 (cS r).toList (cS r) [(bk2, (cS r), 23), (bk1, (cV v), 24)] rfl rfl rfl rfl sz23 hJ3 rfl (by kernel_rfl) (zzF (by kernel_rfl)) (by kernel_rfl) (by kernel_rfl) (by kernel_rfl) (fun W4 hJ4 => ?_))
 clear hJ3
 unfold Stop
 try simp only [Act.put, zzC, zzD, zzE]
 go_wp2
 exact bodyPost_ret (v := .agg (cS r)) (results_cell 0 Tryz.results46 hJ4 rfl ag23 sz23 (zzF (by kernel_rfl)) rfl (by kernel_rfl)) rfl ⟨rfl, hJ4.below⟩
set_option maxRecDepth 100000 in
set_option maxHeartbeats 12800000 in
theorem from1_w (v : Vc)   (w : World)   : Calls Tryz.prog 48 #[.agg (cV v), .int .i64 1] w (PVal (.agg (cV ⟨v.y, v.z, v.x⟩)) w) := by
 have hJ0 := es_nil w
 go_enter Tryz.func48, Tryz.ntmps48
 go_wp2_with (refine stop_box 25 (.tmp 0) (cV v) rfl rfl rfl hJ0 (fun bk1 W1 hJ1 => ?_))
 clear hJ0
 unfold Stop
 try simp only [Act.put, zzC, zzD, zzE]
 go_wp2_with (refine stop_alloc 25 (cV zV) (.agg (cV zV)) rfl rfl zv25 rfl hJ1 (fun bk2 W2 hJ2 => ?_))
 clear hJ1
 unfold Stop
 try simp only [Act.put, zzC, zzD, zzE]
 go_wp2
 obtain ⟨m1_2, hm⟩ : ∃ m, m = W2.heap.size := ⟨_, rfl⟩
 have hM := hJ2.em
 rw [← hm] at hM
 clear hm hJ2
 refine wp_region_z 15 [some 5, some 6, some 7, some 8, some 9, some 10, some 11, some 12, some 13, some 14, some 15, some 16, some 17, some 18, some 19] (veL m1_2 [.eq (.int .i64 1), .eq (.int .i64 1), .eq (.pointer (some ⟨bk1, 3, none⟩)), .eq (.agg (cS v.y)), .eq (.int .i64 1), .eq (.int .i64 2), .eq (.int .i64 2), .eq (.pointer (some ⟨bk1, 6, none⟩)), .eq (.agg (cS v.z)), .eq (.int .i64 1), .eq (.int .i64 3), .eq (.int .i64 0), .eq (.pointer (some ⟨bk1, 0, none⟩)), .eq (.agg (cS v.x)), .eq (.agg (cV ⟨v.y, v.z, v.x⟩))]) (Em w m1_2 [(bk2, (cV zV), 25), (bk1, (cV v), 25)]) (by kernel_rfl) (by kernel_rfl) (by rfl) (by decide) (by rfl) hM ?_ ?_
 ·
  intro i hl hi uu ww aa hJ hd hev hin
  clear hM
  obtain rfl | rfl | rfl | rfl | rfl | rfl | rfl | rfl | rfl | rfl | rfl | rfl | rfl | rfl | rfl : i = 0 ∨ i = 1 ∨ i = 2 ∨ i = 3 ∨ i = 4 ∨ i = 5 ∨ i = 6 ∨ i = 7 ∨ i = 8 ∨ i = 9 ∨ i = 10 ∨ i = 11 ∨ i = 12 ∨ i = 13 ∨ i = 14 := by omega
  ·
   exact .inr ⟨rfl, fun K' hK => wp_move (.tmp 1) rfl (eval_tmp ((hev 1 (by decide)).trans rfl)) (hK _ _ hJ rfl veL_same)⟩
  ·
   have x5 : aa.tmps[5]? = some (.int .i64 1) := ((hin 0 5 rfl).trans (congrArg some (show uu 0 = .int .i64 1 from hd 0 (by decide) (by kernel_rfl))))
   clear hd hev hin
   simp only [zzA, zzB]
   clear hl
   refine .inr ⟨rfl, fun K' hK => ?_⟩
   have HK := Lib.hid hK
   clear hK
   go_simp
   exact HK.out (.int .i64 1) _ hJ rfl veL_same
  ·
   exact .inr ⟨rfl, fun K' hK => wp_ixa 25 (.tmp 2) (.tmp 6) rfl (eval_tmp ((hev 2 (by decide)).trans rfl)) (eval_tmp ((hin 1 6 rfl).trans (congrArg some (show uu 1 = .int .i64 1 from hd 1 (by decide) (by kernel_rfl))))) (fun _ => by kernel_rfl) (hK _ _ hJ rfl veL_same)⟩
  ·
   exact .inr ⟨rfl, fun K' hK => wp_load 23 (.tmp 7) rfl bk1 3 3 (cV v) (cS v.y) 25 (hJ.es.at' _ (zzG (i := 1) rfl)) (eval_tmp ((hin 2 7 rfl).trans (congrArg some (show uu 2 = .pointer (some ⟨bk1, 3, none⟩) from hd 2 (by decide) (by kernel_rfl))))) ag23 sz23 (zzF (by kernel_rfl)) (by kernel_rfl) (hK _ _ hJ rfl veL_same)⟩
  ·
   exact .inr ⟨rfl, fun K' hK => wp_move (.tmp 1) rfl (eval_tmp ((hev 1 (by decide)).trans rfl)) (hK _ _ hJ rfl veL_same)⟩
  ·
   have x9 : aa.tmps[9]? = some (.int .i64 1) := ((hin 4 9 rfl).trans (congrArg some (show uu 4 = .int .i64 1 from hd 4 (by decide) (by kernel_rfl))))
   clear hd hev hin
   simp only [zzA, zzB]
   clear hl
   refine .inr ⟨rfl, fun K' hK => ?_⟩
   have HK := Lib.hid hK
   clear hK
   go_simp
   exact HK.out (.int .i64 2) _ hJ rfl veL_same
  ·
   have x10 : aa.tmps[10]? = some (.int .i64 2) := ((hin 5 10 rfl).trans (congrArg some (show uu 5 = .int .i64 2 from hd 5 (by decide) (by kernel_rfl))))
   clear hd hev hin
   simp only [zzA, zzB]
   clear hl
   refine .inr ⟨rfl, fun K' hK => ?_⟩
   have HK := Lib.hid hK
   clear hK
   go_simp
   exact HK.out (.int .i64 2) _ hJ rfl veL_same
  ·
   exact .inr ⟨rfl, fun K' hK => wp_ixa 25 (.tmp 2) (.tmp 11) rfl (eval_tmp ((hev 2 (by decide)).trans rfl)) (eval_tmp ((hin 6 11 rfl).trans (congrArg some (show uu 6 = .int .i64 2 from hd 6 (by decide) (by kernel_rfl))))) (fun _ => by kernel_rfl) (hK _ _ hJ rfl veL_same)⟩
  ·
   exact .inr ⟨rfl, fun K' hK => wp_load 23 (.tmp 12) rfl bk1 6 3 (cV v) (cS v.z) 25 (hJ.es.at' _ (zzG (i := 1) rfl)) (eval_tmp ((hin 7 12 rfl).trans (congrArg some (show uu 7 = .pointer (some ⟨bk1, 6, none⟩) from hd 7 (by decide) (by kernel_rfl))))) ag23 sz23 (zzF (by kernel_rfl)) (by kernel_rfl) (hK _ _ hJ rfl veL_same)⟩
  ·
   exact .inr ⟨rfl, fun K' hK => wp_move (.tmp 1) rfl (eval_tmp ((hev 1 (by decide)).trans rfl)) (hK _ _ hJ rfl veL_same)⟩
  ·
   have x14 : aa.tmps[14]? = some (.int .i64 1) := ((hin 9 14 rfl).trans (congrArg some (show uu 9 = .int .i64 1 from hd 9 (by decide) (by kernel_rfl))))
   clear hd hev hin
   simp only [zzA, zzB]
   clear hl
   refine .inr ⟨rfl, fun K' hK => ?_⟩
   have HK := Lib.hid hK
   clear hK
   go_simp
   exact HK.out (.int .i64 3) _ hJ rfl veL_same
  ·
   have x15 : aa.tmps[15]? = some (.int .i64 3) := ((hin 10 15 rfl).trans (congrArg some (show uu 10 = .int .i64 3 from hd 10 (by decide) (by kernel_rfl))))
   clear hd hev hin
   simp only [zzA, zzB]
   clear hl
   refine .inr ⟨rfl, fun K' hK => ?_⟩
   have HK := Lib.hid hK
   clear hK
   go_simp
   exact HK.out (.int .i64 0) _ hJ rfl veL_same
  ·
   exact .inr ⟨rfl, fun K' hK => wp_ixa 25 (.tmp 2) (.tmp 16) rfl (eval_tmp ((hev 2 (by decide)).trans rfl)) (eval_tmp ((hin 11 16 rfl).trans (congrArg some (show uu 11 = .int .i64 0 from hd 11 (by decide) (by kernel_rfl))))) (fun _ => by kernel_rfl) (hK _ _ hJ rfl veL_same)⟩
  ·
   exact .inr ⟨rfl, fun K' hK => wp_load 23 (.tmp 17) rfl bk1 0 3 (cV v) (cS v.x) 25 (hJ.es.at' _ (zzG (i := 1) rfl)) (eval_tmp ((hin 12 17 rfl).trans (congrArg some (show uu 12 = .pointer (some ⟨bk1, 0, none⟩) from hd 12 (by decide) (by kernel_rfl))))) ag23 sz23 (zzF (by kernel_rfl)) (by kernel_rfl) (hK _ _ hJ rfl veL_same)⟩
  ·
   exact .inr ⟨rfl, fun K' hK => wp_bld 25 #[(0, .tmp 8), (1, .tmp 13), (2, .tmp 18)] rfl (bmap3 (eval_tmp ((hin 3 8 rfl).trans (congrArg some (show uu 3 = .agg (cS v.y) from hd 3 (by decide) (by kernel_rfl))))) (eval_tmp ((hin 8 13 rfl).trans (congrArg some (show uu 8 = .agg (cS v.z) from hd 8 (by decide) (by kernel_rfl))))) (eval_tmp ((hin 13 18 rfl).trans (congrArg some (show uu 13 = .agg (cS v.x) from hd 13 (by decide) (by kernel_rfl)))))) (fun _ => by kernel_rfl) (hK _ _ hJ rfl veL_same)⟩
 clear hM
 intro uu W3 hJm hd
 have e_0 : uu 0 = .int .i64 1 := hd 0 (by decide)
 have e_1 : uu 1 = .int .i64 1 := hd 1 (by decide)
 have e_2 : uu 2 = .pointer (some ⟨bk1, 3, none⟩) := hd 2 (by decide)
 have e_3 : uu 3 = .agg (cS v.y) := hd 3 (by decide)
 have e_4 : uu 4 = .int .i64 1 := hd 4 (by decide)
 have e_5 : uu 5 = .int .i64 2 := hd 5 (by decide)
 have e_6 : uu 6 = .int .i64 2 := hd 6 (by decide)
 have e_7 : uu 7 = .pointer (some ⟨bk1, 6, none⟩) := hd 7 (by decide)
 have e_8 : uu 8 = .agg (cS v.z) := hd 8 (by decide)
 have e_9 : uu 9 = .int .i64 1 := hd 9 (by decide)
 have e_10 : uu 10 = .int .i64 3 := hd 10 (by decide)
 have e_11 : uu 11 = .int .i64 0 := hd 11 (by decide)
 have e_12 : uu 12 = .pointer (some ⟨bk1, 0, none⟩) := hd 12 (by decide)
 have e_13 : uu 13 = .agg (cS v.x) := hd 13 (by decide)
 have e_14 : uu 14 = .agg (cV ⟨v.y, v.z, v.x⟩) := hd 14 (by decide)
 clear hd
 simp only [layS, Act.put, zzC, zzD, zzE, Nat.zero_add, Nat.reduceAdd, List.drop_succ_cons, List.drop_zero, List.drop_nil, e_0, e_1, e_2, e_3, e_4, e_5, e_6, e_7, e_8, e_9, e_10, e_11, e_12, e_13, e_14]
 clear e_0 e_1 e_2 e_3 e_4 e_5 e_6 e_7 e_8 e_9 e_10 e_11 e_12 e_13 e_14
 have hJ3 := hJm.es
 clear hJm
 go_wp2_with (refine stop_store 25 (.tmp 4) (.tmp 19) 0 bk2 0 (cV zV) 25 9 (cV ⟨v.y, v.z, v.x⟩).toList (cV ⟨v.y, v.z, v.x⟩) [(bk2, (cV ⟨v.y, v.z, v.x⟩), 25), (bk1, (cV v), 25)] rfl rfl rfl rfl sz25 hJ3 rfl (by kernel_rfl) (zzF (by kernel_rfl)) (by kernel_rfl) (by kernel_rfl) (by kernel_rfl) (fun W4 hJ4 => ?_))
 clear hJ3
 unfold Stop
 try simp only [Act.put, zzC, zzD, zzE]
 go_wp2
 exact bodyPost_ret (v := .agg (cV ⟨v.y, v.z, v.x⟩)) (results_cell 0 Tryz.results48 hJ4 rfl ag25 sz25 (zzF (by kernel_rfl)) rfl (by kernel_rfl)) rfl ⟨rfl, hJ4.below⟩
set_option maxRecDepth 100000 in
set_option maxHeartbeats 12800000 in
theorem from2_w (v : Vc)   (w : World)   : Calls Tryz.prog 48 #[.agg (cV v), .int .i64 2] w (PVal (.agg (cV ⟨v.z, v.x, v.y⟩)) w) := by
 have hJ0 := es_nil w
 go_enter Tryz.func48, Tryz.ntmps48
 go_wp2_with (refine stop_box 25 (.tmp 0) (cV v) rfl rfl rfl hJ0 (fun bk1 W1 hJ1 => ?_))
 clear hJ0
 unfold Stop
 try simp only [Act.put, zzC, zzD, zzE]
 go_wp2_with (refine stop_alloc 25 (cV zV) (.agg (cV zV)) rfl rfl zv25 rfl hJ1 (fun bk2 W2 hJ2 => ?_))
 clear hJ1
 unfold Stop
 try simp only [Act.put, zzC, zzD, zzE]
 go_wp2
 obtain ⟨m1_2, hm⟩ : ∃ m, m = W2.heap.size := ⟨_, rfl⟩
 have hM := hJ2.em
 rw [← hm] at hM
 clear hm hJ2
 refine wp_region_z 15 [some 5, some 6, some 7, some 8, some 9, some 10, some 11, some 12, some 13, some 14, some 15, some 16, some 17, some 18, some 19] (veL m1_2 [.eq (.int .i64 2), .eq (.int .i64 2), .eq (.pointer (some ⟨bk1, 6, none⟩)), .eq (.agg (cS v.z)), .eq (.int .i64 2), .eq (.int .i64 3), .eq (.int .i64 0), .eq (.pointer (some ⟨bk1, 0, none⟩)), .eq (.agg (cS v.x)), .eq (.int .i64 2), .eq (.int .i64 4), .eq (.int .i64 1), .eq (.pointer (some ⟨bk1, 3, none⟩)), .eq (.agg (cS v.y)), .eq (.agg (cV ⟨v.z, v.x, v.y⟩))]) (Em w m1_2 [(bk2, (cV zV), 25), (bk1, (cV v), 25)]) (by kernel_rfl) (by kernel_rfl) (by rfl) (by decide) (by rfl) hM ?_ ?_
 ·
  intro i hl hi uu ww aa hJ hd hev hin
  clear hM
  obtain rfl | rfl | rfl | rfl | rfl | rfl | rfl | rfl | rfl | rfl | rfl | rfl | rfl | rfl | rfl : i = 0 ∨ i = 1 ∨ i = 2 ∨ i = 3 ∨ i = 4 ∨ i = 5 ∨ i = 6 ∨ i = 7 ∨ i = 8 ∨ i = 9 ∨ i = 10 ∨ i = 11 ∨ i = 12 ∨ i = 13 ∨ i = 14 := by omega
  ·
   exact .inr ⟨rfl, fun K' hK => wp_move (.tmp 1) rfl (eval_tmp ((hev 1 (by decide)).trans rfl)) (hK _ _ hJ rfl veL_same)⟩
  ·
   have x5 : aa.tmps[5]? = some (.int .i64 2) := ((hin 0 5 rfl).trans (congrArg some (show uu 0 = .int .i64 2 from hd 0 (by decide) (by kernel_rfl))))
   clear hd hev hin
   simp only [zzA, zzB]
   clear hl
   refine .inr ⟨rfl, fun K' hK => ?_⟩
   have HK := Lib.hid hK
   clear hK
   go_simp
   exact HK.out (.int .i64 2) _ hJ rfl veL_same
  ·
   exact .inr ⟨rfl, fun K' hK => wp_ixa 25 (.tmp 2) (.tmp 6) rfl (eval_tmp ((hev 2 (by decide)).trans rfl)) (eval_tmp ((hin 1 6 rfl).trans (congrArg some (show uu 1 = .int .i64 2 from hd 1 (by decide) (by kernel_rfl))))) (fun _ => by kernel_rfl) (hK _ _ hJ rfl veL_same)⟩
  ·
   exact .inr ⟨rfl, fun K' hK => wp_load 23 (.tmp 7) rfl bk1 6 3 (cV v) (cS v.z) 25 (hJ.es.at' _ (zzG (i := 1) rfl)) (eval_tmp ((hin 2 7 rfl).trans (congrArg some (show uu 2 = .pointer (some ⟨bk1, 6, none⟩) from hd 2 (by decide) (by kernel_rfl))))) ag23 sz23 (zzF (by kernel_rfl)) (by kernel_rfl) (hK _ _ hJ rfl veL_same)⟩
  ·
   exact .inr ⟨rfl, fun K' hK => wp_move (.tmp 1) rfl (eval_tmp ((hev 1 (by decide)).trans rfl)) (hK _ _ hJ rfl veL_same)⟩
  ·
   have x9 : aa.tmps[9]? = some (.int .i64 2) := ((hin 4 9 rfl).trans (congrArg some (show uu 4 = .int .i64 2 from hd 4 (by decide) (by kernel_rfl))))
   clear hd hev hin
   simp only [zzA, zzB]
   clear hl
   refine .inr ⟨rfl, fun K' hK => ?_⟩
   have HK := Lib.hid hK
   clear hK
   go_simp
   exact HK.out (.int .i64 3) _ hJ rfl veL_same
  ·
   have x10 : aa.tmps[10]? = some (.int .i64 3) := ((hin 5 10 rfl).trans (congrArg some (show uu 5 = .int .i64 3 from hd 5 (by decide) (by kernel_rfl))))
   clear hd hev hin
   simp only [zzA, zzB]
   clear hl
   refine .inr ⟨rfl, fun K' hK => ?_⟩
   have HK := Lib.hid hK
   clear hK
   go_simp
   exact HK.out (.int .i64 0) _ hJ rfl veL_same
  ·
   exact .inr ⟨rfl, fun K' hK => wp_ixa 25 (.tmp 2) (.tmp 11) rfl (eval_tmp ((hev 2 (by decide)).trans rfl)) (eval_tmp ((hin 6 11 rfl).trans (congrArg some (show uu 6 = .int .i64 0 from hd 6 (by decide) (by kernel_rfl))))) (fun _ => by kernel_rfl) (hK _ _ hJ rfl veL_same)⟩
  ·
   exact .inr ⟨rfl, fun K' hK => wp_load 23 (.tmp 12) rfl bk1 0 3 (cV v) (cS v.x) 25 (hJ.es.at' _ (zzG (i := 1) rfl)) (eval_tmp ((hin 7 12 rfl).trans (congrArg some (show uu 7 = .pointer (some ⟨bk1, 0, none⟩) from hd 7 (by decide) (by kernel_rfl))))) ag23 sz23 (zzF (by kernel_rfl)) (by kernel_rfl) (hK _ _ hJ rfl veL_same)⟩
  ·
   exact .inr ⟨rfl, fun K' hK => wp_move (.tmp 1) rfl (eval_tmp ((hev 1 (by decide)).trans rfl)) (hK _ _ hJ rfl veL_same)⟩
  ·
   have x14 : aa.tmps[14]? = some (.int .i64 2) := ((hin 9 14 rfl).trans (congrArg some (show uu 9 = .int .i64 2 from hd 9 (by decide) (by kernel_rfl))))
   clear hd hev hin
   simp only [zzA, zzB]
   clear hl
   refine .inr ⟨rfl, fun K' hK => ?_⟩
   have HK := Lib.hid hK
   clear hK
   go_simp
   exact HK.out (.int .i64 4) _ hJ rfl veL_same
  ·
   have x15 : aa.tmps[15]? = some (.int .i64 4) := ((hin 10 15 rfl).trans (congrArg some (show uu 10 = .int .i64 4 from hd 10 (by decide) (by kernel_rfl))))
   clear hd hev hin
   simp only [zzA, zzB]
   clear hl
   refine .inr ⟨rfl, fun K' hK => ?_⟩
   have HK := Lib.hid hK
   clear hK
   go_simp
   exact HK.out (.int .i64 1) _ hJ rfl veL_same
  ·
   exact .inr ⟨rfl, fun K' hK => wp_ixa 25 (.tmp 2) (.tmp 16) rfl (eval_tmp ((hev 2 (by decide)).trans rfl)) (eval_tmp ((hin 11 16 rfl).trans (congrArg some (show uu 11 = .int .i64 1 from hd 11 (by decide) (by kernel_rfl))))) (fun _ => by kernel_rfl) (hK _ _ hJ rfl veL_same)⟩
  ·
   exact .inr ⟨rfl, fun K' hK => wp_load 23 (.tmp 17) rfl bk1 3 3 (cV v) (cS v.y) 25 (hJ.es.at' _ (zzG (i := 1) rfl)) (eval_tmp ((hin 12 17 rfl).trans (congrArg some (show uu 12 = .pointer (some ⟨bk1, 3, none⟩) from hd 12 (by decide) (by kernel_rfl))))) ag23 sz23 (zzF (by kernel_rfl)) (by kernel_rfl) (hK _ _ hJ rfl veL_same)⟩
  ·
   exact .inr ⟨rfl, fun K' hK => wp_bld 25 #[(0, .tmp 8), (1, .tmp 13), (2, .tmp 18)] rfl (bmap3 (eval_tmp ((hin 3 8 rfl).trans (congrArg some (show uu 3 = .agg (cS v.z) from hd 3 (by decide) (by kernel_rfl))))) (eval_tmp ((hin 8 13 rfl).trans (congrArg some (show uu 8 = .agg (cS v.x) from hd 8 (by decide) (by kernel_rfl))))) (eval_tmp ((hin 13 18 rfl).trans (congrArg some (show uu 13 = .agg (cS v.y) from hd 13 (by decide) (by kernel_rfl)))))) (fun _ => by kernel_rfl) (hK _ _ hJ rfl veL_same)⟩
 clear hM
 intro uu W3 hJm hd
 have e_0 : uu 0 = .int .i64 2 := hd 0 (by decide)
 have e_1 : uu 1 = .int .i64 2 := hd 1 (by decide)
 have e_2 : uu 2 = .pointer (some ⟨bk1, 6, none⟩) := hd 2 (by decide)
 have e_3 : uu 3 = .agg (cS v.z) := hd 3 (by decide)
 have e_4 : uu 4 = .int .i64 2 := hd 4 (by decide)
 have e_5 : uu 5 = .int .i64 3 := hd 5 (by decide)
 have e_6 : uu 6 = .int .i64 0 := hd 6 (by decide)
 have e_7 : uu 7 = .pointer (some ⟨bk1, 0, none⟩) := hd 7 (by decide)
 have e_8 : uu 8 = .agg (cS v.x) := hd 8 (by decide)
 have e_9 : uu 9 = .int .i64 2 := hd 9 (by decide)
 have e_10 : uu 10 = .int .i64 4 := hd 10 (by decide)
 have e_11 : uu 11 = .int .i64 1 := hd 11 (by decide)
 have e_12 : uu 12 = .pointer (some ⟨bk1, 3, none⟩) := hd 12 (by decide)
 have e_13 : uu 13 = .agg (cS v.y) := hd 13 (by decide)
 have e_14 : uu 14 = .agg (cV ⟨v.z, v.x, v.y⟩) := hd 14 (by decide)
 clear hd
 simp only [layS, Act.put, zzC, zzD, zzE, Nat.zero_add, Nat.reduceAdd, List.drop_succ_cons, List.drop_zero, List.drop_nil, e_0, e_1, e_2, e_3, e_4, e_5, e_6, e_7, e_8, e_9, e_10, e_11, e_12, e_13, e_14]
 clear e_0 e_1 e_2 e_3 e_4 e_5 e_6 e_7 e_8 e_9 e_10 e_11 e_12 e_13 e_14
 have hJ3 := hJm.es
 clear hJm
 go_wp2_with (refine stop_store 25 (.tmp 4) (.tmp 19) 0 bk2 0 (cV zV) 25 9 (cV ⟨v.z, v.x, v.y⟩).toList (cV ⟨v.z, v.x, v.y⟩) [(bk2, (cV ⟨v.z, v.x, v.y⟩), 25), (bk1, (cV v), 25)] rfl rfl rfl rfl sz25 hJ3 rfl (by kernel_rfl) (zzF (by kernel_rfl)) (by kernel_rfl) (by kernel_rfl) (by kernel_rfl) (fun W4 hJ4 => ?_))
 clear hJ3
 unfold Stop
 try simp only [Act.put, zzC, zzD, zzE]
 go_wp2
 exact bodyPost_ret (v := .agg (cV ⟨v.z, v.x, v.y⟩)) (results_cell 0 Tryz.results48 hJ4 rfl ag25 sz25 (zzF (by kernel_rfl)) rfl (by kernel_rfl)) rfl ⟨rfl, hJ4.below⟩
end Go.Proofs.YtolpfibihialkaaGreat
