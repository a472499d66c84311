/- Parts of the proof. -/
import Derived.Test.YtolpfibihialkaaGreatGr0
import Derived.Test.YtolpfibihialkaaGreatGr38
import Derived.Test.YtolpfibihialkaaGreatGr33
import Derived.Test.YtolpfibihialkaaGreatGr29
import Derived.Test.YtolpfibihialkaaGreatGr34
/- The examples of the chapter on turns. No statement of the seat is proved here. -/
namespace Go.Proofs.YtolpfibihialkaaGreat
open Go Go.RowKit
theorem ex_id : expT (ofV 0 0 0) = idT := by kernel_rfl
theorem ex_b0 : (expT (ofV 0 0 1048576)).a.x = ofS 566548 566549 := by kernel_rfl
theorem ex_b1 : (expT (ofV 0 0 1048576)).a.y = ofS (-882347) (-882346) := by kernel_rfl
theorem ex_b2 : (expT (ofV 0 0 1048576)).a.z = ofS 0 0 := by kernel_rfl
set_option maxRecDepth 100000 in
set_option maxHeartbeats 12800000 in
theorem rawake_any   (w : World)   : Calls Tryz.prog 4 #[] w (PVal (.bool true) w) := by
 have hJ0 := es_nil w
 go_enter Tryz.func4, Tryz.ntmps4
 go_wp2_with fail
 refine (vOf_any 0 0 0 w).mono ?_
 rintro zz W1 ⟨rfl, hB⟩
 have hJ1 := hJ0.later hB
 clear hB
 clear hJ0
 go_wp2_with fail
 refine (tExp_any (ofV 0 0 0) W1).mono ?_
 rintro zz W2 ⟨rfl, hB⟩
 have hJ2 := hJ1.later hB
 clear hB
 clear hJ1
 go_wp2_with (refine stop_alloc 27 (cT zT) (.agg (cT zT)) rfl rfl zv27 rfl hJ2 (fun bk1 W3 hJ3 => ?_))
 clear hJ2
 unfold Stop
 try simp only [Act.put, zzC, zzD, zzE]
 go_wp2_with (refine stop_store 27 (.tmp 1) (.tmp 6) 0 bk1 0 (cT zT) 27 27 (cT (expT (ofV 0 0 0))).toList (cT (expT (ofV 0 0 0))) [(bk1, (cT (expT (ofV 0 0 0))), 27)] rfl rfl rfl rfl sz27 hJ3 rfl (by kernel_rfl) (zzF (by kernel_rfl)) (by kernel_rfl) (by kernel_rfl) (by kernel_rfl) (fun W4 hJ4 => ?_))
 clear hJ3
 unfold Stop
 try simp only [Act.put, zzC, zzD, zzE]
 go_wp2_with fail
 refine (vOf_any 0 0 1048576 W4).mono ?_
 rintro zz W5 ⟨rfl, hB⟩
 have hJ5 := hJ4.later hB
 clear hB
 clear hJ4
 go_wp2_with fail
 refine (tExp_any (ofV 0 0 1048576) W5).mono ?_
 rintro zz W6 ⟨rfl, hB⟩
 have hJ6 := hJ5.later hB
 clear hB
 clear hJ5
 go_wp2_with (refine stop_alloc 27 (cT zT) (.agg (cT zT)) rfl rfl zv27 rfl hJ6 (fun bk2 W7 hJ7 => ?_))
 clear hJ6
 unfold Stop
 try simp only [Act.put, zzC, zzD, zzE]
 go_wp2_with (refine stop_store 27 (.tmp 2) (.tmp 8) 0 bk2 0 (cT zT) 27 27 (cT (expT (ofV 0 0 1048576))).toList (cT (expT (ofV 0 0 1048576))) [(bk2, (cT (expT (ofV 0 0 1048576))), 27), (bk1, (cT (expT (ofV 0 0 0))), 27)] rfl rfl rfl rfl sz27 hJ7 rfl (by kernel_rfl) (zzF (by kernel_rfl)) (by kernel_rfl) (by kernel_rfl) (by kernel_rfl) (fun W8 hJ8 => ?_))
 clear hJ7
 unfold Stop
 try simp only [Act.put, zzC, zzD, zzE]
 go_wp2_with fail
 refine (vOf_any 0 0 3145728 W8).mono ?_
 rintro zz W9 ⟨rfl, hB⟩
 have hJ9 := hJ8.later hB
 clear hB
 clear hJ8
 go_wp2_with fail
 refine (tExp_any (ofV 0 0 3145728) W9).mono ?_
 rintro zz W10 ⟨rfl, hB⟩
 have hJ10 := hJ9.later hB
 clear hB
 clear hJ9
 go_wp2_with (refine stop_alloc 27 (cT zT) (.agg (cT zT)) rfl rfl zv27 rfl hJ10 (fun bk3 W11 hJ11 => ?_))
 clear hJ10
 unfold Stop
 try simp only [Act.put, zzC, zzD, zzE]
 go_wp2_with (refine stop_store 27 (.tmp 3) (.tmp 10) 0 bk3 0 (cT zT) 27 27 (cT (expT (ofV 0 0 3145728))).toList (cT (expT (ofV 0 0 3145728))) [(bk3, (cT (expT (ofV 0 0 3145728))), 27), (bk2, (cT (expT (ofV 0 0 1048576))), 27), (bk1, (cT (expT (ofV 0 0 0))), 27)] rfl rfl rfl rfl sz27 hJ11 rfl (by kernel_rfl) (zzF (by kernel_rfl)) (by kernel_rfl) (by kernel_rfl) (by kernel_rfl) (fun W12 hJ12 => ?_))
 clear hJ11
 unfold Stop
 try simp only [Act.put, zzC, zzD, zzE]
 go_wp2_with fail
 refine (tId_any W12).mono ?_
 rintro zz W13 ⟨rfl, hB⟩
 have hJ13 := hJ12.later hB
 clear hB
 clear hJ12
 go_wp2_with (refine stop_alloc 27 (cT zT) (.agg (cT zT)) rfl rfl zv27 rfl hJ13 (fun bk4 W14 hJ14 => ?_))
 clear hJ13
 unfold Stop
 try simp only [Act.put, zzC, zzD, zzE]
 go_wp2_with (refine stop_store 27 (.tmp 4) (.tmp 11) 0 bk4 0 (cT zT) 27 27 (cT idT).toList (cT idT) [(bk4, (cT idT), 27), (bk3, (cT (expT (ofV 0 0 3145728))), 27), (bk2, (cT (expT (ofV 0 0 1048576))), 27), (bk1, (cT (expT (ofV 0 0 0))), 27)] rfl rfl rfl rfl sz27 hJ14 rfl (by kernel_rfl) (zzF (by kernel_rfl)) (by kernel_rfl) (by kernel_rfl) (by kernel_rfl) (fun W15 hJ15 => ?_))
 clear hJ14
 unfold Stop
 try simp only [Act.put, zzC, zzD, zzE]
 go_wp2
 obtain ⟨m5_15, hm⟩ : ∃ m, m = W15.heap.size := ⟨_, rfl⟩
 have hM := hJ15.em
 rw [← hm] at hM
 clear hm hJ15
 refine wp_region_z 37 [some 12, some 13, some 14, some 15, some 16, some 17, some 18, some 19, some 20, some 21, some 22, some 23, some 24, some 25, some 26, some 27, some 28, some 29, some 30, some 31, some 32, some 33, some 34, some 35, some 36, some 37, some 38, some 39, some 40, some 41, some 42, some 43, some 44, some 45, some 46, some 47, some 0] (veL m5_15 [.eq (.agg (cT (expT (ofV 0 0 0)))), .eq (.agg (cT idT)), .eq (.bool true), .eq (.bool true), .eq (.pointer (some ⟨bk2, 0, none⟩)), .eq (.pointer (some ⟨bk2, 0, none⟩)), .eq (.agg (cS (expT (ofV 0 0 1048576)).a.x)), .eq (.agg (cS (ofS 566548 566549))), .eq (.bool true), .eq (.bool true), .eq (.bool true), .eq (.pointer (some ⟨bk2, 0, none⟩)), .eq (.pointer (some ⟨bk2, 3, none⟩)), .eq (.agg (cS (expT (ofV 0 0 1048576)).a.y)), .eq (.agg (cS (ofS (-882347) (-882346)))), .eq (.bool true), .eq (.bool true), .eq (.bool true), .eq (.pointer (some ⟨bk2, 0, none⟩)), .eq (.pointer (some ⟨bk2, 6, none⟩)), .eq (.agg (cS (expT (ofV 0 0 1048576)).a.z)), .eq (.agg (cS (ofS 0 0))), .eq (.bool true), .eq (.bool true), .eq (.bool true), .eq (.pointer (some ⟨bk3, 0, none⟩)), .eq (.pointer (some ⟨bk3, 0, none⟩)), .eq (.pointer (some ⟨bk3, 2, none⟩)), .eq (.bool true), .eq (.bool true), .eq (.bool true), .eq (.pointer (some ⟨bk3, 18, none⟩)), .eq (.pointer (some ⟨bk3, 24, none⟩)), .eq (.pointer (some ⟨bk3, 26, none⟩)), .eq (.bool true), .eq (.bool true), .eq (.bool true)]) (Em w m5_15 [(bk4, (cT idT), 27), (bk3, (cT (expT (ofV 0 0 3145728))), 27), (bk2, (cT (expT (ofV 0 0 1048576))), 27), (bk1, (cT (expT (ofV 0 0 0))), 27)]) (by kernel_rfl) (by kernel_rfl) (by rfl) (by decide) (by rfl) hM ?_ ?_
 ·
  intro i hl hi uu ww aa hJ hd hev hin
  clear hM
  obtain rfl | rfl | rfl | rfl | rfl | rfl | rfl | rfl | rfl | rfl | rfl | rfl | rfl | rfl | rfl | rfl | rfl | rfl | rfl | rfl | rfl | rfl | rfl | rfl | rfl | rfl | rfl | rfl | rfl | rfl | rfl | rfl | rfl | rfl | rfl | rfl | rfl : i = 0 ∨ i = 1 ∨ i = 2 ∨ i = 3 ∨ i = 4 ∨ i = 5 ∨ i = 6 ∨ i = 7 ∨ i = 8 ∨ i = 9 ∨ i = 10 ∨ i = 11 ∨ i = 12 ∨ i = 13 ∨ i = 14 ∨ i = 15 ∨ i = 16 ∨ i = 17 ∨ i = 18 ∨ i = 19 ∨ i = 20 ∨ i = 21 ∨ i = 22 ∨ i = 23 ∨ i = 24 ∨ i = 25 ∨ i = 26 ∨ i = 27 ∨ i = 28 ∨ i = 29 ∨ i = 30 ∨ i = 31 ∨ i = 32 ∨ i = 33 ∨ i = 34 ∨ i = 35 ∨ i = 36 := by omega
  ·
   exact .inr ⟨rfl, fun K' hK => wp_load 27 (.tmp 1) rfl bk1 0 27 (cT (expT (ofV 0 0 0))) (cT (expT (ofV 0 0 0))) 27 (hJ.es.at' _ (zzG (i := 3) rfl)) (eval_tmp ((hev 1 (by decide)).trans rfl)) ag27 sz27 (zzF (by kernel_rfl)) (by kernel_rfl) (hK _ _ hJ rfl veL_same)⟩
  ·
   exact .inr ⟨rfl, fun K' hK => wp_load 27 (.tmp 4) rfl bk4 0 27 (cT idT) (cT idT) 27 (hJ.es.at' _ (zzG (i := 0) rfl)) (eval_tmp ((hev 4 (by decide)).trans rfl)) ag27 sz27 (zzF (by kernel_rfl)) (by kernel_rfl) (hK _ _ hJ rfl veL_same)⟩
  ·
   exact .inr ⟨rfl, fun K' hK => wp_eqlA 27 27 (.tmp 12) (.tmp 13) rfl (cT (expT (ofV 0 0 0))) (cT idT) (eval_tmp ((hin 0 12 rfl).trans (congrArg some (show uu 0 = .agg (cT (expT (ofV 0 0 0))) from hd 0 (by decide) (by kernel_rfl))))) (eval_tmp ((hin 1 13 rfl).trans (congrArg some (show uu 1 = .agg (cT idT) from hd 1 (by decide) (by kernel_rfl))))) gd_T (eql_T ex_id) (hK _ _ hJ rfl veL_same)⟩
  ·
   exact .inr ⟨rfl, fun K' hK => wp_move (.tmp 14) rfl (eval_tmp ((hin 2 14 rfl).trans (congrArg some (show uu 2 = .bool true from hd 2 (by decide) (by kernel_rfl))))) (hK _ _ hJ rfl veL_same)⟩
  ·
   have y3 : aa.tmps[15]? = some (.bool true) := zzH (hin 3 15 rfl) (hd 3 (by decide) (by kernel_rfl))
   exact .inr ⟨by simp [Region.wanted, yielded, y3], fun K' hK => wp_ixa 27 (.tmp 2) (.const (.int .i64 0)) rfl (eval_tmp ((hev 2 (by decide)).trans rfl)) rfl (fun _ => by kernel_rfl) (hK _ _ hJ rfl veL_same)⟩
  ·
   have y3 : aa.tmps[15]? = some (.bool true) := zzH (hin 3 15 rfl) (hd 3 (by decide) (by kernel_rfl))
   exact .inr ⟨by simp [Region.wanted, yielded, y3], fun K' hK => wp_ixa 25 (.tmp 16) (.const (.int .i64 0)) rfl (eval_tmp ((hin 4 16 rfl).trans (congrArg some (show uu 4 = .pointer (some ⟨bk2, 0, none⟩) from hd 4 (by decide) (by kernel_rfl))))) rfl (fun _ => by kernel_rfl) (hK _ _ hJ rfl veL_same)⟩
  ·
   have y3 : aa.tmps[15]? = some (.bool true) := zzH (hin 3 15 rfl) (hd 3 (by decide) (by kernel_rfl))
   exact .inr ⟨by simp [Region.wanted, yielded, y3], fun K' hK => wp_load 23 (.tmp 17) rfl bk2 0 3 (cT (expT (ofV 0 0 1048576))) (cS (expT (ofV 0 0 1048576)).a.x) 27 (hJ.es.at' _ (zzG (i := 2) rfl)) (eval_tmp ((hin 5 17 rfl).trans (congrArg some (show uu 5 = .pointer (some ⟨bk2, 0, none⟩) from hd 5 (by decide) (by kernel_rfl))))) ag23 sz23 (zzF (by kernel_rfl)) (by kernel_rfl) (hK _ _ hJ rfl veL_same)⟩
  ·
   have y3 : aa.tmps[15]? = some (.bool true) := zzH (hin 3 15 rfl) (hd 3 (by decide) (by kernel_rfl))
   exact .inr ⟨by simp [Region.wanted, yielded, y3], fun K' hK => wp_callv (.func 23) #[.const (.int .i64 566548), .const (.int .i64 566549)] _ 23 #[] #[.int .i64 566548, .int .i64 566549] #[.int .i64 566548, .int .i64 566549] rfl rfl (map2 rfl rfl) (by kernel_rfl) (fun _ _ => by kernel_rfl) (sOf_any 566548 566549 ww) (fun _ hB => (hK _ _ (hJ.later hB) rfl (veL_later hB)))⟩
  ·
   have y3 : aa.tmps[15]? = some (.bool true) := zzH (hin 3 15 rfl) (hd 3 (by decide) (by kernel_rfl))
   exact .inr ⟨by simp [Region.wanted, yielded, y3], fun K' hK => wp_eqlA 23 23 (.tmp 18) (.tmp 19) rfl (cS (expT (ofV 0 0 1048576)).a.x) (cS (ofS 566548 566549)) (eval_tmp ((hin 6 18 rfl).trans (congrArg some (show uu 6 = .agg (cS (expT (ofV 0 0 1048576)).a.x) from hd 6 (by decide) (by kernel_rfl))))) (eval_tmp ((hin 7 19 rfl).trans (congrArg some (show uu 7 = .agg (cS (ofS 566548 566549)) from hd 7 (by decide) (by kernel_rfl))))) gd_S (eql_S ex_b0) (hK _ _ hJ rfl veL_same)⟩
  ·
   have x15 : aa.tmps[15]? = some (.bool true) := ((hin 3 15 rfl).trans (congrArg some (show uu 3 = .bool true from hd 3 (by decide) (by kernel_rfl))))
   have x20 : aa.tmps[20]? = some (.bool true) := ((hin 8 20 rfl).trans (congrArg some (show uu 8 = .bool true from hd 8 (by decide) (by kernel_rfl))))
   clear hd hev hin
   simp only [zzA, zzB]
   clear hl
   refine .inr ⟨rfl, fun K' hK => ?_⟩
   have HK := Lib.hid hK
   clear hK
   go_simp
   exact HK.out (.bool true) _ hJ rfl veL_same
  ·
   exact .inr ⟨rfl, fun K' hK => wp_move (.tmp 21) rfl (eval_tmp ((hin 9 21 rfl).trans (congrArg some (show uu 9 = .bool true from hd 9 (by decide) (by kernel_rfl))))) (hK _ _ hJ rfl veL_same)⟩
  ·
   have y10 : aa.tmps[22]? = some (.bool true) := zzH (hin 10 22 rfl) (hd 10 (by decide) (by kernel_rfl))
   exact .inr ⟨by simp [Region.wanted, yielded, y10], fun K' hK => wp_ixa 27 (.tmp 2) (.const (.int .i64 0)) rfl (eval_tmp ((hev 2 (by decide)).trans rfl)) rfl (fun _ => by kernel_rfl) (hK _ _ hJ rfl veL_same)⟩
  ·
   have y10 : aa.tmps[22]? = some (.bool true) := zzH (hin 10 22 rfl) (hd 10 (by decide) (by kernel_rfl))
   exact .inr ⟨by simp [Region.wanted, yielded, y10], fun K' hK => wp_ixa 25 (.tmp 23) (.const (.int .i64 1)) rfl (eval_tmp ((hin 11 23 rfl).trans (congrArg some (show uu 11 = .pointer (some ⟨bk2, 0, none⟩) from hd 11 (by decide) (by kernel_rfl))))) rfl (fun _ => by kernel_rfl) (hK _ _ hJ rfl veL_same)⟩
  ·
   have y10 : aa.tmps[22]? = some (.bool true) := zzH (hin 10 22 rfl) (hd 10 (by decide) (by kernel_rfl))
   exact .inr ⟨by simp [Region.wanted, yielded, y10], fun K' hK => wp_load 23 (.tmp 24) rfl bk2 3 3 (cT (expT (ofV 0 0 1048576))) (cS (expT (ofV 0 0 1048576)).a.y) 27 (hJ.es.at' _ (zzG (i := 2) rfl)) (eval_tmp ((hin 12 24 rfl).trans (congrArg some (show uu 12 = .pointer (some ⟨bk2, 3, none⟩) from hd 12 (by decide) (by kernel_rfl))))) ag23 sz23 (zzF (by kernel_rfl)) (by kernel_rfl) (hK _ _ hJ rfl veL_same)⟩
  ·
   have y10 : aa.tmps[22]? = some (.bool true) := zzH (hin 10 22 rfl) (hd 10 (by decide) (by kernel_rfl))
   exact .inr ⟨by simp [Region.wanted, yielded, y10], fun K' hK => wp_callv (.func 23) #[.const (.int .i64 (-882347)), .const (.int .i64 (-882346))] _ 23 #[] #[.int .i64 (-882347), .int .i64 (-882346)] #[.int .i64 (-882347), .int .i64 (-882346)] rfl rfl (map2 rfl rfl) (by kernel_rfl) (fun _ _ => by kernel_rfl) (sOf_any (-882347) (-882346) ww) (fun _ hB => (hK _ _ (hJ.later hB) rfl (veL_later hB)))⟩
  ·
   have y10 : aa.tmps[22]? = some (.bool true) := zzH (hin 10 22 rfl) (hd 10 (by decide) (by kernel_rfl))
   exact .inr ⟨by simp [Region.wanted, yielded, y10], fun K' hK => wp_eqlA 23 23 (.tmp 25) (.tmp 26) rfl (cS (expT (ofV 0 0 1048576)).a.y) (cS (ofS (-882347) (-882346))) (eval_tmp ((hin 13 25 rfl).trans (congrArg some (show uu 13 = .agg (cS (expT (ofV 0 0 1048576)).a.y) from hd 13 (by decide) (by kernel_rfl))))) (eval_tmp ((hin 14 26 rfl).trans (congrArg some (show uu 14 = .agg (cS (ofS (-882347) (-882346))) from hd 14 (by decide) (by kernel_rfl))))) gd_S (eql_S ex_b1) (hK _ _ hJ rfl veL_same)⟩
  ·
   have x22 : aa.tmps[22]? = some (.bool true) := ((hin 10 22 rfl).trans (congrArg some (show uu 10 = .bool true from hd 10 (by decide) (by kernel_rfl))))
   have x27 : aa.tmps[27]? = some (.bool true) := ((hin 15 27 rfl).trans (congrArg some (show uu 15 = .bool true from hd 15 (by decide) (by kernel_rfl))))
   clear hd hev hin
   simp only [zzA, zzB]
   clear hl
   refine .inr ⟨rfl, fun K' hK => ?_⟩
   have HK := Lib.hid hK
   clear hK
   go_simp
   exact HK.out (.bool true) _ hJ rfl veL_same
  ·
   exact .inr ⟨rfl, fun K' hK => wp_move (.tmp 28) rfl (eval_tmp ((hin 16 28 rfl).trans (congrArg some (show uu 16 = .bool true from hd 16 (by decide) (by kernel_rfl))))) (hK _ _ hJ rfl veL_same)⟩
  ·
   have y17 : aa.tmps[29]? = some (.bool true) := zzH (hin 17 29 rfl) (hd 17 (by decide) (by kernel_rfl))
   exact .inr ⟨by simp [Region.wanted, yielded, y17], fun K' hK => wp_ixa 27 (.tmp 2) (.const (.int .i64 0)) rfl (eval_tmp ((hev 2 (by decide)).trans rfl)) rfl (fun _ => by kernel_rfl) (hK _ _ hJ rfl veL_same)⟩
  ·
   have y17 : aa.tmps[29]? = some (.bool true) := zzH (hin 17 29 rfl) (hd 17 (by decide) (by kernel_rfl))
   exact .inr ⟨by simp [Region.wanted, yielded, y17], fun K' hK => wp_ixa 25 (.tmp 30) (.const (.int .i64 2)) rfl (eval_tmp ((hin 18 30 rfl).trans (congrArg some (show uu 18 = .pointer (some ⟨bk2, 0, none⟩) from hd 18 (by decide) (by kernel_rfl))))) rfl (fun _ => by kernel_rfl) (hK _ _ hJ rfl veL_same)⟩
  ·
   have y17 : aa.tmps[29]? = some (.bool true) := zzH (hin 17 29 rfl) (hd 17 (by decide) (by kernel_rfl))
   exact .inr ⟨by simp [Region.wanted, yielded, y17], fun K' hK => wp_load 23 (.tmp 31) rfl bk2 6 3 (cT (expT (ofV 0 0 1048576))) (cS (expT (ofV 0 0 1048576)).a.z) 27 (hJ.es.at' _ (zzG (i := 2) rfl)) (eval_tmp ((hin 19 31 rfl).trans (congrArg some (show uu 19 = .pointer (some ⟨bk2, 6, none⟩) from hd 19 (by decide) (by kernel_rfl))))) ag23 sz23 (zzF (by kernel_rfl)) (by kernel_rfl) (hK _ _ hJ rfl veL_same)⟩
  ·
   have y17 : aa.tmps[29]? = some (.bool true) := zzH (hin 17 29 rfl) (hd 17 (by decide) (by kernel_rfl))
   exact .inr ⟨by simp [Region.wanted, yielded, y17], fun K' hK => wp_callv (.func 23) #[.const (.int .i64 0), .const (.int .i64 0)] _ 23 #[] #[.int .i64 0, .int .i64 0] #[.int .i64 0, .int .i64 0] rfl rfl (map2 rfl rfl) (by kernel_rfl) (fun _ _ => by kernel_rfl) (sOf_any 0 0 ww) (fun _ hB => (hK _ _ (hJ.later hB) rfl (veL_later hB)))⟩
  ·
   have y17 : aa.tmps[29]? = some (.bool true) := zzH (hin 17 29 rfl) (hd 17 (by decide) (by kernel_rfl))
   exact .inr ⟨by simp [Region.wanted, yielded, y17], fun K' hK => wp_eqlA 23 23 (.tmp 32) (.tmp 33) rfl (cS (expT (ofV 0 0 1048576)).a.z) (cS (ofS 0 0)) (eval_tmp ((hin 20 32 rfl).trans (congrArg some (show uu 20 = .agg (cS (expT (ofV 0 0 1048576)).a.z) from hd 20 (by decide) (by kernel_rfl))))) (eval_tmp ((hin 21 33 rfl).trans (congrArg some (show uu 21 = .agg (cS (ofS 0 0)) from hd 21 (by decide) (by kernel_rfl))))) gd_S (eql_S ex_b2) (hK _ _ hJ rfl veL_same)⟩
  ·
   have x29 : aa.tmps[29]? = some (.bool true) := ((hin 17 29 rfl).trans (congrArg some (show uu 17 = .bool true from hd 17 (by decide) (by kernel_rfl))))
   have x34 : aa.tmps[34]? = some (.bool true) := ((hin 22 34 rfl).trans (congrArg some (show uu 22 = .bool true from hd 22 (by decide) (by kernel_rfl))))
   clear hd hev hin
   simp only [zzA, zzB]
   clear hl
   refine .inr ⟨rfl, fun K' hK => ?_⟩
   have HK := Lib.hid hK
   clear hK
   go_simp
   exact HK.out (.bool true) _ hJ rfl veL_same
  ·
   exact .inr ⟨rfl, fun K' hK => wp_move (.tmp 35) rfl (eval_tmp ((hin 23 35 rfl).trans (congrArg some (show uu 23 = .bool true from hd 23 (by decide) (by kernel_rfl))))) (hK _ _ hJ rfl veL_same)⟩
  ·
   have y24 : aa.tmps[36]? = some (.bool true) := zzH (hin 24 36 rfl) (hd 24 (by decide) (by kernel_rfl))
   exact .inr ⟨by simp [Region.wanted, yielded, y24], fun K' hK => wp_ixa 27 (.tmp 3) (.const (.int .i64 0)) rfl (eval_tmp ((hev 3 (by decide)).trans rfl)) rfl (fun _ => by kernel_rfl) (hK _ _ hJ rfl veL_same)⟩
  ·
   have y24 : aa.tmps[36]? = some (.bool true) := zzH (hin 24 36 rfl) (hd 24 (by decide) (by kernel_rfl))
   exact .inr ⟨by simp [Region.wanted, yielded, y24], fun K' hK => wp_ixa 25 (.tmp 37) (.const (.int .i64 0)) rfl (eval_tmp ((hin 25 37 rfl).trans (congrArg some (show uu 25 = .pointer (some ⟨bk3, 0, none⟩) from hd 25 (by decide) (by kernel_rfl))))) rfl (fun _ => by kernel_rfl) (hK _ _ hJ rfl veL_same)⟩
  ·
   have y24 : aa.tmps[36]? = some (.bool true) := zzH (hin 24 36 rfl) (hd 24 (by decide) (by kernel_rfl))
   exact .inr ⟨by simp [Region.wanted, yielded, y24], fun K' hK => wp_fda 23 (.tmp 38) 2 rfl (eval_tmp ((hin 26 38 rfl).trans (congrArg some (show uu 26 = .pointer (some ⟨bk3, 0, none⟩) from hd 26 (by decide) (by kernel_rfl))))) (fun _ => by kernel_rfl) (hK _ _ hJ rfl veL_same)⟩
  ·
   have y24 : aa.tmps[36]? = some (.bool true) := zzH (hin 24 36 rfl) (hd 24 (by decide) (by kernel_rfl))
   exact .inr ⟨by simp [Region.wanted, yielded, y24], fun K' hK => wp_load1 (v := .bool true) 4 (.tmp 39) rfl bk3 2 (cT (expT (ofV 0 0 3145728))) 27 (hJ.es.at' _ (zzG (i := 1) rfl)) (eval_tmp ((hin 27 39 rfl).trans (congrArg some (show uu 27 = .pointer (some ⟨bk3, 2, none⟩) from hd 27 (by decide) (by kernel_rfl))))) ag4 (by kernel_rfl) (hK _ _ hJ rfl veL_same)⟩
  ·
   have x36 : aa.tmps[36]? = some (.bool true) := ((hin 24 36 rfl).trans (congrArg some (show uu 24 = .bool true from hd 24 (by decide) (by kernel_rfl))))
   have x40 : aa.tmps[40]? = some (.bool true) := ((hin 28 40 rfl).trans (congrArg some (show uu 28 = .bool true from hd 28 (by decide) (by kernel_rfl))))
   clear hd hev hin
   simp only [zzA, zzB]
   clear hl
   refine .inr ⟨rfl, fun K' hK => ?_⟩
   have HK := Lib.hid hK
   clear hK
   go_simp
   exact HK.out (.bool true) _ hJ rfl veL_same
  ·
   exact .inr ⟨rfl, fun K' hK => wp_move (.tmp 41) rfl (eval_tmp ((hin 29 41 rfl).trans (congrArg some (show uu 29 = .bool true from hd 29 (by decide) (by kernel_rfl))))) (hK _ _ hJ rfl veL_same)⟩
  ·
   have y30 : aa.tmps[42]? = some (.bool true) := zzH (hin 30 42 rfl) (hd 30 (by decide) (by kernel_rfl))
   exact .inr ⟨by simp [Region.wanted, yielded, y30], fun K' hK => wp_ixa 27 (.tmp 3) (.const (.int .i64 2)) rfl (eval_tmp ((hev 3 (by decide)).trans rfl)) rfl (fun _ => by kernel_rfl) (hK _ _ hJ rfl veL_same)⟩
  ·
   have y30 : aa.tmps[42]? = some (.bool true) := zzH (hin 30 42 rfl) (hd 30 (by decide) (by kernel_rfl))
   exact .inr ⟨by simp [Region.wanted, yielded, y30], fun K' hK => wp_ixa 25 (.tmp 43) (.const (.int .i64 2)) rfl (eval_tmp ((hin 31 43 rfl).trans (congrArg some (show uu 31 = .pointer (some ⟨bk3, 18, none⟩) from hd 31 (by decide) (by kernel_rfl))))) rfl (fun _ => by kernel_rfl) (hK _ _ hJ rfl veL_same)⟩
  ·
   have y30 : aa.tmps[42]? = some (.bool true) := zzH (hin 30 42 rfl) (hd 30 (by decide) (by kernel_rfl))
   exact .inr ⟨by simp [Region.wanted, yielded, y30], fun K' hK => wp_fda 23 (.tmp 44) 2 rfl (eval_tmp ((hin 32 44 rfl).trans (congrArg some (show uu 32 = .pointer (some ⟨bk3, 24, none⟩) from hd 32 (by decide) (by kernel_rfl))))) (fun _ => by kernel_rfl) (hK _ _ hJ rfl veL_same)⟩
  ·
   have y30 : aa.tmps[42]? = some (.bool true) := zzH (hin 30 42 rfl) (hd 30 (by decide) (by kernel_rfl))
   exact .inr ⟨by simp [Region.wanted, yielded, y30], fun K' hK => wp_load1 (v := .bool true) 4 (.tmp 45) rfl bk3 26 (cT (expT (ofV 0 0 3145728))) 27 (hJ.es.at' _ (zzG (i := 1) rfl)) (eval_tmp ((hin 33 45 rfl).trans (congrArg some (show uu 33 = .pointer (some ⟨bk3, 26, none⟩) from hd 33 (by decide) (by kernel_rfl))))) ag4 (by kernel_rfl) (hK _ _ hJ rfl veL_same)⟩
  ·
   have x42 : aa.tmps[42]? = some (.bool true) := ((hin 30 42 rfl).trans (congrArg some (show uu 30 = .bool true from hd 30 (by decide) (by kernel_rfl))))
   have x46 : aa.tmps[46]? = some (.bool true) := ((hin 34 46 rfl).trans (congrArg some (show uu 34 = .bool true from hd 34 (by decide) (by kernel_rfl))))
   clear hd hev hin
   simp only [zzA, zzB]
   clear hl
   refine .inr ⟨rfl, fun K' hK => ?_⟩
   have HK := Lib.hid hK
   clear hK
   go_simp
   exact HK.out (.bool true) _ hJ rfl veL_same
  ·
   exact .inr ⟨rfl, fun K' hK => wp_asgn (.tmp 47) rfl (eval_tmp ((hin 35 47 rfl).trans (congrArg some (show uu 35 = .bool true from hd 35 (by decide) (by kernel_rfl))))) (hK _ _ hJ rfl veL_same)⟩
 clear hM
 intro uu W16 hJm hd
 have e_0 : uu 0 = .agg (cT (expT (ofV 0 0 0))) := hd 0 (by decide)
 have e_1 : uu 1 = .agg (cT idT) := hd 1 (by decide)
 have e_2 : uu 2 = .bool true := hd 2 (by decide)
 have e_3 : uu 3 = .bool true := hd 3 (by decide)
 have e_4 : uu 4 = .pointer (some ⟨bk2, 0, none⟩) := hd 4 (by decide)
 have e_5 : uu 5 = .pointer (some ⟨bk2, 0, none⟩) := hd 5 (by decide)
 have e_6 : uu 6 = .agg (cS (expT (ofV 0 0 1048576)).a.x) := hd 6 (by decide)
 have e_7 : uu 7 = .agg (cS (ofS 566548 566549)) := hd 7 (by decide)
 have e_8 : uu 8 = .bool true := hd 8 (by decide)
 have e_9 : uu 9 = .bool true := hd 9 (by decide)
 have e_10 : uu 10 = .bool true := hd 10 (by decide)
 have e_11 : uu 11 = .pointer (some ⟨bk2, 0, none⟩) := hd 11 (by decide)
 have e_12 : uu 12 = .pointer (some ⟨bk2, 3, none⟩) := hd 12 (by decide)
 have e_13 : uu 13 = .agg (cS (expT (ofV 0 0 1048576)).a.y) := hd 13 (by decide)
 have e_14 : uu 14 = .agg (cS (ofS (-882347) (-882346))) := hd 14 (by decide)
 have e_15 : uu 15 = .bool true := hd 15 (by decide)
 have e_16 : uu 16 = .bool true := hd 16 (by decide)
 have e_17 : uu 17 = .bool true := hd 17 (by decide)
 have e_18 : uu 18 = .pointer (some ⟨bk2, 0, none⟩) := hd 18 (by decide)
 have e_19 : uu 19 = .pointer (some ⟨bk2, 6, none⟩) := hd 19 (by decide)
 have e_20 : uu 20 = .agg (cS (expT (ofV 0 0 1048576)).a.z) := hd 20 (by decide)
 have e_21 : uu 21 = .agg (cS (ofS 0 0)) := hd 21 (by decide)
 have e_22 : uu 22 = .bool true := hd 22 (by decide)
 have e_23 : uu 23 = .bool true := hd 23 (by decide)
 have e_24 : uu 24 = .bool true := hd 24 (by decide)
 have e_25 : uu 25 = .pointer (some ⟨bk3, 0, none⟩) := hd 25 (by decide)
 have e_26 : uu 26 = .pointer (some ⟨bk3, 0, none⟩) := hd 26 (by decide)
 have e_27 : uu 27 = .pointer (some ⟨bk3, 2, none⟩) := hd 27 (by decide)
 have e_28 : uu 28 = .bool true := hd 28 (by decide)
 have e_29 : uu 29 = .bool true := hd 29 (by decide)
 have e_30 : uu 30 = .bool true := hd 30 (by decide)
 have e_31 : uu 31 = .pointer (some ⟨bk3, 18, none⟩) := hd 31 (by decide)
 have e_32 : uu 32 = .pointer (some ⟨bk3, 24, none⟩) := hd 32 (by decide)
 have e_33 : uu 33 = .pointer (some ⟨bk3, 26, none⟩) := hd 33 (by decide)
 have e_34 : uu 34 = .bool true := hd 34 (by decide)
 have e_35 : uu 35 = .bool true := hd 35 (by decide)
 have e_36 : uu 36 = .bool true := hd 36 (by decide)
 clear hd
 simp only [layS, Act.put, zzC, zzD, zzE, Nat.zero_add, Nat.reduceAdd, List.drop_succ_cons, List.drop_zero, List.drop_nil, e_0, e_1, e_2, e_3, e_4, e_5, e_6, e_7, e_8, e_9, e_10, e_11, e_12, e_13, e_14, e_15, e_16, e_17, e_18, e_19, e_20, e_21, e_22, e_23, e_24, e_25, e_26, e_27, e_28, e_29, e_30, e_31, e_32, e_33, e_34, e_35, e_36]
 clear e_0 e_1 e_2 e_3 e_4 e_5 e_6 e_7 e_8 e_9 e_10 e_11 e_12 e_13 e_14 e_15 e_16 e_17 e_18 e_19 e_20 e_21 e_22 e_23 e_24 e_25 e_26 e_27 e_28 e_29 e_30 e_31 e_32 e_33 e_34 e_35 e_36
 have hJ16 := hJm.es
 clear hJm
 go_wp2
 go_ret
 exact ⟨rfl, hJ16.below⟩
end Go.Proofs.YtolpfibihialkaaGreat

/- Package rot: the walk of In. No statement of the seat is proved here. -/
namespace Go.Proofs.YtolpfibihialkaaGreat
open Go Go.RowKit
set_option maxRecDepth 100000 in
set_option maxHeartbeats 12800000 in
theorem tIn_0 (r q : Tu) (hIa : ∀ W : World, Calls Tryz.prog 29 #[.agg (cV r.a), .agg (cV q.a)] W (PVal (.bool false) W)) (w : World)   : Calls Tryz.prog 12 #[.agg (cT r), .agg (cT q)] w (PVal (.bool false) w) := by
 have Ia := Lib.hid hIa
 clear hIa
 have hJ0 := es_nil w
 go_enter Tryz.func12, Tryz.ntmps12
 go_wp2_with (refine stop_box 27 (.tmp 0) (cT r) rfl rfl rfl hJ0 (fun bk1 W1 hJ1 => ?_))
 clear hJ0
 unfold Stop
 try simp only [Act.put, zzC, zzD, zzE]
 go_wp2_with (refine stop_box 27 (.tmp 1) (cT q) rfl rfl rfl hJ1 (fun bk2 W2 hJ2 => ?_))
 clear hJ1
 unfold Stop
 try simp only [Act.put, zzC, zzD, zzE]
 go_wp2_with (refine stop_op rfl (fun K hK => wp_load 25 (.tmp 5) rfl bk1 0 9 (cT r) (cV r.a) 27 (hJ2.at' _ (zzG (i := 1) rfl)) rfl ag25 sz25 (zzF (by kernel_rfl)) (by kernel_rfl) (hK _ _ ?_)))
 unfold Stop
 try simp only [Act.put, zzC, zzD, zzE]
 go_wp2_with (refine stop_op rfl (fun K hK => wp_load 25 (.tmp 7) rfl bk2 0 9 (cT q) (cV q.a) 27 (hJ2.at' _ (zzG (i := 0) rfl)) rfl ag25 sz25 (zzF (by kernel_rfl)) (by kernel_rfl) (hK _ _ ?_)))
 unfold Stop
 try simp only [Act.put, zzC, zzD, zzE]
 go_wp2_with fail
 refine (Ia.out _).mono ?_
 rintro zz W3 ⟨rfl, hB⟩
 have hJ3 := hJ2.later hB
 clear hB
 clear hJ2
 go_wp2
 go_ret
 exact ⟨rfl, hJ3.below⟩
set_option maxRecDepth 100000 in
set_option maxHeartbeats 12800000 in
theorem tIn_1 (r q : Tu) (hIa : ∀ W : World, Calls Tryz.prog 29 #[.agg (cV r.a), .agg (cV q.a)] W (PVal (.bool true) W)) (hIb : ∀ W : World, Calls Tryz.prog 29 #[.agg (cV r.b), .agg (cV q.b)] W (PVal (.bool false) W)) (w : World)   : Calls Tryz.prog 12 #[.agg (cT r), .agg (cT q)] w (PVal (.bool false) w) := by
 have Ia := Lib.hid hIa
 have Ib := Lib.hid hIb
 clear hIa hIb
 have hJ0 := es_nil w
 go_enter Tryz.func12, Tryz.ntmps12
 go_wp2_with (refine stop_box 27 (.tmp 0) (cT r) rfl rfl rfl hJ0 (fun bk1 W1 hJ1 => ?_))
 clear hJ0
 unfold Stop
 try simp only [Act.put, zzC, zzD, zzE]
 go_wp2_with (refine stop_box 27 (.tmp 1) (cT q) rfl rfl rfl hJ1 (fun bk2 W2 hJ2 => ?_))
 clear hJ1
 unfold Stop
 try simp only [Act.put, zzC, zzD, zzE]
 go_wp2_with (refine stop_op rfl (fun K hK => wp_load 25 (.tmp 5) rfl bk1 0 9 (cT r) (cV r.a) 27 (hJ2.at' _ (zzG (i := 1) rfl)) rfl ag25 sz25 (zzF (by kernel_rfl)) (by kernel_rfl) (hK _ _ ?_)))
 unfold Stop
 try simp only [Act.put, zzC, zzD, zzE]
 go_wp2_with (refine stop_op rfl (fun K hK => wp_load 25 (.tmp 7) rfl bk2 0 9 (cT q) (cV q.a) 27 (hJ2.at' _ (zzG (i := 0) rfl)) rfl ag25 sz25 (zzF (by kernel_rfl)) (by kernel_rfl) (hK _ _ ?_)))
 unfold Stop
 try simp only [Act.put, zzC, zzD, zzE]
 go_wp2_with fail
 refine (Ia.out _).mono ?_
 rintro zz W3 ⟨rfl, hB⟩
 have hJ3 := hJ2.later hB
 clear hB
 clear hJ2
 go_wp2_with (refine stop_opw (by kernel_rfl) (fun K hK => wp_load 25 (.tmp 11) rfl bk1 9 9 (cT r) (cV r.b) 27 (hJ3.at' _ (zzG (i := 1) rfl)) rfl ag25 sz25 (zzF (by kernel_rfl)) (by kernel_rfl) (hK _ _ ?_)))
 unfold Stop
 try simp only [Act.put, zzC, zzD, zzE]
 go_wp2_with (refine stop_opw (by kernel_rfl) (fun K hK => wp_load 25 (.tmp 13) rfl bk2 9 9 (cT q) (cV q.b) 27 (hJ3.at' _ (zzG (i := 0) rfl)) rfl ag25 sz25 (zzF (by kernel_rfl)) (by kernel_rfl) (hK _ _ ?_)))
 unfold Stop
 try simp only [Act.put, zzC, zzD, zzE]
 go_wp2_with fail
 refine (Ib.out _).mono ?_
 rintro zz W4 ⟨rfl, hB⟩
 have hJ4 := hJ3.later hB
 clear hB
 clear hJ3
 go_wp2
 go_ret
 exact ⟨rfl, hJ4.below⟩
set_option maxRecDepth 100000 in
set_option maxHeartbeats 12800000 in
theorem tIn_2 (r q : Tu) (z : Bool) (hIa : ∀ W : World, Calls Tryz.prog 29 #[.agg (cV r.a), .agg (cV q.a)] W (PVal (.bool true) W)) (hIb : ∀ W : World, Calls Tryz.prog 29 #[.agg (cV r.b), .agg (cV q.b)] W (PVal (.bool true) W)) (hIc : ∀ W : World, Calls Tryz.prog 29 #[.agg (cV r.c), .agg (cV q.c)] W (PVal (.bool z) W)) (w : World)   : Calls Tryz.prog 12 #[.agg (cT r), .agg (cT q)] w (PVal (.bool z) w) := by
 have Ia := Lib.hid hIa
 have Ib := Lib.hid hIb
 have Ic := Lib.hid hIc
 clear hIa hIb hIc
 have hJ0 := es_nil w
 go_enter Tryz.func12, Tryz.ntmps12
 go_wp2_with (refine stop_box 27 (.tmp 0) (cT r) rfl rfl rfl hJ0 (fun bk1 W1 hJ1 => ?_))
 clear hJ0
 unfold Stop
 try simp only [Act.put, zzC, zzD, zzE]
 go_wp2_with (refine stop_box 27 (.tmp 1) (cT q) rfl rfl rfl hJ1 (fun bk2 W2 hJ2 => ?_))
 clear hJ1
 unfold Stop
 try simp only [Act.put, zzC, zzD, zzE]
 go_wp2_with (refine stop_op rfl (fun K hK => wp_load 25 (.tmp 5) rfl bk1 0 9 (cT r) (cV r.a) 27 (hJ2.at' _ (zzG (i := 1) rfl)) rfl ag25 sz25 (zzF (by kernel_rfl)) (by kernel_rfl) (hK _ _ ?_)))
 unfold Stop
 try simp only [Act.put, zzC, zzD, zzE]
 go_wp2_with (refine stop_op rfl (fun K hK => wp_load 25 (.tmp 7) rfl bk2 0 9 (cT q) (cV q.a) 27 (hJ2.at' _ (zzG (i := 0) rfl)) rfl ag25 sz25 (zzF (by kernel_rfl)) (by kernel_rfl) (hK _ _ ?_)))
 unfold Stop
 try simp only [Act.put, zzC, zzD, zzE]
 go_wp2_with fail
 refine (Ia.out _).mono ?_
 rintro zz W3 ⟨rfl, hB⟩
 have hJ3 := hJ2.later hB
 clear hB
 clear hJ2
 go_wp2_with (refine stop_opw (by kernel_rfl) (fun K hK => wp_load 25 (.tmp 11) rfl bk1 9 9 (cT r) (cV r.b) 27 (hJ3.at' _ (zzG (i := 1) rfl)) rfl ag25 sz25 (zzF (by kernel_rfl)) (by kernel_rfl) (hK _ _ ?_)))
 unfold Stop
 try simp only [Act.put, zzC, zzD, zzE]
 go_wp2_with (refine stop_opw (by kernel_rfl) (fun K hK => wp_load 25 (.tmp 13) rfl bk2 9 9 (cT q) (cV q.b) 27 (hJ3.at' _ (zzG (i := 0) rfl)) rfl ag25 sz25 (zzF (by kernel_rfl)) (by kernel_rfl) (hK _ _ ?_)))
 unfold Stop
 try simp only [Act.put, zzC, zzD, zzE]
 go_wp2_with fail
 refine (Ib.out _).mono ?_
 rintro zz W4 ⟨rfl, hB⟩
 have hJ4 := hJ3.later hB
 clear hB
 clear hJ3
 go_wp2_with (refine stop_opw (by kernel_rfl) (fun K hK => wp_load 25 (.tmp 18) rfl bk1 18 9 (cT r) (cV r.c) 27 (hJ4.at' _ (zzG (i := 1) rfl)) rfl ag25 sz25 (zzF (by kernel_rfl)) (by kernel_rfl) (hK _ _ ?_)))
 unfold Stop
 try simp only [Act.put, zzC, zzD, zzE]
 go_wp2_with (refine stop_opw (by kernel_rfl) (fun K hK => wp_load 25 (.tmp 20) rfl bk2 18 9 (cT q) (cV q.c) 27 (hJ4.at' _ (zzG (i := 0) rfl)) rfl ag25 sz25 (zzF (by kernel_rfl)) (by kernel_rfl) (hK _ _ ?_)))
 unfold Stop
 try simp only [Act.put, zzC, zzD, zzE]
 go_wp2_with fail
 refine (Ic.out _).mono ?_
 rintro zz W5 ⟨rfl, hB⟩
 have hJ5 := hJ4.later hB
 clear hB
 clear hJ4
 go_wp2
 go_ret
 exact ⟨rfl, hJ5.below⟩
theorem tIn_any (r q : Tu) (w : World) : Calls Tryz.prog 12 #[.agg (cT r), .agg (cT q)] w (PVal (.bool (inT r q)) w) := by
 have ha := vIn_any r.a q.a
 have hb := vIn_any r.b q.b
 have hc := vIn_any r.c q.c
 unfold inT
 cases h1 : inV r.a q.a
 ·
  rw [h1] at ha
  exact tIn_0 r q ha w
 ·
  rw [h1] at ha
  cases h2 : inV r.b q.b
  ·
   rw [h2] at hb
   exact tIn_1 r q ha hb w
  ·
   rw [h2] at hb
   exact tIn_2 r q (inV r.c q.c) ha hb hc w
end Go.Proofs.YtolpfibihialkaaGreat
