/- Parts of the proof. -/
import Derived.Test.YtolpfibihialkaaGreatGr0
import Derived.Test.YtolpfibihialkaaGreatGr35
import Derived.Test.YtolpfibihialkaaGreatGr39
/- The walk of the law RotReckons. No statement of the seat is proved here. -/
namespace Go.Proofs.YtolpfibihialkaaGreat
open Go Go.RowKit
set_option maxRecDepth 100000 in
set_option maxHeartbeats 12800000 in
theorem RotReckons_any (r q : Tu) (v : Vc)  (w : World)   : Calls Tryz.prog 3 #[.agg (cT r), .agg (cT q), .agg (cV v)] w (PVal (.bool true) w) := by
 have hJ0 := es_nil w
 go_enter Tryz.func3, Tryz.ntmps3
 go_wp2_with (refine stop_box 27 (.tmp 0) (cT r) rfl rfl rfl hJ0 (fun bk1 W1 hJ1 => ?_))
 clear hJ0
 unfold Stop
 try simp only [Act.put, zzC, zzD, zzE]
 go_wp2_with (refine stop_box 27 (.tmp 1) (cT q) rfl rfl rfl hJ1 (fun bk2 W2 hJ2 => ?_))
 clear hJ1
 unfold Stop
 try simp only [Act.put, zzC, zzD, zzE]
 go_wp2_with (refine stop_box 25 (.tmp 2) (cV v) rfl rfl rfl hJ2 (fun bk3 W3 hJ3 => ?_))
 clear hJ2
 unfold Stop
 try simp only [Act.put, zzC, zzD, zzE]
 go_wp2_with fail
 refine (rawake_any W3).mono ?_
 rintro zz W4 ⟨rfl, hB⟩
 have hJ4 := hJ3.later hB
 clear hB
 clear hJ3
 go_wp2_with (refine stop_op rfl (fun K hK => wp_load 27 (.tmp 3) rfl bk1 0 27 (cT r) (cT r) 27 (hJ4.at' _ (zzG (i := 2) rfl)) rfl ag27 sz27 (zzF (by kernel_rfl)) (by kernel_rfl) (hK _ _ ?_)))
 unfold Stop
 try simp only [Act.put, zzC, zzD, zzE]
 go_wp2_with fail
 refine (docT_any r W4).mono ?_
 rintro zz W5 ⟨rfl, hB⟩
 have hJ5 := hJ4.later hB
 clear hB
 clear hJ4
 go_wp2_with (refine stop_alloc 33 (cT zT) (.agg (cT zT)) rfl rfl zv33 rfl hJ5 (fun bk4 W6 hJ6 => ?_))
 clear hJ5
 unfold Stop
 try simp only [Act.put, zzC, zzD, zzE]
 go_wp2_with (refine stop_store 33 (.tmp 8) (.tmp 18) 0 bk4 0 (cT zT) 33 27 (cT r).toList (cT r) [(bk4, (cT r), 33), (bk3, (cV v), 25), (bk2, (cT q), 27), (bk1, (cT r), 27)] rfl rfl rfl rfl sz33 hJ6 rfl (by kernel_rfl) (zzF (by kernel_rfl)) (by kernel_rfl) (by kernel_rfl) (by kernel_rfl) (fun W7 hJ7 => ?_))
 clear hJ6
 unfold Stop
 try simp only [Act.put, zzC, zzD, zzE]
 go_wp2_with (refine stop_op rfl (fun K hK => wp_load 27 (.tmp 4) rfl bk2 0 27 (cT q) (cT q) 27 (hJ7.at' _ (zzG (i := 2) rfl)) rfl ag27 sz27 (zzF (by kernel_rfl)) (by kernel_rfl) (hK _ _ ?_)))
 unfold Stop
 try simp only [Act.put, zzC, zzD, zzE]
 go_wp2_with fail
 refine (docT_any q W7).mono ?_
 rintro zz W8 ⟨rfl, hB⟩
 have hJ8 := hJ7.later hB
 clear hB
 clear hJ7
 go_wp2_with (refine stop_alloc 33 (cT zT) (.agg (cT zT)) rfl rfl zv33 rfl hJ8 (fun bk5 W9 hJ9 => ?_))
 clear hJ8
 unfold Stop
 try simp only [Act.put, zzC, zzD, zzE]
 go_wp2_with (refine stop_store 33 (.tmp 9) (.tmp 20) 0 bk5 0 (cT zT) 33 27 (cT q).toList (cT q) [(bk5, (cT q), 33), (bk4, (cT r), 33), (bk3, (cV v), 25), (bk2, (cT q), 27), (bk1, (cT r), 27)] rfl rfl rfl rfl sz33 hJ9 rfl (by kernel_rfl) (zzF (by kernel_rfl)) (by kernel_rfl) (by kernel_rfl) (by kernel_rfl) (fun W10 hJ10 => ?_))
 clear hJ9
 unfold Stop
 try simp only [Act.put, zzC, zzD, zzE]
 go_wp2_with (refine stop_op rfl (fun K hK => wp_load 27 (.tmp 3) rfl bk1 0 27 (cT r) (cT r) 27 (hJ10.at' _ (zzG (i := 4) rfl)) rfl ag27 sz27 (zzF (by kernel_rfl)) (by kernel_rfl) (hK _ _ ?_)))
 unfold Stop
 try simp only [Act.put, zzC, zzD, zzE]
 go_wp2_with (refine stop_op rfl (fun K hK => wp_load 27 (.tmp 4) rfl bk2 0 27 (cT q) (cT q) 27 (hJ10.at' _ (zzG (i := 3) rfl)) rfl ag27 sz27 (zzF (by kernel_rfl)) (by kernel_rfl) (hK _ _ ?_)))
 unfold Stop
 try simp only [Act.put, zzC, zzD, zzE]
 go_wp2_with fail
 refine (tMul_any r q W10).mono ?_
 rintro zz W11 ⟨rfl, hB⟩
 have hJ11 := hJ10.later hB
 clear hB
 clear hJ10
 go_wp2_with fail
 refine (docT_any (mulT r q) W11).mono ?_
 rintro zz W12 ⟨rfl, hB⟩
 have hJ12 := hJ11.later hB
 clear hB
 clear hJ11
 go_wp2_with (refine stop_alloc 33 (cT zT) (.agg (cT zT)) rfl rfl zv33 rfl hJ12 (fun bk6 W13 hJ13 => ?_))
 clear hJ12
 unfold Stop
 try simp only [Act.put, zzC, zzD, zzE]
 go_wp2_with (refine stop_store 33 (.tmp 10) (.tmp 24) 0 bk6 0 (cT zT) 33 27 (cT (mulT r q)).toList (cT (mulT r q)) [(bk6, (cT (mulT r q)), 33), (bk5, (cT q), 33), (bk4, (cT r), 33), (bk3, (cV v), 25), (bk2, (cT q), 27), (bk1, (cT r), 27)] rfl rfl rfl rfl sz33 hJ13 rfl (by kernel_rfl) (zzF (by kernel_rfl)) (by kernel_rfl) (by kernel_rfl) (by kernel_rfl) (fun W14 hJ14 => ?_))
 clear hJ13
 unfold Stop
 try simp only [Act.put, zzC, zzD, zzE]
 go_wp2_with (refine stop_op rfl (fun K hK => wp_load 27 (.tmp 3) rfl bk1 0 27 (cT r) (cT r) 27 (hJ14.at' _ (zzG (i := 5) rfl)) rfl ag27 sz27 (zzF (by kernel_rfl)) (by kernel_rfl) (hK _ _ ?_)))
 unfold Stop
 try simp only [Act.put, zzC, zzD, zzE]
 go_wp2_with (refine stop_op rfl (fun K hK => wp_load 25 (.tmp 5) rfl bk3 0 9 (cV v) (cV v) 25 (hJ14.at' _ (zzG (i := 3) rfl)) rfl ag25 sz25 (zzF (by kernel_rfl)) (by kernel_rfl) (hK _ _ ?_)))
 unfold Stop
 try simp only [Act.put, zzC, zzD, zzE]
 go_wp2_with fail
 refine (tApp_any r v W14).mono ?_
 rintro zz W15 ⟨rfl, hB⟩
 have hJ15 := hJ14.later hB
 clear hB
 clear hJ14
 go_wp2_with fail
 refine (rowT_any (appT r v) W15).mono ?_
 rintro zz W16 ⟨rfl, hB⟩
 have hJ16 := hJ15.later hB
 clear hB
 clear hJ15
 go_wp2_with (refine stop_alloc 31 (cV zV) (.agg (cV zV)) rfl rfl zv31 rfl hJ16 (fun bk7 W17 hJ17 => ?_))
 clear hJ16
 unfold Stop
 try simp only [Act.put, zzC, zzD, zzE]
 go_wp2_with (refine stop_store 31 (.tmp 11) (.tmp 28) 0 bk7 0 (cV zV) 31 9 (cV (appT r v)).toList (cV (appT r v)) [(bk7, (cV (appT r v)), 31), (bk6, (cT (mulT r q)), 33), (bk5, (cT q), 33), (bk4, (cT r), 33), (bk3, (cV v), 25), (bk2, (cT q), 27), (bk1, (cT r), 27)] rfl rfl rfl rfl sz31 hJ17 rfl (by kernel_rfl) (zzF (by kernel_rfl)) (by kernel_rfl) (by kernel_rfl) (by kernel_rfl) (fun W18 hJ18 => ?_))
 clear hJ17
 unfold Stop
 try simp only [Act.put, zzC, zzD, zzE]
 go_wp2_with (refine stop_op rfl (fun K hK => wp_load 27 (.tmp 3) rfl bk1 0 27 (cT r) (cT r) 27 (hJ18.at' _ (zzG (i := 6) rfl)) rfl ag27 sz27 (zzF (by kernel_rfl)) (by kernel_rfl) (hK _ _ ?_)))
 unfold Stop
 try simp only [Act.put, zzC, zzD, zzE]
 go_wp2_with fail
 refine (tTurn_any r W18).mono ?_
 rintro zz W19 ⟨rfl, hB⟩
 have hJ19 := hJ18.later hB
 clear hB
 clear hJ18
 go_wp2_with fail
 refine (docT_any (turnT r) W19).mono ?_
 rintro zz W20 ⟨rfl, hB⟩
 have hJ20 := hJ19.later hB
 clear hB
 clear hJ19
 go_wp2_with (refine stop_alloc 33 (cT zT) (.agg (cT zT)) rfl rfl zv33 rfl hJ20 (fun bk8 W21 hJ21 => ?_))
 clear hJ20
 unfold Stop
 try simp only [Act.put, zzC, zzD, zzE]
 go_wp2_with (refine stop_store 33 (.tmp 12) (.tmp 31) 0 bk8 0 (cT zT) 33 27 (cT (turnT r)).toList (cT (turnT r)) [(bk8, (cT (turnT r)), 33), (bk7, (cV (appT r v)), 31), (bk6, (cT (mulT r q)), 33), (bk5, (cT q), 33), (bk4, (cT r), 33), (bk3, (cV v), 25), (bk2, (cT q), 27), (bk1, (cT r), 27)] rfl rfl rfl rfl sz33 hJ21 rfl (by kernel_rfl) (zzF (by kernel_rfl)) (by kernel_rfl) (by kernel_rfl) (by kernel_rfl) (fun W22 hJ22 => ?_))
 clear hJ21
 unfold Stop
 try simp only [Act.put, zzC, zzD, zzE]
 go_wp2_with (refine stop_op rfl (fun K hK => wp_load 27 (.tmp 3) rfl bk1 0 27 (cT r) (cT r) 27 (hJ22.at' _ (zzG (i := 7) rfl)) rfl ag27 sz27 (zzF (by kernel_rfl)) (by kernel_rfl) (hK _ _ ?_)))
 unfold Stop
 try simp only [Act.put, zzC, zzD, zzE]
 go_wp2_with fail
 refine (tDet_any r W22).mono ?_
 rintro zz W23 ⟨rfl, hB⟩
 have hJ23 := hJ22.later hB
 clear hB
 clear hJ22
 go_wp2_with fail
 refine (oneT_any (detT r) W23).mono ?_
 rintro zz W24 ⟨rfl, hB⟩
 have hJ24 := hJ23.later hB
 clear hB
 clear hJ23
 go_wp2_with (refine stop_alloc 29 (cS zS) (.agg (cS zS)) rfl rfl zv29 rfl hJ24 (fun bk9 W25 hJ25 => ?_))
 clear hJ24
 unfold Stop
 try simp only [Act.put, zzC, zzD, zzE]
 go_wp2_with (refine stop_store 29 (.tmp 13) (.tmp 34) 0 bk9 0 (cS zS) 29 3 (cS (detT r)).toList (cS (detT r)) [(bk9, (cS (detT r)), 29), (bk8, (cT (turnT r)), 33), (bk7, (cV (appT r v)), 31), (bk6, (cT (mulT r q)), 33), (bk5, (cT q), 33), (bk4, (cT r), 33), (bk3, (cV v), 25), (bk2, (cT q), 27), (bk1, (cT r), 27)] rfl rfl rfl rfl sz29 hJ25 rfl (by kernel_rfl) (zzF (by kernel_rfl)) (by kernel_rfl) (by kernel_rfl) (by kernel_rfl) (fun W26 hJ26 => ?_))
 clear hJ25
 unfold Stop
 try simp only [Act.put, zzC, zzD, zzE]
 go_wp2_with (refine stop_op rfl (fun K hK => wp_load 27 (.tmp 3) rfl bk1 0 27 (cT r) (cT r) 27 (hJ26.at' _ (zzG (i := 8) rfl)) rfl ag27 sz27 (zzF (by kernel_rfl)) (by kernel_rfl) (hK _ _ ?_)))
 unfold Stop
 try simp only [Act.put, zzC, zzD, zzE]
 go_wp2_with (refine stop_op rfl (fun K hK => wp_load 27 (.tmp 4) rfl bk2 0 27 (cT q) (cT q) 27 (hJ26.at' _ (zzG (i := 7) rfl)) rfl ag27 sz27 (zzF (by kernel_rfl)) (by kernel_rfl) (hK _ _ ?_)))
 unfold Stop
 try simp only [Act.put, zzC, zzD, zzE]
 go_wp2_with fail
 refine (tIn_any r q W26).mono ?_
 rintro zz W27 ⟨rfl, hB⟩
 have hJ27 := hJ26.later hB
 clear hB
 clear hJ26
 go_wp2_with (refine stop_op rfl (fun K hK => wp_load 27 (.tmp 3) rfl bk1 0 27 (cT r) (cT r) 27 (hJ27.at' _ (zzG (i := 8) rfl)) rfl ag27 sz27 (zzF (by kernel_rfl)) (by kernel_rfl) (hK _ _ ?_)))
 unfold Stop
 try simp only [Act.put, zzC, zzD, zzE]
 go_wp2_with fail
 refine (tRad_any r W27).mono ?_
 rintro zz W28 ⟨rfl, hB⟩
 have hJ28 := hJ27.later hB
 clear hB
 clear hJ27
 go_wp2
 obtain ⟨m10_28, hm⟩ : ∃ m, m = W28.heap.size := ⟨_, rfl⟩
 have hM := hJ28.em
 rw [← hm] at hM
 clear hm hJ28
 refine wp_region_z 42 [some 40, some 41, some 42, some 43, some 44, some 45, some 46, some 47, some 48, some 49, some 50, some 51, some 52, some 53, some 54, some 55, some 56, some 57, some 58, some 59, some 60, some 61, some 62, some 63, some 64, some 65, some 66, some 67, some 68, some 69, some 70, some 71, some 72, some 73, some 74, some 75, some 76, some 77, some 78, some 79, some 80, some 6] (veL m10_28 [.eq (.bool true), .eq (.bool true), .eq (.agg (cT (mulT r q))), .eq (.agg (cT r)), .eq (.agg (cT q)), .eq (.agg (cT (mulT r q))), .eq (.bool true), .eq (.bool true), .eq (.bool true), .eq (.agg (cV (appT r v))), .eq (.agg (cT r)), .eq (.agg (cV v)), .eq (.agg (cV v)), .eq (.agg (cV (appT r v))), .eq (.bool true), .eq (.bool true), .eq (.bool true), .eq (.agg (cT (turnT r))), .eq (.agg (cT r)), .eq (.agg (cT (turnT r))), .eq (.bool true), .eq (.bool true), .eq (.bool true), .eq (.agg (cS (detT r))), .eq (.agg (cT r)), .eq (.agg (cS (detT r))), .eq (.bool true), .eq (.bool true), .eq (.bool true), .eq (.bool ((inT r q))), .eq (.agg (cT r)), .eq (.agg (cT q)), .eq (.bool ((inT r q))), .eq (.bool true), .eq (.bool true), .eq (.bool true), .eq (.int .i64 ((radT r))), .eq (.agg (cT r)), .eq (.int .i64 ((radT r))), .eq (.bool true), .eq (.bool true), .eq (.bool true)]) (Em w m10_28 [(bk9, (cS (detT r)), 29), (bk8, (cT (turnT r)), 33), (bk7, (cV (appT r v)), 31), (bk6, (cT (mulT r q)), 33), (bk5, (cT q), 33), (bk4, (cT r), 33), (bk3, (cV v), 25), (bk2, (cT q), 27), (bk1, (cT r), 27)]) (by kernel_rfl) (by kernel_rfl) (by rfl) (by decide) (by rfl) hM ?_ ?_
 ·
  intro i hl hi uu ww aa hJ hd hev hin
  clear hM
  obtain rfl | rfl | rfl | rfl | rfl | rfl | rfl | rfl | rfl | rfl | rfl | rfl | rfl | rfl | rfl | rfl | rfl | rfl | rfl | rfl | rfl | rfl | rfl | rfl | rfl | rfl | rfl | rfl | rfl | rfl | rfl | rfl | rfl | rfl | rfl | rfl | rfl | rfl | rfl | rfl | rfl | rfl : i = 0 ∨ i = 1 ∨ i = 2 ∨ i = 3 ∨ i = 4 ∨ i = 5 ∨ i = 6 ∨ i = 7 ∨ i = 8 ∨ i = 9 ∨ i = 10 ∨ i = 11 ∨ i = 12 ∨ i = 13 ∨ i = 14 ∨ i = 15 ∨ i = 16 ∨ i = 17 ∨ i = 18 ∨ i = 19 ∨ i = 20 ∨ i = 21 ∨ i = 22 ∨ i = 23 ∨ i = 24 ∨ i = 25 ∨ i = 26 ∨ i = 27 ∨ i = 28 ∨ i = 29 ∨ i = 30 ∨ i = 31 ∨ i = 32 ∨ i = 33 ∨ i = 34 ∨ i = 35 ∨ i = 36 ∨ i = 37 ∨ i = 38 ∨ i = 39 ∨ i = 40 ∨ i = 41 := by omega
  ·
   exact .inr ⟨rfl, fun K' hK => wp_move (.tmp 7) rfl (eval_tmp ((hev 7 (by decide)).trans rfl)) (hK _ _ hJ rfl veL_same)⟩
  ·
   exact .inr ⟨rfl, fun K' hK => wp_move (.tmp 40) rfl (eval_tmp ((hin 0 40 rfl).trans (congrArg some (show uu 0 = .bool true from hd 0 (by decide) (by kernel_rfl))))) (hK _ _ hJ rfl veL_same)⟩
  ·
   have y1 : aa.tmps[41]? = some (.bool true) := zzH (hin 1 41 rfl) (hd 1 (by decide) (by kernel_rfl))
   exact .inr ⟨by simp [Region.wanted, yielded, y1], fun K' hK => wp_load 33 (.tmp 10) rfl bk6 0 27 (cT (mulT r q)) (cT (mulT r q)) 33 (hJ.es.at' _ (zzG (i := 3) rfl)) (eval_tmp ((hev 10 (by decide)).trans rfl)) ag33 sz33 (zzF (by kernel_rfl)) (by kernel_rfl) (hK _ _ hJ rfl veL_same)⟩
  ·
   have y1 : aa.tmps[41]? = some (.bool true) := zzH (hin 1 41 rfl) (hd 1 (by decide) (by kernel_rfl))
   exact .inr ⟨by simp [Region.wanted, yielded, y1], fun K' hK => wp_load 33 (.tmp 8) rfl bk4 0 27 (cT r) (cT r) 33 (hJ.es.at' _ (zzG (i := 5) rfl)) (eval_tmp ((hev 8 (by decide)).trans rfl)) ag33 sz33 (zzF (by kernel_rfl)) (by kernel_rfl) (hK _ _ hJ rfl veL_same)⟩
  ·
   have y1 : aa.tmps[41]? = some (.bool true) := zzH (hin 1 41 rfl) (hd 1 (by decide) (by kernel_rfl))
   exact .inr ⟨by simp [Region.wanted, yielded, y1], fun K' hK => wp_load 33 (.tmp 9) rfl bk5 0 27 (cT q) (cT q) 33 (hJ.es.at' _ (zzG (i := 4) rfl)) (eval_tmp ((hev 9 (by decide)).trans rfl)) ag33 sz33 (zzF (by kernel_rfl)) (by kernel_rfl) (hK _ _ hJ rfl veL_same)⟩
  ·
   have y1 : aa.tmps[41]? = some (.bool true) := zzH (hin 1 41 rfl) (hd 1 (by decide) (by kernel_rfl))
   exact .inr ⟨by simp [Region.wanted, yielded, y1], fun K' hK => wp_callv (.func 14) #[.tmp 43, .tmp 44] _ 14 #[] #[.agg (cT r), .agg (cT q)] #[.agg (cT r), .agg (cT q)] rfl rfl (map2 (eval_tmp ((hin 3 43 rfl).trans (congrArg some (show uu 3 = .agg (cT r) from hd 3 (by decide) (by kernel_rfl))))) (eval_tmp ((hin 4 44 rfl).trans (congrArg some (show uu 4 = .agg (cT q) from hd 4 (by decide) (by kernel_rfl)))))) (by kernel_rfl) (fun _ _ => by kernel_rfl) (oMul_any r q ww) (fun _ hB => (hK _ _ (hJ.later hB) rfl (veL_later hB)))⟩
  ·
   have y1 : aa.tmps[41]? = some (.bool true) := zzH (hin 1 41 rfl) (hd 1 (by decide) (by kernel_rfl))
   exact .inr ⟨by simp [Region.wanted, yielded, y1], fun K' hK => wp_eqlA 33 33 (.tmp 42) (.tmp 45) rfl (cT (mulT r q)) (cT (mulT r q)) (eval_tmp ((hin 2 42 rfl).trans (congrArg some (show uu 2 = .agg (cT (mulT r q)) from hd 2 (by decide) (by kernel_rfl))))) (eval_tmp ((hin 5 45 rfl).trans (congrArg some (show uu 5 = .agg (cT (mulT r q)) from hd 5 (by decide) (by kernel_rfl))))) gd_R (eql_R rfl) (hK _ _ hJ rfl veL_same)⟩
  ·
   have x41 : aa.tmps[41]? = some (.bool true) := ((hin 1 41 rfl).trans (congrArg some (show uu 1 = .bool true from hd 1 (by decide) (by kernel_rfl))))
   have x46 : aa.tmps[46]? = some (.bool true) := ((hin 6 46 rfl).trans (congrArg some (show uu 6 = .bool true from hd 6 (by decide) (by kernel_rfl))))
   clear hd hev hin
   simp only [zzA, zzB]
   clear hl
   refine .inr ⟨rfl, fun K' hK => ?_⟩
   have HK := Lib.hid hK
   clear hK
   go_simp
   exact HK.out (.bool true) _ hJ rfl veL_same
  ·
   exact .inr ⟨rfl, fun K' hK => wp_move (.tmp 47) rfl (eval_tmp ((hin 7 47 rfl).trans (congrArg some (show uu 7 = .bool true from hd 7 (by decide) (by kernel_rfl))))) (hK _ _ hJ rfl veL_same)⟩
  ·
   have y8 : aa.tmps[48]? = some (.bool true) := zzH (hin 8 48 rfl) (hd 8 (by decide) (by kernel_rfl))
   exact .inr ⟨by simp [Region.wanted, yielded, y8], fun K' hK => wp_load 31 (.tmp 11) rfl bk7 0 9 (cV (appT r v)) (cV (appT r v)) 31 (hJ.es.at' _ (zzG (i := 2) rfl)) (eval_tmp ((hev 11 (by decide)).trans rfl)) ag31 sz31 (zzF (by kernel_rfl)) (by kernel_rfl) (hK _ _ hJ rfl veL_same)⟩
  ·
   have y8 : aa.tmps[48]? = some (.bool true) := zzH (hin 8 48 rfl) (hd 8 (by decide) (by kernel_rfl))
   exact .inr ⟨by simp [Region.wanted, yielded, y8], fun K' hK => wp_load 33 (.tmp 8) rfl bk4 0 27 (cT r) (cT r) 33 (hJ.es.at' _ (zzG (i := 5) rfl)) (eval_tmp ((hev 8 (by decide)).trans rfl)) ag33 sz33 (zzF (by kernel_rfl)) (by kernel_rfl) (hK _ _ hJ rfl veL_same)⟩
  ·
   have y8 : aa.tmps[48]? = some (.bool true) := zzH (hin 8 48 rfl) (hd 8 (by decide) (by kernel_rfl))
   exact .inr ⟨by simp [Region.wanted, yielded, y8], fun K' hK => wp_load 25 (.tmp 5) rfl bk3 0 9 (cV v) (cV v) 25 (hJ.es.at' _ (zzG (i := 6) rfl)) (eval_tmp ((hev 5 (by decide)).trans rfl)) ag25 sz25 (zzF (by kernel_rfl)) (by kernel_rfl) (hK _ _ hJ rfl veL_same)⟩
  ·
   have y8 : aa.tmps[48]? = some (.bool true) := zzH (hin 8 48 rfl) (hd 8 (by decide) (by kernel_rfl))
   exact .inr ⟨by simp [Region.wanted, yielded, y8], fun K' hK => wp_callv (.func 7) #[.tmp 51] _ 7 #[] #[.agg (cV v)] #[.agg (cV v)] rfl rfl (map1 (eval_tmp ((hin 11 51 rfl).trans (congrArg some (show uu 11 = .agg (cV v) from hd 11 (by decide) (by kernel_rfl)))))) (by kernel_rfl) (fun _ _ => by kernel_rfl) (rowT_any v ww) (fun _ hB => (hK _ _ (hJ.later hB) rfl (veL_later hB)))⟩
  ·
   have y8 : aa.tmps[48]? = some (.bool true) := zzH (hin 8 48 rfl) (hd 8 (by decide) (by kernel_rfl))
   exact .inr ⟨by simp [Region.wanted, yielded, y8], fun K' hK => wp_callv (.func 15) #[.tmp 50, .tmp 52] _ 15 #[] #[.agg (cT r), .agg (cV v)] #[.agg (cT r), .agg (cV v)] rfl rfl (map2 (eval_tmp ((hin 10 50 rfl).trans (congrArg some (show uu 10 = .agg (cT r) from hd 10 (by decide) (by kernel_rfl))))) (eval_tmp ((hin 12 52 rfl).trans (congrArg some (show uu 12 = .agg (cV v) from hd 12 (by decide) (by kernel_rfl)))))) (by kernel_rfl) (fun _ _ => by kernel_rfl) (oApp_any r v ww) (fun _ hB => (hK _ _ (hJ.later hB) rfl (veL_later hB)))⟩
  ·
   have y8 : aa.tmps[48]? = some (.bool true) := zzH (hin 8 48 rfl) (hd 8 (by decide) (by kernel_rfl))
   exact .inr ⟨by simp [Region.wanted, yielded, y8], fun K' hK => wp_eqlA 31 31 (.tmp 49) (.tmp 53) rfl (cV (appT r v)) (cV (appT r v)) (eval_tmp ((hin 9 49 rfl).trans (congrArg some (show uu 9 = .agg (cV (appT r v)) from hd 9 (by decide) (by kernel_rfl))))) (eval_tmp ((hin 13 53 rfl).trans (congrArg some (show uu 13 = .agg (cV (appT r v)) from hd 13 (by decide) (by kernel_rfl))))) gd_W (eql_W rfl) (hK _ _ hJ rfl veL_same)⟩
  ·
   have x48 : aa.tmps[48]? = some (.bool true) := ((hin 8 48 rfl).trans (congrArg some (show uu 8 = .bool true from hd 8 (by decide) (by kernel_rfl))))
   have x54 : aa.tmps[54]? = some (.bool true) := ((hin 14 54 rfl).trans (congrArg some (show uu 14 = .bool true from hd 14 (by decide) (by kernel_rfl))))
   clear hd hev hin
   simp only [zzA, zzB]
   clear hl
   refine .inr ⟨rfl, fun K' hK => ?_⟩
   have HK := Lib.hid hK
   clear hK
   go_simp
   exact HK.out (.bool true) _ hJ rfl veL_same
  ·
   exact .inr ⟨rfl, fun K' hK => wp_move (.tmp 55) rfl (eval_tmp ((hin 15 55 rfl).trans (congrArg some (show uu 15 = .bool true from hd 15 (by decide) (by kernel_rfl))))) (hK _ _ hJ rfl veL_same)⟩
  ·
   have y16 : aa.tmps[56]? = some (.bool true) := zzH (hin 16 56 rfl) (hd 16 (by decide) (by kernel_rfl))
   exact .inr ⟨by simp [Region.wanted, yielded, y16], fun K' hK => wp_load 33 (.tmp 12) rfl bk8 0 27 (cT (turnT r)) (cT (turnT r)) 33 (hJ.es.at' _ (zzG (i := 1) rfl)) (eval_tmp ((hev 12 (by decide)).trans rfl)) ag33 sz33 (zzF (by kernel_rfl)) (by kernel_rfl) (hK _ _ hJ rfl veL_same)⟩
  ·
   have y16 : aa.tmps[56]? = some (.bool true) := zzH (hin 16 56 rfl) (hd 16 (by decide) (by kernel_rfl))
   exact .inr ⟨by simp [Region.wanted, yielded, y16], fun K' hK => wp_load 33 (.tmp 8) rfl bk4 0 27 (cT r) (cT r) 33 (hJ.es.at' _ (zzG (i := 5) rfl)) (eval_tmp ((hev 8 (by decide)).trans rfl)) ag33 sz33 (zzF (by kernel_rfl)) (by kernel_rfl) (hK _ _ hJ rfl veL_same)⟩
  ·
   have y16 : aa.tmps[56]? = some (.bool true) := zzH (hin 16 56 rfl) (hd 16 (by decide) (by kernel_rfl))
   exact .inr ⟨by simp [Region.wanted, yielded, y16], fun K' hK => wp_callv (.func 16) #[.tmp 58] _ 16 #[] #[.agg (cT r)] #[.agg (cT r)] rfl rfl (map1 (eval_tmp ((hin 18 58 rfl).trans (congrArg some (show uu 18 = .agg (cT r) from hd 18 (by decide) (by kernel_rfl)))))) (by kernel_rfl) (fun _ _ => by kernel_rfl) (oTurn_any r ww) (fun _ hB => (hK _ _ (hJ.later hB) rfl (veL_later hB)))⟩
  ·
   have y16 : aa.tmps[56]? = some (.bool true) := zzH (hin 16 56 rfl) (hd 16 (by decide) (by kernel_rfl))
   exact .inr ⟨by simp [Region.wanted, yielded, y16], fun K' hK => wp_eqlA 33 33 (.tmp 57) (.tmp 59) rfl (cT (turnT r)) (cT (turnT r)) (eval_tmp ((hin 17 57 rfl).trans (congrArg some (show uu 17 = .agg (cT (turnT r)) from hd 17 (by decide) (by kernel_rfl))))) (eval_tmp ((hin 19 59 rfl).trans (congrArg some (show uu 19 = .agg (cT (turnT r)) from hd 19 (by decide) (by kernel_rfl))))) gd_R (eql_R rfl) (hK _ _ hJ rfl veL_same)⟩
  ·
   have x56 : aa.tmps[56]? = some (.bool true) := ((hin 16 56 rfl).trans (congrArg some (show uu 16 = .bool true from hd 16 (by decide) (by kernel_rfl))))
   have x60 : aa.tmps[60]? = some (.bool true) := ((hin 20 60 rfl).trans (congrArg some (show uu 20 = .bool true from hd 20 (by decide) (by kernel_rfl))))
   clear hd hev hin
   simp only [zzA, zzB]
   clear hl
   refine .inr ⟨rfl, fun K' hK => ?_⟩
   have HK := Lib.hid hK
   clear hK
   go_simp
   exact HK.out (.bool true) _ hJ rfl veL_same
  ·
   exact .inr ⟨rfl, fun K' hK => wp_move (.tmp 61) rfl (eval_tmp ((hin 21 61 rfl).trans (congrArg some (show uu 21 = .bool true from hd 21 (by decide) (by kernel_rfl))))) (hK _ _ hJ rfl veL_same)⟩
  ·
   have y22 : aa.tmps[62]? = some (.bool true) := zzH (hin 22 62 rfl) (hd 22 (by decide) (by kernel_rfl))
   exact .inr ⟨by simp [Region.wanted, yielded, y22], fun K' hK => wp_load 29 (.tmp 13) rfl bk9 0 3 (cS (detT r)) (cS (detT r)) 29 (hJ.es.at' _ (zzG (i := 0) rfl)) (eval_tmp ((hev 13 (by decide)).trans rfl)) ag29 sz29 (zzF (by kernel_rfl)) (by kernel_rfl) (hK _ _ hJ rfl veL_same)⟩
  ·
   have y22 : aa.tmps[62]? = some (.bool true) := zzH (hin 22 62 rfl) (hd 22 (by decide) (by kernel_rfl))
   exact .inr ⟨by simp [Region.wanted, yielded, y22], fun K' hK => wp_load 33 (.tmp 8) rfl bk4 0 27 (cT r) (cT r) 33 (hJ.es.at' _ (zzG (i := 5) rfl)) (eval_tmp ((hev 8 (by decide)).trans rfl)) ag33 sz33 (zzF (by kernel_rfl)) (by kernel_rfl) (hK _ _ hJ rfl veL_same)⟩
  ·
   have y22 : aa.tmps[62]? = some (.bool true) := zzH (hin 22 62 rfl) (hd 22 (by decide) (by kernel_rfl))
   exact .inr ⟨by simp [Region.wanted, yielded, y22], fun K' hK => wp_callv (.func 17) #[.tmp 64] _ 17 #[] #[.agg (cT r)] #[.agg (cT r)] rfl rfl (map1 (eval_tmp ((hin 24 64 rfl).trans (congrArg some (show uu 24 = .agg (cT r) from hd 24 (by decide) (by kernel_rfl)))))) (by kernel_rfl) (fun _ _ => by kernel_rfl) (oDet_any r ww) (fun _ hB => (hK _ _ (hJ.later hB) rfl (veL_later hB)))⟩
  ·
   have y22 : aa.tmps[62]? = some (.bool true) := zzH (hin 22 62 rfl) (hd 22 (by decide) (by kernel_rfl))
   exact .inr ⟨by simp [Region.wanted, yielded, y22], fun K' hK => wp_eqlA 29 29 (.tmp 63) (.tmp 65) rfl (cS (detT r)) (cS (detT r)) (eval_tmp ((hin 23 63 rfl).trans (congrArg some (show uu 23 = .agg (cS (detT r)) from hd 23 (by decide) (by kernel_rfl))))) (eval_tmp ((hin 25 65 rfl).trans (congrArg some (show uu 25 = .agg (cS (detT r)) from hd 25 (by decide) (by kernel_rfl))))) gd_D (eql_D rfl) (hK _ _ hJ rfl veL_same)⟩
  ·
   have x62 : aa.tmps[62]? = some (.bool true) := ((hin 22 62 rfl).trans (congrArg some (show uu 22 = .bool true from hd 22 (by decide) (by kernel_rfl))))
   have x66 : aa.tmps[66]? = some (.bool true) := ((hin 26 66 rfl).trans (congrArg some (show uu 26 = .bool true from hd 26 (by decide) (by kernel_rfl))))
   clear hd hev hin
   simp only [zzA, zzB]
   clear hl
   refine .inr ⟨rfl, fun K' hK => ?_⟩
   have HK := Lib.hid hK
   clear hK
   go_simp
   exact HK.out (.bool true) _ hJ rfl veL_same
  ·
   exact .inr ⟨rfl, fun K' hK => wp_move (.tmp 67) rfl (eval_tmp ((hin 27 67 rfl).trans (congrArg some (show uu 27 = .bool true from hd 27 (by decide) (by kernel_rfl))))) (hK _ _ hJ rfl veL_same)⟩
  ·
   have y28 : aa.tmps[68]? = some (.bool true) := zzH (hin 28 68 rfl) (hd 28 (by decide) (by kernel_rfl))
   exact .inr ⟨by simp [Region.wanted, yielded, y28], fun K' hK => wp_move (.tmp 14) rfl (eval_tmp ((hev 14 (by decide)).trans rfl)) (hK _ _ hJ rfl veL_same)⟩
  ·
   have y28 : aa.tmps[68]? = some (.bool true) := zzH (hin 28 68 rfl) (hd 28 (by decide) (by kernel_rfl))
   exact .inr ⟨by simp [Region.wanted, yielded, y28], fun K' hK => wp_load 33 (.tmp 8) rfl bk4 0 27 (cT r) (cT r) 33 (hJ.es.at' _ (zzG (i := 5) rfl)) (eval_tmp ((hev 8 (by decide)).trans rfl)) ag33 sz33 (zzF (by kernel_rfl)) (by kernel_rfl) (hK _ _ hJ rfl veL_same)⟩
  ·
   have y28 : aa.tmps[68]? = some (.bool true) := zzH (hin 28 68 rfl) (hd 28 (by decide) (by kernel_rfl))
   exact .inr ⟨by simp [Region.wanted, yielded, y28], fun K' hK => wp_load 33 (.tmp 9) rfl bk5 0 27 (cT q) (cT q) 33 (hJ.es.at' _ (zzG (i := 4) rfl)) (eval_tmp ((hev 9 (by decide)).trans rfl)) ag33 sz33 (zzF (by kernel_rfl)) (by kernel_rfl) (hK _ _ hJ rfl veL_same)⟩
  ·
   have y28 : aa.tmps[68]? = some (.bool true) := zzH (hin 28 68 rfl) (hd 28 (by decide) (by kernel_rfl))
   exact .inr ⟨by simp [Region.wanted, yielded, y28], fun K' hK => wp_callv (.func 18) #[.tmp 70, .tmp 71] _ 18 #[] #[.agg (cT r), .agg (cT q)] #[.agg (cT r), .agg (cT q)] rfl rfl (map2 (eval_tmp ((hin 30 70 rfl).trans (congrArg some (show uu 30 = .agg (cT r) from hd 30 (by decide) (by kernel_rfl))))) (eval_tmp ((hin 31 71 rfl).trans (congrArg some (show uu 31 = .agg (cT q) from hd 31 (by decide) (by kernel_rfl)))))) (by kernel_rfl) (fun _ _ => by kernel_rfl) (oIn_any r q ww) (fun _ hB => (hK _ _ (hJ.later hB) rfl (veL_later hB)))⟩
  ·
   have x69 : aa.tmps[69]? = some (.bool ((inT r q))) := ((hin 29 69 rfl).trans (congrArg some (show uu 29 = .bool ((inT r q)) from hd 29 (by decide) (by kernel_rfl))))
   have x72 : aa.tmps[72]? = some (.bool ((inT r q))) := ((hin 32 72 rfl).trans (congrArg some (show uu 32 = .bool ((inT r q)) from hd 32 (by decide) (by kernel_rfl))))
   have y28 : aa.tmps[68]? = some (.bool true) := zzH (hin 28 68 rfl) (hd 28 (by decide) (by kernel_rfl))
   clear hd hev hin
   simp only [zzA, zzB]
   clear hl
   refine .inr ⟨?_, fun K' hK => ?_⟩
   ·
    simp [Region.wanted, yielded, y28]
   clear y28
   have HK := Lib.hid hK
   clear hK
   go_simp
   exact HK.out (.bool true) _ hJ rfl veL_same
  ·
   have x68 : aa.tmps[68]? = some (.bool true) := ((hin 28 68 rfl).trans (congrArg some (show uu 28 = .bool true from hd 28 (by decide) (by kernel_rfl))))
   have x73 : aa.tmps[73]? = some (.bool true) := ((hin 33 73 rfl).trans (congrArg some (show uu 33 = .bool true from hd 33 (by decide) (by kernel_rfl))))
   clear hd hev hin
   simp only [zzA, zzB]
   clear hl
   refine .inr ⟨rfl, fun K' hK => ?_⟩
   have HK := Lib.hid hK
   clear hK
   go_simp
   exact HK.out (.bool true) _ hJ rfl veL_same
  ·
   exact .inr ⟨rfl, fun K' hK => wp_move (.tmp 74) rfl (eval_tmp ((hin 34 74 rfl).trans (congrArg some (show uu 34 = .bool true from hd 34 (by decide) (by kernel_rfl))))) (hK _ _ hJ rfl veL_same)⟩
  ·
   have y35 : aa.tmps[75]? = some (.bool true) := zzH (hin 35 75 rfl) (hd 35 (by decide) (by kernel_rfl))
   exact .inr ⟨by simp [Region.wanted, yielded, y35], fun K' hK => wp_move (.tmp 15) rfl (eval_tmp ((hev 15 (by decide)).trans rfl)) (hK _ _ hJ rfl veL_same)⟩
  ·
   have y35 : aa.tmps[75]? = some (.bool true) := zzH (hin 35 75 rfl) (hd 35 (by decide) (by kernel_rfl))
   exact .inr ⟨by simp [Region.wanted, yielded, y35], fun K' hK => wp_load 33 (.tmp 8) rfl bk4 0 27 (cT r) (cT r) 33 (hJ.es.at' _ (zzG (i := 5) rfl)) (eval_tmp ((hev 8 (by decide)).trans rfl)) ag33 sz33 (zzF (by kernel_rfl)) (by kernel_rfl) (hK _ _ hJ rfl veL_same)⟩
  ·
   have y35 : aa.tmps[75]? = some (.bool true) := zzH (hin 35 75 rfl) (hd 35 (by decide) (by kernel_rfl))
   exact .inr ⟨by simp [Region.wanted, yielded, y35], fun K' hK => wp_callv (.func 19) #[.tmp 77] _ 19 #[] #[.agg (cT r)] #[.agg (cT r)] rfl rfl (map1 (eval_tmp ((hin 37 77 rfl).trans (congrArg some (show uu 37 = .agg (cT r) from hd 37 (by decide) (by kernel_rfl)))))) (by kernel_rfl) (fun _ _ => by kernel_rfl) (oRad_any r ww) (fun _ hB => (hK _ _ (hJ.later hB) rfl (veL_later hB)))⟩
  ·
   have x76 : aa.tmps[76]? = some (.int .i64 ((radT r))) := ((hin 36 76 rfl).trans (congrArg some (show uu 36 = .int .i64 ((radT r)) from hd 36 (by decide) (by kernel_rfl))))
   have x78 : aa.tmps[78]? = some (.int .i64 ((radT r))) := ((hin 38 78 rfl).trans (congrArg some (show uu 38 = .int .i64 ((radT r)) from hd 38 (by decide) (by kernel_rfl))))
   have y35 : aa.tmps[75]? = some (.bool true) := zzH (hin 35 75 rfl) (hd 35 (by decide) (by kernel_rfl))
   clear hd hev hin
   simp only [zzA, zzB]
   clear hl
   refine .inr ⟨?_, fun K' hK => ?_⟩
   ·
    simp [Region.wanted, yielded, y35]
   clear y35
   have HK := Lib.hid hK
   clear hK
   go_simp
   exact HK.out (.bool true) _ hJ rfl veL_same
  ·
   have x75 : aa.tmps[75]? = some (.bool true) := ((hin 35 75 rfl).trans (congrArg some (show uu 35 = .bool true from hd 35 (by decide) (by kernel_rfl))))
   have x79 : aa.tmps[79]? = some (.bool true) := ((hin 39 79 rfl).trans (congrArg some (show uu 39 = .bool true from hd 39 (by decide) (by kernel_rfl))))
   clear hd hev hin
   simp only [zzA, zzB]
   clear hl
   refine .inr ⟨rfl, fun K' hK => ?_⟩
   have HK := Lib.hid hK
   clear hK
   go_simp
   exact HK.out (.bool true) _ hJ rfl veL_same
  ·
   exact .inr ⟨rfl, fun K' hK => wp_asgn (.tmp 80) rfl (eval_tmp ((hin 40 80 rfl).trans (congrArg some (show uu 40 = .bool true from hd 40 (by decide) (by kernel_rfl))))) (hK _ _ hJ rfl veL_same)⟩
 clear hM
 intro uu W29 hJm hd
 have e_0 : uu 0 = .bool true := hd 0 (by decide)
 have e_1 : uu 1 = .bool true := hd 1 (by decide)
 have e_2 : uu 2 = .agg (cT (mulT r q)) := hd 2 (by decide)
 have e_3 : uu 3 = .agg (cT r) := hd 3 (by decide)
 have e_4 : uu 4 = .agg (cT q) := hd 4 (by decide)
 have e_5 : uu 5 = .agg (cT (mulT r q)) := hd 5 (by decide)
 have e_6 : uu 6 = .bool true := hd 6 (by decide)
 have e_7 : uu 7 = .bool true := hd 7 (by decide)
 have e_8 : uu 8 = .bool true := hd 8 (by decide)
 have e_9 : uu 9 = .agg (cV (appT r v)) := hd 9 (by decide)
 have e_10 : uu 10 = .agg (cT r) := hd 10 (by decide)
 have e_11 : uu 11 = .agg (cV v) := hd 11 (by decide)
 have e_12 : uu 12 = .agg (cV v) := hd 12 (by decide)
 have e_13 : uu 13 = .agg (cV (appT r v)) := hd 13 (by decide)
 have e_14 : uu 14 = .bool true := hd 14 (by decide)
 have e_15 : uu 15 = .bool true := hd 15 (by decide)
 have e_16 : uu 16 = .bool true := hd 16 (by decide)
 have e_17 : uu 17 = .agg (cT (turnT r)) := hd 17 (by decide)
 have e_18 : uu 18 = .agg (cT r) := hd 18 (by decide)
 have e_19 : uu 19 = .agg (cT (turnT r)) := hd 19 (by decide)
 have e_20 : uu 20 = .bool true := hd 20 (by decide)
 have e_21 : uu 21 = .bool true := hd 21 (by decide)
 have e_22 : uu 22 = .bool true := hd 22 (by decide)
 have e_23 : uu 23 = .agg (cS (detT r)) := hd 23 (by decide)
 have e_24 : uu 24 = .agg (cT r) := hd 24 (by decide)
 have e_25 : uu 25 = .agg (cS (detT r)) := hd 25 (by decide)
 have e_26 : uu 26 = .bool true := hd 26 (by decide)
 have e_27 : uu 27 = .bool true := hd 27 (by decide)
 have e_28 : uu 28 = .bool true := hd 28 (by decide)
 have e_29 : uu 29 = .bool ((inT r q)) := hd 29 (by decide)
 have e_30 : uu 30 = .agg (cT r) := hd 30 (by decide)
 have e_31 : uu 31 = .agg (cT q) := hd 31 (by decide)
 have e_32 : uu 32 = .bool ((inT r q)) := hd 32 (by decide)
 have e_33 : uu 33 = .bool true := hd 33 (by decide)
 have e_34 : uu 34 = .bool true := hd 34 (by decide)
 have e_35 : uu 35 = .bool true := hd 35 (by decide)
 have e_36 : uu 36 = .int .i64 ((radT r)) := hd 36 (by decide)
 have e_37 : uu 37 = .agg (cT r) := hd 37 (by decide)
 have e_38 : uu 38 = .int .i64 ((radT r)) := hd 38 (by decide)
 have e_39 : uu 39 = .bool true := hd 39 (by decide)
 have e_40 : uu 40 = .bool true := hd 40 (by decide)
 have e_41 : uu 41 = .bool true := hd 41 (by decide)
 clear hd
 simp only [layS, Act.put, zzC, zzD, zzE, Nat.zero_add, Nat.reduceAdd, List.drop_succ_cons, List.drop_zero, List.drop_nil, e_0, e_1, e_2, e_3, e_4, e_5, e_6, e_7, e_8, e_9, e_10, e_11, e_12, e_13, e_14, e_15, e_16, e_17, e_18, e_19, e_20, e_21, e_22, e_23, e_24, e_25, e_26, e_27, e_28, e_29, e_30, e_31, e_32, e_33, e_34, e_35, e_36, e_37, e_38, e_39, e_40, e_41]
 clear e_0 e_1 e_2 e_3 e_4 e_5 e_6 e_7 e_8 e_9 e_10 e_11 e_12 e_13 e_14 e_15 e_16 e_17 e_18 e_19 e_20 e_21 e_22 e_23 e_24 e_25 e_26 e_27 e_28 e_29 e_30 e_31 e_32 e_33 e_34 e_35 e_36 e_37 e_38 e_39 e_40 e_41
 have hJ29 := hJm.es
 clear hJm
 go_wp2
 go_ret
 exact ⟨rfl, hJ29.below⟩
end Go.Proofs.YtolpfibihialkaaGreat
