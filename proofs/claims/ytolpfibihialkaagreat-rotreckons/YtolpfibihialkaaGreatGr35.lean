/- Parts of the proof. -/
import Derived.Test.YtolpfibihialkaaGreatGr0
import Derived.Test.YtolpfibihialkaaGreatGr33
import Derived.Test.YtolpfibihialkaaGreatGr34
/- The document's turns, and how a turn is told in its words. No statement of the seat is proved here. -/
namespace Go.Proofs.YtolpfibihialkaaGreat
open Go Go.RowKit
set_option maxRecDepth 100000 in
set_option maxHeartbeats 12800000 in
theorem oneT_any (x : Sp)  (w : World)   : Calls Tryz.prog 10 #[.agg (cS x)] w (PVal (.agg (cS x)) w) := by
 have hJ0 := es_nil w
 go_enter Tryz.func10, Tryz.ntmps10
 go_wp2_with (refine stop_box 23 (.tmp 0) (cS x) rfl rfl rfl hJ0 (fun bk1 W1 hJ1 => ?_))
 clear hJ0
 unfold Stop
 try simp only [Act.put, zzC, zzD, zzE]
 go_wp2_with (refine stop_alloc 29 (cS zS) (.agg (cS zS)) rfl rfl zv29 rfl hJ1 (fun bk2 W2 hJ2 => ?_))
 clear hJ1
 unfold Stop
 try simp only [Act.put, zzC, zzD, zzE]
 go_wp2_with (refine stop_op rfl (fun K hK => wp_load1 (v := .int .i64 x.lo) 2 (.tmp 3) rfl bk1 0 (cS x) 23 (hJ2.at' _ (zzG (i := 1) rfl)) rfl ag2 (by kernel_rfl) (hK _ _ ?_)))
 unfold Stop
 try simp only [Act.put, zzC, zzD, zzE]
 go_wp2_with (refine stop_op rfl (fun K hK => wp_load1 (v := .int .i64 x.hi) 2 (.tmp 5) rfl bk1 1 (cS x) 23 (hJ2.at' _ (zzG (i := 1) rfl)) rfl ag2 (by kernel_rfl) (hK _ _ ?_)))
 unfold Stop
 try simp only [Act.put, zzC, zzD, zzE]
 go_wp2_with (refine stop_op rfl (fun K hK => wp_load1 (v := .bool x.all) 4 (.tmp 7) rfl bk1 2 (cS x) 23 (hJ2.at' _ (zzG (i := 1) rfl)) rfl ag4 (by kernel_rfl) (hK _ _ ?_)))
 unfold Stop
 try simp only [Act.put, zzC, zzD, zzE]
 go_wp2_with (refine stop_op rfl (fun K hK => wp_bld (v := .agg (cS x)) (pv := #[(0, .int .i64 x.lo), (1, .int .i64 x.hi), (2, .bool x.all)]) 29 #[(0, .tmp 4), (1, .tmp 6), (2, .tmp 8)] rfl (bmap3 rfl rfl rfl) (fun _ => by kernel_rfl) (hK _ _ ?_)))
 unfold Stop
 try simp only [Act.put, zzC, zzD, zzE]
 go_wp2_with (refine stop_store 29 (.tmp 2) (.tmp 9) 0 bk2 0 (cS zS) 29 3 (cS x).toList (cS x) [(bk2, (cS x), 29), (bk1, (cS x), 23)] rfl rfl rfl rfl sz29 hJ2 rfl (by kernel_rfl) (zzF (by kernel_rfl)) (by kernel_rfl) (by kernel_rfl) (by kernel_rfl) (fun W3 hJ3 => ?_))
 clear hJ2
 unfold Stop
 try simp only [Act.put, zzC, zzD, zzE]
 go_wp2
 exact bodyPost_ret (v := .agg (cS x)) (results_cell 0 Tryz.results10 hJ3 rfl ag29 sz29 (zzF (by kernel_rfl)) rfl (by kernel_rfl)) rfl ⟨rfl, hJ3.below⟩
set_option maxRecDepth 100000 in
set_option maxHeartbeats 12800000 in
theorem rowT_any (v : Vc)  (w : World)   : Calls Tryz.prog 7 #[.agg (cV v)] w (PVal (.agg (cV v)) w) := by
 have hJ0 := es_nil w
 go_enter Tryz.func7, Tryz.ntmps7
 go_wp2_with (refine stop_box 25 (.tmp 0) (cV v) rfl rfl rfl hJ0 (fun bk1 W1 hJ1 => ?_))
 clear hJ0
 unfold Stop
 try simp only [Act.put, zzC, zzD, zzE]
 go_wp2_with (refine stop_alloc 31 (cV zV) (.agg (cV zV)) rfl rfl zv31 rfl hJ1 (fun bk2 W2 hJ2 => ?_))
 clear hJ1
 unfold Stop
 try simp only [Act.put, zzC, zzD, zzE]
 go_wp2
 obtain ⟨m1_2, hm⟩ : ∃ m, m = W2.heap.size := ⟨_, rfl⟩
 have hM := hJ2.em
 rw [← hm] at hM
 clear hm hJ2
 refine wp_region_z 10 [some 3, some 4, some 5, some 6, some 7, some 8, some 9, some 10, some 11, some 12] (veL m1_2 [.eq (.pointer (some ⟨bk1, 0, none⟩)), .eq (.agg (cS v.x)), .eq (.agg (cS v.x)), .eq (.pointer (some ⟨bk1, 3, none⟩)), .eq (.agg (cS v.y)), .eq (.agg (cS v.y)), .eq (.pointer (some ⟨bk1, 6, none⟩)), .eq (.agg (cS v.z)), .eq (.agg (cS v.z)), .eq (.agg (cV v))]) (Em w m1_2 [(bk2, (cV zV), 31), (bk1, (cV v), 25)]) (by kernel_rfl) (by kernel_rfl) (by rfl) (by decide) (by rfl) hM ?_ ?_
 ·
  intro i hl hi uu ww aa hJ hd hev hin
  clear hM
  obtain rfl | rfl | rfl | rfl | rfl | rfl | rfl | rfl | rfl | rfl : i = 0 ∨ i = 1 ∨ i = 2 ∨ i = 3 ∨ i = 4 ∨ i = 5 ∨ i = 6 ∨ i = 7 ∨ i = 8 ∨ i = 9 := by omega
  ·
   exact .inr ⟨rfl, fun K' hK => wp_ixa 25 (.tmp 1) (.const (.int .i64 0)) rfl (eval_tmp ((hev 1 (by decide)).trans rfl)) rfl (fun _ => by kernel_rfl) (hK _ _ hJ rfl veL_same)⟩
  ·
   exact .inr ⟨rfl, fun K' hK => wp_load 23 (.tmp 3) rfl bk1 0 3 (cV v) (cS v.x) 25 (hJ.es.at' _ (zzG (i := 1) rfl)) (eval_tmp ((hin 0 3 rfl).trans (congrArg some (show uu 0 = .pointer (some ⟨bk1, 0, none⟩) from hd 0 (by decide) (by kernel_rfl))))) ag23 sz23 (zzF (by kernel_rfl)) (by kernel_rfl) (hK _ _ hJ rfl veL_same)⟩
  ·
   exact .inr ⟨rfl, fun K' hK => wp_callv (.func 10) #[.tmp 4] _ 10 #[] #[.agg (cS v.x)] #[.agg (cS v.x)] rfl rfl (map1 (eval_tmp ((hin 1 4 rfl).trans (congrArg some (show uu 1 = .agg (cS v.x) from hd 1 (by decide) (by kernel_rfl)))))) (by kernel_rfl) (fun _ _ => by kernel_rfl) (oneT_any v.x ww) (fun _ hB => (hK _ _ (hJ.later hB) rfl (veL_later hB)))⟩
  ·
   exact .inr ⟨rfl, fun K' hK => wp_ixa 25 (.tmp 1) (.const (.int .i64 1)) rfl (eval_tmp ((hev 1 (by decide)).trans rfl)) rfl (fun _ => by kernel_rfl) (hK _ _ hJ rfl veL_same)⟩
  ·
   exact .inr ⟨rfl, fun K' hK => wp_load 23 (.tmp 6) rfl bk1 3 3 (cV v) (cS v.y) 25 (hJ.es.at' _ (zzG (i := 1) rfl)) (eval_tmp ((hin 3 6 rfl).trans (congrArg some (show uu 3 = .pointer (some ⟨bk1, 3, none⟩) from hd 3 (by decide) (by kernel_rfl))))) ag23 sz23 (zzF (by kernel_rfl)) (by kernel_rfl) (hK _ _ hJ rfl veL_same)⟩
  ·
   exact .inr ⟨rfl, fun K' hK => wp_callv (.func 10) #[.tmp 7] _ 10 #[] #[.agg (cS v.y)] #[.agg (cS v.y)] rfl rfl (map1 (eval_tmp ((hin 4 7 rfl).trans (congrArg some (show uu 4 = .agg (cS v.y) from hd 4 (by decide) (by kernel_rfl)))))) (by kernel_rfl) (fun _ _ => by kernel_rfl) (oneT_any v.y ww) (fun _ hB => (hK _ _ (hJ.later hB) rfl (veL_later hB)))⟩
  ·
   exact .inr ⟨rfl, fun K' hK => wp_ixa 25 (.tmp 1) (.const (.int .i64 2)) rfl (eval_tmp ((hev 1 (by decide)).trans rfl)) rfl (fun _ => by kernel_rfl) (hK _ _ hJ rfl veL_same)⟩
  ·
   exact .inr ⟨rfl, fun K' hK => wp_load 23 (.tmp 9) rfl bk1 6 3 (cV v) (cS v.z) 25 (hJ.es.at' _ (zzG (i := 1) rfl)) (eval_tmp ((hin 6 9 rfl).trans (congrArg some (show uu 6 = .pointer (some ⟨bk1, 6, none⟩) from hd 6 (by decide) (by kernel_rfl))))) ag23 sz23 (zzF (by kernel_rfl)) (by kernel_rfl) (hK _ _ hJ rfl veL_same)⟩
  ·
   exact .inr ⟨rfl, fun K' hK => wp_callv (.func 10) #[.tmp 10] _ 10 #[] #[.agg (cS v.z)] #[.agg (cS v.z)] rfl rfl (map1 (eval_tmp ((hin 7 10 rfl).trans (congrArg some (show uu 7 = .agg (cS v.z) from hd 7 (by decide) (by kernel_rfl)))))) (by kernel_rfl) (fun _ _ => by kernel_rfl) (oneT_any v.z ww) (fun _ hB => (hK _ _ (hJ.later hB) rfl (veL_later hB)))⟩
  ·
   exact .inr ⟨rfl, fun K' hK => wp_bld 31 #[(0, .tmp 5), (1, .tmp 8), (2, .tmp 11)] rfl (bmap3 (eval_tmp ((hin 2 5 rfl).trans (congrArg some (show uu 2 = .agg (cS v.x) from hd 2 (by decide) (by kernel_rfl))))) (eval_tmp ((hin 5 8 rfl).trans (congrArg some (show uu 5 = .agg (cS v.y) from hd 5 (by decide) (by kernel_rfl))))) (eval_tmp ((hin 8 11 rfl).trans (congrArg some (show uu 8 = .agg (cS v.z) from hd 8 (by decide) (by kernel_rfl)))))) (fun _ => by kernel_rfl) (hK _ _ hJ rfl veL_same)⟩
 clear hM
 intro uu W3 hJm hd
 have e_0 : uu 0 = .pointer (some ⟨bk1, 0, none⟩) := hd 0 (by decide)
 have e_1 : uu 1 = .agg (cS v.x) := hd 1 (by decide)
 have e_2 : uu 2 = .agg (cS v.x) := hd 2 (by decide)
 have e_3 : uu 3 = .pointer (some ⟨bk1, 3, none⟩) := hd 3 (by decide)
 have e_4 : uu 4 = .agg (cS v.y) := hd 4 (by decide)
 have e_5 : uu 5 = .agg (cS v.y) := hd 5 (by decide)
 have e_6 : uu 6 = .pointer (some ⟨bk1, 6, none⟩) := hd 6 (by decide)
 have e_7 : uu 7 = .agg (cS v.z) := hd 7 (by decide)
 have e_8 : uu 8 = .agg (cS v.z) := hd 8 (by decide)
 have e_9 : uu 9 = .agg (cV v) := hd 9 (by decide)
 clear hd
 simp only [layS, Act.put, zzC, zzD, zzE, Nat.zero_add, Nat.reduceAdd, List.drop_succ_cons, List.drop_zero, List.drop_nil, e_0, e_1, e_2, e_3, e_4, e_5, e_6, e_7, e_8, e_9]
 clear e_0 e_1 e_2 e_3 e_4 e_5 e_6 e_7 e_8 e_9
 have hJ3 := hJm.es
 clear hJm
 go_wp2_with (refine stop_store 31 (.tmp 2) (.tmp 12) 0 bk2 0 (cV zV) 31 9 (cV v).toList (cV v) [(bk2, (cV v), 31), (bk1, (cV v), 25)] rfl rfl rfl rfl sz31 hJ3 rfl (by kernel_rfl) (zzF (by kernel_rfl)) (by kernel_rfl) (by kernel_rfl) (by kernel_rfl) (fun W4 hJ4 => ?_))
 clear hJ3
 unfold Stop
 try simp only [Act.put, zzC, zzD, zzE]
 go_wp2
 exact bodyPost_ret (v := .agg (cV v)) (results_cell 0 Tryz.results7 hJ4 rfl ag31 sz31 (zzF (by kernel_rfl)) rfl (by kernel_rfl)) rfl ⟨rfl, hJ4.below⟩
set_option maxRecDepth 100000 in
set_option maxHeartbeats 12800000 in
theorem docT_any (r : Tu)  (w : World)   : Calls Tryz.prog 5 #[.agg (cT r)] w (PVal (.agg (cT r)) w) := by
 have hJ0 := es_nil w
 go_enter Tryz.func5, Tryz.ntmps5
 go_wp2_with (refine stop_box 27 (.tmp 0) (cT r) rfl rfl rfl hJ0 (fun bk1 W1 hJ1 => ?_))
 clear hJ0
 unfold Stop
 try simp only [Act.put, zzC, zzD, zzE]
 go_wp2_with (refine stop_alloc 33 (cT zT) (.agg (cT zT)) rfl rfl zv33 rfl hJ1 (fun bk2 W2 hJ2 => ?_))
 clear hJ1
 unfold Stop
 try simp only [Act.put, zzC, zzD, zzE]
 go_wp2
 obtain ⟨m1_2, hm⟩ : ∃ m, m = W2.heap.size := ⟨_, rfl⟩
 have hM := hJ2.em
 rw [← hm] at hM
 clear hm hJ2
 refine wp_region_z 10 [some 3, some 4, some 5, some 6, some 7, some 8, some 9, some 10, some 11, some 12] (veL m1_2 [.eq (.pointer (some ⟨bk1, 0, none⟩)), .eq (.agg (cV r.a)), .eq (.agg (cV r.a)), .eq (.pointer (some ⟨bk1, 9, none⟩)), .eq (.agg (cV r.b)), .eq (.agg (cV r.b)), .eq (.pointer (some ⟨bk1, 18, none⟩)), .eq (.agg (cV r.c)), .eq (.agg (cV r.c)), .eq (.agg (cT r))]) (Em w m1_2 [(bk2, (cT zT), 33), (bk1, (cT r), 27)]) (by kernel_rfl) (by kernel_rfl) (by rfl) (by decide) (by rfl) hM ?_ ?_
 ·
  intro i hl hi uu ww aa hJ hd hev hin
  clear hM
  obtain rfl | rfl | rfl | rfl | rfl | rfl | rfl | rfl | rfl | rfl : i = 0 ∨ i = 1 ∨ i = 2 ∨ i = 3 ∨ i = 4 ∨ i = 5 ∨ i = 6 ∨ i = 7 ∨ i = 8 ∨ i = 9 := by omega
  ·
   exact .inr ⟨rfl, fun K' hK => wp_ixa 27 (.tmp 1) (.const (.int .i64 0)) rfl (eval_tmp ((hev 1 (by decide)).trans rfl)) rfl (fun _ => by kernel_rfl) (hK _ _ hJ rfl veL_same)⟩
  ·
   exact .inr ⟨rfl, fun K' hK => wp_load 25 (.tmp 3) rfl bk1 0 9 (cT r) (cV r.a) 27 (hJ.es.at' _ (zzG (i := 1) rfl)) (eval_tmp ((hin 0 3 rfl).trans (congrArg some (show uu 0 = .pointer (some ⟨bk1, 0, none⟩) from hd 0 (by decide) (by kernel_rfl))))) ag25 sz25 (zzF (by kernel_rfl)) (by kernel_rfl) (hK _ _ hJ rfl veL_same)⟩
  ·
   exact .inr ⟨rfl, fun K' hK => wp_callv (.func 7) #[.tmp 4] _ 7 #[] #[.agg (cV r.a)] #[.agg (cV r.a)] rfl rfl (map1 (eval_tmp ((hin 1 4 rfl).trans (congrArg some (show uu 1 = .agg (cV r.a) from hd 1 (by decide) (by kernel_rfl)))))) (by kernel_rfl) (fun _ _ => by kernel_rfl) (rowT_any r.a ww) (fun _ hB => (hK _ _ (hJ.later hB) rfl (veL_later hB)))⟩
  ·
   exact .inr ⟨rfl, fun K' hK => wp_ixa 27 (.tmp 1) (.const (.int .i64 1)) rfl (eval_tmp ((hev 1 (by decide)).trans rfl)) rfl (fun _ => by kernel_rfl) (hK _ _ hJ rfl veL_same)⟩
  ·
   exact .inr ⟨rfl, fun K' hK => wp_load 25 (.tmp 6) rfl bk1 9 9 (cT r) (cV r.b) 27 (hJ.es.at' _ (zzG (i := 1) rfl)) (eval_tmp ((hin 3 6 rfl).trans (congrArg some (show uu 3 = .pointer (some ⟨bk1, 9, none⟩) from hd 3 (by decide) (by kernel_rfl))))) ag25 sz25 (zzF (by kernel_rfl)) (by kernel_rfl) (hK _ _ hJ rfl veL_same)⟩
  ·
   exact .inr ⟨rfl, fun K' hK => wp_callv (.func 7) #[.tmp 7] _ 7 #[] #[.agg (cV r.b)] #[.agg (cV r.b)] rfl rfl (map1 (eval_tmp ((hin 4 7 rfl).trans (congrArg some (show uu 4 = .agg (cV r.b) from hd 4 (by decide) (by kernel_rfl)))))) (by kernel_rfl) (fun _ _ => by kernel_rfl) (rowT_any r.b ww) (fun _ hB => (hK _ _ (hJ.later hB) rfl (veL_later hB)))⟩
  ·
   exact .inr ⟨rfl, fun K' hK => wp_ixa 27 (.tmp 1) (.const (.int .i64 2)) rfl (eval_tmp ((hev 1 (by decide)).trans rfl)) rfl (fun _ => by kernel_rfl) (hK _ _ hJ rfl veL_same)⟩
  ·
   exact .inr ⟨rfl, fun K' hK => wp_load 25 (.tmp 9) rfl bk1 18 9 (cT r) (cV r.c) 27 (hJ.es.at' _ (zzG (i := 1) rfl)) (eval_tmp ((hin 6 9 rfl).trans (congrArg some (show uu 6 = .pointer (some ⟨bk1, 18, none⟩) from hd 6 (by decide) (by kernel_rfl))))) ag25 sz25 (zzF (by kernel_rfl)) (by kernel_rfl) (hK _ _ hJ rfl veL_same)⟩
  ·
   exact .inr ⟨rfl, fun K' hK => wp_callv (.func 7) #[.tmp 10] _ 7 #[] #[.agg (cV r.c)] #[.agg (cV r.c)] rfl rfl (map1 (eval_tmp ((hin 7 10 rfl).trans (congrArg some (show uu 7 = .agg (cV r.c) from hd 7 (by decide) (by kernel_rfl)))))) (by kernel_rfl) (fun _ _ => by kernel_rfl) (rowT_any r.c ww) (fun _ hB => (hK _ _ (hJ.later hB) rfl (veL_later hB)))⟩
  ·
   exact .inr ⟨rfl, fun K' hK => wp_bld 33 #[(0, .tmp 5), (1, .tmp 8), (2, .tmp 11)] rfl (bmap3 (eval_tmp ((hin 2 5 rfl).trans (congrArg some (show uu 2 = .agg (cV r.a) from hd 2 (by decide) (by kernel_rfl))))) (eval_tmp ((hin 5 8 rfl).trans (congrArg some (show uu 5 = .agg (cV r.b) from hd 5 (by decide) (by kernel_rfl))))) (eval_tmp ((hin 8 11 rfl).trans (congrArg some (show uu 8 = .agg (cV r.c) from hd 8 (by decide) (by kernel_rfl)))))) (fun _ => by kernel_rfl) (hK _ _ hJ rfl veL_same)⟩
 clear hM
 intro uu W3 hJm hd
 have e_0 : uu 0 = .pointer (some ⟨bk1, 0, none⟩) := hd 0 (by decide)
 have e_1 : uu 1 = .agg (cV r.a) := hd 1 (by decide)
 have e_2 : uu 2 = .agg (cV r.a) := hd 2 (by decide)
 have e_3 : uu 3 = .pointer (some ⟨bk1, 9, none⟩) := hd 3 (by decide)
 have e_4 : uu 4 = .agg (cV r.b) := hd 4 (by decide)
 have e_5 : uu 5 = .agg (cV r.b) := hd 5 (by decide)
 have e_6 : uu 6 = .pointer (some ⟨bk1, 18, none⟩) := hd 6 (by decide)
 have e_7 : uu 7 = .agg (cV r.c) := hd 7 (by decide)
 have e_8 : uu 8 = .agg (cV r.c) := hd 8 (by decide)
 have e_9 : uu 9 = .agg (cT r) := hd 9 (by decide)
 clear hd
 simp only [layS, Act.put, zzC, zzD, zzE, Nat.zero_add, Nat.reduceAdd, List.drop_succ_cons, List.drop_zero, List.drop_nil, e_0, e_1, e_2, e_3, e_4, e_5, e_6, e_7, e_8, e_9]
 clear e_0 e_1 e_2 e_3 e_4 e_5 e_6 e_7 e_8 e_9
 have hJ3 := hJm.es
 clear hJm
 go_wp2_with (refine stop_store 33 (.tmp 2) (.tmp 12) 0 bk2 0 (cT zT) 33 27 (cT r).toList (cT r) [(bk2, (cT r), 33), (bk1, (cT r), 27)] rfl rfl rfl rfl sz33 hJ3 rfl (by kernel_rfl) (zzF (by kernel_rfl)) (by kernel_rfl) (by kernel_rfl) (by kernel_rfl) (fun W4 hJ4 => ?_))
 clear hJ3
 unfold Stop
 try simp only [Act.put, zzC, zzD, zzE]
 go_wp2
 exact bodyPost_ret (v := .agg (cT r)) (results_cell 0 Tryz.results5 hJ4 rfl ag33 sz33 (zzF (by kernel_rfl)) rfl (by kernel_rfl)) rfl ⟨rfl, hJ4.below⟩
set_option maxRecDepth 100000 in
set_option maxHeartbeats 12800000 in
theorem oTurn_any (r : Tu)  (w : World)   : Calls Tryz.prog 16 #[.agg (cT r)] w (PVal (.agg (cT (turnT r))) w) := by
 have hJ0 := es_nil w
 go_enter Tryz.func16, Tryz.ntmps16
 go_wp2_with (refine stop_box 33 (.tmp 0) (cT r) rfl rfl rfl hJ0 (fun bk1 W1 hJ1 => ?_))
 clear hJ0
 unfold Stop
 try simp only [Act.put, zzC, zzD, zzE]
 go_wp2_with (refine stop_alloc 33 (cT zT) (.agg (cT zT)) rfl rfl zv33 rfl hJ1 (fun bk2 W2 hJ2 => ?_))
 clear hJ1
 unfold Stop
 try simp only [Act.put, zzC, zzD, zzE]
 go_wp2_with (refine stop_op rfl (fun K hK => wp_load 29 (.tmp 4) rfl bk1 0 3 (cT r) (cS r.a.x) 33 (hJ2.at' _ (zzG (i := 1) rfl)) rfl ag29 sz29 (zzF (by kernel_rfl)) (by kernel_rfl) (hK _ _ ?_)))
 unfold Stop
 try simp only [Act.put, zzC, zzD, zzE]
 go_wp2_with (refine stop_op rfl (fun K hK => wp_load 29 (.tmp 7) rfl bk1 9 3 (cT r) (cS r.b.x) 33 (hJ2.at' _ (zzG (i := 1) rfl)) rfl ag29 sz29 (zzF (by kernel_rfl)) (by kernel_rfl) (hK _ _ ?_)))
 unfold Stop
 try simp only [Act.put, zzC, zzD, zzE]
 go_wp2_with (refine stop_op rfl (fun K hK => wp_load 29 (.tmp 10) rfl bk1 18 3 (cT r) (cS r.c.x) 33 (hJ2.at' _ (zzG (i := 1) rfl)) rfl ag29 sz29 (zzF (by kernel_rfl)) (by kernel_rfl) (hK _ _ ?_)))
 unfold Stop
 try simp only [Act.put, zzC, zzD, zzE]
 go_wp2_with (refine stop_op rfl (fun K hK => wp_bld (v := .agg (cV ⟨r.a.x, r.b.x, r.c.x⟩)) (pv := #[(0, .agg (cS r.a.x)), (1, .agg (cS r.b.x)), (2, .agg (cS r.c.x))]) 31 #[(0, .tmp 5), (1, .tmp 8), (2, .tmp 11)] rfl (bmap3 rfl rfl rfl) (fun _ => by kernel_rfl) (hK _ _ ?_)))
 unfold Stop
 try simp only [Act.put, zzC, zzD, zzE]
 go_wp2_with (refine stop_op rfl (fun K hK => wp_load 29 (.tmp 14) rfl bk1 3 3 (cT r) (cS r.a.y) 33 (hJ2.at' _ (zzG (i := 1) rfl)) rfl ag29 sz29 (zzF (by kernel_rfl)) (by kernel_rfl) (hK _ _ ?_)))
 unfold Stop
 try simp only [Act.put, zzC, zzD, zzE]
 go_wp2_with (refine stop_op rfl (fun K hK => wp_load 29 (.tmp 17) rfl bk1 12 3 (cT r) (cS r.b.y) 33 (hJ2.at' _ (zzG (i := 1) rfl)) rfl ag29 sz29 (zzF (by kernel_rfl)) (by kernel_rfl) (hK _ _ ?_)))
 unfold Stop
 try simp only [Act.put, zzC, zzD, zzE]
 go_wp2_with (refine stop_op rfl (fun K hK => wp_load 29 (.tmp 20) rfl bk1 21 3 (cT r) (cS r.c.y) 33 (hJ2.at' _ (zzG (i := 1) rfl)) rfl ag29 sz29 (zzF (by kernel_rfl)) (by kernel_rfl) (hK _ _ ?_)))
 unfold Stop
 try simp only [Act.put, zzC, zzD, zzE]
 go_wp2_with (refine stop_op rfl (fun K hK => wp_bld (v := .agg (cV ⟨r.a.y, r.b.y, r.c.y⟩)) (pv := #[(0, .agg (cS r.a.y)), (1, .agg (cS r.b.y)), (2, .agg (cS r.c.y))]) 31 #[(0, .tmp 15), (1, .tmp 18), (2, .tmp 21)] rfl (bmap3 rfl rfl rfl) (fun _ => by kernel_rfl) (hK _ _ ?_)))
 unfold Stop
 try simp only [Act.put, zzC, zzD, zzE]
 go_wp2_with (refine stop_op rfl (fun K hK => wp_load 29 (.tmp 24) rfl bk1 6 3 (cT r) (cS r.a.z) 33 (hJ2.at' _ (zzG (i := 1) rfl)) rfl ag29 sz29 (zzF (by kernel_rfl)) (by kernel_rfl) (hK _ _ ?_)))
 unfold Stop
 try simp only [Act.put, zzC, zzD, zzE]
 go_wp2_with (refine stop_op rfl (fun K hK => wp_load 29 (.tmp 27) rfl bk1 15 3 (cT r) (cS r.b.z) 33 (hJ2.at' _ (zzG (i := 1) rfl)) rfl ag29 sz29 (zzF (by kernel_rfl)) (by kernel_rfl) (hK _ _ ?_)))
 unfold Stop
 try simp only [Act.put, zzC, zzD, zzE]
 go_wp2_with (refine stop_op rfl (fun K hK => wp_load 29 (.tmp 30) rfl bk1 24 3 (cT r) (cS r.c.z) 33 (hJ2.at' _ (zzG (i := 1) rfl)) rfl ag29 sz29 (zzF (by kernel_rfl)) (by kernel_rfl) (hK _ _ ?_)))
 unfold Stop
 try simp only [Act.put, zzC, zzD, zzE]
 go_wp2_with (refine stop_op rfl (fun K hK => wp_bld (v := .agg (cV ⟨r.a.z, r.b.z, r.c.z⟩)) (pv := #[(0, .agg (cS r.a.z)), (1, .agg (cS r.b.z)), (2, .agg (cS r.c.z))]) 31 #[(0, .tmp 25), (1, .tmp 28), (2, .tmp 31)] rfl (bmap3 rfl rfl rfl) (fun _ => by kernel_rfl) (hK _ _ ?_)))
 unfold Stop
 try simp only [Act.put, zzC, zzD, zzE]
 go_wp2_with (refine stop_op rfl (fun K hK => wp_bld (v := .agg (cT ⟨⟨r.a.x, r.b.x, r.c.x⟩, ⟨r.a.y, r.b.y, r.c.y⟩, ⟨r.a.z, r.b.z, r.c.z⟩⟩)) (pv := #[(0, .agg (cV ⟨r.a.x, r.b.x, r.c.x⟩)), (1, .agg (cV ⟨r.a.y, r.b.y, r.c.y⟩)), (2, .agg (cV ⟨r.a.z, r.b.z, r.c.z⟩))]) 33 #[(0, .tmp 12), (1, .tmp 22), (2, .tmp 32)] rfl (bmap3 rfl rfl rfl) (fun _ => by kernel_rfl) (hK _ _ ?_)))
 unfold Stop
 try simp only [Act.put, zzC, zzD, zzE]
 go_wp2_with (refine stop_store 33 (.tmp 2) (.tmp 33) 0 bk2 0 (cT zT) 33 27 (cT ⟨⟨r.a.x, r.b.x, r.c.x⟩, ⟨r.a.y, r.b.y, r.c.y⟩, ⟨r.a.z, r.b.z, r.c.z⟩⟩).toList (cT ⟨⟨r.a.x, r.b.x, r.c.x⟩, ⟨r.a.y, r.b.y, r.c.y⟩, ⟨r.a.z, r.b.z, r.c.z⟩⟩) [(bk2, (cT ⟨⟨r.a.x, r.b.x, r.c.x⟩, ⟨r.a.y, r.b.y, r.c.y⟩, ⟨r.a.z, r.b.z, r.c.z⟩⟩), 33), (bk1, (cT r), 33)] rfl rfl rfl rfl sz33 hJ2 rfl (by kernel_rfl) (zzF (by kernel_rfl)) (by kernel_rfl) (by kernel_rfl) (by kernel_rfl) (fun W3 hJ3 => ?_))
 clear hJ2
 unfold Stop
 try simp only [Act.put, zzC, zzD, zzE]
 go_wp2
 exact bodyPost_ret (v := .agg (cT ⟨⟨r.a.x, r.b.x, r.c.x⟩, ⟨r.a.y, r.b.y, r.c.y⟩, ⟨r.a.z, r.b.z, r.c.z⟩⟩)) (results_cell 0 Tryz.results16 hJ3 rfl ag33 sz33 (zzF (by kernel_rfl)) rfl (by kernel_rfl)) rfl ⟨rfl, hJ3.below⟩
set_option maxRecDepth 100000 in
set_option maxHeartbeats 12800000 in
theorem oApp_any (r : Tu) (v : Vc)  (w : World)   : Calls Tryz.prog 15 #[.agg (cT r), .agg (cV v)] w (PVal (.agg (cV (appT r v))) w) := by
 have hJ0 := es_nil w
 go_enter Tryz.func15, Tryz.ntmps15
 go_wp2_with (refine stop_box 33 (.tmp 0) (cT r) rfl rfl rfl hJ0 (fun bk1 W1 hJ1 => ?_))
 clear hJ0
 unfold Stop
 try simp only [Act.put, zzC, zzD, zzE]
 go_wp2_with (refine stop_box 31 (.tmp 1) (cV v) rfl rfl rfl hJ1 (fun bk2 W2 hJ2 => ?_))
 clear hJ1
 unfold Stop
 try simp only [Act.put, zzC, zzD, zzE]
 go_wp2_with (refine stop_alloc 31 (cV zV) (.agg (cV zV)) rfl rfl zv31 rfl hJ2 (fun bk3 W3 hJ3 => ?_))
 clear hJ2
 unfold Stop
 try simp only [Act.put, zzC, zzD, zzE]
 go_wp2
 obtain ⟨m1_3, hm⟩ : ∃ m, m = W3.heap.size := ⟨_, rfl⟩
 have hM := hJ3.em
 rw [← hm] at hM
 clear hm hJ3
 refine wp_region_z 13 [some 5, some 6, some 7, some 8, some 9, some 10, some 11, some 12, some 13, some 14, some 15, some 16, some 17] (veL m1_3 [.eq (.pointer (some ⟨bk1, 0, none⟩)), .eq (.agg (cV r.a)), .eq (.agg (cV v)), .eq (.agg (cS (dotV r.a v))), .eq (.pointer (some ⟨bk1, 9, none⟩)), .eq (.agg (cV r.b)), .eq (.agg (cV v)), .eq (.agg (cS (dotV r.b v))), .eq (.pointer (some ⟨bk1, 18, none⟩)), .eq (.agg (cV r.c)), .eq (.agg (cV v)), .eq (.agg (cS (dotV r.c v))), .eq (.agg (cV ⟨(dotV r.a v), (dotV r.b v), (dotV r.c v)⟩))]) (Em w m1_3 [(bk3, (cV zV), 31), (bk2, (cV v), 31), (bk1, (cT r), 33)]) (by kernel_rfl) (by kernel_rfl) (by rfl) (by decide) (by rfl) hM ?_ ?_
 ·
  intro i hl hi uu ww aa hJ hd hev hin
  clear hM
  obtain rfl | rfl | rfl | rfl | rfl | rfl | rfl | rfl | rfl | rfl | rfl | rfl | rfl : i = 0 ∨ i = 1 ∨ i = 2 ∨ i = 3 ∨ i = 4 ∨ i = 5 ∨ i = 6 ∨ i = 7 ∨ i = 8 ∨ i = 9 ∨ i = 10 ∨ i = 11 ∨ i = 12 := by omega
  ·
   exact .inr ⟨rfl, fun K' hK => wp_fda 33 (.tmp 2) 0 rfl (eval_tmp ((hev 2 (by decide)).trans rfl)) (fun _ => by kernel_rfl) (hK _ _ hJ rfl veL_same)⟩
  ·
   exact .inr ⟨rfl, fun K' hK => wp_load 31 (.tmp 5) rfl bk1 0 9 (cT r) (cV r.a) 33 (hJ.es.at' _ (zzG (i := 2) rfl)) (eval_tmp ((hin 0 5 rfl).trans (congrArg some (show uu 0 = .pointer (some ⟨bk1, 0, none⟩) from hd 0 (by decide) (by kernel_rfl))))) ag31 sz31 (zzF (by kernel_rfl)) (by kernel_rfl) (hK _ _ hJ rfl veL_same)⟩
  ·
   exact .inr ⟨rfl, fun K' hK => wp_load 31 (.tmp 3) rfl bk2 0 9 (cV v) (cV v) 31 (hJ.es.at' _ (zzG (i := 1) rfl)) (eval_tmp ((hev 3 (by decide)).trans rfl)) ag31 sz31 (zzF (by kernel_rfl)) (by kernel_rfl) (hK _ _ hJ rfl veL_same)⟩
  ·
   exact .inr ⟨rfl, fun K' hK => wp_callv (.func 31) #[.tmp 6, .tmp 7] _ 31 #[] #[.agg (cV r.a), .agg (cV v)] #[.agg (cV r.a), .agg (cV v)] rfl rfl (map2 (eval_tmp ((hin 1 6 rfl).trans (congrArg some (show uu 1 = .agg (cV r.a) from hd 1 (by decide) (by kernel_rfl))))) (eval_tmp ((hin 2 7 rfl).trans (congrArg some (show uu 2 = .agg (cV v) from hd 2 (by decide) (by kernel_rfl)))))) (by kernel_rfl) (fun _ _ => by kernel_rfl) (dDot_any r.a v ww) (fun _ hB => (hK _ _ (hJ.later hB) rfl (veL_later hB)))⟩
  ·
   exact .inr ⟨rfl, fun K' hK => wp_fda 33 (.tmp 2) 1 rfl (eval_tmp ((hev 2 (by decide)).trans rfl)) (fun _ => by kernel_rfl) (hK _ _ hJ rfl veL_same)⟩
  ·
   exact .inr ⟨rfl, fun K' hK => wp_load 31 (.tmp 9) rfl bk1 9 9 (cT r) (cV r.b) 33 (hJ.es.at' _ (zzG (i := 2) rfl)) (eval_tmp ((hin 4 9 rfl).trans (congrArg some (show uu 4 = .pointer (some ⟨bk1, 9, none⟩) from hd 4 (by decide) (by kernel_rfl))))) ag31 sz31 (zzF (by kernel_rfl)) (by kernel_rfl) (hK _ _ hJ rfl veL_same)⟩
  ·
   exact .inr ⟨rfl, fun K' hK => wp_load 31 (.tmp 3) rfl bk2 0 9 (cV v) (cV v) 31 (hJ.es.at' _ (zzG (i := 1) rfl)) (eval_tmp ((hev 3 (by decide)).trans rfl)) ag31 sz31 (zzF (by kernel_rfl)) (by kernel_rfl) (hK _ _ hJ rfl veL_same)⟩
  ·
   exact .inr ⟨rfl, fun K' hK => wp_callv (.func 31) #[.tmp 10, .tmp 11] _ 31 #[] #[.agg (cV r.b), .agg (cV v)] #[.agg (cV r.b), .agg (cV v)] rfl rfl (map2 (eval_tmp ((hin 5 10 rfl).trans (congrArg some (show uu 5 = .agg (cV r.b) from hd 5 (by decide) (by kernel_rfl))))) (eval_tmp ((hin 6 11 rfl).trans (congrArg some (show uu 6 = .agg (cV v) from hd 6 (by decide) (by kernel_rfl)))))) (by kernel_rfl) (fun _ _ => by kernel_rfl) (dDot_any r.b v ww) (fun _ hB => (hK _ _ (hJ.later hB) rfl (veL_later hB)))⟩
  ·
   exact .inr ⟨rfl, fun K' hK => wp_fda 33 (.tmp 2) 2 rfl (eval_tmp ((hev 2 (by decide)).trans rfl)) (fun _ => by kernel_rfl) (hK _ _ hJ rfl veL_same)⟩
  ·
   exact .inr ⟨rfl, fun K' hK => wp_load 31 (.tmp 13) rfl bk1 18 9 (cT r) (cV r.c) 33 (hJ.es.at' _ (zzG (i := 2) rfl)) (eval_tmp ((hin 8 13 rfl).trans (congrArg some (show uu 8 = .pointer (some ⟨bk1, 18, none⟩) from hd 8 (by decide) (by kernel_rfl))))) ag31 sz31 (zzF (by kernel_rfl)) (by kernel_rfl) (hK _ _ hJ rfl veL_same)⟩
  ·
   exact .inr ⟨rfl, fun K' hK => wp_load 31 (.tmp 3) rfl bk2 0 9 (cV v) (cV v) 31 (hJ.es.at' _ (zzG (i := 1) rfl)) (eval_tmp ((hev 3 (by decide)).trans rfl)) ag31 sz31 (zzF (by kernel_rfl)) (by kernel_rfl) (hK _ _ hJ rfl veL_same)⟩
  ·
   exact .inr ⟨rfl, fun K' hK => wp_callv (.func 31) #[.tmp 14, .tmp 15] _ 31 #[] #[.agg (cV r.c), .agg (cV v)] #[.agg (cV r.c), .agg (cV v)] rfl rfl (map2 (eval_tmp ((hin 9 14 rfl).trans (congrArg some (show uu 9 = .agg (cV r.c) from hd 9 (by decide) (by kernel_rfl))))) (eval_tmp ((hin 10 15 rfl).trans (congrArg some (show uu 10 = .agg (cV v) from hd 10 (by decide) (by kernel_rfl)))))) (by kernel_rfl) (fun _ _ => by kernel_rfl) (dDot_any r.c v ww) (fun _ hB => (hK _ _ (hJ.later hB) rfl (veL_later hB)))⟩
  ·
   exact .inr ⟨rfl, fun K' hK => wp_bld 31 #[(0, .tmp 8), (1, .tmp 12), (2, .tmp 16)] rfl (bmap3 (eval_tmp ((hin 3 8 rfl).trans (congrArg some (show uu 3 = .agg (cS (dotV r.a v)) from hd 3 (by decide) (by kernel_rfl))))) (eval_tmp ((hin 7 12 rfl).trans (congrArg some (show uu 7 = .agg (cS (dotV r.b v)) from hd 7 (by decide) (by kernel_rfl))))) (eval_tmp ((hin 11 16 rfl).trans (congrArg some (show uu 11 = .agg (cS (dotV r.c v)) from hd 11 (by decide) (by kernel_rfl)))))) (fun _ => by kernel_rfl) (hK _ _ hJ rfl veL_same)⟩
 clear hM
 intro uu W4 hJm hd
 have e_0 : uu 0 = .pointer (some ⟨bk1, 0, none⟩) := hd 0 (by decide)
 have e_1 : uu 1 = .agg (cV r.a) := hd 1 (by decide)
 have e_2 : uu 2 = .agg (cV v) := hd 2 (by decide)
 have e_3 : uu 3 = .agg (cS (dotV r.a v)) := hd 3 (by decide)
 have e_4 : uu 4 = .pointer (some ⟨bk1, 9, none⟩) := hd 4 (by decide)
 have e_5 : uu 5 = .agg (cV r.b) := hd 5 (by decide)
 have e_6 : uu 6 = .agg (cV v) := hd 6 (by decide)
 have e_7 : uu 7 = .agg (cS (dotV r.b v)) := hd 7 (by decide)
 have e_8 : uu 8 = .pointer (some ⟨bk1, 18, none⟩) := hd 8 (by decide)
 have e_9 : uu 9 = .agg (cV r.c) := hd 9 (by decide)
 have e_10 : uu 10 = .agg (cV v) := hd 10 (by decide)
 have e_11 : uu 11 = .agg (cS (dotV r.c v)) := hd 11 (by decide)
 have e_12 : uu 12 = .agg (cV ⟨(dotV r.a v), (dotV r.b v), (dotV r.c v)⟩) := hd 12 (by decide)
 clear hd
 simp only [layS, Act.put, zzC, zzD, zzE, Nat.zero_add, Nat.reduceAdd, List.drop_succ_cons, List.drop_zero, List.drop_nil, e_0, e_1, e_2, e_3, e_4, e_5, e_6, e_7, e_8, e_9, e_10, e_11, e_12]
 clear e_0 e_1 e_2 e_3 e_4 e_5 e_6 e_7 e_8 e_9 e_10 e_11 e_12
 have hJ4 := hJm.es
 clear hJm
 go_wp2_with (refine stop_store 31 (.tmp 4) (.tmp 17) 0 bk3 0 (cV zV) 31 9 (cV ⟨(dotV r.a v), (dotV r.b v), (dotV r.c v)⟩).toList (cV ⟨(dotV r.a v), (dotV r.b v), (dotV r.c v)⟩) [(bk3, (cV ⟨(dotV r.a v), (dotV r.b v), (dotV r.c v)⟩), 31), (bk2, (cV v), 31), (bk1, (cT r), 33)] rfl rfl rfl rfl sz31 hJ4 rfl (by kernel_rfl) (zzF (by kernel_rfl)) (by kernel_rfl) (by kernel_rfl) (by kernel_rfl) (fun W5 hJ5 => ?_))
 clear hJ4
 unfold Stop
 try simp only [Act.put, zzC, zzD, zzE]
 go_wp2
 exact bodyPost_ret (v := .agg (cV ⟨(dotV r.a v), (dotV r.b v), (dotV r.c v)⟩)) (results_cell 0 Tryz.results15 hJ5 rfl ag31 sz31 (zzF (by kernel_rfl)) rfl (by kernel_rfl)) rfl ⟨rfl, hJ5.below⟩
set_option maxRecDepth 100000 in
set_option maxHeartbeats 12800000 in
theorem oMul_w (r q s : Tu) (hHt : ∀ W : World, Calls Tryz.prog 16 #[.agg (cT q)] W (PVal (.agg (cT s)) W)) (w : World)   : Calls Tryz.prog 14 #[.agg (cT r), .agg (cT q)] w (PVal (.agg (cT ⟨⟨(dotV r.a s.a), (dotV r.a s.b), (dotV r.a s.c)⟩, ⟨(dotV r.b s.a), (dotV r.b s.b), (dotV r.b s.c)⟩, ⟨(dotV r.c s.a), (dotV r.c s.b), (dotV r.c s.c)⟩⟩)) w) := by
 have Ht := Lib.hid hHt
 clear hHt
 have hJ0 := es_nil w
 go_enter Tryz.func14, Tryz.ntmps14
 go_wp2_with (refine stop_box 33 (.tmp 0) (cT r) rfl rfl rfl hJ0 (fun bk1 W1 hJ1 => ?_))
 clear hJ0
 unfold Stop
 try simp only [Act.put, zzC, zzD, zzE]
 go_wp2_with (refine stop_box 33 (.tmp 1) (cT q) rfl rfl rfl hJ1 (fun bk2 W2 hJ2 => ?_))
 clear hJ1
 unfold Stop
 try simp only [Act.put, zzC, zzD, zzE]
 go_wp2_with (refine stop_alloc 33 (cT zT) (.agg (cT zT)) rfl rfl zv33 rfl hJ2 (fun bk3 W3 hJ3 => ?_))
 clear hJ2
 unfold Stop
 try simp only [Act.put, zzC, zzD, zzE]
 go_wp2_with (refine stop_op rfl (fun K hK => wp_load 33 (.tmp 3) rfl bk2 0 27 (cT q) (cT q) 33 (hJ3.at' _ (zzG (i := 1) rfl)) rfl ag33 sz33 (zzF (by kernel_rfl)) (by kernel_rfl) (hK _ _ ?_)))
 unfold Stop
 try simp only [Act.put, zzC, zzD, zzE]
 go_wp2_with fail
 refine (Ht.out _).mono ?_
 rintro zz W4 ⟨rfl, hB⟩
 have hJ4 := hJ3.later hB
 clear hB
 clear hJ3
 go_wp2_with (refine stop_alloc 33 (cT zT) (.agg (cT zT)) rfl rfl zv33 rfl hJ4 (fun bk4 W5 hJ5 => ?_))
 clear hJ4
 unfold Stop
 try simp only [Act.put, zzC, zzD, zzE]
 go_wp2_with (refine stop_store 33 (.tmp 5) (.tmp 7) 0 bk4 0 (cT zT) 33 27 (cT s).toList (cT s) [(bk4, (cT s), 33), (bk3, (cT zT), 33), (bk2, (cT q), 33), (bk1, (cT r), 33)] rfl rfl rfl rfl sz33 hJ5 rfl (by kernel_rfl) (zzF (by kernel_rfl)) (by kernel_rfl) (by kernel_rfl) (by kernel_rfl) (fun W6 hJ6 => ?_))
 clear hJ5
 unfold Stop
 try simp only [Act.put, zzC, zzD, zzE]
 go_wp2
 obtain ⟨m2_6, hm⟩ : ∃ m, m = W6.heap.size := ⟨_, rfl⟩
 have hM := hJ6.em
 rw [← hm] at hM
 clear hm hJ6
 refine wp_region_z 49 [some 8, some 9, some 10, some 11, some 12, some 13, some 14, some 15, some 16, some 17, some 18, some 19, some 20, some 21, some 22, some 23, some 24, some 25, some 26, some 27, some 28, some 29, some 30, some 31, some 32, some 33, some 34, some 35, some 36, some 37, some 38, some 39, some 40, some 41, some 42, some 43, some 44, some 45, some 46, some 47, some 48, some 49, some 50, some 51, some 52, some 53, some 54, some 55, some 56] (veL m2_6 [.eq (.pointer (some ⟨bk1, 0, none⟩)), .eq (.agg (cV r.a)), .eq (.pointer (some ⟨bk4, 0, none⟩)), .eq (.agg (cV s.a)), .eq (.agg (cS (dotV r.a s.a))), .eq (.pointer (some ⟨bk1, 0, none⟩)), .eq (.agg (cV r.a)), .eq (.pointer (some ⟨bk4, 9, none⟩)), .eq (.agg (cV s.b)), .eq (.agg (cS (dotV r.a s.b))), .eq (.pointer (some ⟨bk1, 0, none⟩)), .eq (.agg (cV r.a)), .eq (.pointer (some ⟨bk4, 18, none⟩)), .eq (.agg (cV s.c)), .eq (.agg (cS (dotV r.a s.c))), .eq (.agg (cV ⟨(dotV r.a s.a), (dotV r.a s.b), (dotV r.a s.c)⟩)), .eq (.pointer (some ⟨bk1, 9, none⟩)), .eq (.agg (cV r.b)), .eq (.pointer (some ⟨bk4, 0, none⟩)), .eq (.agg (cV s.a)), .eq (.agg (cS (dotV r.b s.a))), .eq (.pointer (some ⟨bk1, 9, none⟩)), .eq (.agg (cV r.b)), .eq (.pointer (some ⟨bk4, 9, none⟩)), .eq (.agg (cV s.b)), .eq (.agg (cS (dotV r.b s.b))), .eq (.pointer (some ⟨bk1, 9, none⟩)), .eq (.agg (cV r.b)), .eq (.pointer (some ⟨bk4, 18, none⟩)), .eq (.agg (cV s.c)), .eq (.agg (cS (dotV r.b s.c))), .eq (.agg (cV ⟨(dotV r.b s.a), (dotV r.b s.b), (dotV r.b s.c)⟩)), .eq (.pointer (some ⟨bk1, 18, none⟩)), .eq (.agg (cV r.c)), .eq (.pointer (some ⟨bk4, 0, none⟩)), .eq (.agg (cV s.a)), .eq (.agg (cS (dotV r.c s.a))), .eq (.pointer (some ⟨bk1, 18, none⟩)), .eq (.agg (cV r.c)), .eq (.pointer (some ⟨bk4, 9, none⟩)), .eq (.agg (cV s.b)), .eq (.agg (cS (dotV r.c s.b))), .eq (.pointer (some ⟨bk1, 18, none⟩)), .eq (.agg (cV r.c)), .eq (.pointer (some ⟨bk4, 18, none⟩)), .eq (.agg (cV s.c)), .eq (.agg (cS (dotV r.c s.c))), .eq (.agg (cV ⟨(dotV r.c s.a), (dotV r.c s.b), (dotV r.c s.c)⟩)), .eq (.agg (cT ⟨⟨(dotV r.a s.a), (dotV r.a s.b), (dotV r.a s.c)⟩, ⟨(dotV r.b s.a), (dotV r.b s.b), (dotV r.b s.c)⟩, ⟨(dotV r.c s.a), (dotV r.c s.b), (dotV r.c s.c)⟩⟩))]) (Em w m2_6 [(bk4, (cT s), 33), (bk3, (cT zT), 33), (bk2, (cT q), 33), (bk1, (cT r), 33)]) (by kernel_rfl) (by kernel_rfl) (by rfl) (by decide) (by rfl) hM ?_ ?_
 ·
  intro i hl hi uu ww aa hJ hd hev hin
  clear hM
  obtain rfl | rfl | rfl | rfl | rfl | rfl | rfl | rfl | rfl | rfl | rfl | rfl | rfl | rfl | rfl | rfl | rfl | rfl | rfl | rfl | rfl | rfl | rfl | rfl | rfl | rfl | rfl | rfl | rfl | rfl | rfl | rfl | rfl | rfl | rfl | rfl | rfl | rfl | rfl | rfl | rfl | rfl | rfl | rfl | rfl | rfl | rfl | rfl | rfl : i = 0 ∨ i = 1 ∨ i = 2 ∨ i = 3 ∨ i = 4 ∨ i = 5 ∨ i = 6 ∨ i = 7 ∨ i = 8 ∨ i = 9 ∨ i = 10 ∨ i = 11 ∨ i = 12 ∨ i = 13 ∨ i = 14 ∨ i = 15 ∨ i = 16 ∨ i = 17 ∨ i = 18 ∨ i = 19 ∨ i = 20 ∨ i = 21 ∨ i = 22 ∨ i = 23 ∨ i = 24 ∨ i = 25 ∨ i = 26 ∨ i = 27 ∨ i = 28 ∨ i = 29 ∨ i = 30 ∨ i = 31 ∨ i = 32 ∨ i = 33 ∨ i = 34 ∨ i = 35 ∨ i = 36 ∨ i = 37 ∨ i = 38 ∨ i = 39 ∨ i = 40 ∨ i = 41 ∨ i = 42 ∨ i = 43 ∨ i = 44 ∨ i = 45 ∨ i = 46 ∨ i = 47 ∨ i = 48 := by omega
  ·
   exact .inr ⟨rfl, fun K' hK => wp_fda 33 (.tmp 2) 0 rfl (eval_tmp ((hev 2 (by decide)).trans rfl)) (fun _ => by kernel_rfl) (hK _ _ hJ rfl veL_same)⟩
  ·
   exact .inr ⟨rfl, fun K' hK => wp_load 31 (.tmp 8) rfl bk1 0 9 (cT r) (cV r.a) 33 (hJ.es.at' _ (zzG (i := 3) rfl)) (eval_tmp ((hin 0 8 rfl).trans (congrArg some (show uu 0 = .pointer (some ⟨bk1, 0, none⟩) from hd 0 (by decide) (by kernel_rfl))))) ag31 sz31 (zzF (by kernel_rfl)) (by kernel_rfl) (hK _ _ hJ rfl veL_same)⟩
  ·
   exact .inr ⟨rfl, fun K' hK => wp_fda 33 (.tmp 5) 0 rfl (eval_tmp ((hev 5 (by decide)).trans rfl)) (fun _ => by kernel_rfl) (hK _ _ hJ rfl veL_same)⟩
  ·
   exact .inr ⟨rfl, fun K' hK => wp_load 31 (.tmp 10) rfl bk4 0 9 (cT s) (cV s.a) 33 (hJ.es.at' _ (zzG (i := 0) rfl)) (eval_tmp ((hin 2 10 rfl).trans (congrArg some (show uu 2 = .pointer (some ⟨bk4, 0, none⟩) from hd 2 (by decide) (by kernel_rfl))))) ag31 sz31 (zzF (by kernel_rfl)) (by kernel_rfl) (hK _ _ hJ rfl veL_same)⟩
  ·
   exact .inr ⟨rfl, fun K' hK => wp_callv (.func 31) #[.tmp 9, .tmp 11] _ 31 #[] #[.agg (cV r.a), .agg (cV s.a)] #[.agg (cV r.a), .agg (cV s.a)] rfl rfl (map2 (eval_tmp ((hin 1 9 rfl).trans (congrArg some (show uu 1 = .agg (cV r.a) from hd 1 (by decide) (by kernel_rfl))))) (eval_tmp ((hin 3 11 rfl).trans (congrArg some (show uu 3 = .agg (cV s.a) from hd 3 (by decide) (by kernel_rfl)))))) (by kernel_rfl) (fun _ _ => by kernel_rfl) (dDot_any r.a s.a ww) (fun _ hB => (hK _ _ (hJ.later hB) rfl (veL_later hB)))⟩
  ·
   exact .inr ⟨rfl, fun K' hK => wp_fda 33 (.tmp 2) 0 rfl (eval_tmp ((hev 2 (by decide)).trans rfl)) (fun _ => by kernel_rfl) (hK _ _ hJ rfl veL_same)⟩
  ·
   exact .inr ⟨rfl, fun K' hK => wp_load 31 (.tmp 13) rfl bk1 0 9 (cT r) (cV r.a) 33 (hJ.es.at' _ (zzG (i := 3) rfl)) (eval_tmp ((hin 5 13 rfl).trans (congrArg some (show uu 5 = .pointer (some ⟨bk1, 0, none⟩) from hd 5 (by decide) (by kernel_rfl))))) ag31 sz31 (zzF (by kernel_rfl)) (by kernel_rfl) (hK _ _ hJ rfl veL_same)⟩
  ·
   exact .inr ⟨rfl, fun K' hK => wp_fda 33 (.tmp 5) 1 rfl (eval_tmp ((hev 5 (by decide)).trans rfl)) (fun _ => by kernel_rfl) (hK _ _ hJ rfl veL_same)⟩
  ·
   exact .inr ⟨rfl, fun K' hK => wp_load 31 (.tmp 15) rfl bk4 9 9 (cT s) (cV s.b) 33 (hJ.es.at' _ (zzG (i := 0) rfl)) (eval_tmp ((hin 7 15 rfl).trans (congrArg some (show uu 7 = .pointer (some ⟨bk4, 9, none⟩) from hd 7 (by decide) (by kernel_rfl))))) ag31 sz31 (zzF (by kernel_rfl)) (by kernel_rfl) (hK _ _ hJ rfl veL_same)⟩
  ·
   exact .inr ⟨rfl, fun K' hK => wp_callv (.func 31) #[.tmp 14, .tmp 16] _ 31 #[] #[.agg (cV r.a), .agg (cV s.b)] #[.agg (cV r.a), .agg (cV s.b)] rfl rfl (map2 (eval_tmp ((hin 6 14 rfl).trans (congrArg some (show uu 6 = .agg (cV r.a) from hd 6 (by decide) (by kernel_rfl))))) (eval_tmp ((hin 8 16 rfl).trans (congrArg some (show uu 8 = .agg (cV s.b) from hd 8 (by decide) (by kernel_rfl)))))) (by kernel_rfl) (fun _ _ => by kernel_rfl) (dDot_any r.a s.b ww) (fun _ hB => (hK _ _ (hJ.later hB) rfl (veL_later hB)))⟩
  ·
   exact .inr ⟨rfl, fun K' hK => wp_fda 33 (.tmp 2) 0 rfl (eval_tmp ((hev 2 (by decide)).trans rfl)) (fun _ => by kernel_rfl) (hK _ _ hJ rfl veL_same)⟩
  ·
   exact .inr ⟨rfl, fun K' hK => wp_load 31 (.tmp 18) rfl bk1 0 9 (cT r) (cV r.a) 33 (hJ.es.at' _ (zzG (i := 3) rfl)) (eval_tmp ((hin 10 18 rfl).trans (congrArg some (show uu 10 = .pointer (some ⟨bk1, 0, none⟩) from hd 10 (by decide) (by kernel_rfl))))) ag31 sz31 (zzF (by kernel_rfl)) (by kernel_rfl) (hK _ _ hJ rfl veL_same)⟩
  ·
   exact .inr ⟨rfl, fun K' hK => wp_fda 33 (.tmp 5) 2 rfl (eval_tmp ((hev 5 (by decide)).trans rfl)) (fun _ => by kernel_rfl) (hK _ _ hJ rfl veL_same)⟩
  ·
   exact .inr ⟨rfl, fun K' hK => wp_load 31 (.tmp 20) rfl bk4 18 9 (cT s) (cV s.c) 33 (hJ.es.at' _ (zzG (i := 0) rfl)) (eval_tmp ((hin 12 20 rfl).trans (congrArg some (show uu 12 = .pointer (some ⟨bk4, 18, none⟩) from hd 12 (by decide) (by kernel_rfl))))) ag31 sz31 (zzF (by kernel_rfl)) (by kernel_rfl) (hK _ _ hJ rfl veL_same)⟩
  ·
   exact .inr ⟨rfl, fun K' hK => wp_callv (.func 31) #[.tmp 19, .tmp 21] _ 31 #[] #[.agg (cV r.a), .agg (cV s.c)] #[.agg (cV r.a), .agg (cV s.c)] rfl rfl (map2 (eval_tmp ((hin 11 19 rfl).trans (congrArg some (show uu 11 = .agg (cV r.a) from hd 11 (by decide) (by kernel_rfl))))) (eval_tmp ((hin 13 21 rfl).trans (congrArg some (show uu 13 = .agg (cV s.c) from hd 13 (by decide) (by kernel_rfl)))))) (by kernel_rfl) (fun _ _ => by kernel_rfl) (dDot_any r.a s.c ww) (fun _ hB => (hK _ _ (hJ.later hB) rfl (veL_later hB)))⟩
  ·
   exact .inr ⟨rfl, fun K' hK => wp_bld 31 #[(0, .tmp 12), (1, .tmp 17), (2, .tmp 22)] rfl (bmap3 (eval_tmp ((hin 4 12 rfl).trans (congrArg some (show uu 4 = .agg (cS (dotV r.a s.a)) from hd 4 (by decide) (by kernel_rfl))))) (eval_tmp ((hin 9 17 rfl).trans (congrArg some (show uu 9 = .agg (cS (dotV r.a s.b)) from hd 9 (by decide) (by kernel_rfl))))) (eval_tmp ((hin 14 22 rfl).trans (congrArg some (show uu 14 = .agg (cS (dotV r.a s.c)) from hd 14 (by decide) (by kernel_rfl)))))) (fun _ => by kernel_rfl) (hK _ _ hJ rfl veL_same)⟩
  ·
   exact .inr ⟨rfl, fun K' hK => wp_fda 33 (.tmp 2) 1 rfl (eval_tmp ((hev 2 (by decide)).trans rfl)) (fun _ => by kernel_rfl) (hK _ _ hJ rfl veL_same)⟩
  ·
   exact .inr ⟨rfl, fun K' hK => wp_load 31 (.tmp 24) rfl bk1 9 9 (cT r) (cV r.b) 33 (hJ.es.at' _ (zzG (i := 3) rfl)) (eval_tmp ((hin 16 24 rfl).trans (congrArg some (show uu 16 = .pointer (some ⟨bk1, 9, none⟩) from hd 16 (by decide) (by kernel_rfl))))) ag31 sz31 (zzF (by kernel_rfl)) (by kernel_rfl) (hK _ _ hJ rfl veL_same)⟩
  ·
   exact .inr ⟨rfl, fun K' hK => wp_fda 33 (.tmp 5) 0 rfl (eval_tmp ((hev 5 (by decide)).trans rfl)) (fun _ => by kernel_rfl) (hK _ _ hJ rfl veL_same)⟩
  ·
   exact .inr ⟨rfl, fun K' hK => wp_load 31 (.tmp 26) rfl bk4 0 9 (cT s) (cV s.a) 33 (hJ.es.at' _ (zzG (i := 0) rfl)) (eval_tmp ((hin 18 26 rfl).trans (congrArg some (show uu 18 = .pointer (some ⟨bk4, 0, none⟩) from hd 18 (by decide) (by kernel_rfl))))) ag31 sz31 (zzF (by kernel_rfl)) (by kernel_rfl) (hK _ _ hJ rfl veL_same)⟩
  ·
   exact .inr ⟨rfl, fun K' hK => wp_callv (.func 31) #[.tmp 25, .tmp 27] _ 31 #[] #[.agg (cV r.b), .agg (cV s.a)] #[.agg (cV r.b), .agg (cV s.a)] rfl rfl (map2 (eval_tmp ((hin 17 25 rfl).trans (congrArg some (show uu 17 = .agg (cV r.b) from hd 17 (by decide) (by kernel_rfl))))) (eval_tmp ((hin 19 27 rfl).trans (congrArg some (show uu 19 = .agg (cV s.a) from hd 19 (by decide) (by kernel_rfl)))))) (by kernel_rfl) (fun _ _ => by kernel_rfl) (dDot_any r.b s.a ww) (fun _ hB => (hK _ _ (hJ.later hB) rfl (veL_later hB)))⟩
  ·
   exact .inr ⟨rfl, fun K' hK => wp_fda 33 (.tmp 2) 1 rfl (eval_tmp ((hev 2 (by decide)).trans rfl)) (fun _ => by kernel_rfl) (hK _ _ hJ rfl veL_same)⟩
  ·
   exact .inr ⟨rfl, fun K' hK => wp_load 31 (.tmp 29) rfl bk1 9 9 (cT r) (cV r.b) 33 (hJ.es.at' _ (zzG (i := 3) rfl)) (eval_tmp ((hin 21 29 rfl).trans (congrArg some (show uu 21 = .pointer (some ⟨bk1, 9, none⟩) from hd 21 (by decide) (by kernel_rfl))))) ag31 sz31 (zzF (by kernel_rfl)) (by kernel_rfl) (hK _ _ hJ rfl veL_same)⟩
  ·
   exact .inr ⟨rfl, fun K' hK => wp_fda 33 (.tmp 5) 1 rfl (eval_tmp ((hev 5 (by decide)).trans rfl)) (fun _ => by kernel_rfl) (hK _ _ hJ rfl veL_same)⟩
  ·
   exact .inr ⟨rfl, fun K' hK => wp_load 31 (.tmp 31) rfl bk4 9 9 (cT s) (cV s.b) 33 (hJ.es.at' _ (zzG (i := 0) rfl)) (eval_tmp ((hin 23 31 rfl).trans (congrArg some (show uu 23 = .pointer (some ⟨bk4, 9, none⟩) from hd 23 (by decide) (by kernel_rfl))))) ag31 sz31 (zzF (by kernel_rfl)) (by kernel_rfl) (hK _ _ hJ rfl veL_same)⟩
  ·
   exact .inr ⟨rfl, fun K' hK => wp_callv (.func 31) #[.tmp 30, .tmp 32] _ 31 #[] #[.agg (cV r.b), .agg (cV s.b)] #[.agg (cV r.b), .agg (cV s.b)] rfl rfl (map2 (eval_tmp ((hin 22 30 rfl).trans (congrArg some (show uu 22 = .agg (cV r.b) from hd 22 (by decide) (by kernel_rfl))))) (eval_tmp ((hin 24 32 rfl).trans (congrArg some (show uu 24 = .agg (cV s.b) from hd 24 (by decide) (by kernel_rfl)))))) (by kernel_rfl) (fun _ _ => by kernel_rfl) (dDot_any r.b s.b ww) (fun _ hB => (hK _ _ (hJ.later hB) rfl (veL_later hB)))⟩
  ·
   exact .inr ⟨rfl, fun K' hK => wp_fda 33 (.tmp 2) 1 rfl (eval_tmp ((hev 2 (by decide)).trans rfl)) (fun _ => by kernel_rfl) (hK _ _ hJ rfl veL_same)⟩
  ·
   exact .inr ⟨rfl, fun K' hK => wp_load 31 (.tmp 34) rfl bk1 9 9 (cT r) (cV r.b) 33 (hJ.es.at' _ (zzG (i := 3) rfl)) (eval_tmp ((hin 26 34 rfl).trans (congrArg some (show uu 26 = .pointer (some ⟨bk1, 9, none⟩) from hd 26 (by decide) (by kernel_rfl))))) ag31 sz31 (zzF (by kernel_rfl)) (by kernel_rfl) (hK _ _ hJ rfl veL_same)⟩
  ·
   exact .inr ⟨rfl, fun K' hK => wp_fda 33 (.tmp 5) 2 rfl (eval_tmp ((hev 5 (by decide)).trans rfl)) (fun _ => by kernel_rfl) (hK _ _ hJ rfl veL_same)⟩
  ·
   exact .inr ⟨rfl, fun K' hK => wp_load 31 (.tmp 36) rfl bk4 18 9 (cT s) (cV s.c) 33 (hJ.es.at' _ (zzG (i := 0) rfl)) (eval_tmp ((hin 28 36 rfl).trans (congrArg some (show uu 28 = .pointer (some ⟨bk4, 18, none⟩) from hd 28 (by decide) (by kernel_rfl))))) ag31 sz31 (zzF (by kernel_rfl)) (by kernel_rfl) (hK _ _ hJ rfl veL_same)⟩
  ·
   exact .inr ⟨rfl, fun K' hK => wp_callv (.func 31) #[.tmp 35, .tmp 37] _ 31 #[] #[.agg (cV r.b), .agg (cV s.c)] #[.agg (cV r.b), .agg (cV s.c)] rfl rfl (map2 (eval_tmp ((hin 27 35 rfl).trans (congrArg some (show uu 27 = .agg (cV r.b) from hd 27 (by decide) (by kernel_rfl))))) (eval_tmp ((hin 29 37 rfl).trans (congrArg some (show uu 29 = .agg (cV s.c) from hd 29 (by decide) (by kernel_rfl)))))) (by kernel_rfl) (fun _ _ => by kernel_rfl) (dDot_any r.b s.c ww) (fun _ hB => (hK _ _ (hJ.later hB) rfl (veL_later hB)))⟩
  ·
   exact .inr ⟨rfl, fun K' hK => wp_bld 31 #[(0, .tmp 28), (1, .tmp 33), (2, .tmp 38)] rfl (bmap3 (eval_tmp ((hin 20 28 rfl).trans (congrArg some (show uu 20 = .agg (cS (dotV r.b s.a)) from hd 20 (by decide) (by kernel_rfl))))) (eval_tmp ((hin 25 33 rfl).trans (congrArg some (show uu 25 = .agg (cS (dotV r.b s.b)) from hd 25 (by decide) (by kernel_rfl))))) (eval_tmp ((hin 30 38 rfl).trans (congrArg some (show uu 30 = .agg (cS (dotV r.b s.c)) from hd 30 (by decide) (by kernel_rfl)))))) (fun _ => by kernel_rfl) (hK _ _ hJ rfl veL_same)⟩
  ·
   exact .inr ⟨rfl, fun K' hK => wp_fda 33 (.tmp 2) 2 rfl (eval_tmp ((hev 2 (by decide)).trans rfl)) (fun _ => by kernel_rfl) (hK _ _ hJ rfl veL_same)⟩
  ·
   exact .inr ⟨rfl, fun K' hK => wp_load 31 (.tmp 40) rfl bk1 18 9 (cT r) (cV r.c) 33 (hJ.es.at' _ (zzG (i := 3) rfl)) (eval_tmp ((hin 32 40 rfl).trans (congrArg some (show uu 32 = .pointer (some ⟨bk1, 18, none⟩) from hd 32 (by decide) (by kernel_rfl))))) ag31 sz31 (zzF (by kernel_rfl)) (by kernel_rfl) (hK _ _ hJ rfl veL_same)⟩
  ·
   exact .inr ⟨rfl, fun K' hK => wp_fda 33 (.tmp 5) 0 rfl (eval_tmp ((hev 5 (by decide)).trans rfl)) (fun _ => by kernel_rfl) (hK _ _ hJ rfl veL_same)⟩
  ·
   exact .inr ⟨rfl, fun K' hK => wp_load 31 (.tmp 42) rfl bk4 0 9 (cT s) (cV s.a) 33 (hJ.es.at' _ (zzG (i := 0) rfl)) (eval_tmp ((hin 34 42 rfl).trans (congrArg some (show uu 34 = .pointer (some ⟨bk4, 0, none⟩) from hd 34 (by decide) (by kernel_rfl))))) ag31 sz31 (zzF (by kernel_rfl)) (by kernel_rfl) (hK _ _ hJ rfl veL_same)⟩
  ·
   exact .inr ⟨rfl, fun K' hK => wp_callv (.func 31) #[.tmp 41, .tmp 43] _ 31 #[] #[.agg (cV r.c), .agg (cV s.a)] #[.agg (cV r.c), .agg (cV s.a)] rfl rfl (map2 (eval_tmp ((hin 33 41 rfl).trans (congrArg some (show uu 33 = .agg (cV r.c) from hd 33 (by decide) (by kernel_rfl))))) (eval_tmp ((hin 35 43 rfl).trans (congrArg some (show uu 35 = .agg (cV s.a) from hd 35 (by decide) (by kernel_rfl)))))) (by kernel_rfl) (fun _ _ => by kernel_rfl) (dDot_any r.c s.a ww) (fun _ hB => (hK _ _ (hJ.later hB) rfl (veL_later hB)))⟩
  ·
   exact .inr ⟨rfl, fun K' hK => wp_fda 33 (.tmp 2) 2 rfl (eval_tmp ((hev 2 (by decide)).trans rfl)) (fun _ => by kernel_rfl) (hK _ _ hJ rfl veL_same)⟩
  ·
   exact .inr ⟨rfl, fun K' hK => wp_load 31 (.tmp 45) rfl bk1 18 9 (cT r) (cV r.c) 33 (hJ.es.at' _ (zzG (i := 3) rfl)) (eval_tmp ((hin 37 45 rfl).trans (congrArg some (show uu 37 = .pointer (some ⟨bk1, 18, none⟩) from hd 37 (by decide) (by kernel_rfl))))) ag31 sz31 (zzF (by kernel_rfl)) (by kernel_rfl) (hK _ _ hJ rfl veL_same)⟩
  ·
   exact .inr ⟨rfl, fun K' hK => wp_fda 33 (.tmp 5) 1 rfl (eval_tmp ((hev 5 (by decide)).trans rfl)) (fun _ => by kernel_rfl) (hK _ _ hJ rfl veL_same)⟩
  ·
   exact .inr ⟨rfl, fun K' hK => wp_load 31 (.tmp 47) rfl bk4 9 9 (cT s) (cV s.b) 33 (hJ.es.at' _ (zzG (i := 0) rfl)) (eval_tmp ((hin 39 47 rfl).trans (congrArg some (show uu 39 = .pointer (some ⟨bk4, 9, none⟩) from hd 39 (by decide) (by kernel_rfl))))) ag31 sz31 (zzF (by kernel_rfl)) (by kernel_rfl) (hK _ _ hJ rfl veL_same)⟩
  ·
   exact .inr ⟨rfl, fun K' hK => wp_callv (.func 31) #[.tmp 46, .tmp 48] _ 31 #[] #[.agg (cV r.c), .agg (cV s.b)] #[.agg (cV r.c), .agg (cV s.b)] rfl rfl (map2 (eval_tmp ((hin 38 46 rfl).trans (congrArg some (show uu 38 = .agg (cV r.c) from hd 38 (by decide) (by kernel_rfl))))) (eval_tmp ((hin 40 48 rfl).trans (congrArg some (show uu 40 = .agg (cV s.b) from hd 40 (by decide) (by kernel_rfl)))))) (by kernel_rfl) (fun _ _ => by kernel_rfl) (dDot_any r.c s.b ww) (fun _ hB => (hK _ _ (hJ.later hB) rfl (veL_later hB)))⟩
  ·
   exact .inr ⟨rfl, fun K' hK => wp_fda 33 (.tmp 2) 2 rfl (eval_tmp ((hev 2 (by decide)).trans rfl)) (fun _ => by kernel_rfl) (hK _ _ hJ rfl veL_same)⟩
  ·
   exact .inr ⟨rfl, fun K' hK => wp_load 31 (.tmp 50) rfl bk1 18 9 (cT r) (cV r.c) 33 (hJ.es.at' _ (zzG (i := 3) rfl)) (eval_tmp ((hin 42 50 rfl).trans (congrArg some (show uu 42 = .pointer (some ⟨bk1, 18, none⟩) from hd 42 (by decide) (by kernel_rfl))))) ag31 sz31 (zzF (by kernel_rfl)) (by kernel_rfl) (hK _ _ hJ rfl veL_same)⟩
  ·
   exact .inr ⟨rfl, fun K' hK => wp_fda 33 (.tmp 5) 2 rfl (eval_tmp ((hev 5 (by decide)).trans rfl)) (fun _ => by kernel_rfl) (hK _ _ hJ rfl veL_same)⟩
  ·
   exact .inr ⟨rfl, fun K' hK => wp_load 31 (.tmp 52) rfl bk4 18 9 (cT s) (cV s.c) 33 (hJ.es.at' _ (zzG (i := 0) rfl)) (eval_tmp ((hin 44 52 rfl).trans (congrArg some (show uu 44 = .pointer (some ⟨bk4, 18, none⟩) from hd 44 (by decide) (by kernel_rfl))))) ag31 sz31 (zzF (by kernel_rfl)) (by kernel_rfl) (hK _ _ hJ rfl veL_same)⟩
  ·
   exact .inr ⟨rfl, fun K' hK => wp_callv (.func 31) #[.tmp 51, .tmp 53] _ 31 #[] #[.agg (cV r.c), .agg (cV s.c)] #[.agg (cV r.c), .agg (cV s.c)] rfl rfl (map2 (eval_tmp ((hin 43 51 rfl).trans (congrArg some (show uu 43 = .agg (cV r.c) from hd 43 (by decide) (by kernel_rfl))))) (eval_tmp ((hin 45 53 rfl).trans (congrArg some (show uu 45 = .agg (cV s.c) from hd 45 (by decide) (by kernel_rfl)))))) (by kernel_rfl) (fun _ _ => by kernel_rfl) (dDot_any r.c s.c ww) (fun _ hB => (hK _ _ (hJ.later hB) rfl (veL_later hB)))⟩
  ·
   exact .inr ⟨rfl, fun K' hK => wp_bld 31 #[(0, .tmp 44), (1, .tmp 49), (2, .tmp 54)] rfl (bmap3 (eval_tmp ((hin 36 44 rfl).trans (congrArg some (show uu 36 = .agg (cS (dotV r.c s.a)) from hd 36 (by decide) (by kernel_rfl))))) (eval_tmp ((hin 41 49 rfl).trans (congrArg some (show uu 41 = .agg (cS (dotV r.c s.b)) from hd 41 (by decide) (by kernel_rfl))))) (eval_tmp ((hin 46 54 rfl).trans (congrArg some (show uu 46 = .agg (cS (dotV r.c s.c)) from hd 46 (by decide) (by kernel_rfl)))))) (fun _ => by kernel_rfl) (hK _ _ hJ rfl veL_same)⟩
  ·
   exact .inr ⟨rfl, fun K' hK => wp_bld 33 #[(0, .tmp 23), (1, .tmp 39), (2, .tmp 55)] rfl (bmap3 (eval_tmp ((hin 15 23 rfl).trans (congrArg some (show uu 15 = .agg (cV ⟨(dotV r.a s.a), (dotV r.a s.b), (dotV r.a s.c)⟩) from hd 15 (by decide) (by kernel_rfl))))) (eval_tmp ((hin 31 39 rfl).trans (congrArg some (show uu 31 = .agg (cV ⟨(dotV r.b s.a), (dotV r.b s.b), (dotV r.b s.c)⟩) from hd 31 (by decide) (by kernel_rfl))))) (eval_tmp ((hin 47 55 rfl).trans (congrArg some (show uu 47 = .agg (cV ⟨(dotV r.c s.a), (dotV r.c s.b), (dotV r.c s.c)⟩) from hd 47 (by decide) (by kernel_rfl)))))) (fun _ => by kernel_rfl) (hK _ _ hJ rfl veL_same)⟩
 clear hM
 intro uu W7 hJm hd
 have e_0 : uu 0 = .pointer (some ⟨bk1, 0, none⟩) := hd 0 (by decide)
 have e_1 : uu 1 = .agg (cV r.a) := hd 1 (by decide)
 have e_2 : uu 2 = .pointer (some ⟨bk4, 0, none⟩) := hd 2 (by decide)
 have e_3 : uu 3 = .agg (cV s.a) := hd 3 (by decide)
 have e_4 : uu 4 = .agg (cS (dotV r.a s.a)) := hd 4 (by decide)
 have e_5 : uu 5 = .pointer (some ⟨bk1, 0, none⟩) := hd 5 (by decide)
 have e_6 : uu 6 = .agg (cV r.a) := hd 6 (by decide)
 have e_7 : uu 7 = .pointer (some ⟨bk4, 9, none⟩) := hd 7 (by decide)
 have e_8 : uu 8 = .agg (cV s.b) := hd 8 (by decide)
 have e_9 : uu 9 = .agg (cS (dotV r.a s.b)) := hd 9 (by decide)
 have e_10 : uu 10 = .pointer (some ⟨bk1, 0, none⟩) := hd 10 (by decide)
 have e_11 : uu 11 = .agg (cV r.a) := hd 11 (by decide)
 have e_12 : uu 12 = .pointer (some ⟨bk4, 18, none⟩) := hd 12 (by decide)
 have e_13 : uu 13 = .agg (cV s.c) := hd 13 (by decide)
 have e_14 : uu 14 = .agg (cS (dotV r.a s.c)) := hd 14 (by decide)
 have e_15 : uu 15 = .agg (cV ⟨(dotV r.a s.a), (dotV r.a s.b), (dotV r.a s.c)⟩) := hd 15 (by decide)
 have e_16 : uu 16 = .pointer (some ⟨bk1, 9, none⟩) := hd 16 (by decide)
 have e_17 : uu 17 = .agg (cV r.b) := hd 17 (by decide)
 have e_18 : uu 18 = .pointer (some ⟨bk4, 0, none⟩) := hd 18 (by decide)
 have e_19 : uu 19 = .agg (cV s.a) := hd 19 (by decide)
 have e_20 : uu 20 = .agg (cS (dotV r.b s.a)) := hd 20 (by decide)
 have e_21 : uu 21 = .pointer (some ⟨bk1, 9, none⟩) := hd 21 (by decide)
 have e_22 : uu 22 = .agg (cV r.b) := hd 22 (by decide)
 have e_23 : uu 23 = .pointer (some ⟨bk4, 9, none⟩) := hd 23 (by decide)
 have e_24 : uu 24 = .agg (cV s.b) := hd 24 (by decide)
 have e_25 : uu 25 = .agg (cS (dotV r.b s.b)) := hd 25 (by decide)
 have e_26 : uu 26 = .pointer (some ⟨bk1, 9, none⟩) := hd 26 (by decide)
 have e_27 : uu 27 = .agg (cV r.b) := hd 27 (by decide)
 have e_28 : uu 28 = .pointer (some ⟨bk4, 18, none⟩) := hd 28 (by decide)
 have e_29 : uu 29 = .agg (cV s.c) := hd 29 (by decide)
 have e_30 : uu 30 = .agg (cS (dotV r.b s.c)) := hd 30 (by decide)
 have e_31 : uu 31 = .agg (cV ⟨(dotV r.b s.a), (dotV r.b s.b), (dotV r.b s.c)⟩) := hd 31 (by decide)
 have e_32 : uu 32 = .pointer (some ⟨bk1, 18, none⟩) := hd 32 (by decide)
 have e_33 : uu 33 = .agg (cV r.c) := hd 33 (by decide)
 have e_34 : uu 34 = .pointer (some ⟨bk4, 0, none⟩) := hd 34 (by decide)
 have e_35 : uu 35 = .agg (cV s.a) := hd 35 (by decide)
 have e_36 : uu 36 = .agg (cS (dotV r.c s.a)) := hd 36 (by decide)
 have e_37 : uu 37 = .pointer (some ⟨bk1, 18, none⟩) := hd 37 (by decide)
 have e_38 : uu 38 = .agg (cV r.c) := hd 38 (by decide)
 have e_39 : uu 39 = .pointer (some ⟨bk4, 9, none⟩) := hd 39 (by decide)
 have e_40 : uu 40 = .agg (cV s.b) := hd 40 (by decide)
 have e_41 : uu 41 = .agg (cS (dotV r.c s.b)) := hd 41 (by decide)
 have e_42 : uu 42 = .pointer (some ⟨bk1, 18, none⟩) := hd 42 (by decide)
 have e_43 : uu 43 = .agg (cV r.c) := hd 43 (by decide)
 have e_44 : uu 44 = .pointer (some ⟨bk4, 18, none⟩) := hd 44 (by decide)
 have e_45 : uu 45 = .agg (cV s.c) := hd 45 (by decide)
 have e_46 : uu 46 = .agg (cS (dotV r.c s.c)) := hd 46 (by decide)
 have e_47 : uu 47 = .agg (cV ⟨(dotV r.c s.a), (dotV r.c s.b), (dotV r.c s.c)⟩) := hd 47 (by decide)
 have e_48 : uu 48 = .agg (cT ⟨⟨(dotV r.a s.a), (dotV r.a s.b), (dotV r.a s.c)⟩, ⟨(dotV r.b s.a), (dotV r.b s.b), (dotV r.b s.c)⟩, ⟨(dotV r.c s.a), (dotV r.c s.b), (dotV r.c s.c)⟩⟩) := hd 48 (by decide)
 clear hd
 simp only [layS, Act.put, zzC, zzD, zzE, Nat.zero_add, Nat.reduceAdd, List.drop_succ_cons, List.drop_zero, List.drop_nil, e_0, e_1, e_2, e_3, e_4, e_5, e_6, e_7, e_8, e_9, e_10, e_11, e_12, e_13, e_14, e_15, e_16, e_17, e_18, e_19, e_20, e_21, e_22, e_23, e_24, e_25, e_26, e_27, e_28, e_29, e_30, e_31, e_32, e_33, e_34, e_35, e_36, e_37, e_38, e_39, e_40, e_41, e_42, e_43, e_44, e_45, e_46, e_47, e_48]
 clear e_0 e_1 e_2 e_3 e_4 e_5 e_6 e_7 e_8 e_9 e_10 e_11 e_12 e_13 e_14 e_15 e_16 e_17 e_18 e_19 e_20 e_21 e_22 e_23 e_24 e_25 e_26 e_27 e_28 e_29 e_30 e_31 e_32 e_33 e_34 e_35 e_36 e_37 e_38 e_39 e_40 e_41 e_42 e_43 e_44 e_45 e_46 e_47 e_48
 have hJ7 := hJm.es
 clear hJm
 go_wp2_with (refine stop_store 33 (.tmp 4) (.tmp 56) 1 bk3 0 (cT zT) 33 27 (cT ⟨⟨(dotV r.a s.a), (dotV r.a s.b), (dotV r.a s.c)⟩, ⟨(dotV r.b s.a), (dotV r.b s.b), (dotV r.b s.c)⟩, ⟨(dotV r.c s.a), (dotV r.c s.b), (dotV r.c s.c)⟩⟩).toList (cT ⟨⟨(dotV r.a s.a), (dotV r.a s.b), (dotV r.a s.c)⟩, ⟨(dotV r.b s.a), (dotV r.b s.b), (dotV r.b s.c)⟩, ⟨(dotV r.c s.a), (dotV r.c s.b), (dotV r.c s.c)⟩⟩) [(bk4, (cT s), 33), (bk3, (cT ⟨⟨(dotV r.a s.a), (dotV r.a s.b), (dotV r.a s.c)⟩, ⟨(dotV r.b s.a), (dotV r.b s.b), (dotV r.b s.c)⟩, ⟨(dotV r.c s.a), (dotV r.c s.b), (dotV r.c s.c)⟩⟩), 33), (bk2, (cT q), 33), (bk1, (cT r), 33)] rfl rfl rfl rfl sz33 hJ7 rfl (by kernel_rfl) (zzF (by kernel_rfl)) (by kernel_rfl) (by kernel_rfl) (by kernel_rfl) (fun W8 hJ8 => ?_))
 clear hJ7
 unfold Stop
 try simp only [Act.put, zzC, zzD, zzE]
 go_wp2
 exact bodyPost_ret (v := .agg (cT ⟨⟨(dotV r.a s.a), (dotV r.a s.b), (dotV r.a s.c)⟩, ⟨(dotV r.b s.a), (dotV r.b s.b), (dotV r.b s.c)⟩, ⟨(dotV r.c s.a), (dotV r.c s.b), (dotV r.c s.c)⟩⟩)) (results_cell 1 Tryz.results14 hJ8 rfl ag33 sz33 (zzF (by kernel_rfl)) rfl (by kernel_rfl)) rfl ⟨rfl, hJ8.below⟩
theorem oMul_any (r q : Tu) (w : World) : Calls Tryz.prog 14 #[.agg (cT r), .agg (cT q)] w (PVal (.agg (cT (mulT r q))) w) := oMul_w r q (turnT q) (oTurn_any q) w
set_option maxRecDepth 100000 in
set_option maxHeartbeats 12800000 in
theorem oDet_any (r : Tu)  (w : World)   : Calls Tryz.prog 17 #[.agg (cT r)] w (PVal (.agg (cS (detT r))) w) := by
 have hJ0 := es_nil w
 go_enter Tryz.func17, Tryz.ntmps17
 go_wp2_with (refine stop_box 33 (.tmp 0) (cT r) rfl rfl rfl hJ0 (fun bk1 W1 hJ1 => ?_))
 clear hJ0
 unfold Stop
 try simp only [Act.put, zzC, zzD, zzE]
 go_wp2_with (refine stop_alloc 29 (cS zS) (.agg (cS zS)) rfl rfl zv29 rfl hJ1 (fun bk2 W2 hJ2 => ?_))
 clear hJ1
 unfold Stop
 try simp only [Act.put, zzC, zzD, zzE]
 go_wp2
 obtain ⟨m1_2, hm⟩ : ∃ m, m = W2.heap.size := ⟨_, rfl⟩
 have hM := hJ2.em
 rw [← hm] at hM
 clear hm hJ2
 refine wp_region_z 8 [some 3, some 4, some 5, some 6, some 7, some 8, some 9, some 10] (veL m1_2 [.eq (.pointer (some ⟨bk1, 0, none⟩)), .eq (.agg (cV r.a)), .eq (.pointer (some ⟨bk1, 9, none⟩)), .eq (.agg (cV r.b)), .eq (.pointer (some ⟨bk1, 18, none⟩)), .eq (.agg (cV r.c)), .eq (.agg (cV (crossV r.b r.c))), .eq (.agg (cS (dotV r.a (crossV r.b r.c))))]) (Em w m1_2 [(bk2, (cS zS), 29), (bk1, (cT r), 33)]) (by kernel_rfl) (by kernel_rfl) (by rfl) (by decide) (by rfl) hM ?_ ?_
 ·
  intro i hl hi uu ww aa hJ hd hev hin
  clear hM
  obtain rfl | rfl | rfl | rfl | rfl | rfl | rfl | rfl : i = 0 ∨ i = 1 ∨ i = 2 ∨ i = 3 ∨ i = 4 ∨ i = 5 ∨ i = 6 ∨ i = 7 := by omega
  ·
   exact .inr ⟨rfl, fun K' hK => wp_fda 33 (.tmp 1) 0 rfl (eval_tmp ((hev 1 (by decide)).trans rfl)) (fun _ => by kernel_rfl) (hK _ _ hJ rfl veL_same)⟩
  ·
   exact .inr ⟨rfl, fun K' hK => wp_load 31 (.tmp 3) rfl bk1 0 9 (cT r) (cV r.a) 33 (hJ.es.at' _ (zzG (i := 1) rfl)) (eval_tmp ((hin 0 3 rfl).trans (congrArg some (show uu 0 = .pointer (some ⟨bk1, 0, none⟩) from hd 0 (by decide) (by kernel_rfl))))) ag31 sz31 (zzF (by kernel_rfl)) (by kernel_rfl) (hK _ _ hJ rfl veL_same)⟩
  ·
   exact .inr ⟨rfl, fun K' hK => wp_fda 33 (.tmp 1) 1 rfl (eval_tmp ((hev 1 (by decide)).trans rfl)) (fun _ => by kernel_rfl) (hK _ _ hJ rfl veL_same)⟩
  ·
   exact .inr ⟨rfl, fun K' hK => wp_load 31 (.tmp 5) rfl bk1 9 9 (cT r) (cV r.b) 33 (hJ.es.at' _ (zzG (i := 1) rfl)) (eval_tmp ((hin 2 5 rfl).trans (congrArg some (show uu 2 = .pointer (some ⟨bk1, 9, none⟩) from hd 2 (by decide) (by kernel_rfl))))) ag31 sz31 (zzF (by kernel_rfl)) (by kernel_rfl) (hK _ _ hJ rfl veL_same)⟩
  ·
   exact .inr ⟨rfl, fun K' hK => wp_fda 33 (.tmp 1) 2 rfl (eval_tmp ((hev 1 (by decide)).trans rfl)) (fun _ => by kernel_rfl) (hK _ _ hJ rfl veL_same)⟩
  ·
   exact .inr ⟨rfl, fun K' hK => wp_load 31 (.tmp 7) rfl bk1 18 9 (cT r) (cV r.c) 33 (hJ.es.at' _ (zzG (i := 1) rfl)) (eval_tmp ((hin 4 7 rfl).trans (congrArg some (show uu 4 = .pointer (some ⟨bk1, 18, none⟩) from hd 4 (by decide) (by kernel_rfl))))) ag31 sz31 (zzF (by kernel_rfl)) (by kernel_rfl) (hK _ _ hJ rfl veL_same)⟩
  ·
   exact .inr ⟨rfl, fun K' hK => wp_callv (.func 32) #[.tmp 6, .tmp 8] _ 32 #[] #[.agg (cV r.b), .agg (cV r.c)] #[.agg (cV r.b), .agg (cV r.c)] rfl rfl (map2 (eval_tmp ((hin 3 6 rfl).trans (congrArg some (show uu 3 = .agg (cV r.b) from hd 3 (by decide) (by kernel_rfl))))) (eval_tmp ((hin 5 8 rfl).trans (congrArg some (show uu 5 = .agg (cV r.c) from hd 5 (by decide) (by kernel_rfl)))))) (by kernel_rfl) (fun _ _ => by kernel_rfl) (dCross_any r.b r.c ww) (fun _ hB => (hK _ _ (hJ.later hB) rfl (veL_later hB)))⟩
  ·
   exact .inr ⟨rfl, fun K' hK => wp_callv (.func 31) #[.tmp 4, .tmp 9] _ 31 #[] #[.agg (cV r.a), .agg (cV (crossV r.b r.c))] #[.agg (cV r.a), .agg (cV (crossV r.b r.c))] rfl rfl (map2 (eval_tmp ((hin 1 4 rfl).trans (congrArg some (show uu 1 = .agg (cV r.a) from hd 1 (by decide) (by kernel_rfl))))) (eval_tmp ((hin 6 9 rfl).trans (congrArg some (show uu 6 = .agg (cV (crossV r.b r.c)) from hd 6 (by decide) (by kernel_rfl)))))) (by kernel_rfl) (fun _ _ => by kernel_rfl) (dDot_any r.a (crossV r.b r.c) ww) (fun _ hB => (hK _ _ (hJ.later hB) rfl (veL_later hB)))⟩
 clear hM
 intro uu W3 hJm hd
 have e_0 : uu 0 = .pointer (some ⟨bk1, 0, none⟩) := hd 0 (by decide)
 have e_1 : uu 1 = .agg (cV r.a) := hd 1 (by decide)
 have e_2 : uu 2 = .pointer (some ⟨bk1, 9, none⟩) := hd 2 (by decide)
 have e_3 : uu 3 = .agg (cV r.b) := hd 3 (by decide)
 have e_4 : uu 4 = .pointer (some ⟨bk1, 18, none⟩) := hd 4 (by decide)
 have e_5 : uu 5 = .agg (cV r.c) := hd 5 (by decide)
 have e_6 : uu 6 = .agg (cV (crossV r.b r.c)) := hd 6 (by decide)
 have e_7 : uu 7 = .agg (cS (dotV r.a (crossV r.b r.c))) := hd 7 (by decide)
 clear hd
 simp only [layS, Act.put, zzC, zzD, zzE, Nat.zero_add, Nat.reduceAdd, List.drop_succ_cons, List.drop_zero, List.drop_nil, e_0, e_1, e_2, e_3, e_4, e_5, e_6, e_7]
 clear e_0 e_1 e_2 e_3 e_4 e_5 e_6 e_7
 have hJ3 := hJm.es
 clear hJm
 go_wp2_with (refine stop_store 29 (.tmp 2) (.tmp 10) 0 bk2 0 (cS zS) 29 3 (cS (dotV r.a (crossV r.b r.c))).toList (cS (dotV r.a (crossV r.b r.c))) [(bk2, (cS (dotV r.a (crossV r.b r.c))), 29), (bk1, (cT r), 33)] rfl rfl rfl rfl sz29 hJ3 rfl (by kernel_rfl) (zzF (by kernel_rfl)) (by kernel_rfl) (by kernel_rfl) (by kernel_rfl) (fun W4 hJ4 => ?_))
 clear hJ3
 unfold Stop
 try simp only [Act.put, zzC, zzD, zzE]
 go_wp2
 exact bodyPost_ret (v := .agg (cS (dotV r.a (crossV r.b r.c)))) (results_cell 0 Tryz.results17 hJ4 rfl ag29 sz29 (zzF (by kernel_rfl)) rfl (by kernel_rfl)) rfl ⟨rfl, hJ4.below⟩
set_option maxRecDepth 100000 in
set_option maxHeartbeats 12800000 in
theorem oIn_0 (r q : Tu) (b : Bool) (c : Bool) (hIa : ∀ W : World, Calls Tryz.prog 33 #[.agg (cV r.a), .agg (cV q.a)] W (PVal (.bool false) W)) (hIb : ∀ W : World, Calls Tryz.prog 33 #[.agg (cV r.b), .agg (cV q.b)] W (PVal (.bool b) W)) (hIc : ∀ W : World, Calls Tryz.prog 33 #[.agg (cV r.c), .agg (cV q.c)] W (PVal (.bool c) W)) (w : World)   : Calls Tryz.prog 18 #[.agg (cT r), .agg (cT q)] w (PVal (.bool false) w) := by
 have Ia := Lib.hid hIa
 have Ib := Lib.hid hIb
 have Ic := Lib.hid hIc
 clear hIa hIb hIc
 have hJ0 := es_nil w
 go_enter Tryz.func18, Tryz.ntmps18
 go_wp2_with (refine stop_box 33 (.tmp 0) (cT r) rfl rfl rfl hJ0 (fun bk1 W1 hJ1 => ?_))
 clear hJ0
 unfold Stop
 try simp only [Act.put, zzC, zzD, zzE]
 go_wp2_with (refine stop_box 33 (.tmp 1) (cT q) rfl rfl rfl hJ1 (fun bk2 W2 hJ2 => ?_))
 clear hJ1
 unfold Stop
 try simp only [Act.put, zzC, zzD, zzE]
 go_wp2_with (refine stop_op rfl (fun K hK => wp_load 31 (.tmp 8) rfl bk1 0 9 (cT r) (cV r.a) 33 (hJ2.at' _ (zzG (i := 1) rfl)) rfl ag31 sz31 (zzF (by kernel_rfl)) (by kernel_rfl) (hK _ _ ?_)))
 unfold Stop
 try simp only [Act.put, zzC, zzD, zzE]
 go_wp2_with (refine stop_op rfl (fun K hK => wp_load 31 (.tmp 10) rfl bk2 0 9 (cT q) (cV q.a) 33 (hJ2.at' _ (zzG (i := 0) rfl)) rfl ag31 sz31 (zzF (by kernel_rfl)) (by kernel_rfl) (hK _ _ ?_)))
 unfold Stop
 try simp only [Act.put, zzC, zzD, zzE]
 go_wp2_with fail
 refine (Ia.out _).mono ?_
 rintro zz W3 ⟨rfl, hB⟩
 have hJ3 := hJ2.later hB
 clear hB
 clear hJ2
 go_wp2_with (refine stop_op rfl (fun K hK => wp_load 31 (.tmp 13) rfl bk1 9 9 (cT r) (cV r.b) 33 (hJ3.at' _ (zzG (i := 1) rfl)) rfl ag31 sz31 (zzF (by kernel_rfl)) (by kernel_rfl) (hK _ _ ?_)))
 unfold Stop
 try simp only [Act.put, zzC, zzD, zzE]
 go_wp2_with (refine stop_op rfl (fun K hK => wp_load 31 (.tmp 15) rfl bk2 9 9 (cT q) (cV q.b) 33 (hJ3.at' _ (zzG (i := 0) rfl)) rfl ag31 sz31 (zzF (by kernel_rfl)) (by kernel_rfl) (hK _ _ ?_)))
 unfold Stop
 try simp only [Act.put, zzC, zzD, zzE]
 go_wp2_with fail
 refine (Ib.out _).mono ?_
 rintro zz W4 ⟨rfl, hB⟩
 have hJ4 := hJ3.later hB
 clear hB
 clear hJ3
 go_wp2_with (refine stop_op rfl (fun K hK => wp_load 31 (.tmp 18) rfl bk1 18 9 (cT r) (cV r.c) 33 (hJ4.at' _ (zzG (i := 1) rfl)) rfl ag31 sz31 (zzF (by kernel_rfl)) (by kernel_rfl) (hK _ _ ?_)))
 unfold Stop
 try simp only [Act.put, zzC, zzD, zzE]
 go_wp2_with (refine stop_op rfl (fun K hK => wp_load 31 (.tmp 20) rfl bk2 18 9 (cT q) (cV q.c) 33 (hJ4.at' _ (zzG (i := 0) rfl)) rfl ag31 sz31 (zzF (by kernel_rfl)) (by kernel_rfl) (hK _ _ ?_)))
 unfold Stop
 try simp only [Act.put, zzC, zzD, zzE]
 go_wp2_with fail
 refine (Ic.out _).mono ?_
 rintro zz W5 ⟨rfl, hB⟩
 have hJ5 := hJ4.later hB
 clear hB
 clear hJ4
 go_wp2
 go_ret
 exact ⟨rfl, hJ5.below⟩
set_option maxRecDepth 100000 in
set_option maxHeartbeats 12800000 in
theorem oIn_1 (r q : Tu) (c : Bool) (hIa : ∀ W : World, Calls Tryz.prog 33 #[.agg (cV r.a), .agg (cV q.a)] W (PVal (.bool true) W)) (hIb : ∀ W : World, Calls Tryz.prog 33 #[.agg (cV r.b), .agg (cV q.b)] W (PVal (.bool false) W)) (hIc : ∀ W : World, Calls Tryz.prog 33 #[.agg (cV r.c), .agg (cV q.c)] W (PVal (.bool c) W)) (w : World)   : Calls Tryz.prog 18 #[.agg (cT r), .agg (cT q)] w (PVal (.bool false) w) := by
 have Ia := Lib.hid hIa
 have Ib := Lib.hid hIb
 have Ic := Lib.hid hIc
 clear hIa hIb hIc
 have hJ0 := es_nil w
 go_enter Tryz.func18, Tryz.ntmps18
 go_wp2_with (refine stop_box 33 (.tmp 0) (cT r) rfl rfl rfl hJ0 (fun bk1 W1 hJ1 => ?_))
 clear hJ0
 unfold Stop
 try simp only [Act.put, zzC, zzD, zzE]
 go_wp2_with (refine stop_box 33 (.tmp 1) (cT q) rfl rfl rfl hJ1 (fun bk2 W2 hJ2 => ?_))
 clear hJ1
 unfold Stop
 try simp only [Act.put, zzC, zzD, zzE]
 go_wp2_with (refine stop_op rfl (fun K hK => wp_load 31 (.tmp 8) rfl bk1 0 9 (cT r) (cV r.a) 33 (hJ2.at' _ (zzG (i := 1) rfl)) rfl ag31 sz31 (zzF (by kernel_rfl)) (by kernel_rfl) (hK _ _ ?_)))
 unfold Stop
 try simp only [Act.put, zzC, zzD, zzE]
 go_wp2_with (refine stop_op rfl (fun K hK => wp_load 31 (.tmp 10) rfl bk2 0 9 (cT q) (cV q.a) 33 (hJ2.at' _ (zzG (i := 0) rfl)) rfl ag31 sz31 (zzF (by kernel_rfl)) (by kernel_rfl) (hK _ _ ?_)))
 unfold Stop
 try simp only [Act.put, zzC, zzD, zzE]
 go_wp2_with fail
 refine (Ia.out _).mono ?_
 rintro zz W3 ⟨rfl, hB⟩
 have hJ3 := hJ2.later hB
 clear hB
 clear hJ2
 go_wp2_with (refine stop_op rfl (fun K hK => wp_load 31 (.tmp 13) rfl bk1 9 9 (cT r) (cV r.b) 33 (hJ3.at' _ (zzG (i := 1) rfl)) rfl ag31 sz31 (zzF (by kernel_rfl)) (by kernel_rfl) (hK _ _ ?_)))
 unfold Stop
 try simp only [Act.put, zzC, zzD, zzE]
 go_wp2_with (refine stop_op rfl (fun K hK => wp_load 31 (.tmp 15) rfl bk2 9 9 (cT q) (cV q.b) 33 (hJ3.at' _ (zzG (i := 0) rfl)) rfl ag31 sz31 (zzF (by kernel_rfl)) (by kernel_rfl) (hK _ _ ?_)))
 unfold Stop
 try simp only [Act.put, zzC, zzD, zzE]
 go_wp2_with fail
 refine (Ib.out _).mono ?_
 rintro zz W4 ⟨rfl, hB⟩
 have hJ4 := hJ3.later hB
 clear hB
 clear hJ3
 go_wp2_with (refine stop_op rfl (fun K hK => wp_load 31 (.tmp 18) rfl bk1 18 9 (cT r) (cV r.c) 33 (hJ4.at' _ (zzG (i := 1) rfl)) rfl ag31 sz31 (zzF (by kernel_rfl)) (by kernel_rfl) (hK _ _ ?_)))
 unfold Stop
 try simp only [Act.put, zzC, zzD, zzE]
 go_wp2_with (refine stop_op rfl (fun K hK => wp_load 31 (.tmp 20) rfl bk2 18 9 (cT q) (cV q.c) 33 (hJ4.at' _ (zzG (i := 0) rfl)) rfl ag31 sz31 (zzF (by kernel_rfl)) (by kernel_rfl) (hK _ _ ?_)))
 unfold Stop
 try simp only [Act.put, zzC, zzD, zzE]
 go_wp2_with fail
 refine (Ic.out _).mono ?_
 rintro zz W5 ⟨rfl, hB⟩
 have hJ5 := hJ4.later hB
 clear hB
 clear hJ4
 go_wp2
 go_ret
 exact ⟨rfl, hJ5.below⟩
set_option maxRecDepth 100000 in
set_option maxHeartbeats 12800000 in
theorem oIn_2 (r q : Tu) (c : Bool) (hIa : ∀ W : World, Calls Tryz.prog 33 #[.agg (cV r.a), .agg (cV q.a)] W (PVal (.bool true) W)) (hIb : ∀ W : World, Calls Tryz.prog 33 #[.agg (cV r.b), .agg (cV q.b)] W (PVal (.bool true) W)) (hIc : ∀ W : World, Calls Tryz.prog 33 #[.agg (cV r.c), .agg (cV q.c)] W (PVal (.bool c) W)) (w : World)   : Calls Tryz.prog 18 #[.agg (cT r), .agg (cT q)] w (PVal (.bool c) w) := by
 have Ia := Lib.hid hIa
 have Ib := Lib.hid hIb
 have Ic := Lib.hid hIc
 clear hIa hIb hIc
 have hJ0 := es_nil w
 go_enter Tryz.func18, Tryz.ntmps18
 go_wp2_with (refine stop_box 33 (.tmp 0) (cT r) rfl rfl rfl hJ0 (fun bk1 W1 hJ1 => ?_))
 clear hJ0
 unfold Stop
 try simp only [Act.put, zzC, zzD, zzE]
 go_wp2_with (refine stop_box 33 (.tmp 1) (cT q) rfl rfl rfl hJ1 (fun bk2 W2 hJ2 => ?_))
 clear hJ1
 unfold Stop
 try simp only [Act.put, zzC, zzD, zzE]
 go_wp2_with (refine stop_op rfl (fun K hK => wp_load 31 (.tmp 8) rfl bk1 0 9 (cT r) (cV r.a) 33 (hJ2.at' _ (zzG (i := 1) rfl)) rfl ag31 sz31 (zzF (by kernel_rfl)) (by kernel_rfl) (hK _ _ ?_)))
 unfold Stop
 try simp only [Act.put, zzC, zzD, zzE]
 go_wp2_with (refine stop_op rfl (fun K hK => wp_load 31 (.tmp 10) rfl bk2 0 9 (cT q) (cV q.a) 33 (hJ2.at' _ (zzG (i := 0) rfl)) rfl ag31 sz31 (zzF (by kernel_rfl)) (by kernel_rfl) (hK _ _ ?_)))
 unfold Stop
 try simp only [Act.put, zzC, zzD, zzE]
 go_wp2_with fail
 refine (Ia.out _).mono ?_
 rintro zz W3 ⟨rfl, hB⟩
 have hJ3 := hJ2.later hB
 clear hB
 clear hJ2
 go_wp2_with (refine stop_op rfl (fun K hK => wp_load 31 (.tmp 13) rfl bk1 9 9 (cT r) (cV r.b) 33 (hJ3.at' _ (zzG (i := 1) rfl)) rfl ag31 sz31 (zzF (by kernel_rfl)) (by kernel_rfl) (hK _ _ ?_)))
 unfold Stop
 try simp only [Act.put, zzC, zzD, zzE]
 go_wp2_with (refine stop_op rfl (fun K hK => wp_load 31 (.tmp 15) rfl bk2 9 9 (cT q) (cV q.b) 33 (hJ3.at' _ (zzG (i := 0) rfl)) rfl ag31 sz31 (zzF (by kernel_rfl)) (by kernel_rfl) (hK _ _ ?_)))
 unfold Stop
 try simp only [Act.put, zzC, zzD, zzE]
 go_wp2_with fail
 refine (Ib.out _).mono ?_
 rintro zz W4 ⟨rfl, hB⟩
 have hJ4 := hJ3.later hB
 clear hB
 clear hJ3
 go_wp2_with (refine stop_op rfl (fun K hK => wp_load 31 (.tmp 18) rfl bk1 18 9 (cT r) (cV r.c) 33 (hJ4.at' _ (zzG (i := 1) rfl)) rfl ag31 sz31 (zzF (by kernel_rfl)) (by kernel_rfl) (hK _ _ ?_)))
 unfold Stop
 try simp only [Act.put, zzC, zzD, zzE]
 go_wp2_with (refine stop_op rfl (fun K hK => wp_load 31 (.tmp 20) rfl bk2 18 9 (cT q) (cV q.c) 33 (hJ4.at' _ (zzG (i := 0) rfl)) rfl ag31 sz31 (zzF (by kernel_rfl)) (by kernel_rfl) (hK _ _ ?_)))
 unfold Stop
 try simp only [Act.put, zzC, zzD, zzE]
 go_wp2_with fail
 refine (Ic.out _).mono ?_
 rintro zz W5 ⟨rfl, hB⟩
 have hJ5 := hJ4.later hB
 clear hB
 clear hJ4
 go_wp2
 go_ret
 exact ⟨rfl, hJ5.below⟩
theorem oIn_any (r q : Tu) (w : World) : Calls Tryz.prog 18 #[.agg (cT r), .agg (cT q)] w (PVal (.bool (inT r q)) w) := by
 have ha := dIn_any r.a q.a
 have hb := dIn_any r.b q.b
 have hc := dIn_any r.c q.c
 unfold inT
 cases h1 : inV r.a q.a
 ·
  rw [h1] at ha
  exact oIn_0 r q _ _ ha hb hc w
 ·
  rw [h1] at ha
  cases h2 : inV r.b q.b
  ·
   rw [h2] at hb
   exact oIn_1 r q _ ha hb hc w
  ·
   rw [h2] at hb
   exact oIn_2 r q _ ha hb hc w
set_option maxRecDepth 100000 in
set_option maxHeartbeats 12800000 in
theorem oRad_w (r : Tu)  (w : World)   : Calls Tryz.prog 19 #[.agg (cT r)] w (PVal (.int .i64 (max (max ((radV r.a)) ((radV r.b))) ((radV r.c)))) w) := by
 have hJ0 := es_nil w
 go_enter Tryz.func19, Tryz.ntmps19
 go_wp2_with (refine stop_box 33 (.tmp 0) (cT r) rfl rfl rfl hJ0 (fun bk1 W1 hJ1 => ?_))
 clear hJ0
 unfold Stop
 try simp only [Act.put, zzC, zzD, zzE]
 go_wp2_with (refine stop_op rfl (fun K hK => wp_load 31 (.tmp 6) rfl bk1 0 9 (cT r) (cV r.a) 33 (hJ1.at' _ (zzG (i := 0) rfl)) rfl ag31 sz31 (zzF (by kernel_rfl)) (by kernel_rfl) (hK _ _ ?_)))
 unfold Stop
 try simp only [Act.put, zzC, zzD, zzE]
 go_wp2_with fail
 refine (dRad_any r.a W1).mono ?_
 rintro zz W2 ⟨rfl, hB⟩
 have hJ2 := hJ1.later hB
 clear hB
 clear hJ1
 go_wp2_with (refine stop_op rfl (fun K hK => wp_load 31 (.tmp 9) rfl bk1 9 9 (cT r) (cV r.b) 33 (hJ2.at' _ (zzG (i := 0) rfl)) rfl ag31 sz31 (zzF (by kernel_rfl)) (by kernel_rfl) (hK _ _ ?_)))
 unfold Stop
 try simp only [Act.put, zzC, zzD, zzE]
 go_wp2_with fail
 refine (dRad_any r.b W2).mono ?_
 rintro zz W3 ⟨rfl, hB⟩
 have hJ3 := hJ2.later hB
 clear hB
 clear hJ2
 go_wp2_with (refine stop_op rfl (fun K hK => wp_load 31 (.tmp 12) rfl bk1 18 9 (cT r) (cV r.c) 33 (hJ3.at' _ (zzG (i := 0) rfl)) rfl ag31 sz31 (zzF (by kernel_rfl)) (by kernel_rfl) (hK _ _ ?_)))
 unfold Stop
 try simp only [Act.put, zzC, zzD, zzE]
 go_wp2_with fail
 refine (dRad_any r.c W3).mono ?_
 rintro zz W4 ⟨rfl, hB⟩
 have hJ4 := hJ3.later hB
 clear hB
 clear hJ3
 go_wp2
 all_goals go_ret
 all_goals refine ⟨?_, hJ4.below⟩
 all_goals (refine congrArg Ending.returned ?_)
 all_goals (refine congrArg (Value.int .i64) ?_)
 all_goals omega
theorem oRad_any (r : Tu) (w : World) : Calls Tryz.prog 19 #[.agg (cT r)] w (PVal (.int .i64 (radT r)) w) := oRad_w r w
set_option maxRecDepth 100000 in
set_option maxHeartbeats 12800000 in
theorem tRad_w (r : Tu)  (w : World)   : Calls Tryz.prog 13 #[.agg (cT r)] w (PVal (.int .i64 (max (max ((radV r.a)) ((radV r.b))) ((radV r.c)))) w) := by
 have hJ0 := es_nil w
 go_enter Tryz.func13, Tryz.ntmps13
 go_wp2_with (refine stop_box 27 (.tmp 0) (cT r) rfl rfl rfl hJ0 (fun bk1 W1 hJ1 => ?_))
 clear hJ0
 unfold Stop
 try simp only [Act.put, zzC, zzD, zzE]
 go_wp2
 obtain ⟨m1_1, hm⟩ : ∃ m, m = W1.heap.size := ⟨_, rfl⟩
 have hM := hJ1.em
 rw [← hm] at hM
 clear hm hJ1
 refine wp_region_z 9 [some 3, some 4, some 5, some 6, some 7, some 8, some 9, some 10, some 11] (veL m1_1 [.eq (.pointer (some ⟨bk1, 0, none⟩)), .eq (.agg (cV r.a)), .eq (.int .i64 ((radV r.a))), .eq (.pointer (some ⟨bk1, 9, none⟩)), .eq (.agg (cV r.b)), .eq (.int .i64 ((radV r.b))), .eq (.pointer (some ⟨bk1, 18, none⟩)), .eq (.agg (cV r.c)), .eq (.int .i64 ((radV r.c)))]) (Em w m1_1 [(bk1, (cT r), 27)]) (by kernel_rfl) (by kernel_rfl) (by rfl) (by decide) (by rfl) hM ?_ ?_
 ·
  intro i hl hi uu ww aa hJ hd hev hin
  clear hM
  obtain rfl | rfl | rfl | rfl | rfl | rfl | rfl | rfl | rfl : i = 0 ∨ i = 1 ∨ i = 2 ∨ i = 3 ∨ i = 4 ∨ i = 5 ∨ i = 6 ∨ i = 7 ∨ i = 8 := by omega
  ·
   exact .inr ⟨rfl, fun K' hK => wp_ixa 27 (.tmp 1) (.const (.int .i64 0)) rfl (eval_tmp ((hev 1 (by decide)).trans rfl)) rfl (fun _ => by kernel_rfl) (hK _ _ hJ rfl veL_same)⟩
  ·
   exact .inr ⟨rfl, fun K' hK => wp_load 25 (.tmp 3) rfl bk1 0 9 (cT r) (cV r.a) 27 (hJ.es.at' _ (zzG (i := 0) rfl)) (eval_tmp ((hin 0 3 rfl).trans (congrArg some (show uu 0 = .pointer (some ⟨bk1, 0, none⟩) from hd 0 (by decide) (by kernel_rfl))))) ag25 sz25 (zzF (by kernel_rfl)) (by kernel_rfl) (hK _ _ hJ rfl veL_same)⟩
  ·
   exact .inr ⟨rfl, fun K' hK => wp_callv (.func 30) #[.tmp 4] _ 30 #[] #[.agg (cV r.a)] #[.agg (cV r.a)] rfl rfl (map1 (eval_tmp ((hin 1 4 rfl).trans (congrArg some (show uu 1 = .agg (cV r.a) from hd 1 (by decide) (by kernel_rfl)))))) (by kernel_rfl) (fun _ _ => by kernel_rfl) (vRad_any r.a ww) (fun _ hB => (hK _ _ (hJ.later hB) rfl (veL_later hB)))⟩
  ·
   exact .inr ⟨rfl, fun K' hK => wp_ixa 27 (.tmp 1) (.const (.int .i64 1)) rfl (eval_tmp ((hev 1 (by decide)).trans rfl)) rfl (fun _ => by kernel_rfl) (hK _ _ hJ rfl veL_same)⟩
  ·
   exact .inr ⟨rfl, fun K' hK => wp_load 25 (.tmp 6) rfl bk1 9 9 (cT r) (cV r.b) 27 (hJ.es.at' _ (zzG (i := 0) rfl)) (eval_tmp ((hin 3 6 rfl).trans (congrArg some (show uu 3 = .pointer (some ⟨bk1, 9, none⟩) from hd 3 (by decide) (by kernel_rfl))))) ag25 sz25 (zzF (by kernel_rfl)) (by kernel_rfl) (hK _ _ hJ rfl veL_same)⟩
  ·
   exact .inr ⟨rfl, fun K' hK => wp_callv (.func 30) #[.tmp 7] _ 30 #[] #[.agg (cV r.b)] #[.agg (cV r.b)] rfl rfl (map1 (eval_tmp ((hin 4 7 rfl).trans (congrArg some (show uu 4 = .agg (cV r.b) from hd 4 (by decide) (by kernel_rfl)))))) (by kernel_rfl) (fun _ _ => by kernel_rfl) (vRad_any r.b ww) (fun _ hB => (hK _ _ (hJ.later hB) rfl (veL_later hB)))⟩
  ·
   exact .inr ⟨rfl, fun K' hK => wp_ixa 27 (.tmp 1) (.const (.int .i64 2)) rfl (eval_tmp ((hev 1 (by decide)).trans rfl)) rfl (fun _ => by kernel_rfl) (hK _ _ hJ rfl veL_same)⟩
  ·
   exact .inr ⟨rfl, fun K' hK => wp_load 25 (.tmp 9) rfl bk1 18 9 (cT r) (cV r.c) 27 (hJ.es.at' _ (zzG (i := 0) rfl)) (eval_tmp ((hin 6 9 rfl).trans (congrArg some (show uu 6 = .pointer (some ⟨bk1, 18, none⟩) from hd 6 (by decide) (by kernel_rfl))))) ag25 sz25 (zzF (by kernel_rfl)) (by kernel_rfl) (hK _ _ hJ rfl veL_same)⟩
  ·
   exact .inr ⟨rfl, fun K' hK => wp_callv (.func 30) #[.tmp 10] _ 30 #[] #[.agg (cV r.c)] #[.agg (cV r.c)] rfl rfl (map1 (eval_tmp ((hin 7 10 rfl).trans (congrArg some (show uu 7 = .agg (cV r.c) from hd 7 (by decide) (by kernel_rfl)))))) (by kernel_rfl) (fun _ _ => by kernel_rfl) (vRad_any r.c ww) (fun _ hB => (hK _ _ (hJ.later hB) rfl (veL_later hB)))⟩
 clear hM
 intro uu W2 hJm hd
 have e_0 : uu 0 = .pointer (some ⟨bk1, 0, none⟩) := hd 0 (by decide)
 have e_1 : uu 1 = .agg (cV r.a) := hd 1 (by decide)
 have e_2 : uu 2 = .int .i64 ((radV r.a)) := hd 2 (by decide)
 have e_3 : uu 3 = .pointer (some ⟨bk1, 9, none⟩) := hd 3 (by decide)
 have e_4 : uu 4 = .agg (cV r.b) := hd 4 (by decide)
 have e_5 : uu 5 = .int .i64 ((radV r.b)) := hd 5 (by decide)
 have e_6 : uu 6 = .pointer (some ⟨bk1, 18, none⟩) := hd 6 (by decide)
 have e_7 : uu 7 = .agg (cV r.c) := hd 7 (by decide)
 have e_8 : uu 8 = .int .i64 ((radV r.c)) := hd 8 (by decide)
 clear hd
 simp only [layS, Act.put, zzC, zzD, zzE, Nat.zero_add, Nat.reduceAdd, List.drop_succ_cons, List.drop_zero, List.drop_nil, e_0, e_1, e_2, e_3, e_4, e_5, e_6, e_7, e_8]
 clear e_0 e_1 e_2 e_3 e_4 e_5 e_6 e_7 e_8
 have hJ2 := hJm.es
 clear hJm
 go_wp2
 all_goals go_ret
 all_goals refine ⟨?_, hJ2.below⟩
 all_goals (refine congrArg Ending.returned ?_)
 all_goals (refine congrArg (Value.int .i64) ?_)
 all_goals omega
theorem tRad_any (r : Tu) (w : World) : Calls Tryz.prog 13 #[.agg (cT r)] w (PVal (.int .i64 (radT r)) w) := tRad_w r w
end Go.Proofs.YtolpfibihialkaaGreat
