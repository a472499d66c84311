/- Parts of the proof. -/
import Derived.Test.YtolpfibihialkaaGreatGr0
import Derived.Test.YtolpfibihialkaaGreatGr32
import Derived.Test.YtolpfibihialkaaGreatGr34
/- Package rot: the walks of the closures that tell each place. No statement of the seat is proved here. -/
namespace Go.Proofs.YtolpfibihialkaaGreat
open Go Go.RowKit
set_option maxRecDepth 100000 in
set_option maxHeartbeats 12800000 in
theorem tTurn1 (b : Nat) (r : Tu) {i j : Nat} (hi3 : i < 3) (hj3 : j < 3)  (w : World) (hb : Cl w (b, cT r, 27))  : Calls Tryz.prog 27 #[.int .i64 ((i : Int)), .int .i64 ((j : Int)), .pointer (some ⟨b, 0, none⟩)] w (PVal (.agg (cS (atT r j i))) w) := by
 have hJ0 := es_nil w
 go_enter Tryz.func27, Tryz.ntmps27
 go_wp2_with (refine stop_alloc 23 (cS zS) (.agg (cS zS)) rfl rfl zv23 rfl hJ0 (fun bk1 W1 hJ1 => ?_))
 clear hJ0
 unfold Stop
 try simp only [Act.put, zzC, zzD, zzE]
 go_wp2_with (refine stop_op rfl (fun K hK => wp_ixa 27 (.tmp 2) (.tmp 6) rfl rfl rfl (run_ixT b hj3) (hK _ _ ?_)))
 unfold Stop
 try simp only [Act.put, zzC, zzD, zzE]
 go_wp2_with (refine stop_op rfl (fun K hK => wp_ixa 25 (.tmp 8) (.tmp 7) rfl rfl rfl (run_ixV b (j * 9) hi3) (hK _ _ ?_)))
 unfold Stop
 try simp only [Act.put, zzC, zzD, zzE]
 go_wp2_with (refine stop_op rfl (fun K hK => wp_load 23 (.tmp 9) rfl b (j * 9 + i * 3) 3 (cT r) (cS (atT r j i)) 27 (hb.below hJ1.below) rfl ag23 sz23 (cT_le r hj3 hi3) (cT_at r hj3 hi3) (hK _ _ ?_)))
 unfold Stop
 try simp only [Act.put, zzC, zzD, zzE]
 go_wp2_with (refine stop_store 23 (.tmp 5) (.tmp 10) 0 bk1 0 (cS zS) 23 3 (cS (atT r j i)).toList (cS (atT r j i)) [(bk1, (cS (atT r j i)), 23)] rfl rfl rfl rfl sz23 hJ1 rfl (by kernel_rfl) (zzF (by kernel_rfl)) (by kernel_rfl) (by kernel_rfl) (by kernel_rfl) (fun W2 hJ2 => ?_))
 clear hJ1
 unfold Stop
 try simp only [Act.put, zzC, zzD, zzE]
 go_wp2
 exact bodyPost_ret (v := .agg (cS (atT r j i))) (results_cell 0 Tryz.results27 hJ2 rfl ag23 sz23 (zzF (by kernel_rfl)) rfl (by kernel_rfl)) rfl ⟨rfl, hJ2.below⟩
set_option maxRecDepth 100000 in
set_option maxHeartbeats 12800000 in
theorem tMul1 (b c : Nat) (r q : Tu) {i j : Nat} (hi3 : i < 3) (hj3 : j < 3)  (w : World) (hb : Cl w (b, cT r, 27)) (hc : Cl w (c, cT q, 27))  : Calls Tryz.prog 25 #[.int .i64 ((i : Int)), .int .i64 ((j : Int)), .pointer (some ⟨b, 0, none⟩), .pointer (some ⟨c, 0, none⟩)] w (PVal (.agg (cS (dotV (rowT r i) (rowT q j)))) w) := by
 have hJ0 := es_nil w
 go_enter Tryz.func25, Tryz.ntmps25
 go_wp2_with (refine stop_alloc 23 (cS zS) (.agg (cS zS)) rfl rfl zv23 rfl hJ0 (fun bk1 W1 hJ1 => ?_))
 clear hJ0
 unfold Stop
 try simp only [Act.put, zzC, zzD, zzE]
 go_wp2
 obtain ⟨m1_1, hm⟩ : ∃ m, m = W1.heap.size := ⟨_, rfl⟩
 have hM := hJ1.em
 rw [← hm] at hM
 clear hm hJ1
 refine wp_region_z 7 [some 7, some 8, some 9, some 10, some 11, some 12, some 13] (veL m1_1 [.eq (.int .i64 ((i : Int))), .eq (.pointer (some ⟨b, i * 9, none⟩)), .eq (.agg (cV (rowT r i))), .eq (.int .i64 ((j : Int))), .eq (.pointer (some ⟨c, j * 9, none⟩)), .eq (.agg (cV (rowT q j))), .eq (.agg (cS (dotV (rowT r i) (rowT q j))))]) (Em w m1_1 [(bk1, (cS zS), 23)]) (by kernel_rfl) (by kernel_rfl) (by rfl) (by decide) (by rfl) hM ?_ ?_
 ·
  intro i hl hi uu ww aa hJ hd hev hin
  clear hM
  obtain rfl | rfl | rfl | rfl | rfl | rfl | rfl : i = 0 ∨ i = 1 ∨ i = 2 ∨ i = 3 ∨ i = 4 ∨ i = 5 ∨ i = 6 := by omega
  ·
   exact .inr ⟨rfl, fun K' hK => wp_move (.tmp 0) rfl (eval_tmp ((hev 0 (by decide)).trans rfl)) (hK _ _ hJ rfl veL_same)⟩
  ·
   exact .inr ⟨rfl, fun K' hK => wp_ixa 27 (.tmp 2) (.tmp 7) rfl (eval_tmp ((hev 2 (by decide)).trans rfl)) (eval_tmp ((hin 0 7 rfl).trans (congrArg some (show uu 0 = .int .i64 ((i : Int)) from hd 0 (by decide) (by kernel_rfl))))) (run_ixT b hi3) (hK _ _ hJ rfl veL_same)⟩
  ·
   exact .inr ⟨rfl, fun K' hK => wp_load 25 (.tmp 8) rfl b (i * 9) 9 (cT r) (cV (rowT r i)) 27 (hb.below hJ.es.below) (eval_tmp ((hin 1 8 rfl).trans (congrArg some (show uu 1 = .pointer (some ⟨b, i * 9, none⟩) from hd 1 (by decide) (by kernel_rfl))))) ag25 sz25 (cT_le9 r hi3) (cT_row r hi3) (hK _ _ hJ rfl veL_same)⟩
  ·
   exact .inr ⟨rfl, fun K' hK => wp_move (.tmp 1) rfl (eval_tmp ((hev 1 (by decide)).trans rfl)) (hK _ _ hJ rfl veL_same)⟩
  ·
   exact .inr ⟨rfl, fun K' hK => wp_ixa 27 (.tmp 3) (.tmp 10) rfl (eval_tmp ((hev 3 (by decide)).trans rfl)) (eval_tmp ((hin 3 10 rfl).trans (congrArg some (show uu 3 = .int .i64 ((j : Int)) from hd 3 (by decide) (by kernel_rfl))))) (run_ixT c hj3) (hK _ _ hJ rfl veL_same)⟩
  ·
   exact .inr ⟨rfl, fun K' hK => wp_load 25 (.tmp 11) rfl c (j * 9) 9 (cT q) (cV (rowT q j)) 27 (hc.below hJ.es.below) (eval_tmp ((hin 4 11 rfl).trans (congrArg some (show uu 4 = .pointer (some ⟨c, j * 9, none⟩) from hd 4 (by decide) (by kernel_rfl))))) ag25 sz25 (cT_le9 q hj3) (cT_row q hj3) (hK _ _ hJ rfl veL_same)⟩
  ·
   exact .inr ⟨rfl, fun K' hK => wp_callv (.func 26) #[.tmp 9, .tmp 12] _ 26 #[] #[.agg (cV (rowT r i)), .agg (cV (rowT q j))] #[.agg (cV (rowT r i)), .agg (cV (rowT q j))] rfl rfl (map2 (eval_tmp ((hin 2 9 rfl).trans (congrArg some (show uu 2 = .agg (cV (rowT r i)) from hd 2 (by decide) (by kernel_rfl))))) (eval_tmp ((hin 5 12 rfl).trans (congrArg some (show uu 5 = .agg (cV (rowT q j)) from hd 5 (by decide) (by kernel_rfl)))))) (by kernel_rfl) (fun _ _ => by kernel_rfl) (vDot_any (rowT r i) (rowT q j) ww) (fun _ hB => (hK _ _ (hJ.later hB) rfl (veL_later hB)))⟩
 clear hM
 intro uu W2 hJm hd
 have e_0 : uu 0 = .int .i64 ((i : Int)) := hd 0 (by decide)
 have e_1 : uu 1 = .pointer (some ⟨b, i * 9, none⟩) := hd 1 (by decide)
 have e_2 : uu 2 = .agg (cV (rowT r i)) := hd 2 (by decide)
 have e_3 : uu 3 = .int .i64 ((j : Int)) := hd 3 (by decide)
 have e_4 : uu 4 = .pointer (some ⟨c, j * 9, none⟩) := hd 4 (by decide)
 have e_5 : uu 5 = .agg (cV (rowT q j)) := hd 5 (by decide)
 have e_6 : uu 6 = .agg (cS (dotV (rowT r i) (rowT q j))) := hd 6 (by decide)
 clear hd
 simp only [layS, Act.put, zzC, zzD, zzE, Nat.zero_add, Nat.reduceAdd, List.drop_succ_cons, List.drop_zero, List.drop_nil, e_0, e_1, e_2, e_3, e_4, e_5, e_6]
 clear e_0 e_1 e_2 e_3 e_4 e_5 e_6
 have hJ2 := hJm.es
 clear hJm
 go_wp2_with (refine stop_store 23 (.tmp 6) (.tmp 13) 0 bk1 0 (cS zS) 23 3 (cS (dotV (rowT r i) (rowT q j))).toList (cS (dotV (rowT r i) (rowT q j))) [(bk1, (cS (dotV (rowT r i) (rowT q j))), 23)] rfl rfl rfl rfl sz23 hJ2 rfl (by kernel_rfl) (zzF (by kernel_rfl)) (by kernel_rfl) (by kernel_rfl) (by kernel_rfl) (fun W3 hJ3 => ?_))
 clear hJ2
 unfold Stop
 try simp only [Act.put, zzC, zzD, zzE]
 go_wp2
 exact bodyPost_ret (v := .agg (cS (dotV (rowT r i) (rowT q j)))) (results_cell 0 Tryz.results25 hJ3 rfl ag23 sz23 (zzF (by kernel_rfl)) rfl (by kernel_rfl)) rfl ⟨rfl, hJ3.below⟩
set_option maxRecDepth 100000 in
set_option maxHeartbeats 12800000 in
theorem tExp1 (bd bx bk by_ bl : Nat) (d k l : Tu) (x y : Sp) {i j : Nat} (hi3 : i < 3) (hj3 : j < 3)  (w : World) (hbd : Cl w (bd, cT d, 27)) (hbx : Cl w (bx, cS x, 23)) (hbk : Cl w (bk, cT k, 27)) (hby_ : Cl w (by_, cS y, 23)) (hbl : Cl w (bl, cT l, 27))  : Calls Tryz.prog 40 #[.int .i64 ((i : Int)), .int .i64 ((j : Int)), .pointer (some ⟨bd, 0, none⟩), .pointer (some ⟨bx, 0, none⟩), .pointer (some ⟨bk, 0, none⟩), .pointer (some ⟨by_, 0, none⟩), .pointer (some ⟨bl, 0, none⟩)] w (PVal (.agg (cS (addS (addS (atT d i j) (mulS x (atT k i j))) (mulS y (atT l i j))))) w) := by
 have hJ0 := es_nil w
 go_enter Tryz.func40, Tryz.ntmps40
 go_wp2_with (refine stop_alloc 23 (cS zS) (.agg (cS zS)) rfl rfl zv23 rfl hJ0 (fun bk1 W1 hJ1 => ?_))
 clear hJ0
 unfold Stop
 try simp only [Act.put, zzC, zzD, zzE]
 go_wp2
 obtain ⟨m1_1, hm⟩ : ∃ m, m = W1.heap.size := ⟨_, rfl⟩
 have hM := hJ1.em
 rw [← hm] at hM
 clear hm hJ1
 refine wp_region_z 21 [some 10, some 11, some 12, some 13, some 14, some 15, some 16, some 17, some 18, some 19, some 20, some 21, some 22, some 23, some 24, some 25, some 26, some 27, some 28, some 29, some 30] (veL m1_1 [.eq (.int .i64 ((i : Int))), .eq (.int .i64 ((j : Int))), .eq (.pointer (some ⟨bd, i * 9, none⟩)), .eq (.pointer (some ⟨bd, i * 9 + j * 3, none⟩)), .eq (.agg (cS (atT d i j))), .eq (.agg (cS x)), .eq (.int .i64 ((i : Int))), .eq (.int .i64 ((j : Int))), .eq (.pointer (some ⟨bk, i * 9, none⟩)), .eq (.pointer (some ⟨bk, i * 9 + j * 3, none⟩)), .eq (.agg (cS (atT k i j))), .eq (.agg (cS (mulS x (atT k i j)))), .eq (.agg (cS (addS (atT d i j) (mulS x (atT k i j))))), .eq (.agg (cS y)), .eq (.int .i64 ((i : Int))), .eq (.int .i64 ((j : Int))), .eq (.pointer (some ⟨bl, i * 9, none⟩)), .eq (.pointer (some ⟨bl, i * 9 + j * 3, none⟩)), .eq (.agg (cS (atT l i j))), .eq (.agg (cS (mulS y (atT l i j)))), .eq (.agg (cS (addS (addS (atT d i j) (mulS x (atT k i j))) (mulS y (atT l i j)))))]) (Em w m1_1 [(bk1, (cS zS), 23)]) (by kernel_rfl) (by kernel_rfl) (by rfl) (by decide) (by rfl) hM ?_ ?_
 ·
  intro i hl hi uu ww aa hJ hd hev hin
  clear hM
  obtain rfl | rfl | rfl | rfl | rfl | rfl | rfl | rfl | rfl | rfl | rfl | rfl | rfl | rfl | rfl | rfl | rfl | rfl | rfl | rfl | rfl : i = 0 ∨ i = 1 ∨ i = 2 ∨ i = 3 ∨ i = 4 ∨ i = 5 ∨ i = 6 ∨ i = 7 ∨ i = 8 ∨ i = 9 ∨ i = 10 ∨ i = 11 ∨ i = 12 ∨ i = 13 ∨ i = 14 ∨ i = 15 ∨ i = 16 ∨ i = 17 ∨ i = 18 ∨ i = 19 ∨ i = 20 := by omega
  ·
   exact .inr ⟨rfl, fun K' hK => wp_move (.tmp 0) rfl (eval_tmp ((hev 0 (by decide)).trans rfl)) (hK _ _ hJ rfl veL_same)⟩
  ·
   exact .inr ⟨rfl, fun K' hK => wp_move (.tmp 1) rfl (eval_tmp ((hev 1 (by decide)).trans rfl)) (hK _ _ hJ rfl veL_same)⟩
  ·
   exact .inr ⟨rfl, fun K' hK => wp_ixa 27 (.tmp 2) (.tmp 10) rfl (eval_tmp ((hev 2 (by decide)).trans rfl)) (eval_tmp ((hin 0 10 rfl).trans (congrArg some (show uu 0 = .int .i64 ((i : Int)) from hd 0 (by decide) (by kernel_rfl))))) (run_ixT bd hi3) (hK _ _ hJ rfl veL_same)⟩
  ·
   exact .inr ⟨rfl, fun K' hK => wp_ixa 25 (.tmp 12) (.tmp 11) rfl (eval_tmp ((hin 2 12 rfl).trans (congrArg some (show uu 2 = .pointer (some ⟨bd, i * 9, none⟩) from hd 2 (by decide) (by kernel_rfl))))) (eval_tmp ((hin 1 11 rfl).trans (congrArg some (show uu 1 = .int .i64 ((j : Int)) from hd 1 (by decide) (by kernel_rfl))))) (run_ixV bd (i * 9) hj3) (hK _ _ hJ rfl veL_same)⟩
  ·
   exact .inr ⟨rfl, fun K' hK => wp_load 23 (.tmp 13) rfl bd (i * 9 + j * 3) 3 (cT d) (cS (atT d i j)) 27 (hbd.below hJ.es.below) (eval_tmp ((hin 3 13 rfl).trans (congrArg some (show uu 3 = .pointer (some ⟨bd, i * 9 + j * 3, none⟩) from hd 3 (by decide) (by kernel_rfl))))) ag23 sz23 (cT_le d hi3 hj3) (cT_at d hi3 hj3) (hK _ _ hJ rfl veL_same)⟩
  ·
   exact .inr ⟨rfl, fun K' hK => wp_load 23 (.tmp 3) rfl bx 0 3 (cS x) (cS x) 23 (hbx.below hJ.es.below) (eval_tmp ((hev 3 (by decide)).trans rfl)) ag23 sz23 (zzF (by kernel_rfl)) (by kernel_rfl) (hK _ _ hJ rfl veL_same)⟩
  ·
   exact .inr ⟨rfl, fun K' hK => wp_move (.tmp 0) rfl (eval_tmp ((hev 0 (by decide)).trans rfl)) (hK _ _ hJ rfl veL_same)⟩
  ·
   exact .inr ⟨rfl, fun K' hK => wp_move (.tmp 1) rfl (eval_tmp ((hev 1 (by decide)).trans rfl)) (hK _ _ hJ rfl veL_same)⟩
  ·
   exact .inr ⟨rfl, fun K' hK => wp_ixa 27 (.tmp 4) (.tmp 16) rfl (eval_tmp ((hev 4 (by decide)).trans rfl)) (eval_tmp ((hin 6 16 rfl).trans (congrArg some (show uu 6 = .int .i64 ((i : Int)) from hd 6 (by decide) (by kernel_rfl))))) (run_ixT bk hi3) (hK _ _ hJ rfl veL_same)⟩
  ·
   exact .inr ⟨rfl, fun K' hK => wp_ixa 25 (.tmp 18) (.tmp 17) rfl (eval_tmp ((hin 8 18 rfl).trans (congrArg some (show uu 8 = .pointer (some ⟨bk, i * 9, none⟩) from hd 8 (by decide) (by kernel_rfl))))) (eval_tmp ((hin 7 17 rfl).trans (congrArg some (show uu 7 = .int .i64 ((j : Int)) from hd 7 (by decide) (by kernel_rfl))))) (run_ixV bk (i * 9) hj3) (hK _ _ hJ rfl veL_same)⟩
  ·
   exact .inr ⟨rfl, fun K' hK => wp_load 23 (.tmp 19) rfl bk (i * 9 + j * 3) 3 (cT k) (cS (atT k i j)) 27 (hbk.below hJ.es.below) (eval_tmp ((hin 9 19 rfl).trans (congrArg some (show uu 9 = .pointer (some ⟨bk, i * 9 + j * 3, none⟩) from hd 9 (by decide) (by kernel_rfl))))) ag23 sz23 (cT_le k hi3 hj3) (cT_at k hi3 hj3) (hK _ _ hJ rfl veL_same)⟩
  ·
   exact .inr ⟨rfl, fun K' hK => wp_callv (.func 42) #[.tmp 15, .tmp 20] _ 42 #[] #[.agg (cS x), .agg (cS (atT k i j))] #[.agg (cS x), .agg (cS (atT k i j))] rfl rfl (map2 (eval_tmp ((hin 5 15 rfl).trans (congrArg some (show uu 5 = .agg (cS x) from hd 5 (by decide) (by kernel_rfl))))) (eval_tmp ((hin 10 20 rfl).trans (congrArg some (show uu 10 = .agg (cS (atT k i j)) from hd 10 (by decide) (by kernel_rfl)))))) (by kernel_rfl) (fun _ _ => by kernel_rfl) (sMul_any x (atT k i j) ww) (fun _ hB => (hK _ _ (hJ.later hB) rfl (veL_later hB)))⟩
  ·
   exact .inr ⟨rfl, fun K' hK => wp_callv (.func 41) #[.tmp 14, .tmp 21] _ 41 #[] #[.agg (cS (atT d i j)), .agg (cS (mulS x (atT k i j)))] #[.agg (cS (atT d i j)), .agg (cS (mulS x (atT k i j)))] rfl rfl (map2 (eval_tmp ((hin 4 14 rfl).trans (congrArg some (show uu 4 = .agg (cS (atT d i j)) from hd 4 (by decide) (by kernel_rfl))))) (eval_tmp ((hin 11 21 rfl).trans (congrArg some (show uu 11 = .agg (cS (mulS x (atT k i j))) from hd 11 (by decide) (by kernel_rfl)))))) (by kernel_rfl) (fun _ _ => by kernel_rfl) (sAdd_any (atT d i j) (mulS x (atT k i j)) ww) (fun _ hB => (hK _ _ (hJ.later hB) rfl (veL_later hB)))⟩
  ·
   exact .inr ⟨rfl, fun K' hK => wp_load 23 (.tmp 5) rfl by_ 0 3 (cS y) (cS y) 23 (hby_.below hJ.es.below) (eval_tmp ((hev 5 (by decide)).trans rfl)) ag23 sz23 (zzF (by kernel_rfl)) (by kernel_rfl) (hK _ _ hJ rfl veL_same)⟩
  ·
   exact .inr ⟨rfl, fun K' hK => wp_move (.tmp 0) rfl (eval_tmp ((hev 0 (by decide)).trans rfl)) (hK _ _ hJ rfl veL_same)⟩
  ·
   exact .inr ⟨rfl, fun K' hK => wp_move (.tmp 1) rfl (eval_tmp ((hev 1 (by decide)).trans rfl)) (hK _ _ hJ rfl veL_same)⟩
  ·
   exact .inr ⟨rfl, fun K' hK => wp_ixa 27 (.tmp 6) (.tmp 24) rfl (eval_tmp ((hev 6 (by decide)).trans rfl)) (eval_tmp ((hin 14 24 rfl).trans (congrArg some (show uu 14 = .int .i64 ((i : Int)) from hd 14 (by decide) (by kernel_rfl))))) (run_ixT bl hi3) (hK _ _ hJ rfl veL_same)⟩
  ·
   exact .inr ⟨rfl, fun K' hK => wp_ixa 25 (.tmp 26) (.tmp 25) rfl (eval_tmp ((hin 16 26 rfl).trans (congrArg some (show uu 16 = .pointer (some ⟨bl, i * 9, none⟩) from hd 16 (by decide) (by kernel_rfl))))) (eval_tmp ((hin 15 25 rfl).trans (congrArg some (show uu 15 = .int .i64 ((j : Int)) from hd 15 (by decide) (by kernel_rfl))))) (run_ixV bl (i * 9) hj3) (hK _ _ hJ rfl veL_same)⟩
  ·
   exact .inr ⟨rfl, fun K' hK => wp_load 23 (.tmp 27) rfl bl (i * 9 + j * 3) 3 (cT l) (cS (atT l i j)) 27 (hbl.below hJ.es.below) (eval_tmp ((hin 17 27 rfl).trans (congrArg some (show uu 17 = .pointer (some ⟨bl, i * 9 + j * 3, none⟩) from hd 17 (by decide) (by kernel_rfl))))) ag23 sz23 (cT_le l hi3 hj3) (cT_at l hi3 hj3) (hK _ _ hJ rfl veL_same)⟩
  ·
   exact .inr ⟨rfl, fun K' hK => wp_callv (.func 42) #[.tmp 23, .tmp 28] _ 42 #[] #[.agg (cS y), .agg (cS (atT l i j))] #[.agg (cS y), .agg (cS (atT l i j))] rfl rfl (map2 (eval_tmp ((hin 13 23 rfl).trans (congrArg some (show uu 13 = .agg (cS y) from hd 13 (by decide) (by kernel_rfl))))) (eval_tmp ((hin 18 28 rfl).trans (congrArg some (show uu 18 = .agg (cS (atT l i j)) from hd 18 (by decide) (by kernel_rfl)))))) (by kernel_rfl) (fun _ _ => by kernel_rfl) (sMul_any y (atT l i j) ww) (fun _ hB => (hK _ _ (hJ.later hB) rfl (veL_later hB)))⟩
  ·
   exact .inr ⟨rfl, fun K' hK => wp_callv (.func 41) #[.tmp 22, .tmp 29] _ 41 #[] #[.agg (cS (addS (atT d i j) (mulS x (atT k i j)))), .agg (cS (mulS y (atT l i j)))] #[.agg (cS (addS (atT d i j) (mulS x (atT k i j)))), .agg (cS (mulS y (atT l i j)))] rfl rfl (map2 (eval_tmp ((hin 12 22 rfl).trans (congrArg some (show uu 12 = .agg (cS (addS (atT d i j) (mulS x (atT k i j)))) from hd 12 (by decide) (by kernel_rfl))))) (eval_tmp ((hin 19 29 rfl).trans (congrArg some (show uu 19 = .agg (cS (mulS y (atT l i j))) from hd 19 (by decide) (by kernel_rfl)))))) (by kernel_rfl) (fun _ _ => by kernel_rfl) (sAdd_any (addS (atT d i j) (mulS x (atT k i j))) (mulS y (atT l i j)) ww) (fun _ hB => (hK _ _ (hJ.later hB) rfl (veL_later hB)))⟩
 clear hM
 intro uu W2 hJm hd
 have e_0 : uu 0 = .int .i64 ((i : Int)) := hd 0 (by decide)
 have e_1 : uu 1 = .int .i64 ((j : Int)) := hd 1 (by decide)
 have e_2 : uu 2 = .pointer (some ⟨bd, i * 9, none⟩) := hd 2 (by decide)
 have e_3 : uu 3 = .pointer (some ⟨bd, i * 9 + j * 3, none⟩) := hd 3 (by decide)
 have e_4 : uu 4 = .agg (cS (atT d i j)) := hd 4 (by decide)
 have e_5 : uu 5 = .agg (cS x) := hd 5 (by decide)
 have e_6 : uu 6 = .int .i64 ((i : Int)) := hd 6 (by decide)
 have e_7 : uu 7 = .int .i64 ((j : Int)) := hd 7 (by decide)
 have e_8 : uu 8 = .pointer (some ⟨bk, i * 9, none⟩) := hd 8 (by decide)
 have e_9 : uu 9 = .pointer (some ⟨bk, i * 9 + j * 3, none⟩) := hd 9 (by decide)
 have e_10 : uu 10 = .agg (cS (atT k i j)) := hd 10 (by decide)
 have e_11 : uu 11 = .agg (cS (mulS x (atT k i j))) := hd 11 (by decide)
 have e_12 : uu 12 = .agg (cS (addS (atT d i j) (mulS x (atT k i j)))) := hd 12 (by decide)
 have e_13 : uu 13 = .agg (cS y) := hd 13 (by decide)
 have e_14 : uu 14 = .int .i64 ((i : Int)) := hd 14 (by decide)
 have e_15 : uu 15 = .int .i64 ((j : Int)) := hd 15 (by decide)
 have e_16 : uu 16 = .pointer (some ⟨bl, i * 9, none⟩) := hd 16 (by decide)
 have e_17 : uu 17 = .pointer (some ⟨bl, i * 9 + j * 3, none⟩) := hd 17 (by decide)
 have e_18 : uu 18 = .agg (cS (atT l i j)) := hd 18 (by decide)
 have e_19 : uu 19 = .agg (cS (mulS y (atT l i j))) := hd 19 (by decide)
 have e_20 : uu 20 = .agg (cS (addS (addS (atT d i j) (mulS x (atT k i j))) (mulS y (atT l i j)))) := hd 20 (by decide)
 clear hd
 simp only [layS, Act.put, zzC, zzD, zzE, Nat.zero_add, Nat.reduceAdd, List.drop_succ_cons, List.drop_zero, List.drop_nil, e_0, e_1, e_2, e_3, e_4, e_5, e_6, e_7, e_8, e_9, e_10, e_11, e_12, e_13, e_14, e_15, e_16, e_17, e_18, e_19, e_20]
 clear e_0 e_1 e_2 e_3 e_4 e_5 e_6 e_7 e_8 e_9 e_10 e_11 e_12 e_13 e_14 e_15 e_16 e_17 e_18 e_19 e_20
 have hJ2 := hJm.es
 clear hJm
 go_wp2_with (refine stop_store 23 (.tmp 9) (.tmp 30) 0 bk1 0 (cS zS) 23 3 (cS (addS (addS (atT d i j) (mulS x (atT k i j))) (mulS y (atT l i j)))).toList (cS (addS (addS (atT d i j) (mulS x (atT k i j))) (mulS y (atT l i j)))) [(bk1, (cS (addS (addS (atT d i j) (mulS x (atT k i j))) (mulS y (atT l i j)))), 23)] rfl rfl rfl rfl sz23 hJ2 rfl (by kernel_rfl) (zzF (by kernel_rfl)) (by kernel_rfl) (by kernel_rfl) (by kernel_rfl) (fun W3 hJ3 => ?_))
 clear hJ2
 unfold Stop
 try simp only [Act.put, zzC, zzD, zzE]
 go_wp2
 exact bodyPost_ret (v := .agg (cS (addS (addS (atT d i j) (mulS x (atT k i j))) (mulS y (atT l i j))))) (results_cell 0 Tryz.results40 hJ3 rfl ag23 sz23 (zzF (by kernel_rfl)) rfl (by kernel_rfl)) rfl ⟨rfl, hJ3.below⟩
set_option maxRecDepth 100000 in
set_option maxHeartbeats 12800000 in
theorem tId1_eq (i : Int)  (w : World)   : Calls Tryz.prog 43 #[.int .i64 i, .int .i64 i] w (PVal (.agg (cS (ofS 1048576 1048576))) w) := by
 have hJ0 := es_nil w
 go_enter Tryz.func43, Tryz.ntmps43
 go_wp2_with (refine stop_alloc 23 (cS zS) (.agg (cS zS)) rfl rfl zv23 rfl hJ0 (fun bk1 W1 hJ1 => ?_))
 clear hJ0
 unfold Stop
 try simp only [Act.put, zzC, zzD, zzE]
 go_wp2_with fail
 refine (sOf_any 1048576 1048576 W1).mono ?_
 rintro zz W2 ⟨rfl, hB⟩
 have hJ2 := hJ1.later hB
 clear hB
 clear hJ1
 go_wp2_with (refine stop_store 23 (.tmp 4) (.tmp 8) 0 bk1 0 (cS zS) 23 3 (cS (ofS 1048576 1048576)).toList (cS (ofS 1048576 1048576)) [(bk1, (cS (ofS 1048576 1048576)), 23)] rfl rfl rfl rfl sz23 hJ2 rfl (by kernel_rfl) (zzF (by kernel_rfl)) (by kernel_rfl) (by kernel_rfl) (by kernel_rfl) (fun W3 hJ3 => ?_))
 clear hJ2
 unfold Stop
 try simp only [Act.put, zzC, zzD, zzE]
 go_wp2
 exact bodyPost_ret (v := .agg (cS (ofS 1048576 1048576))) (results_cell 0 Tryz.results43 hJ3 rfl ag23 sz23 (zzF (by kernel_rfl)) rfl (by kernel_rfl)) rfl ⟨rfl, hJ3.below⟩
set_option maxRecDepth 100000 in
set_option maxHeartbeats 12800000 in
theorem tId1_ne (i j : Int) (hne : ¬ i = j)  (w : World)   : Calls Tryz.prog 43 #[.int .i64 i, .int .i64 j] w (PVal (.agg (cS (ofS 0 0))) w) := by
 have hJ0 := es_nil w
 go_enter Tryz.func43, Tryz.ntmps43
 go_wp2_with (refine stop_alloc 23 (cS zS) (.agg (cS zS)) rfl rfl zv23 rfl hJ0 (fun bk1 W1 hJ1 => ?_))
 clear hJ0
 unfold Stop
 try simp only [Act.put, zzC, zzD, zzE]
 go_wp2_with fail
 refine (sOf_any 0 0 W1).mono ?_
 rintro zz W2 ⟨rfl, hB⟩
 have hJ2 := hJ1.later hB
 clear hB
 clear hJ1
 go_wp2_with (refine stop_store 23 (.tmp 4) (.tmp 9) 0 bk1 0 (cS zS) 23 3 (cS (ofS 0 0)).toList (cS (ofS 0 0)) [(bk1, (cS (ofS 0 0)), 23)] rfl rfl rfl rfl sz23 hJ2 rfl (by kernel_rfl) (zzF (by kernel_rfl)) (by kernel_rfl) (by kernel_rfl) (by kernel_rfl) (fun W3 hJ3 => ?_))
 clear hJ2
 unfold Stop
 try simp only [Act.put, zzC, zzD, zzE]
 go_wp2
 exact bodyPost_ret (v := .agg (cS (ofS 0 0))) (results_cell 0 Tryz.results43 hJ3 rfl ag23 sz23 (zzF (by kernel_rfl)) rfl (by kernel_rfl)) rfl ⟨rfl, hJ3.below⟩
set_option maxRecDepth 100000 in
set_option maxHeartbeats 12800000 in
theorem tAcr_eq (b : Nat) (w_ : Vc) (i : Int)  (w : World) (hb : Cl w (b, cV w_, 25))  : Calls Tryz.prog 62 #[.int .i64 i, .int .i64 i, .pointer (some ⟨b, 0, none⟩)] w (PVal (.agg (cS (ofS 0 0))) w) := by
 have hJ0 := es_nil w
 go_enter Tryz.func62, Tryz.ntmps62
 go_wp2_with (refine stop_alloc 23 (cS zS) (.agg (cS zS)) rfl rfl zv23 rfl hJ0 (fun bk1 W1 hJ1 => ?_))
 clear hJ0
 unfold Stop
 try simp only [Act.put, zzC, zzD, zzE]
 go_wp2_with fail
 refine (sOf_any 0 0 W1).mono ?_
 rintro zz W2 ⟨rfl, hB⟩
 have hJ2 := hJ1.later hB
 clear hB
 clear hJ1
 go_wp2_with (refine stop_store 23 (.tmp 5) (.tmp 10) 0 bk1 0 (cS zS) 23 3 (cS (ofS 0 0)).toList (cS (ofS 0 0)) [(bk1, (cS (ofS 0 0)), 23)] rfl rfl rfl rfl sz23 hJ2 rfl (by kernel_rfl) (zzF (by kernel_rfl)) (by kernel_rfl) (by kernel_rfl) (by kernel_rfl) (fun W3 hJ3 => ?_))
 clear hJ2
 unfold Stop
 try simp only [Act.put, zzC, zzD, zzE]
 go_wp2
 exact bodyPost_ret (v := .agg (cS (ofS 0 0))) (results_cell 0 Tryz.results62 hJ3 rfl ag23 sz23 (zzF (by kernel_rfl)) rfl (by kernel_rfl)) rfl ⟨rfl, hJ3.below⟩
set_option maxRecDepth 100000 in
set_option maxHeartbeats 12800000 in
theorem tAcr01 (b : Nat) (w_ : Vc)  (w : World) (hb : Cl w (b, cV w_, 25))  : Calls Tryz.prog 62 #[.int .i64 0, .int .i64 1, .pointer (some ⟨b, 0, none⟩)] w (PVal (.agg (cS (negS w_.z))) w) := by
 have hJ0 := es_nil w
 go_enter Tryz.func62, Tryz.ntmps62
 go_wp2_with (refine stop_alloc 23 (cS zS) (.agg (cS zS)) rfl rfl zv23 rfl hJ0 (fun bk1 W1 hJ1 => ?_))
 clear hJ0
 unfold Stop
 try simp only [Act.put, zzC, zzD, zzE]
 go_wp2_with (refine stop_op rfl (fun K hK => wp_load 23 (.tmp 15) rfl b 6 3 (cV w_) (cS w_.z) 25 (hb.below hJ1.below) rfl ag23 sz23 (zzF (by kernel_rfl)) (by kernel_rfl) (hK _ _ ?_)))
 unfold Stop
 try simp only [Act.put, zzC, zzD, zzE]
 go_wp2_with (refine stop_alloc 23 (cS zS) (.agg (cS zS)) rfl rfl zv23 rfl hJ1 (fun bk2 W2 hJ2 => ?_))
 clear hJ1
 unfold Stop
 try simp only [Act.put, zzC, zzD, zzE]
 go_wp2_with (refine stop_store 23 (.tmp 6) (.tmp 16) 0 bk2 0 (cS zS) 23 3 (cS w_.z).toList (cS w_.z) [(bk2, (cS w_.z), 23), (bk1, (cS zS), 23)] rfl rfl rfl rfl sz23 hJ2 rfl (by kernel_rfl) (zzF (by kernel_rfl)) (by kernel_rfl) (by kernel_rfl) (by kernel_rfl) (fun W3 hJ3 => ?_))
 clear hJ2
 unfold Stop
 try simp only [Act.put, zzC, zzD, zzE]
 go_wp2_with (refine stop_op rfl (fun K hK => wp_load 23 (.tmp 6) rfl bk2 0 3 (cS w_.z) (cS w_.z) 23 (hJ3.at' _ (zzG (i := 0) rfl)) rfl ag23 sz23 (zzF (by kernel_rfl)) (by kernel_rfl) (hK _ _ ?_)))
 unfold Stop
 try simp only [Act.put, zzC, zzD, zzE]
 go_wp2_with fail
 refine (sNeg_any w_.z W3).mono ?_
 rintro zz W4 ⟨rfl, hB⟩
 have hJ4 := hJ3.later hB
 clear hB
 clear hJ3
 go_wp2_with (refine stop_store 23 (.tmp 5) (.tmp 23) 1 bk1 0 (cS zS) 23 3 (cS (negS w_.z)).toList (cS (negS w_.z)) [(bk2, (cS w_.z), 23), (bk1, (cS (negS w_.z)), 23)] rfl rfl rfl rfl sz23 hJ4 rfl (by kernel_rfl) (zzF (by kernel_rfl)) (by kernel_rfl) (by kernel_rfl) (by kernel_rfl) (fun W5 hJ5 => ?_))
 clear hJ4
 unfold Stop
 try simp only [Act.put, zzC, zzD, zzE]
 go_wp2
 exact bodyPost_ret (v := .agg (cS (negS w_.z))) (results_cell 1 Tryz.results62 hJ5 rfl ag23 sz23 (zzF (by kernel_rfl)) rfl (by kernel_rfl)) rfl ⟨rfl, hJ5.below⟩
set_option maxRecDepth 100000 in
set_option maxHeartbeats 12800000 in
theorem tAcr02 (b : Nat) (w_ : Vc)  (w : World) (hb : Cl w (b, cV w_, 25))  : Calls Tryz.prog 62 #[.int .i64 0, .int .i64 2, .pointer (some ⟨b, 0, none⟩)] w (PVal (.agg (cS w_.y)) w) := by
 have hJ0 := es_nil w
 go_enter Tryz.func62, Tryz.ntmps62
 go_wp2_with (refine stop_alloc 23 (cS zS) (.agg (cS zS)) rfl rfl zv23 rfl hJ0 (fun bk1 W1 hJ1 => ?_))
 clear hJ0
 unfold Stop
 try simp only [Act.put, zzC, zzD, zzE]
 go_wp2_with (refine stop_op rfl (fun K hK => wp_load 23 (.tmp 15) rfl b 3 3 (cV w_) (cS w_.y) 25 (hb.below hJ1.below) rfl ag23 sz23 (zzF (by kernel_rfl)) (by kernel_rfl) (hK _ _ ?_)))
 unfold Stop
 try simp only [Act.put, zzC, zzD, zzE]
 go_wp2_with (refine stop_alloc 23 (cS zS) (.agg (cS zS)) rfl rfl zv23 rfl hJ1 (fun bk2 W2 hJ2 => ?_))
 clear hJ1
 unfold Stop
 try simp only [Act.put, zzC, zzD, zzE]
 go_wp2_with (refine stop_store 23 (.tmp 6) (.tmp 16) 0 bk2 0 (cS zS) 23 3 (cS w_.y).toList (cS w_.y) [(bk2, (cS w_.y), 23), (bk1, (cS zS), 23)] rfl rfl rfl rfl sz23 hJ2 rfl (by kernel_rfl) (zzF (by kernel_rfl)) (by kernel_rfl) (by kernel_rfl) (by kernel_rfl) (fun W3 hJ3 => ?_))
 clear hJ2
 unfold Stop
 try simp only [Act.put, zzC, zzD, zzE]
 go_wp2_with (refine stop_op rfl (fun K hK => wp_load 23 (.tmp 6) rfl bk2 0 3 (cS w_.y) (cS w_.y) 23 (hJ3.at' _ (zzG (i := 0) rfl)) rfl ag23 sz23 (zzF (by kernel_rfl)) (by kernel_rfl) (hK _ _ ?_)))
 unfold Stop
 try simp only [Act.put, zzC, zzD, zzE]
 go_wp2_with (refine stop_store 23 (.tmp 5) (.tmp 24) 1 bk1 0 (cS zS) 23 3 (cS w_.y).toList (cS w_.y) [(bk2, (cS w_.y), 23), (bk1, (cS w_.y), 23)] rfl rfl rfl rfl sz23 hJ3 rfl (by kernel_rfl) (zzF (by kernel_rfl)) (by kernel_rfl) (by kernel_rfl) (by kernel_rfl) (fun W4 hJ4 => ?_))
 clear hJ3
 unfold Stop
 try simp only [Act.put, zzC, zzD, zzE]
 go_wp2
 exact bodyPost_ret (v := .agg (cS w_.y)) (results_cell 1 Tryz.results62 hJ4 rfl ag23 sz23 (zzF (by kernel_rfl)) rfl (by kernel_rfl)) rfl ⟨rfl, hJ4.below⟩
set_option maxRecDepth 100000 in
set_option maxHeartbeats 12800000 in
theorem tAcr10 (b : Nat) (w_ : Vc)  (w : World) (hb : Cl w (b, cV w_, 25))  : Calls Tryz.prog 62 #[.int .i64 1, .int .i64 0, .pointer (some ⟨b, 0, none⟩)] w (PVal (.agg (cS w_.z)) w) := by
 have hJ0 := es_nil w
 go_enter Tryz.func62, Tryz.ntmps62
 go_wp2_with (refine stop_alloc 23 (cS zS) (.agg (cS zS)) rfl rfl zv23 rfl hJ0 (fun bk1 W1 hJ1 => ?_))
 clear hJ0
 unfold Stop
 try simp only [Act.put, zzC, zzD, zzE]
 go_wp2_with (refine stop_op rfl (fun K hK => wp_load 23 (.tmp 15) rfl b 6 3 (cV w_) (cS w_.z) 25 (hb.below hJ1.below) rfl ag23 sz23 (zzF (by kernel_rfl)) (by kernel_rfl) (hK _ _ ?_)))
 unfold Stop
 try simp only [Act.put, zzC, zzD, zzE]
 go_wp2_with (refine stop_alloc 23 (cS zS) (.agg (cS zS)) rfl rfl zv23 rfl hJ1 (fun bk2 W2 hJ2 => ?_))
 clear hJ1
 unfold Stop
 try simp only [Act.put, zzC, zzD, zzE]
 go_wp2_with (refine stop_store 23 (.tmp 6) (.tmp 16) 0 bk2 0 (cS zS) 23 3 (cS w_.z).toList (cS w_.z) [(bk2, (cS w_.z), 23), (bk1, (cS zS), 23)] rfl rfl rfl rfl sz23 hJ2 rfl (by kernel_rfl) (zzF (by kernel_rfl)) (by kernel_rfl) (by kernel_rfl) (by kernel_rfl) (fun W3 hJ3 => ?_))
 clear hJ2
 unfold Stop
 try simp only [Act.put, zzC, zzD, zzE]
 go_wp2_with (refine stop_op rfl (fun K hK => wp_load 23 (.tmp 6) rfl bk2 0 3 (cS w_.z) (cS w_.z) 23 (hJ3.at' _ (zzG (i := 0) rfl)) rfl ag23 sz23 (zzF (by kernel_rfl)) (by kernel_rfl) (hK _ _ ?_)))
 unfold Stop
 try simp only [Act.put, zzC, zzD, zzE]
 go_wp2_with (refine stop_store 23 (.tmp 5) (.tmp 24) 1 bk1 0 (cS zS) 23 3 (cS w_.z).toList (cS w_.z) [(bk2, (cS w_.z), 23), (bk1, (cS w_.z), 23)] rfl rfl rfl rfl sz23 hJ3 rfl (by kernel_rfl) (zzF (by kernel_rfl)) (by kernel_rfl) (by kernel_rfl) (by kernel_rfl) (fun W4 hJ4 => ?_))
 clear hJ3
 unfold Stop
 try simp only [Act.put, zzC, zzD, zzE]
 go_wp2
 exact bodyPost_ret (v := .agg (cS w_.z)) (results_cell 1 Tryz.results62 hJ4 rfl ag23 sz23 (zzF (by kernel_rfl)) rfl (by kernel_rfl)) rfl ⟨rfl, hJ4.below⟩
set_option maxRecDepth 100000 in
set_option maxHeartbeats 12800000 in
theorem tAcr12 (b : Nat) (w_ : Vc)  (w : World) (hb : Cl w (b, cV w_, 25))  : Calls Tryz.prog 62 #[.int .i64 1, .int .i64 2, .pointer (some ⟨b, 0, none⟩)] w (PVal (.agg (cS (negS w_.x))) w) := by
 have hJ0 := es_nil w
 go_enter Tryz.func62, Tryz.ntmps62
 go_wp2_with (refine stop_alloc 23 (cS zS) (.agg (cS zS)) rfl rfl zv23 rfl hJ0 (fun bk1 W1 hJ1 => ?_))
 clear hJ0
 unfold Stop
 try simp only [Act.put, zzC, zzD, zzE]
 go_wp2_with (refine stop_op rfl (fun K hK => wp_load 23 (.tmp 15) rfl b 0 3 (cV w_) (cS w_.x) 25 (hb.below hJ1.below) rfl ag23 sz23 (zzF (by kernel_rfl)) (by kernel_rfl) (hK _ _ ?_)))
 unfold Stop
 try simp only [Act.put, zzC, zzD, zzE]
 go_wp2_with (refine stop_alloc 23 (cS zS) (.agg (cS zS)) rfl rfl zv23 rfl hJ1 (fun bk2 W2 hJ2 => ?_))
 clear hJ1
 unfold Stop
 try simp only [Act.put, zzC, zzD, zzE]
 go_wp2_with (refine stop_store 23 (.tmp 6) (.tmp 16) 0 bk2 0 (cS zS) 23 3 (cS w_.x).toList (cS w_.x) [(bk2, (cS w_.x), 23), (bk1, (cS zS), 23)] rfl rfl rfl rfl sz23 hJ2 rfl (by kernel_rfl) (zzF (by kernel_rfl)) (by kernel_rfl) (by kernel_rfl) (by kernel_rfl) (fun W3 hJ3 => ?_))
 clear hJ2
 unfold Stop
 try simp only [Act.put, zzC, zzD, zzE]
 go_wp2_with (refine stop_op rfl (fun K hK => wp_load 23 (.tmp 6) rfl bk2 0 3 (cS w_.x) (cS w_.x) 23 (hJ3.at' _ (zzG (i := 0) rfl)) rfl ag23 sz23 (zzF (by kernel_rfl)) (by kernel_rfl) (hK _ _ ?_)))
 unfold Stop
 try simp only [Act.put, zzC, zzD, zzE]
 go_wp2_with fail
 refine (sNeg_any w_.x W3).mono ?_
 rintro zz W4 ⟨rfl, hB⟩
 have hJ4 := hJ3.later hB
 clear hB
 clear hJ3
 go_wp2_with (refine stop_store 23 (.tmp 5) (.tmp 23) 1 bk1 0 (cS zS) 23 3 (cS (negS w_.x)).toList (cS (negS w_.x)) [(bk2, (cS w_.x), 23), (bk1, (cS (negS w_.x)), 23)] rfl rfl rfl rfl sz23 hJ4 rfl (by kernel_rfl) (zzF (by kernel_rfl)) (by kernel_rfl) (by kernel_rfl) (by kernel_rfl) (fun W5 hJ5 => ?_))
 clear hJ4
 unfold Stop
 try simp only [Act.put, zzC, zzD, zzE]
 go_wp2
 exact bodyPost_ret (v := .agg (cS (negS w_.x))) (results_cell 1 Tryz.results62 hJ5 rfl ag23 sz23 (zzF (by kernel_rfl)) rfl (by kernel_rfl)) rfl ⟨rfl, hJ5.below⟩
set_option maxRecDepth 100000 in
set_option maxHeartbeats 12800000 in
theorem tAcr20 (b : Nat) (w_ : Vc)  (w : World) (hb : Cl w (b, cV w_, 25))  : Calls Tryz.prog 62 #[.int .i64 2, .int .i64 0, .pointer (some ⟨b, 0, none⟩)] w (PVal (.agg (cS (negS w_.y))) w) := by
 have hJ0 := es_nil w
 go_enter Tryz.func62, Tryz.ntmps62
 go_wp2_with (refine stop_alloc 23 (cS zS) (.agg (cS zS)) rfl rfl zv23 rfl hJ0 (fun bk1 W1 hJ1 => ?_))
 clear hJ0
 unfold Stop
 try simp only [Act.put, zzC, zzD, zzE]
 go_wp2_with (refine stop_op rfl (fun K hK => wp_load 23 (.tmp 15) rfl b 3 3 (cV w_) (cS w_.y) 25 (hb.below hJ1.below) rfl ag23 sz23 (zzF (by kernel_rfl)) (by kernel_rfl) (hK _ _ ?_)))
 unfold Stop
 try simp only [Act.put, zzC, zzD, zzE]
 go_wp2_with (refine stop_alloc 23 (cS zS) (.agg (cS zS)) rfl rfl zv23 rfl hJ1 (fun bk2 W2 hJ2 => ?_))
 clear hJ1
 unfold Stop
 try simp only [Act.put, zzC, zzD, zzE]
 go_wp2_with (refine stop_store 23 (.tmp 6) (.tmp 16) 0 bk2 0 (cS zS) 23 3 (cS w_.y).toList (cS w_.y) [(bk2, (cS w_.y), 23), (bk1, (cS zS), 23)] rfl rfl rfl rfl sz23 hJ2 rfl (by kernel_rfl) (zzF (by kernel_rfl)) (by kernel_rfl) (by kernel_rfl) (by kernel_rfl) (fun W3 hJ3 => ?_))
 clear hJ2
 unfold Stop
 try simp only [Act.put, zzC, zzD, zzE]
 go_wp2_with (refine stop_op rfl (fun K hK => wp_load 23 (.tmp 6) rfl bk2 0 3 (cS w_.y) (cS w_.y) 23 (hJ3.at' _ (zzG (i := 0) rfl)) rfl ag23 sz23 (zzF (by kernel_rfl)) (by kernel_rfl) (hK _ _ ?_)))
 unfold Stop
 try simp only [Act.put, zzC, zzD, zzE]
 go_wp2_with fail
 refine (sNeg_any w_.y W3).mono ?_
 rintro zz W4 ⟨rfl, hB⟩
 have hJ4 := hJ3.later hB
 clear hB
 clear hJ3
 go_wp2_with (refine stop_store 23 (.tmp 5) (.tmp 23) 1 bk1 0 (cS zS) 23 3 (cS (negS w_.y)).toList (cS (negS w_.y)) [(bk2, (cS w_.y), 23), (bk1, (cS (negS w_.y)), 23)] rfl rfl rfl rfl sz23 hJ4 rfl (by kernel_rfl) (zzF (by kernel_rfl)) (by kernel_rfl) (by kernel_rfl) (by kernel_rfl) (fun W5 hJ5 => ?_))
 clear hJ4
 unfold Stop
 try simp only [Act.put, zzC, zzD, zzE]
 go_wp2
 exact bodyPost_ret (v := .agg (cS (negS w_.y))) (results_cell 1 Tryz.results62 hJ5 rfl ag23 sz23 (zzF (by kernel_rfl)) rfl (by kernel_rfl)) rfl ⟨rfl, hJ5.below⟩
set_option maxRecDepth 100000 in
set_option maxHeartbeats 12800000 in
theorem tAcr21 (b : Nat) (w_ : Vc)  (w : World) (hb : Cl w (b, cV w_, 25))  : Calls Tryz.prog 62 #[.int .i64 2, .int .i64 1, .pointer (some ⟨b, 0, none⟩)] w (PVal (.agg (cS w_.x)) w) := by
 have hJ0 := es_nil w
 go_enter Tryz.func62, Tryz.ntmps62
 go_wp2_with (refine stop_alloc 23 (cS zS) (.agg (cS zS)) rfl rfl zv23 rfl hJ0 (fun bk1 W1 hJ1 => ?_))
 clear hJ0
 unfold Stop
 try simp only [Act.put, zzC, zzD, zzE]
 go_wp2_with (refine stop_op rfl (fun K hK => wp_load 23 (.tmp 15) rfl b 0 3 (cV w_) (cS w_.x) 25 (hb.below hJ1.below) rfl ag23 sz23 (zzF (by kernel_rfl)) (by kernel_rfl) (hK _ _ ?_)))
 unfold Stop
 try simp only [Act.put, zzC, zzD, zzE]
 go_wp2_with (refine stop_alloc 23 (cS zS) (.agg (cS zS)) rfl rfl zv23 rfl hJ1 (fun bk2 W2 hJ2 => ?_))
 clear hJ1
 unfold Stop
 try simp only [Act.put, zzC, zzD, zzE]
 go_wp2_with (refine stop_store 23 (.tmp 6) (.tmp 16) 0 bk2 0 (cS zS) 23 3 (cS w_.x).toList (cS w_.x) [(bk2, (cS w_.x), 23), (bk1, (cS zS), 23)] rfl rfl rfl rfl sz23 hJ2 rfl (by kernel_rfl) (zzF (by kernel_rfl)) (by kernel_rfl) (by kernel_rfl) (by kernel_rfl) (fun W3 hJ3 => ?_))
 clear hJ2
 unfold Stop
 try simp only [Act.put, zzC, zzD, zzE]
 go_wp2_with (refine stop_op rfl (fun K hK => wp_load 23 (.tmp 6) rfl bk2 0 3 (cS w_.x) (cS w_.x) 23 (hJ3.at' _ (zzG (i := 0) rfl)) rfl ag23 sz23 (zzF (by kernel_rfl)) (by kernel_rfl) (hK _ _ ?_)))
 unfold Stop
 try simp only [Act.put, zzC, zzD, zzE]
 go_wp2_with (refine stop_store 23 (.tmp 5) (.tmp 24) 1 bk1 0 (cS zS) 23 3 (cS w_.x).toList (cS w_.x) [(bk2, (cS w_.x), 23), (bk1, (cS w_.x), 23)] rfl rfl rfl rfl sz23 hJ3 rfl (by kernel_rfl) (zzF (by kernel_rfl)) (by kernel_rfl) (by kernel_rfl) (by kernel_rfl) (fun W4 hJ4 => ?_))
 clear hJ3
 unfold Stop
 try simp only [Act.put, zzC, zzD, zzE]
 go_wp2
 exact bodyPost_ret (v := .agg (cS w_.x)) (results_cell 1 Tryz.results62 hJ4 rfl ag23 sz23 (zzF (by kernel_rfl)) rfl (by kernel_rfl)) rfl ⟨rfl, hJ4.below⟩
end Go.Proofs.YtolpfibihialkaaGreat
