/- Parts of the proof. -/
import Derived.Test.YtdochhhepmlapaaGd37
/- The walk of the law RotChain. No statement of the seat is proved here. -/
namespace Go.Proofs.Ytdochhhepmlapaa
open Go Go.RowKit
set_option maxRecDepth 100000 in
set_option maxHeartbeats 12800000 in
theorem rc_w (r q s : Tu) (v : Vc) (hHo : ∀ W : World, Calls Try.prog 36 #[.agg (cT r), .agg (cT (mulT idT r))] W (PVal (.bool true) W)) (w : World)   : Calls Try.prog 9 #[.agg (cT r), .agg (cT q), .agg (cT s), .agg (cV v)] w (PVal (.bool true) w) := by
 have Ho := Lib.hid hHo
 clear hHo
 have hJ0 := es_nil w
 go_enter Try.func9, Try.ntmps9
 go_wp2_with (refine stop_box 50 (.tmp 0) (cT r) rfl rfl rfl hJ0 (fun bk1 W1 hJ1 => ?_))
 clear hJ0
 unfold Stop
 try simp only [Act.put, List.setIfInBounds_toArray, List.set_cons_succ, List.set_cons_zero]
 go_wp2_with (refine stop_box 50 (.tmp 1) (cT q) rfl rfl rfl hJ1 (fun bk2 W2 hJ2 => ?_))
 clear hJ1
 unfold Stop
 try simp only [Act.put, List.setIfInBounds_toArray, List.set_cons_succ, List.set_cons_zero]
 go_wp2_with (refine stop_box 50 (.tmp 2) (cT s) rfl rfl rfl hJ2 (fun bk3 W3 hJ3 => ?_))
 clear hJ2
 unfold Stop
 try simp only [Act.put, List.setIfInBounds_toArray, List.set_cons_succ, List.set_cons_zero]
 go_wp2_with (refine stop_box 25 (.tmp 3) (cV v) rfl rfl rfl hJ3 (fun bk4 W4 hJ4 => ?_))
 clear hJ3
 unfold Stop
 try simp only [Act.put, List.setIfInBounds_toArray, List.set_cons_succ, List.set_cons_zero]
 go_wp2_with fail
 refine (rawake_any W4).mono ?_
 rintro zz W5 ⟨rfl, hB⟩
 have hJ5 := hJ4.later hB
 clear hB
 clear hJ4
 go_wp2
 obtain ⟨m2_5, hm⟩ : ∃ m, m = W5.heap.size := ⟨_, rfl⟩
 have hM := hJ5.em
 rw [← hm] at hM
 clear hm hJ5
 refine wp_region_z 6 [some 24, some 25, some 26, some 27, some 28, some 10] (veL m2_5 [.eq (.agg (cT r)), .eq (.agg (cT q)), .eq (.agg (cT (mulT r q))), .eq (.agg (cT s)), .eq (.agg (cT (mulT (mulT r q) s))), .box (cT zT) 50]) (Em w m2_5 [(bk4, (cV v), 25), (bk3, (cT s), 50), (bk2, (cT q), 50), (bk1, (cT r), 50)]) (by kernel_rfl) (by kernel_rfl) (by rfl) (by decide) (by rfl) hM ?_ ?_
 ·
  intro i hl hi uu ww aa hJ hd hev hin
  clear hM
  obtain rfl | rfl | rfl | rfl | rfl | rfl : i = 0 ∨ i = 1 ∨ i = 2 ∨ i = 3 ∨ i = 4 ∨ i = 5 := by omega
  ·
   exact .inr ⟨rfl, fun K' hK => wp_load 50 (.tmp 4) rfl bk1 0 27 (cT r) (cT r) 50 (hJ.es.at' _ (List.mem_of_getElem? (i := 3) rfl)) (eval_tmp ((hev 4 (by decide)).trans rfl)) ag50 sz50 (Nat.le_of_ble_eq_true (by kernel_rfl)) (by kernel_rfl) (hK _ _ hJ rfl veL_same)⟩
  ·
   exact .inr ⟨rfl, fun K' hK => wp_load 50 (.tmp 5) rfl bk2 0 27 (cT q) (cT q) 50 (hJ.es.at' _ (List.mem_of_getElem? (i := 2) rfl)) (eval_tmp ((hev 5 (by decide)).trans rfl)) ag50 sz50 (Nat.le_of_ble_eq_true (by kernel_rfl)) (by kernel_rfl) (hK _ _ hJ rfl veL_same)⟩
  ·
   exact .inr ⟨rfl, fun K' hK => wp_callv (.func 37) #[.tmp 24, .tmp 25] _ 37 #[] #[.agg (cT r), .agg (cT q)] #[.agg (cT r), .agg (cT q)] rfl rfl (map2 (eval_tmp ((hin 0 24 rfl).trans (congrArg some (show uu 0 = .agg (cT r) from hd 0 (by decide) (by kernel_rfl))))) (eval_tmp ((hin 1 25 rfl).trans (congrArg some (show uu 1 = .agg (cT q) from hd 1 (by decide) (by kernel_rfl)))))) (by kernel_rfl) (fun _ _ => by kernel_rfl) (tMul_any r q ww) (fun _ hB => (hK _ _ (hJ.later hB) rfl (veL_later hB)))⟩
  ·
   exact .inr ⟨rfl, fun K' hK => wp_load 50 (.tmp 6) rfl bk3 0 27 (cT s) (cT s) 50 (hJ.es.at' _ (List.mem_of_getElem? (i := 1) rfl)) (eval_tmp ((hev 6 (by decide)).trans rfl)) ag50 sz50 (Nat.le_of_ble_eq_true (by kernel_rfl)) (by kernel_rfl) (hK _ _ hJ rfl veL_same)⟩
  ·
   exact .inr ⟨rfl, fun K' hK => wp_callv (.func 37) #[.tmp 26, .tmp 27] _ 37 #[] #[.agg (cT (mulT r q)), .agg (cT s)] #[.agg (cT (mulT r q)), .agg (cT s)] rfl rfl (map2 (eval_tmp ((hin 2 26 rfl).trans (congrArg some (show uu 2 = .agg (cT (mulT r q)) from hd 2 (by decide) (by kernel_rfl))))) (eval_tmp ((hin 3 27 rfl).trans (congrArg some (show uu 3 = .agg (cT s) from hd 3 (by decide) (by kernel_rfl)))))) (by kernel_rfl) (fun _ _ => by kernel_rfl) (tMul_any (mulT r q) s ww) (fun _ hB => (hK _ _ (hJ.later hB) rfl (veL_later hB)))⟩
  ·
   exact .inr ⟨rfl, fun K' hK => wp_alloc 50 rfl (.agg (cT zT)) zv50 (hK _ _ (hJ.later ((Below.refl _ _).alloc (Nat.le_refl _) _)) ⟨ww.heap.size, rfl, hJ.le, heap_new ww _⟩ (veL_later ((Below.refl _ _).alloc (Nat.le_refl _) _)))⟩
 clear hM
 intro uu W6 hJm hd
 have e_0 : uu 0 = .agg (cT r) := hd 0 (by decide)
 have e_1 : uu 1 = .agg (cT q) := hd 1 (by decide)
 have e_2 : uu 2 = .agg (cT (mulT r q)) := hd 2 (by decide)
 have e_3 : uu 3 = .agg (cT s) := hd 3 (by decide)
 have e_4 : uu 4 = .agg (cT (mulT (mulT r q) s)) := hd 4 (by decide)
 obtain ⟨bk5, e_5, nge5, nB5⟩ := (show veP m2_5 (.box (cT zT) 50) (uu 5) W6 from hd 5 (by decide))
 clear hd
 simp only [layS, Act.put, List.setIfInBounds_toArray, List.set_cons_succ, List.set_cons_zero, Nat.zero_add, Nat.reduceAdd, List.drop_succ_cons, List.drop_zero, List.drop_nil, e_0, e_1, e_2, e_3, e_4, e_5]
 clear e_0 e_1 e_2 e_3 e_4 e_5
 have hJ6 := hJm.join nge5 nB5
 clear hJm nge5 nB5
 go_wp2_with (refine stop_store 50 (.tmp 10) (.tmp 28) 0 bk5 0 (cT zT) 50 27 (cT (mulT (mulT r q) s)).toList (cT (mulT (mulT r q) s)) [(bk5, (cT (mulT (mulT r q) s)), 50), (bk4, (cV v), 25), (bk3, (cT s), 50), (bk2, (cT q), 50), (bk1, (cT r), 50)] rfl rfl rfl rfl sz50 hJ6 rfl (by kernel_rfl) (Nat.le_of_ble_eq_true (by kernel_rfl)) (by kernel_rfl) (by kernel_rfl) (by kernel_rfl) (fun W7 hJ7 => ?_))
 clear hJ6
 unfold Stop
 try simp only [Act.put, List.setIfInBounds_toArray, List.set_cons_succ, List.set_cons_zero]
 go_wp2
 obtain ⟨m3_7, hm⟩ : ∃ m, m = W7.heap.size := ⟨_, rfl⟩
 have hM := hJ7.em
 rw [← hm] at hM
 clear hm hJ7
 refine wp_region_z 6 [some 29, some 30, some 31, some 32, some 33, some 11] (veL m3_7 [.eq (.agg (cT r)), .eq (.agg (cT q)), .eq (.agg (cT s)), .eq (.agg (cT (mulT q s))), .eq (.agg (cT (mulT r (mulT q s)))), .box (cT zT) 50]) (Em w m3_7 [(bk5, (cT (mulT (mulT r q) s)), 50), (bk4, (cV v), 25), (bk3, (cT s), 50), (bk2, (cT q), 50), (bk1, (cT r), 50)]) (by kernel_rfl) (by kernel_rfl) (by rfl) (by decide) (by rfl) hM ?_ ?_
 ·
  intro i hl hi uu ww aa hJ hd hev hin
  clear hM
  obtain rfl | rfl | rfl | rfl | rfl | rfl : i = 0 ∨ i = 1 ∨ i = 2 ∨ i = 3 ∨ i = 4 ∨ i = 5 := by omega
  ·
   exact .inr ⟨rfl, fun K' hK => wp_load 50 (.tmp 4) rfl bk1 0 27 (cT r) (cT r) 50 (hJ.es.at' _ (List.mem_of_getElem? (i := 4) rfl)) (eval_tmp ((hev 4 (by decide)).trans rfl)) ag50 sz50 (Nat.le_of_ble_eq_true (by kernel_rfl)) (by kernel_rfl) (hK _ _ hJ rfl veL_same)⟩
  ·
   exact .inr ⟨rfl, fun K' hK => wp_load 50 (.tmp 5) rfl bk2 0 27 (cT q) (cT q) 50 (hJ.es.at' _ (List.mem_of_getElem? (i := 3) rfl)) (eval_tmp ((hev 5 (by decide)).trans rfl)) ag50 sz50 (Nat.le_of_ble_eq_true (by kernel_rfl)) (by kernel_rfl) (hK _ _ hJ rfl veL_same)⟩
  ·
   exact .inr ⟨rfl, fun K' hK => wp_load 50 (.tmp 6) rfl bk3 0 27 (cT s) (cT s) 50 (hJ.es.at' _ (List.mem_of_getElem? (i := 2) rfl)) (eval_tmp ((hev 6 (by decide)).trans rfl)) ag50 sz50 (Nat.le_of_ble_eq_true (by kernel_rfl)) (by kernel_rfl) (hK _ _ hJ rfl veL_same)⟩
  ·
   exact .inr ⟨rfl, fun K' hK => wp_callv (.func 37) #[.tmp 30, .tmp 31] _ 37 #[] #[.agg (cT q), .agg (cT s)] #[.agg (cT q), .agg (cT s)] rfl rfl (map2 (eval_tmp ((hin 1 30 rfl).trans (congrArg some (show uu 1 = .agg (cT q) from hd 1 (by decide) (by kernel_rfl))))) (eval_tmp ((hin 2 31 rfl).trans (congrArg some (show uu 2 = .agg (cT s) from hd 2 (by decide) (by kernel_rfl)))))) (by kernel_rfl) (fun _ _ => by kernel_rfl) (tMul_any q s ww) (fun _ hB => (hK _ _ (hJ.later hB) rfl (veL_later hB)))⟩
  ·
   exact .inr ⟨rfl, fun K' hK => wp_callv (.func 37) #[.tmp 29, .tmp 32] _ 37 #[] #[.agg (cT r), .agg (cT (mulT q s))] #[.agg (cT r), .agg (cT (mulT q s))] rfl rfl (map2 (eval_tmp ((hin 0 29 rfl).trans (congrArg some (show uu 0 = .agg (cT r) from hd 0 (by decide) (by kernel_rfl))))) (eval_tmp ((hin 3 32 rfl).trans (congrArg some (show uu 3 = .agg (cT (mulT q s)) from hd 3 (by decide) (by kernel_rfl)))))) (by kernel_rfl) (fun _ _ => by kernel_rfl) (tMul_any r (mulT q s) ww) (fun _ hB => (hK _ _ (hJ.later hB) rfl (veL_later hB)))⟩
  ·
   exact .inr ⟨rfl, fun K' hK => wp_alloc 50 rfl (.agg (cT zT)) zv50 (hK _ _ (hJ.later ((Below.refl _ _).alloc (Nat.le_refl _) _)) ⟨ww.heap.size, rfl, hJ.le, heap_new ww _⟩ (veL_later ((Below.refl _ _).alloc (Nat.le_refl _) _)))⟩
 clear hM
 intro uu W8 hJm hd
 have e_0 : uu 0 = .agg (cT r) := hd 0 (by decide)
 have e_1 : uu 1 = .agg (cT q) := hd 1 (by decide)
 have e_2 : uu 2 = .agg (cT s) := hd 2 (by decide)
 have e_3 : uu 3 = .agg (cT (mulT q s)) := hd 3 (by decide)
 have e_4 : uu 4 = .agg (cT (mulT r (mulT q s))) := hd 4 (by decide)
 obtain ⟨bk6, e_5, nge5, nB5⟩ := (show veP m3_7 (.box (cT zT) 50) (uu 5) W8 from hd 5 (by decide))
 clear hd
 simp only [layS, Act.put, List.setIfInBounds_toArray, List.set_cons_succ, List.set_cons_zero, Nat.zero_add, Nat.reduceAdd, List.drop_succ_cons, List.drop_zero, List.drop_nil, e_0, e_1, e_2, e_3, e_4, e_5]
 clear e_0 e_1 e_2 e_3 e_4 e_5
 have hJ8 := hJm.join nge5 nB5
 clear hJm nge5 nB5
 go_wp2_with (refine stop_store 50 (.tmp 11) (.tmp 33) 0 bk6 0 (cT zT) 50 27 (cT (mulT r (mulT q s))).toList (cT (mulT r (mulT q s))) [(bk6, (cT (mulT r (mulT q s))), 50), (bk5, (cT (mulT (mulT r q) s)), 50), (bk4, (cV v), 25), (bk3, (cT s), 50), (bk2, (cT q), 50), (bk1, (cT r), 50)] rfl rfl rfl rfl sz50 hJ8 rfl (by kernel_rfl) (Nat.le_of_ble_eq_true (by kernel_rfl)) (by kernel_rfl) (by kernel_rfl) (by kernel_rfl) (fun W9 hJ9 => ?_))
 clear hJ8
 unfold Stop
 try simp only [Act.put, List.setIfInBounds_toArray, List.set_cons_succ, List.set_cons_zero]
 go_wp2
 refine wp_loop_rounds 4 ?_
 rw [rounds_succ]
 go_wp2
 refine wp_loop_rounds 4 ?_
 rw [rounds_succ]
 go_wp2
 obtain ⟨m10_9, hm⟩ : ∃ m, m = W9.heap.size := ⟨_, rfl⟩
 have hM : ∀ uu, Jz w m10_9 [(bk6, (cT (mulT r (mulT q s))), 50), (bk5, (cT (mulT (mulT r q) s)), 50), (bk4, (cV v), 25), (bk3, (cT s), 50), (bk2, (cT q), 50), (bk1, (cT r), 50)] [(14, 3, 23)] [(15, 14, (cS (meetS (mulT (mulT r q) s).a.x (mulT r (mulT q s)).a.x)), 23)] (fun _ => false) uu W9.drew := fun uu => by rw [hm]; exact Jz.start hJ9 uu
 clear hm hJ9
 refine wp_region_y 17 [some 43, some 44, some 45, some 46, some 47, some 48, some 49, some 50, some 51, some 52, some 53, some 42, some 54, some 55, some 14, none, some 15] (veL m10_9 [.eq (.int .i64 0), .eq (.int .i64 0), .eq (.pointer (some ⟨bk5, 0, none⟩)), .eq (.pointer (some ⟨bk5, 0, none⟩)), .eq (.agg (cS (mulT (mulT r q) s).a.x)), .eq (.int .i64 0), .eq (.int .i64 0), .eq (.pointer (some ⟨bk6, 0, none⟩)), .eq (.pointer (some ⟨bk6, 0, none⟩)), .eq (.agg (cS (mulT r (mulT q s)).a.x)), .eq (.tuple #[.agg (cS (meetS (mulT (mulT r q) s).a.x (mulT r (mulT q s)).a.x)), .bool true]), .eq (.tuple #[.agg (cS (meetS (mulT (mulT r q) s).a.x (mulT r (mulT q s)).a.x)), .bool true]), .eq (.agg (cS (meetS (mulT (mulT r q) s).a.x (mulT r (mulT q s)).a.x))), .eq (.bool true), .any, .any, .eq (.bool true)]) (Jz w m10_9 [(bk6, (cT (mulT r (mulT q s))), 50), (bk5, (cT (mulT (mulT r q) s)), 50), (bk4, (cV v), 25), (bk3, (cT s), 50), (bk2, (cT q), 50), (bk1, (cT r), 50)] [(14, 3, 23)] [(15, 14, (cS (meetS (mulT (mulT r q) s).a.x (mulT r (mulT q s)).a.x)), 23)]) (by kernel_rfl) (by kernel_rfl) (by rfl) (by decide) (by rfl) hM ?_ ?_
 ·
  intro i hl hi LL uu ww aa hLi hJ hd hev hin
  clear hM
  obtain rfl | rfl | rfl | rfl | rfl | rfl | rfl | rfl | rfl | rfl | rfl | rfl | rfl | rfl | rfl | rfl | rfl : i = 0 ∨ i = 1 ∨ i = 2 ∨ i = 3 ∨ i = 4 ∨ i = 5 ∨ i = 6 ∨ i = 7 ∨ i = 8 ∨ i = 9 ∨ i = 10 ∨ i = 11 ∨ i = 12 ∨ i = 13 ∨ i = 14 ∨ i = 15 ∨ i = 16 := by omega
  ·
   exact .inr ⟨rfl, fun K' hK => wp_move (.tmp 12) rfl (eval_tmp ((hev 12 (by decide)).trans rfl)) (hK _ _ (hJ.grow hLi (by simp) (by simp) (Below.refl _ _)) rfl veL_same)⟩
  ·
   exact .inr ⟨rfl, fun K' hK => wp_move (.tmp 13) rfl (eval_tmp ((hev 13 (by decide)).trans rfl)) (hK _ _ (hJ.grow hLi (by simp) (by simp) (Below.refl _ _)) rfl veL_same)⟩
  ·
   exact .inr ⟨rfl, fun K' hK => wp_ixa 50 (.tmp 10) (.tmp 43) rfl (eval_tmp ((hev 10 (by decide)).trans rfl)) (eval_tmp ((hin 0 43 rfl).trans (congrArg some (show uu 0 = .int .i64 0 from (hd 0 (by decide) (by kernel_rfl)).2)))) (fun _ => by kernel_rfl) (hK _ _ (hJ.grow hLi (by simp) (by simp) (Below.refl _ _)) rfl veL_same)⟩
  ·
   exact .inr ⟨rfl, fun K' hK => wp_ixa 25 (.tmp 45) (.tmp 44) rfl (eval_tmp ((hin 2 45 rfl).trans (congrArg some (show uu 2 = .pointer (some ⟨bk5, 0, none⟩) from (hd 2 (by decide) (by kernel_rfl)).2)))) (eval_tmp ((hin 1 44 rfl).trans (congrArg some (show uu 1 = .int .i64 0 from (hd 1 (by decide) (by kernel_rfl)).2)))) (fun _ => by kernel_rfl) (hK _ _ (hJ.grow hLi (by simp) (by simp) (Below.refl _ _)) rfl veL_same)⟩
  ·
   exact .inr ⟨rfl, fun K' hK => wp_load 23 (.tmp 46) rfl bk5 0 3 (cT (mulT (mulT r q) s)) (cS (mulT (mulT r q) s).a.x) 50 (hJ.em.es.at' _ (List.mem_of_getElem? (i := 1) rfl)) (eval_tmp ((hin 3 46 rfl).trans (congrArg some (show uu 3 = .pointer (some ⟨bk5, 0, none⟩) from (hd 3 (by decide) (by kernel_rfl)).2)))) ag23 sz23 (Nat.le_of_ble_eq_true (by kernel_rfl)) (by kernel_rfl) (hK _ _ (hJ.grow hLi (by simp) (by simp) (Below.refl _ _)) rfl veL_same)⟩
  ·
   exact .inr ⟨rfl, fun K' hK => wp_move (.tmp 12) rfl (eval_tmp ((hev 12 (by decide)).trans rfl)) (hK _ _ (hJ.grow hLi (by simp) (by simp) (Below.refl _ _)) rfl veL_same)⟩
  ·
   exact .inr ⟨rfl, fun K' hK => wp_move (.tmp 13) rfl (eval_tmp ((hev 13 (by decide)).trans rfl)) (hK _ _ (hJ.grow hLi (by simp) (by simp) (Below.refl _ _)) rfl veL_same)⟩
  ·
   exact .inr ⟨rfl, fun K' hK => wp_ixa 50 (.tmp 11) (.tmp 48) rfl (eval_tmp ((hev 11 (by decide)).trans rfl)) (eval_tmp ((hin 5 48 rfl).trans (congrArg some (show uu 5 = .int .i64 0 from (hd 5 (by decide) (by kernel_rfl)).2)))) (fun _ => by kernel_rfl) (hK _ _ (hJ.grow hLi (by simp) (by simp) (Below.refl _ _)) rfl veL_same)⟩
  ·
   exact .inr ⟨rfl, fun K' hK => wp_ixa 25 (.tmp 50) (.tmp 49) rfl (eval_tmp ((hin 7 50 rfl).trans (congrArg some (show uu 7 = .pointer (some ⟨bk6, 0, none⟩) from (hd 7 (by decide) (by kernel_rfl)).2)))) (eval_tmp ((hin 6 49 rfl).trans (congrArg some (show uu 6 = .int .i64 0 from (hd 6 (by decide) (by kernel_rfl)).2)))) (fun _ => by kernel_rfl) (hK _ _ (hJ.grow hLi (by simp) (by simp) (Below.refl _ _)) rfl veL_same)⟩
  ·
   exact .inr ⟨rfl, fun K' hK => wp_load 23 (.tmp 51) rfl bk6 0 3 (cT (mulT r (mulT q s))) (cS (mulT r (mulT q s)).a.x) 50 (hJ.em.es.at' _ (List.mem_of_getElem? (i := 0) rfl)) (eval_tmp ((hin 8 51 rfl).trans (congrArg some (show uu 8 = .pointer (some ⟨bk6, 0, none⟩) from (hd 8 (by decide) (by kernel_rfl)).2)))) ag23 sz23 (Nat.le_of_ble_eq_true (by kernel_rfl)) (by kernel_rfl) (hK _ _ (hJ.grow hLi (by simp) (by simp) (Below.refl _ _)) rfl veL_same)⟩
  ·
   exact .inr ⟨rfl, fun K' hK => wp_callv (.func 41) #[.tmp 47, .tmp 52] _ 41 #[] #[.agg (cS (mulT (mulT r q) s).a.x), .agg (cS (mulT r (mulT q s)).a.x)] #[.agg (cS (mulT (mulT r q) s).a.x), .agg (cS (mulT r (mulT q s)).a.x)] rfl rfl (map2 (eval_tmp ((hin 4 47 rfl).trans (congrArg some (show uu 4 = .agg (cS (mulT (mulT r q) s).a.x) from (hd 4 (by decide) (by kernel_rfl)).2)))) (eval_tmp ((hin 9 52 rfl).trans (congrArg some (show uu 9 = .agg (cS (mulT r (mulT q s)).a.x) from (hd 9 (by decide) (by kernel_rfl)).2))))) (by kernel_rfl) (fun _ _ => by kernel_rfl) (meet_yes (chain_mul r q s).1.1 ww) (fun _ hB => (hK _ _ (hJ.grow hLi (by simp) (by simp) hB) rfl (veL_flat rfl)))⟩
  ·
   exact .inr ⟨rfl, fun K' hK => wp_move (.tmp 53) rfl (eval_tmp ((hin 10 53 rfl).trans (congrArg some (show uu 10 = .tuple #[.agg (cS (meetS (mulT (mulT r q) s).a.x (mulT r (mulT q s)).a.x)), .bool true] from (hd 10 (by decide) (by kernel_rfl)).2)))) (hK _ _ (hJ.grow hLi (by simp) (by simp) (Below.refl _ _)) rfl veL_same)⟩
  ·
   exact .inr ⟨rfl, fun K' hK => wp_ext (.tmp 42) 0 rfl (eval_tmp ((hin 11 42 rfl).trans (congrArg some (show uu 11 = .tuple #[.agg (cS (meetS (mulT (mulT r q) s).a.x (mulT r (mulT q s)).a.x)), .bool true] from (hd 11 (by decide) (by kernel_rfl)).2)))) (fun _ => rfl) (hK _ _ (hJ.grow hLi (by simp) (by simp) (Below.refl _ _)) rfl veL_same)⟩
  ·
   exact .inr ⟨rfl, fun K' hK => wp_ext (.tmp 42) 1 rfl (eval_tmp ((hin 11 42 rfl).trans (congrArg some (show uu 11 = .tuple #[.agg (cS (meetS (mulT (mulT r q) s).a.x (mulT r (mulT q s)).a.x)), .bool true] from (hd 11 (by decide) (by kernel_rfl)).2)))) (fun _ => rfl) (hK _ _ (hJ.grow hLi (by simp) (by simp) (Below.refl _ _)) rfl veL_same)⟩
  ·
   exact .inr ⟨rfl, fun K' hK => wp_alloc 23 rfl (.agg (cS zS)) zv23 (hK _ _ (hJ.alloc hLi (n := 3) rfl (by simp) (by simp)) trivial (veL_flat rfl))⟩
  ·
   have hLa := (hd 14 (by decide) (by kernel_rfl)).1
   obtain ⟨kb, kC, ke, kge, ksz, kcl⟩ := hJ.bx (14, 3, 23) (by simp) hLa
   have x14 : aa.tmps[14]? = some (.pointer (some ⟨kb, 0, none⟩)) := (hin 14 14 rfl).trans (congrArg some ke)
   have x54 : aa.tmps[54]? = some (.agg (cS (meetS (mulT (mulT r q) s).a.x (mulT r (mulT q s)).a.x))) := ((hin 12 54 rfl).trans (congrArg some (show uu 12 = .agg (cS (meetS (mulT (mulT r q) s).a.x (mulT r (mulT q s)).a.x)) from (hd 12 (by decide) (by kernel_rfl)).2)))
   clear hd hev hin
   simp only [List.getElem_cons_succ, List.getElem_cons_zero]
   clear hl
   refine .inr ⟨rfl, fun K' hK => ?_⟩
   have HK := Lib.hid hK
   clear hK
   refine wp_store 23 (.tmp 14) (.tmp 54) rfl 0 kb 0 kC 23 3 (cS (meetS (mulT (mulT r q) s).a.x (mulT r (mulT q s)).a.x)).toList (hJ.em.join kge kcl) rfl (eval_tmp x14) (by rw [eval_tmp x54]; rfl) sz23 (by kernel_rfl) (by rw [ksz]; decide) (by kernel_rfl) (fun ww2 hE hk hz => ?_)
   rw [putC_full (show kC.size = (cS (meetS (mulT (mulT r q) s).a.x (mulT r (mulT q s)).a.x)).toList.length from ksz), Array.toArray_toList] at hE
   exact HK.out undef _ (hJ.store (a := 14) (n := 3) (T := 23) (Cn := (cS (meetS (mulT (mulT r q) s).a.x (mulT r (mulT q s)).a.x))) hLi (by simp) (by simp) (by simp) (by simp) (by simp) (by simp) hLa ke kge rfl hE hk hz) trivial (veL_flat rfl)
  ·
   exact .inr ⟨rfl, fun K' hK => wp_asgn (.tmp 55) rfl (eval_tmp ((hin 13 55 rfl).trans (congrArg some (show uu 13 = .bool true from (hd 13 (by decide) (by kernel_rfl)).2)))) (hK _ _ (hJ.grow hLi (by simp) (by simp) (Below.refl _ _)) rfl veL_same)⟩
 clear hM
 intro LL uu W10 hLL hJm hd
 have e_0 : uu 0 = .int .i64 0 := hd 0 (by decide)
 have e_1 : uu 1 = .int .i64 0 := hd 1 (by decide)
 have e_2 : uu 2 = .pointer (some ⟨bk5, 0, none⟩) := hd 2 (by decide)
 have e_3 : uu 3 = .pointer (some ⟨bk5, 0, none⟩) := hd 3 (by decide)
 have e_4 : uu 4 = .agg (cS (mulT (mulT r q) s).a.x) := hd 4 (by decide)
 have e_5 : uu 5 = .int .i64 0 := hd 5 (by decide)
 have e_6 : uu 6 = .int .i64 0 := hd 6 (by decide)
 have e_7 : uu 7 = .pointer (some ⟨bk6, 0, none⟩) := hd 7 (by decide)
 have e_8 : uu 8 = .pointer (some ⟨bk6, 0, none⟩) := hd 8 (by decide)
 have e_9 : uu 9 = .agg (cS (mulT r (mulT q s)).a.x) := hd 9 (by decide)
 have e_10 : uu 10 = .tuple #[.agg (cS (meetS (mulT (mulT r q) s).a.x (mulT r (mulT q s)).a.x)), .bool true] := hd 10 (by decide)
 have e_11 : uu 11 = .tuple #[.agg (cS (meetS (mulT (mulT r q) s).a.x (mulT r (mulT q s)).a.x)), .bool true] := hd 11 (by decide)
 have e_12 : uu 12 = .agg (cS (meetS (mulT (mulT r q) s).a.x (mulT r (mulT q s)).a.x)) := hd 12 (by decide)
 have e_13 : uu 13 = .bool true := hd 13 (by decide)
 obtain ⟨bk7, kC14, e_14, nge14, ksz14, nB14⟩ := hJm.bx (14, 3, 23) (by simp) (hLL 14 (by decide))
 have e_16 : uu 16 = .bool true := hd 16 (by decide)
 obtain ⟨_, kb15, ke15, kl15⟩ := hJm.st (15, 14, (cS (meetS (mulT (mulT r q) s).a.x (mulT r (mulT q s)).a.x)), 23) (by simp) (hLL 15 (by decide))
 have kq15 : kb15 = bk7 := by
  have hq := ke15.symm.trans e_14
  injection hq with hq
  injection hq with hq
  injection hq with hq
 subst kq15
 clear ke15
 have g14 := hJm.em.join nge14 kl15
 clear hd hLL
 simp only [layS, Act.put, List.setIfInBounds_toArray, List.set_cons_succ, List.set_cons_zero, Nat.zero_add, Nat.reduceAdd, List.drop_succ_cons, List.drop_zero, List.drop_nil, e_0, e_1, e_2, e_3, e_4, e_5, e_6, e_7, e_8, e_9, e_10, e_11, e_12, e_13, e_14, e_16]
 have hJ10 := g14
 clear hJm e_0 e_1 e_2 e_3 e_4 e_5 e_6 e_7 e_8 e_9 e_10 e_11 e_12 e_13 e_14 e_16 nge14 nB14 ksz14 g14
 have hJ10d := hJ10.sub (List.sublist_cons_self _ _)
 clear hJ10
 go_wp2
 rw [rounds_succ]
 go_wp2
 obtain ⟨m10_10, hm⟩ : ∃ m, m = W10.heap.size := ⟨_, rfl⟩
 have hM : ∀ uu, Jz w m10_10 [(bk6, (cT (mulT r (mulT q s))), 50), (bk5, (cT (mulT (mulT r q) s)), 50), (bk4, (cV v), 25), (bk3, (cT s), 50), (bk2, (cT q), 50), (bk1, (cT r), 50)] [(14, 3, 23)] [(15, 14, (cS (meetS (mulT (mulT r q) s).a.y (mulT r (mulT q s)).a.y)), 23)] (fun _ => false) uu W10.drew := fun uu => by rw [hm]; exact Jz.start hJ10d uu
 clear hm hJ10d
 refine wp_region_y 17 [some 43, some 44, some 45, some 46, some 47, some 48, some 49, some 50, some 51, some 52, some 53, some 42, some 54, some 55, some 14, none, some 15] (veL m10_10 [.eq (.int .i64 0), .eq (.int .i64 1), .eq (.pointer (some ⟨bk5, 0, none⟩)), .eq (.pointer (some ⟨bk5, 3, none⟩)), .eq (.agg (cS (mulT (mulT r q) s).a.y)), .eq (.int .i64 0), .eq (.int .i64 1), .eq (.pointer (some ⟨bk6, 0, none⟩)), .eq (.pointer (some ⟨bk6, 3, none⟩)), .eq (.agg (cS (mulT r (mulT q s)).a.y)), .eq (.tuple #[.agg (cS (meetS (mulT (mulT r q) s).a.y (mulT r (mulT q s)).a.y)), .bool true]), .eq (.tuple #[.agg (cS (meetS (mulT (mulT r q) s).a.y (mulT r (mulT q s)).a.y)), .bool true]), .eq (.agg (cS (meetS (mulT (mulT r q) s).a.y (mulT r (mulT q s)).a.y))), .eq (.bool true), .any, .any, .eq (.bool true)]) (Jz w m10_10 [(bk6, (cT (mulT r (mulT q s))), 50), (bk5, (cT (mulT (mulT r q) s)), 50), (bk4, (cV v), 25), (bk3, (cT s), 50), (bk2, (cT q), 50), (bk1, (cT r), 50)] [(14, 3, 23)] [(15, 14, (cS (meetS (mulT (mulT r q) s).a.y (mulT r (mulT q s)).a.y)), 23)]) (by kernel_rfl) (by kernel_rfl) (by rfl) (by decide) (by rfl) hM ?_ ?_
 ·
  intro i hl hi LL uu ww aa hLi hJ hd hev hin
  clear hM
  obtain rfl | rfl | rfl | rfl | rfl | rfl | rfl | rfl | rfl | rfl | rfl | rfl | rfl | rfl | rfl | rfl | rfl : i = 0 ∨ i = 1 ∨ i = 2 ∨ i = 3 ∨ i = 4 ∨ i = 5 ∨ i = 6 ∨ i = 7 ∨ i = 8 ∨ i = 9 ∨ i = 10 ∨ i = 11 ∨ i = 12 ∨ i = 13 ∨ i = 14 ∨ i = 15 ∨ i = 16 := by omega
  ·
   exact .inr ⟨rfl, fun K' hK => wp_move (.tmp 12) rfl (eval_tmp ((hev 12 (by decide)).trans rfl)) (hK _ _ (hJ.grow hLi (by simp) (by simp) (Below.refl _ _)) rfl veL_same)⟩
  ·
   exact .inr ⟨rfl, fun K' hK => wp_move (.tmp 13) rfl (eval_tmp ((hev 13 (by decide)).trans rfl)) (hK _ _ (hJ.grow hLi (by simp) (by simp) (Below.refl _ _)) rfl veL_same)⟩
  ·
   exact .inr ⟨rfl, fun K' hK => wp_ixa 50 (.tmp 10) (.tmp 43) rfl (eval_tmp ((hev 10 (by decide)).trans rfl)) (eval_tmp ((hin 0 43 rfl).trans (congrArg some (show uu 0 = .int .i64 0 from (hd 0 (by decide) (by kernel_rfl)).2)))) (fun _ => by kernel_rfl) (hK _ _ (hJ.grow hLi (by simp) (by simp) (Below.refl _ _)) rfl veL_same)⟩
  ·
   exact .inr ⟨rfl, fun K' hK => wp_ixa 25 (.tmp 45) (.tmp 44) rfl (eval_tmp ((hin 2 45 rfl).trans (congrArg some (show uu 2 = .pointer (some ⟨bk5, 0, none⟩) from (hd 2 (by decide) (by kernel_rfl)).2)))) (eval_tmp ((hin 1 44 rfl).trans (congrArg some (show uu 1 = .int .i64 1 from (hd 1 (by decide) (by kernel_rfl)).2)))) (fun _ => by kernel_rfl) (hK _ _ (hJ.grow hLi (by simp) (by simp) (Below.refl _ _)) rfl veL_same)⟩
  ·
   exact .inr ⟨rfl, fun K' hK => wp_load 23 (.tmp 46) rfl bk5 3 3 (cT (mulT (mulT r q) s)) (cS (mulT (mulT r q) s).a.y) 50 (hJ.em.es.at' _ (List.mem_of_getElem? (i := 1) rfl)) (eval_tmp ((hin 3 46 rfl).trans (congrArg some (show uu 3 = .pointer (some ⟨bk5, 3, none⟩) from (hd 3 (by decide) (by kernel_rfl)).2)))) ag23 sz23 (Nat.le_of_ble_eq_true (by kernel_rfl)) (by kernel_rfl) (hK _ _ (hJ.grow hLi (by simp) (by simp) (Below.refl _ _)) rfl veL_same)⟩
  ·
   exact .inr ⟨rfl, fun K' hK => wp_move (.tmp 12) rfl (eval_tmp ((hev 12 (by decide)).trans rfl)) (hK _ _ (hJ.grow hLi (by simp) (by simp) (Below.refl _ _)) rfl veL_same)⟩
  ·
   exact .inr ⟨rfl, fun K' hK => wp_move (.tmp 13) rfl (eval_tmp ((hev 13 (by decide)).trans rfl)) (hK _ _ (hJ.grow hLi (by simp) (by simp) (Below.refl _ _)) rfl veL_same)⟩
  ·
   exact .inr ⟨rfl, fun K' hK => wp_ixa 50 (.tmp 11) (.tmp 48) rfl (eval_tmp ((hev 11 (by decide)).trans rfl)) (eval_tmp ((hin 5 48 rfl).trans (congrArg some (show uu 5 = .int .i64 0 from (hd 5 (by decide) (by kernel_rfl)).2)))) (fun _ => by kernel_rfl) (hK _ _ (hJ.grow hLi (by simp) (by simp) (Below.refl _ _)) rfl veL_same)⟩
  ·
   exact .inr ⟨rfl, fun K' hK => wp_ixa 25 (.tmp 50) (.tmp 49) rfl (eval_tmp ((hin 7 50 rfl).trans (congrArg some (show uu 7 = .pointer (some ⟨bk6, 0, none⟩) from (hd 7 (by decide) (by kernel_rfl)).2)))) (eval_tmp ((hin 6 49 rfl).trans (congrArg some (show uu 6 = .int .i64 1 from (hd 6 (by decide) (by kernel_rfl)).2)))) (fun _ => by kernel_rfl) (hK _ _ (hJ.grow hLi (by simp) (by simp) (Below.refl _ _)) rfl veL_same)⟩
  ·
   exact .inr ⟨rfl, fun K' hK => wp_load 23 (.tmp 51) rfl bk6 3 3 (cT (mulT r (mulT q s))) (cS (mulT r (mulT q s)).a.y) 50 (hJ.em.es.at' _ (List.mem_of_getElem? (i := 0) rfl)) (eval_tmp ((hin 8 51 rfl).trans (congrArg some (show uu 8 = .pointer (some ⟨bk6, 3, none⟩) from (hd 8 (by decide) (by kernel_rfl)).2)))) ag23 sz23 (Nat.le_of_ble_eq_true (by kernel_rfl)) (by kernel_rfl) (hK _ _ (hJ.grow hLi (by simp) (by simp) (Below.refl _ _)) rfl veL_same)⟩
  ·
   exact .inr ⟨rfl, fun K' hK => wp_callv (.func 41) #[.tmp 47, .tmp 52] _ 41 #[] #[.agg (cS (mulT (mulT r q) s).a.y), .agg (cS (mulT r (mulT q s)).a.y)] #[.agg (cS (mulT (mulT r q) s).a.y), .agg (cS (mulT r (mulT q s)).a.y)] rfl rfl (map2 (eval_tmp ((hin 4 47 rfl).trans (congrArg some (show uu 4 = .agg (cS (mulT (mulT r q) s).a.y) from (hd 4 (by decide) (by kernel_rfl)).2)))) (eval_tmp ((hin 9 52 rfl).trans (congrArg some (show uu 9 = .agg (cS (mulT r (mulT q s)).a.y) from (hd 9 (by decide) (by kernel_rfl)).2))))) (by kernel_rfl) (fun _ _ => by kernel_rfl) (meet_yes (chain_mul r q s).1.2.1 ww) (fun _ hB => (hK _ _ (hJ.grow hLi (by simp) (by simp) hB) rfl (veL_flat rfl)))⟩
  ·
   exact .inr ⟨rfl, fun K' hK => wp_move (.tmp 53) rfl (eval_tmp ((hin 10 53 rfl).trans (congrArg some (show uu 10 = .tuple #[.agg (cS (meetS (mulT (mulT r q) s).a.y (mulT r (mulT q s)).a.y)), .bool true] from (hd 10 (by decide) (by kernel_rfl)).2)))) (hK _ _ (hJ.grow hLi (by simp) (by simp) (Below.refl _ _)) rfl veL_same)⟩
  ·
   exact .inr ⟨rfl, fun K' hK => wp_ext (.tmp 42) 0 rfl (eval_tmp ((hin 11 42 rfl).trans (congrArg some (show uu 11 = .tuple #[.agg (cS (meetS (mulT (mulT r q) s).a.y (mulT r (mulT q s)).a.y)), .bool true] from (hd 11 (by decide) (by kernel_rfl)).2)))) (fun _ => rfl) (hK _ _ (hJ.grow hLi (by simp) (by simp) (Below.refl _ _)) rfl veL_same)⟩
  ·
   exact .inr ⟨rfl, fun K' hK => wp_ext (.tmp 42) 1 rfl (eval_tmp ((hin 11 42 rfl).trans (congrArg some (show uu 11 = .tuple #[.agg (cS (meetS (mulT (mulT r q) s).a.y (mulT r (mulT q s)).a.y)), .bool true] from (hd 11 (by decide) (by kernel_rfl)).2)))) (fun _ => rfl) (hK _ _ (hJ.grow hLi (by simp) (by simp) (Below.refl _ _)) rfl veL_same)⟩
  ·
   exact .inr ⟨rfl, fun K' hK => wp_alloc 23 rfl (.agg (cS zS)) zv23 (hK _ _ (hJ.alloc hLi (n := 3) rfl (by simp) (by simp)) trivial (veL_flat rfl))⟩
  ·
   have hLa := (hd 14 (by decide) (by kernel_rfl)).1
   obtain ⟨kb, kC, ke, kge, ksz, kcl⟩ := hJ.bx (14, 3, 23) (by simp) hLa
   have x14 : aa.tmps[14]? = some (.pointer (some ⟨kb, 0, none⟩)) := (hin 14 14 rfl).trans (congrArg some ke)
   have x54 : aa.tmps[54]? = some (.agg (cS (meetS (mulT (mulT r q) s).a.y (mulT r (mulT q s)).a.y))) := ((hin 12 54 rfl).trans (congrArg some (show uu 12 = .agg (cS (meetS (mulT (mulT r q) s).a.y (mulT r (mulT q s)).a.y)) from (hd 12 (by decide) (by kernel_rfl)).2)))
   clear hd hev hin
   simp only [List.getElem_cons_succ, List.getElem_cons_zero]
   clear hl
   refine .inr ⟨rfl, fun K' hK => ?_⟩
   have HK := Lib.hid hK
   clear hK
   refine wp_store 23 (.tmp 14) (.tmp 54) rfl 0 kb 0 kC 23 3 (cS (meetS (mulT (mulT r q) s).a.y (mulT r (mulT q s)).a.y)).toList (hJ.em.join kge kcl) rfl (eval_tmp x14) (by rw [eval_tmp x54]; rfl) sz23 (by kernel_rfl) (by rw [ksz]; decide) (by kernel_rfl) (fun ww2 hE hk hz => ?_)
   rw [putC_full (show kC.size = (cS (meetS (mulT (mulT r q) s).a.y (mulT r (mulT q s)).a.y)).toList.length from ksz), Array.toArray_toList] at hE
   exact HK.out undef _ (hJ.store (a := 14) (n := 3) (T := 23) (Cn := (cS (meetS (mulT (mulT r q) s).a.y (mulT r (mulT q s)).a.y))) hLi (by simp) (by simp) (by simp) (by simp) (by simp) (by simp) hLa ke kge rfl hE hk hz) trivial (veL_flat rfl)
  ·
   exact .inr ⟨rfl, fun K' hK => wp_asgn (.tmp 55) rfl (eval_tmp ((hin 13 55 rfl).trans (congrArg some (show uu 13 = .bool true from (hd 13 (by decide) (by kernel_rfl)).2)))) (hK _ _ (hJ.grow hLi (by simp) (by simp) (Below.refl _ _)) rfl veL_same)⟩
 clear hM
 intro LL uu W11 hLL hJm hd
 have e_0 : uu 0 = .int .i64 0 := hd 0 (by decide)
 have e_1 : uu 1 = .int .i64 1 := hd 1 (by decide)
 have e_2 : uu 2 = .pointer (some ⟨bk5, 0, none⟩) := hd 2 (by decide)
 have e_3 : uu 3 = .pointer (some ⟨bk5, 3, none⟩) := hd 3 (by decide)
 have e_4 : uu 4 = .agg (cS (mulT (mulT r q) s).a.y) := hd 4 (by decide)
 have e_5 : uu 5 = .int .i64 0 := hd 5 (by decide)
 have e_6 : uu 6 = .int .i64 1 := hd 6 (by decide)
 have e_7 : uu 7 = .pointer (some ⟨bk6, 0, none⟩) := hd 7 (by decide)
 have e_8 : uu 8 = .pointer (some ⟨bk6, 3, none⟩) := hd 8 (by decide)
 have e_9 : uu 9 = .agg (cS (mulT r (mulT q s)).a.y) := hd 9 (by decide)
 have e_10 : uu 10 = .tuple #[.agg (cS (meetS (mulT (mulT r q) s).a.y (mulT r (mulT q s)).a.y)), .bool true] := hd 10 (by decide)
 have e_11 : uu 11 = .tuple #[.agg (cS (meetS (mulT (mulT r q) s).a.y (mulT r (mulT q s)).a.y)), .bool true] := hd 11 (by decide)
 have e_12 : uu 12 = .agg (cS (meetS (mulT (mulT r q) s).a.y (mulT r (mulT q s)).a.y)) := hd 12 (by decide)
 have e_13 : uu 13 = .bool true := hd 13 (by decide)
 obtain ⟨bk8, kC14, e_14, nge14, ksz14, nB14⟩ := hJm.bx (14, 3, 23) (by simp) (hLL 14 (by decide))
 have e_16 : uu 16 = .bool true := hd 16 (by decide)
 obtain ⟨_, kb15, ke15, kl15⟩ := hJm.st (15, 14, (cS (meetS (mulT (mulT r q) s).a.y (mulT r (mulT q s)).a.y)), 23) (by simp) (hLL 15 (by decide))
 have kq15 : kb15 = bk8 := by
  have hq := ke15.symm.trans e_14
  injection hq with hq
  injection hq with hq
  injection hq with hq
 subst kq15
 clear ke15
 have g14 := hJm.em.join nge14 kl15
 clear hd hLL
 simp only [layS, Act.put, List.setIfInBounds_toArray, List.set_cons_succ, List.set_cons_zero, Nat.zero_add, Nat.reduceAdd, List.drop_succ_cons, List.drop_zero, List.drop_nil, e_0, e_1, e_2, e_3, e_4, e_5, e_6, e_7, e_8, e_9, e_10, e_11, e_12, e_13, e_14, e_16]
 have hJ11 := g14
 clear hJm e_0 e_1 e_2 e_3 e_4 e_5 e_6 e_7 e_8 e_9 e_10 e_11 e_12 e_13 e_14 e_16 nge14 nB14 ksz14 g14
 have hJ11d := hJ11.sub (List.sublist_cons_self _ _)
 clear hJ11
 go_wp2
 rw [rounds_succ]
 go_wp2
 obtain ⟨m10_11, hm⟩ : ∃ m, m = W11.heap.size := ⟨_, rfl⟩
 have hM : ∀ uu, Jz w m10_11 [(bk6, (cT (mulT r (mulT q s))), 50), (bk5, (cT (mulT (mulT r q) s)), 50), (bk4, (cV v), 25), (bk3, (cT s), 50), (bk2, (cT q), 50), (bk1, (cT r), 50)] [(14, 3, 23)] [(15, 14, (cS (meetS (mulT (mulT r q) s).a.z (mulT r (mulT q s)).a.z)), 23)] (fun _ => false) uu W11.drew := fun uu => by rw [hm]; exact Jz.start hJ11d uu
 clear hm hJ11d
 refine wp_region_y 17 [some 43, some 44, some 45, some 46, some 47, some 48, some 49, some 50, some 51, some 52, some 53, some 42, some 54, some 55, some 14, none, some 15] (veL m10_11 [.eq (.int .i64 0), .eq (.int .i64 2), .eq (.pointer (some ⟨bk5, 0, none⟩)), .eq (.pointer (some ⟨bk5, 6, none⟩)), .eq (.agg (cS (mulT (mulT r q) s).a.z)), .eq (.int .i64 0), .eq (.int .i64 2), .eq (.pointer (some ⟨bk6, 0, none⟩)), .eq (.pointer (some ⟨bk6, 6, none⟩)), .eq (.agg (cS (mulT r (mulT q s)).a.z)), .eq (.tuple #[.agg (cS (meetS (mulT (mulT r q) s).a.z (mulT r (mulT q s)).a.z)), .bool true]), .eq (.tuple #[.agg (cS (meetS (mulT (mulT r q) s).a.z (mulT r (mulT q s)).a.z)), .bool true]), .eq (.agg (cS (meetS (mulT (mulT r q) s).a.z (mulT r (mulT q s)).a.z))), .eq (.bool true), .any, .any, .eq (.bool true)]) (Jz w m10_11 [(bk6, (cT (mulT r (mulT q s))), 50), (bk5, (cT (mulT (mulT r q) s)), 50), (bk4, (cV v), 25), (bk3, (cT s), 50), (bk2, (cT q), 50), (bk1, (cT r), 50)] [(14, 3, 23)] [(15, 14, (cS (meetS (mulT (mulT r q) s).a.z (mulT r (mulT q s)).a.z)), 23)]) (by kernel_rfl) (by kernel_rfl) (by rfl) (by decide) (by rfl) hM ?_ ?_
 ·
  intro i hl hi LL uu ww aa hLi hJ hd hev hin
  clear hM
  obtain rfl | rfl | rfl | rfl | rfl | rfl | rfl | rfl | rfl | rfl | rfl | rfl | rfl | rfl | rfl | rfl | rfl : i = 0 ∨ i = 1 ∨ i = 2 ∨ i = 3 ∨ i = 4 ∨ i = 5 ∨ i = 6 ∨ i = 7 ∨ i = 8 ∨ i = 9 ∨ i = 10 ∨ i = 11 ∨ i = 12 ∨ i = 13 ∨ i = 14 ∨ i = 15 ∨ i = 16 := by omega
  ·
   exact .inr ⟨rfl, fun K' hK => wp_move (.tmp 12) rfl (eval_tmp ((hev 12 (by decide)).trans rfl)) (hK _ _ (hJ.grow hLi (by simp) (by simp) (Below.refl _ _)) rfl veL_same)⟩
  ·
   exact .inr ⟨rfl, fun K' hK => wp_move (.tmp 13) rfl (eval_tmp ((hev 13 (by decide)).trans rfl)) (hK _ _ (hJ.grow hLi (by simp) (by simp) (Below.refl _ _)) rfl veL_same)⟩
  ·
   exact .inr ⟨rfl, fun K' hK => wp_ixa 50 (.tmp 10) (.tmp 43) rfl (eval_tmp ((hev 10 (by decide)).trans rfl)) (eval_tmp ((hin 0 43 rfl).trans (congrArg some (show uu 0 = .int .i64 0 from (hd 0 (by decide) (by kernel_rfl)).2)))) (fun _ => by kernel_rfl) (hK _ _ (hJ.grow hLi (by simp) (by simp) (Below.refl _ _)) rfl veL_same)⟩
  ·
   exact .inr ⟨rfl, fun K' hK => wp_ixa 25 (.tmp 45) (.tmp 44) rfl (eval_tmp ((hin 2 45 rfl).trans (congrArg some (show uu 2 = .pointer (some ⟨bk5, 0, none⟩) from (hd 2 (by decide) (by kernel_rfl)).2)))) (eval_tmp ((hin 1 44 rfl).trans (congrArg some (show uu 1 = .int .i64 2 from (hd 1 (by decide) (by kernel_rfl)).2)))) (fun _ => by kernel_rfl) (hK _ _ (hJ.grow hLi (by simp) (by simp) (Below.refl _ _)) rfl veL_same)⟩
  ·
   exact .inr ⟨rfl, fun K' hK => wp_load 23 (.tmp 46) rfl bk5 6 3 (cT (mulT (mulT r q) s)) (cS (mulT (mulT r q) s).a.z) 50 (hJ.em.es.at' _ (List.mem_of_getElem? (i := 1) rfl)) (eval_tmp ((hin 3 46 rfl).trans (congrArg some (show uu 3 = .pointer (some ⟨bk5, 6, none⟩) from (hd 3 (by decide) (by kernel_rfl)).2)))) ag23 sz23 (Nat.le_of_ble_eq_true (by kernel_rfl)) (by kernel_rfl) (hK _ _ (hJ.grow hLi (by simp) (by simp) (Below.refl _ _)) rfl veL_same)⟩
  ·
   exact .inr ⟨rfl, fun K' hK => wp_move (.tmp 12) rfl (eval_tmp ((hev 12 (by decide)).trans rfl)) (hK _ _ (hJ.grow hLi (by simp) (by simp) (Below.refl _ _)) rfl veL_same)⟩
  ·
   exact .inr ⟨rfl, fun K' hK => wp_move (.tmp 13) rfl (eval_tmp ((hev 13 (by decide)).trans rfl)) (hK _ _ (hJ.grow hLi (by simp) (by simp) (Below.refl _ _)) rfl veL_same)⟩
  ·
   exact .inr ⟨rfl, fun K' hK => wp_ixa 50 (.tmp 11) (.tmp 48) rfl (eval_tmp ((hev 11 (by decide)).trans rfl)) (eval_tmp ((hin 5 48 rfl).trans (congrArg some (show uu 5 = .int .i64 0 from (hd 5 (by decide) (by kernel_rfl)).2)))) (fun _ => by kernel_rfl) (hK _ _ (hJ.grow hLi (by simp) (by simp) (Below.refl _ _)) rfl veL_same)⟩
  ·
   exact .inr ⟨rfl, fun K' hK => wp_ixa 25 (.tmp 50) (.tmp 49) rfl (eval_tmp ((hin 7 50 rfl).trans (congrArg some (show uu 7 = .pointer (some ⟨bk6, 0, none⟩) from (hd 7 (by decide) (by kernel_rfl)).2)))) (eval_tmp ((hin 6 49 rfl).trans (congrArg some (show uu 6 = .int .i64 2 from (hd 6 (by decide) (by kernel_rfl)).2)))) (fun _ => by kernel_rfl) (hK _ _ (hJ.grow hLi (by simp) (by simp) (Below.refl _ _)) rfl veL_same)⟩
  ·
   exact .inr ⟨rfl, fun K' hK => wp_load 23 (.tmp 51) rfl bk6 6 3 (cT (mulT r (mulT q s))) (cS (mulT r (mulT q s)).a.z) 50 (hJ.em.es.at' _ (List.mem_of_getElem? (i := 0) rfl)) (eval_tmp ((hin 8 51 rfl).trans (congrArg some (show uu 8 = .pointer (some ⟨bk6, 6, none⟩) from (hd 8 (by decide) (by kernel_rfl)).2)))) ag23 sz23 (Nat.le_of_ble_eq_true (by kernel_rfl)) (by kernel_rfl) (hK _ _ (hJ.grow hLi (by simp) (by simp) (Below.refl _ _)) rfl veL_same)⟩
  ·
   exact .inr ⟨rfl, fun K' hK => wp_callv (.func 41) #[.tmp 47, .tmp 52] _ 41 #[] #[.agg (cS (mulT (mulT r q) s).a.z), .agg (cS (mulT r (mulT q s)).a.z)] #[.agg (cS (mulT (mulT r q) s).a.z), .agg (cS (mulT r (mulT q s)).a.z)] rfl rfl (map2 (eval_tmp ((hin 4 47 rfl).trans (congrArg some (show uu 4 = .agg (cS (mulT (mulT r q) s).a.z) from (hd 4 (by decide) (by kernel_rfl)).2)))) (eval_tmp ((hin 9 52 rfl).trans (congrArg some (show uu 9 = .agg (cS (mulT r (mulT q s)).a.z) from (hd 9 (by decide) (by kernel_rfl)).2))))) (by kernel_rfl) (fun _ _ => by kernel_rfl) (meet_yes (chain_mul r q s).1.2.2 ww) (fun _ hB => (hK _ _ (hJ.grow hLi (by simp) (by simp) hB) rfl (veL_flat rfl)))⟩
  ·
   exact .inr ⟨rfl, fun K' hK => wp_move (.tmp 53) rfl (eval_tmp ((hin 10 53 rfl).trans (congrArg some (show uu 10 = .tuple #[.agg (cS (meetS (mulT (mulT r q) s).a.z (mulT r (mulT q s)).a.z)), .bool true] from (hd 10 (by decide) (by kernel_rfl)).2)))) (hK _ _ (hJ.grow hLi (by simp) (by simp) (Below.refl _ _)) rfl veL_same)⟩
  ·
   exact .inr ⟨rfl, fun K' hK => wp_ext (.tmp 42) 0 rfl (eval_tmp ((hin 11 42 rfl).trans (congrArg some (show uu 11 = .tuple #[.agg (cS (meetS (mulT (mulT r q) s).a.z (mulT r (mulT q s)).a.z)), .bool true] from (hd 11 (by decide) (by kernel_rfl)).2)))) (fun _ => rfl) (hK _ _ (hJ.grow hLi (by simp) (by simp) (Below.refl _ _)) rfl veL_same)⟩
  ·
   exact .inr ⟨rfl, fun K' hK => wp_ext (.tmp 42) 1 rfl (eval_tmp ((hin 11 42 rfl).trans (congrArg some (show uu 11 = .tuple #[.agg (cS (meetS (mulT (mulT r q) s).a.z (mulT r (mulT q s)).a.z)), .bool true] from (hd 11 (by decide) (by kernel_rfl)).2)))) (fun _ => rfl) (hK _ _ (hJ.grow hLi (by simp) (by simp) (Below.refl _ _)) rfl veL_same)⟩
  ·
   exact .inr ⟨rfl, fun K' hK => wp_alloc 23 rfl (.agg (cS zS)) zv23 (hK _ _ (hJ.alloc hLi (n := 3) rfl (by simp) (by simp)) trivial (veL_flat rfl))⟩
  ·
   have hLa := (hd 14 (by decide) (by kernel_rfl)).1
   obtain ⟨kb, kC, ke, kge, ksz, kcl⟩ := hJ.bx (14, 3, 23) (by simp) hLa
   have x14 : aa.tmps[14]? = some (.pointer (some ⟨kb, 0, none⟩)) := (hin 14 14 rfl).trans (congrArg some ke)
   have x54 : aa.tmps[54]? = some (.agg (cS (meetS (mulT (mulT r q) s).a.z (mulT r (mulT q s)).a.z))) := ((hin 12 54 rfl).trans (congrArg some (show uu 12 = .agg (cS (meetS (mulT (mulT r q) s).a.z (mulT r (mulT q s)).a.z)) from (hd 12 (by decide) (by kernel_rfl)).2)))
   clear hd hev hin
   simp only [List.getElem_cons_succ, List.getElem_cons_zero]
   clear hl
   refine .inr ⟨rfl, fun K' hK => ?_⟩
   have HK := Lib.hid hK
   clear hK
   refine wp_store 23 (.tmp 14) (.tmp 54) rfl 0 kb 0 kC 23 3 (cS (meetS (mulT (mulT r q) s).a.z (mulT r (mulT q s)).a.z)).toList (hJ.em.join kge kcl) rfl (eval_tmp x14) (by rw [eval_tmp x54]; rfl) sz23 (by kernel_rfl) (by rw [ksz]; decide) (by kernel_rfl) (fun ww2 hE hk hz => ?_)
   rw [putC_full (show kC.size = (cS (meetS (mulT (mulT r q) s).a.z (mulT r (mulT q s)).a.z)).toList.length from ksz), Array.toArray_toList] at hE
   exact HK.out undef _ (hJ.store (a := 14) (n := 3) (T := 23) (Cn := (cS (meetS (mulT (mulT r q) s).a.z (mulT r (mulT q s)).a.z))) hLi (by simp) (by simp) (by simp) (by simp) (by simp) (by simp) hLa ke kge rfl hE hk hz) trivial (veL_flat rfl)
  ·
   exact .inr ⟨rfl, fun K' hK => wp_asgn (.tmp 55) rfl (eval_tmp ((hin 13 55 rfl).trans (congrArg some (show uu 13 = .bool true from (hd 13 (by decide) (by kernel_rfl)).2)))) (hK _ _ (hJ.grow hLi (by simp) (by simp) (Below.refl _ _)) rfl veL_same)⟩
 clear hM
 intro LL uu W12 hLL hJm hd
 have e_0 : uu 0 = .int .i64 0 := hd 0 (by decide)
 have e_1 : uu 1 = .int .i64 2 := hd 1 (by decide)
 have e_2 : uu 2 = .pointer (some ⟨bk5, 0, none⟩) := hd 2 (by decide)
 have e_3 : uu 3 = .pointer (some ⟨bk5, 6, none⟩) := hd 3 (by decide)
 have e_4 : uu 4 = .agg (cS (mulT (mulT r q) s).a.z) := hd 4 (by decide)
 have e_5 : uu 5 = .int .i64 0 := hd 5 (by decide)
 have e_6 : uu 6 = .int .i64 2 := hd 6 (by decide)
 have e_7 : uu 7 = .pointer (some ⟨bk6, 0, none⟩) := hd 7 (by decide)
 have e_8 : uu 8 = .pointer (some ⟨bk6, 6, none⟩) := hd 8 (by decide)
 have e_9 : uu 9 = .agg (cS (mulT r (mulT q s)).a.z) := hd 9 (by decide)
 have e_10 : uu 10 = .tuple #[.agg (cS (meetS (mulT (mulT r q) s).a.z (mulT r (mulT q s)).a.z)), .bool true] := hd 10 (by decide)
 have e_11 : uu 11 = .tuple #[.agg (cS (meetS (mulT (mulT r q) s).a.z (mulT r (mulT q s)).a.z)), .bool true] := hd 11 (by decide)
 have e_12 : uu 12 = .agg (cS (meetS (mulT (mulT r q) s).a.z (mulT r (mulT q s)).a.z)) := hd 12 (by decide)
 have e_13 : uu 13 = .bool true := hd 13 (by decide)
 obtain ⟨bk9, kC14, e_14, nge14, ksz14, nB14⟩ := hJm.bx (14, 3, 23) (by simp) (hLL 14 (by decide))
 have e_16 : uu 16 = .bool true := hd 16 (by decide)
 obtain ⟨_, kb15, ke15, kl15⟩ := hJm.st (15, 14, (cS (meetS (mulT (mulT r q) s).a.z (mulT r (mulT q s)).a.z)), 23) (by simp) (hLL 15 (by decide))
 have kq15 : kb15 = bk9 := by
  have hq := ke15.symm.trans e_14
  injection hq with hq
  injection hq with hq
  injection hq with hq
 subst kq15
 clear ke15
 have g14 := hJm.em.join nge14 kl15
 clear hd hLL
 simp only [layS, Act.put, List.setIfInBounds_toArray, List.set_cons_succ, List.set_cons_zero, Nat.zero_add, Nat.reduceAdd, List.drop_succ_cons, List.drop_zero, List.drop_nil, e_0, e_1, e_2, e_3, e_4, e_5, e_6, e_7, e_8, e_9, e_10, e_11, e_12, e_13, e_14, e_16]
 have hJ12 := g14
 clear hJm e_0 e_1 e_2 e_3 e_4 e_5 e_6 e_7 e_8 e_9 e_10 e_11 e_12 e_13 e_14 e_16 nge14 nB14 ksz14 g14
 have hJ12d := hJ12.sub (List.sublist_cons_self _ _)
 clear hJ12
 go_wp2
 rw [rounds_succ]
 go_wp2
 rw [rounds_succ]
 go_wp2
 refine wp_loop_rounds 4 ?_
 rw [rounds_succ]
 go_wp2
 obtain ⟨m10_12, hm⟩ : ∃ m, m = W12.heap.size := ⟨_, rfl⟩
 have hM : ∀ uu, Jz w m10_12 [(bk6, (cT (mulT r (mulT q s))), 50), (bk5, (cT (mulT (mulT r q) s)), 50), (bk4, (cV v), 25), (bk3, (cT s), 50), (bk2, (cT q), 50), (bk1, (cT r), 50)] [(14, 3, 23)] [(15, 14, (cS (meetS (mulT (mulT r q) s).b.x (mulT r (mulT q s)).b.x)), 23)] (fun _ => false) uu W12.drew := fun uu => by rw [hm]; exact Jz.start hJ12d uu
 clear hm hJ12d
 refine wp_region_y 17 [some 43, some 44, some 45, some 46, some 47, some 48, some 49, some 50, some 51, some 52, some 53, some 42, some 54, some 55, some 14, none, some 15] (veL m10_12 [.eq (.int .i64 1), .eq (.int .i64 0), .eq (.pointer (some ⟨bk5, 9, none⟩)), .eq (.pointer (some ⟨bk5, 9, none⟩)), .eq (.agg (cS (mulT (mulT r q) s).b.x)), .eq (.int .i64 1), .eq (.int .i64 0), .eq (.pointer (some ⟨bk6, 9, none⟩)), .eq (.pointer (some ⟨bk6, 9, none⟩)), .eq (.agg (cS (mulT r (mulT q s)).b.x)), .eq (.tuple #[.agg (cS (meetS (mulT (mulT r q) s).b.x (mulT r (mulT q s)).b.x)), .bool true]), .eq (.tuple #[.agg (cS (meetS (mulT (mulT r q) s).b.x (mulT r (mulT q s)).b.x)), .bool true]), .eq (.agg (cS (meetS (mulT (mulT r q) s).b.x (mulT r (mulT q s)).b.x))), .eq (.bool true), .any, .any, .eq (.bool true)]) (Jz w m10_12 [(bk6, (cT (mulT r (mulT q s))), 50), (bk5, (cT (mulT (mulT r q) s)), 50), (bk4, (cV v), 25), (bk3, (cT s), 50), (bk2, (cT q), 50), (bk1, (cT r), 50)] [(14, 3, 23)] [(15, 14, (cS (meetS (mulT (mulT r q) s).b.x (mulT r (mulT q s)).b.x)), 23)]) (by kernel_rfl) (by kernel_rfl) (by rfl) (by decide) (by rfl) hM ?_ ?_
 ·
  intro i hl hi LL uu ww aa hLi hJ hd hev hin
  clear hM
  obtain rfl | rfl | rfl | rfl | rfl | rfl | rfl | rfl | rfl | rfl | rfl | rfl | rfl | rfl | rfl | rfl | rfl : i = 0 ∨ i = 1 ∨ i = 2 ∨ i = 3 ∨ i = 4 ∨ i = 5 ∨ i = 6 ∨ i = 7 ∨ i = 8 ∨ i = 9 ∨ i = 10 ∨ i = 11 ∨ i = 12 ∨ i = 13 ∨ i = 14 ∨ i = 15 ∨ i = 16 := by omega
  ·
   exact .inr ⟨rfl, fun K' hK => wp_move (.tmp 12) rfl (eval_tmp ((hev 12 (by decide)).trans rfl)) (hK _ _ (hJ.grow hLi (by simp) (by simp) (Below.refl _ _)) rfl veL_same)⟩
  ·
   exact .inr ⟨rfl, fun K' hK => wp_move (.tmp 13) rfl (eval_tmp ((hev 13 (by decide)).trans rfl)) (hK _ _ (hJ.grow hLi (by simp) (by simp) (Below.refl _ _)) rfl veL_same)⟩
  ·
   exact .inr ⟨rfl, fun K' hK => wp_ixa 50 (.tmp 10) (.tmp 43) rfl (eval_tmp ((hev 10 (by decide)).trans rfl)) (eval_tmp ((hin 0 43 rfl).trans (congrArg some (show uu 0 = .int .i64 1 from (hd 0 (by decide) (by kernel_rfl)).2)))) (fun _ => by kernel_rfl) (hK _ _ (hJ.grow hLi (by simp) (by simp) (Below.refl _ _)) rfl veL_same)⟩
  ·
   exact .inr ⟨rfl, fun K' hK => wp_ixa 25 (.tmp 45) (.tmp 44) rfl (eval_tmp ((hin 2 45 rfl).trans (congrArg some (show uu 2 = .pointer (some ⟨bk5, 9, none⟩) from (hd 2 (by decide) (by kernel_rfl)).2)))) (eval_tmp ((hin 1 44 rfl).trans (congrArg some (show uu 1 = .int .i64 0 from (hd 1 (by decide) (by kernel_rfl)).2)))) (fun _ => by kernel_rfl) (hK _ _ (hJ.grow hLi (by simp) (by simp) (Below.refl _ _)) rfl veL_same)⟩
  ·
   exact .inr ⟨rfl, fun K' hK => wp_load 23 (.tmp 46) rfl bk5 9 3 (cT (mulT (mulT r q) s)) (cS (mulT (mulT r q) s).b.x) 50 (hJ.em.es.at' _ (List.mem_of_getElem? (i := 1) rfl)) (eval_tmp ((hin 3 46 rfl).trans (congrArg some (show uu 3 = .pointer (some ⟨bk5, 9, none⟩) from (hd 3 (by decide) (by kernel_rfl)).2)))) ag23 sz23 (Nat.le_of_ble_eq_true (by kernel_rfl)) (by kernel_rfl) (hK _ _ (hJ.grow hLi (by simp) (by simp) (Below.refl _ _)) rfl veL_same)⟩
  ·
   exact .inr ⟨rfl, fun K' hK => wp_move (.tmp 12) rfl (eval_tmp ((hev 12 (by decide)).trans rfl)) (hK _ _ (hJ.grow hLi (by simp) (by simp) (Below.refl _ _)) rfl veL_same)⟩
  ·
   exact .inr ⟨rfl, fun K' hK => wp_move (.tmp 13) rfl (eval_tmp ((hev 13 (by decide)).trans rfl)) (hK _ _ (hJ.grow hLi (by simp) (by simp) (Below.refl _ _)) rfl veL_same)⟩
  ·
   exact .inr ⟨rfl, fun K' hK => wp_ixa 50 (.tmp 11) (.tmp 48) rfl (eval_tmp ((hev 11 (by decide)).trans rfl)) (eval_tmp ((hin 5 48 rfl).trans (congrArg some (show uu 5 = .int .i64 1 from (hd 5 (by decide) (by kernel_rfl)).2)))) (fun _ => by kernel_rfl) (hK _ _ (hJ.grow hLi (by simp) (by simp) (Below.refl _ _)) rfl veL_same)⟩
  ·
   exact .inr ⟨rfl, fun K' hK => wp_ixa 25 (.tmp 50) (.tmp 49) rfl (eval_tmp ((hin 7 50 rfl).trans (congrArg some (show uu 7 = .pointer (some ⟨bk6, 9, none⟩) from (hd 7 (by decide) (by kernel_rfl)).2)))) (eval_tmp ((hin 6 49 rfl).trans (congrArg some (show uu 6 = .int .i64 0 from (hd 6 (by decide) (by kernel_rfl)).2)))) (fun _ => by kernel_rfl) (hK _ _ (hJ.grow hLi (by simp) (by simp) (Below.refl _ _)) rfl veL_same)⟩
  ·
   exact .inr ⟨rfl, fun K' hK => wp_load 23 (.tmp 51) rfl bk6 9 3 (cT (mulT r (mulT q s))) (cS (mulT r (mulT q s)).b.x) 50 (hJ.em.es.at' _ (List.mem_of_getElem? (i := 0) rfl)) (eval_tmp ((hin 8 51 rfl).trans (congrArg some (show uu 8 = .pointer (some ⟨bk6, 9, none⟩) from (hd 8 (by decide) (by kernel_rfl)).2)))) ag23 sz23 (Nat.le_of_ble_eq_true (by kernel_rfl)) (by kernel_rfl) (hK _ _ (hJ.grow hLi (by simp) (by simp) (Below.refl _ _)) rfl veL_same)⟩
  ·
   exact .inr ⟨rfl, fun K' hK => wp_callv (.func 41) #[.tmp 47, .tmp 52] _ 41 #[] #[.agg (cS (mulT (mulT r q) s).b.x), .agg (cS (mulT r (mulT q s)).b.x)] #[.agg (cS (mulT (mulT r q) s).b.x), .agg (cS (mulT r (mulT q s)).b.x)] rfl rfl (map2 (eval_tmp ((hin 4 47 rfl).trans (congrArg some (show uu 4 = .agg (cS (mulT (mulT r q) s).b.x) from (hd 4 (by decide) (by kernel_rfl)).2)))) (eval_tmp ((hin 9 52 rfl).trans (congrArg some (show uu 9 = .agg (cS (mulT r (mulT q s)).b.x) from (hd 9 (by decide) (by kernel_rfl)).2))))) (by kernel_rfl) (fun _ _ => by kernel_rfl) (meet_yes (chain_mul r q s).2.1.1 ww) (fun _ hB => (hK _ _ (hJ.grow hLi (by simp) (by simp) hB) rfl (veL_flat rfl)))⟩
  ·
   exact .inr ⟨rfl, fun K' hK => wp_move (.tmp 53) rfl (eval_tmp ((hin 10 53 rfl).trans (congrArg some (show uu 10 = .tuple #[.agg (cS (meetS (mulT (mulT r q) s).b.x (mulT r (mulT q s)).b.x)), .bool true] from (hd 10 (by decide) (by kernel_rfl)).2)))) (hK _ _ (hJ.grow hLi (by simp) (by simp) (Below.refl _ _)) rfl veL_same)⟩
  ·
   exact .inr ⟨rfl, fun K' hK => wp_ext (.tmp 42) 0 rfl (eval_tmp ((hin 11 42 rfl).trans (congrArg some (show uu 11 = .tuple #[.agg (cS (meetS (mulT (mulT r q) s).b.x (mulT r (mulT q s)).b.x)), .bool true] from (hd 11 (by decide) (by kernel_rfl)).2)))) (fun _ => rfl) (hK _ _ (hJ.grow hLi (by simp) (by simp) (Below.refl _ _)) rfl veL_same)⟩
  ·
   exact .inr ⟨rfl, fun K' hK => wp_ext (.tmp 42) 1 rfl (eval_tmp ((hin 11 42 rfl).trans (congrArg some (show uu 11 = .tuple #[.agg (cS (meetS (mulT (mulT r q) s).b.x (mulT r (mulT q s)).b.x)), .bool true] from (hd 11 (by decide) (by kernel_rfl)).2)))) (fun _ => rfl) (hK _ _ (hJ.grow hLi (by simp) (by simp) (Below.refl _ _)) rfl veL_same)⟩
  ·
   exact .inr ⟨rfl, fun K' hK => wp_alloc 23 rfl (.agg (cS zS)) zv23 (hK _ _ (hJ.alloc hLi (n := 3) rfl (by simp) (by simp)) trivial (veL_flat rfl))⟩
  ·
   have hLa := (hd 14 (by decide) (by kernel_rfl)).1
   obtain ⟨kb, kC, ke, kge, ksz, kcl⟩ := hJ.bx (14, 3, 23) (by simp) hLa
   have x14 : aa.tmps[14]? = some (.pointer (some ⟨kb, 0, none⟩)) := (hin 14 14 rfl).trans (congrArg some ke)
   have x54 : aa.tmps[54]? = some (.agg (cS (meetS (mulT (mulT r q) s).b.x (mulT r (mulT q s)).b.x))) := ((hin 12 54 rfl).trans (congrArg some (show uu 12 = .agg (cS (meetS (mulT (mulT r q) s).b.x (mulT r (mulT q s)).b.x)) from (hd 12 (by decide) (by kernel_rfl)).2)))
   clear hd hev hin
   simp only [List.getElem_cons_succ, List.getElem_cons_zero]
   clear hl
   refine .inr ⟨rfl, fun K' hK => ?_⟩
   have HK := Lib.hid hK
   clear hK
   refine wp_store 23 (.tmp 14) (.tmp 54) rfl 0 kb 0 kC 23 3 (cS (meetS (mulT (mulT r q) s).b.x (mulT r (mulT q s)).b.x)).toList (hJ.em.join kge kcl) rfl (eval_tmp x14) (by rw [eval_tmp x54]; rfl) sz23 (by kernel_rfl) (by rw [ksz]; decide) (by kernel_rfl) (fun ww2 hE hk hz => ?_)
   rw [putC_full (show kC.size = (cS (meetS (mulT (mulT r q) s).b.x (mulT r (mulT q s)).b.x)).toList.length from ksz), Array.toArray_toList] at hE
   exact HK.out undef _ (hJ.store (a := 14) (n := 3) (T := 23) (Cn := (cS (meetS (mulT (mulT r q) s).b.x (mulT r (mulT q s)).b.x))) hLi (by simp) (by simp) (by simp) (by simp) (by simp) (by simp) hLa ke kge rfl hE hk hz) trivial (veL_flat rfl)
  ·
   exact .inr ⟨rfl, fun K' hK => wp_asgn (.tmp 55) rfl (eval_tmp ((hin 13 55 rfl).trans (congrArg some (show uu 13 = .bool true from (hd 13 (by decide) (by kernel_rfl)).2)))) (hK _ _ (hJ.grow hLi (by simp) (by simp) (Below.refl _ _)) rfl veL_same)⟩
 clear hM
 intro LL uu W13 hLL hJm hd
 have e_0 : uu 0 = .int .i64 1 := hd 0 (by decide)
 have e_1 : uu 1 = .int .i64 0 := hd 1 (by decide)
 have e_2 : uu 2 = .pointer (some ⟨bk5, 9, none⟩) := hd 2 (by decide)
 have e_3 : uu 3 = .pointer (some ⟨bk5, 9, none⟩) := hd 3 (by decide)
 have e_4 : uu 4 = .agg (cS (mulT (mulT r q) s).b.x) := hd 4 (by decide)
 have e_5 : uu 5 = .int .i64 1 := hd 5 (by decide)
 have e_6 : uu 6 = .int .i64 0 := hd 6 (by decide)
 have e_7 : uu 7 = .pointer (some ⟨bk6, 9, none⟩) := hd 7 (by decide)
 have e_8 : uu 8 = .pointer (some ⟨bk6, 9, none⟩) := hd 8 (by decide)
 have e_9 : uu 9 = .agg (cS (mulT r (mulT q s)).b.x) := hd 9 (by decide)
 have e_10 : uu 10 = .tuple #[.agg (cS (meetS (mulT (mulT r q) s).b.x (mulT r (mulT q s)).b.x)), .bool true] := hd 10 (by decide)
 have e_11 : uu 11 = .tuple #[.agg (cS (meetS (mulT (mulT r q) s).b.x (mulT r (mulT q s)).b.x)), .bool true] := hd 11 (by decide)
 have e_12 : uu 12 = .agg (cS (meetS (mulT (mulT r q) s).b.x (mulT r (mulT q s)).b.x)) := hd 12 (by decide)
 have e_13 : uu 13 = .bool true := hd 13 (by decide)
 obtain ⟨bk10, kC14, e_14, nge14, ksz14, nB14⟩ := hJm.bx (14, 3, 23) (by simp) (hLL 14 (by decide))
 have e_16 : uu 16 = .bool true := hd 16 (by decide)
 obtain ⟨_, kb15, ke15, kl15⟩ := hJm.st (15, 14, (cS (meetS (mulT (mulT r q) s).b.x (mulT r (mulT q s)).b.x)), 23) (by simp) (hLL 15 (by decide))
 have kq15 : kb15 = bk10 := by
  have hq := ke15.symm.trans e_14
  injection hq with hq
  injection hq with hq
  injection hq with hq
 subst kq15
 clear ke15
 have g14 := hJm.em.join nge14 kl15
 clear hd hLL
 simp only [layS, Act.put, List.setIfInBounds_toArray, List.set_cons_succ, List.set_cons_zero, Nat.zero_add, Nat.reduceAdd, List.drop_succ_cons, List.drop_zero, List.drop_nil, e_0, e_1, e_2, e_3, e_4, e_5, e_6, e_7, e_8, e_9, e_10, e_11, e_12, e_13, e_14, e_16]
 have hJ13 := g14
 clear hJm e_0 e_1 e_2 e_3 e_4 e_5 e_6 e_7 e_8 e_9 e_10 e_11 e_12 e_13 e_14 e_16 nge14 nB14 ksz14 g14
 have hJ13d := hJ13.sub (List.sublist_cons_self _ _)
 clear hJ13
 go_wp2
 rw [rounds_succ]
 go_wp2
 obtain ⟨m10_13, hm⟩ : ∃ m, m = W13.heap.size := ⟨_, rfl⟩
 have hM : ∀ uu, Jz w m10_13 [(bk6, (cT (mulT r (mulT q s))), 50), (bk5, (cT (mulT (mulT r q) s)), 50), (bk4, (cV v), 25), (bk3, (cT s), 50), (bk2, (cT q), 50), (bk1, (cT r), 50)] [(14, 3, 23)] [(15, 14, (cS (meetS (mulT (mulT r q) s).b.y (mulT r (mulT q s)).b.y)), 23)] (fun _ => false) uu W13.drew := fun uu => by rw [hm]; exact Jz.start hJ13d uu
 clear hm hJ13d
 refine wp_region_y 17 [some 43, some 44, some 45, some 46, some 47, some 48, some 49, some 50, some 51, some 52, some 53, some 42, some 54, some 55, some 14, none, some 15] (veL m10_13 [.eq (.int .i64 1), .eq (.int .i64 1), .eq (.pointer (some ⟨bk5, 9, none⟩)), .eq (.pointer (some ⟨bk5, 12, none⟩)), .eq (.agg (cS (mulT (mulT r q) s).b.y)), .eq (.int .i64 1), .eq (.int .i64 1), .eq (.pointer (some ⟨bk6, 9, none⟩)), .eq (.pointer (some ⟨bk6, 12, none⟩)), .eq (.agg (cS (mulT r (mulT q s)).b.y)), .eq (.tuple #[.agg (cS (meetS (mulT (mulT r q) s).b.y (mulT r (mulT q s)).b.y)), .bool true]), .eq (.tuple #[.agg (cS (meetS (mulT (mulT r q) s).b.y (mulT r (mulT q s)).b.y)), .bool true]), .eq (.agg (cS (meetS (mulT (mulT r q) s).b.y (mulT r (mulT q s)).b.y))), .eq (.bool true), .any, .any, .eq (.bool true)]) (Jz w m10_13 [(bk6, (cT (mulT r (mulT q s))), 50), (bk5, (cT (mulT (mulT r q) s)), 50), (bk4, (cV v), 25), (bk3, (cT s), 50), (bk2, (cT q), 50), (bk1, (cT r), 50)] [(14, 3, 23)] [(15, 14, (cS (meetS (mulT (mulT r q) s).b.y (mulT r (mulT q s)).b.y)), 23)]) (by kernel_rfl) (by kernel_rfl) (by rfl) (by decide) (by rfl) hM ?_ ?_
 ·
  intro i hl hi LL uu ww aa hLi hJ hd hev hin
  clear hM
  obtain rfl | rfl | rfl | rfl | rfl | rfl | rfl | rfl | rfl | rfl | rfl | rfl | rfl | rfl | rfl | rfl | rfl : i = 0 ∨ i = 1 ∨ i = 2 ∨ i = 3 ∨ i = 4 ∨ i = 5 ∨ i = 6 ∨ i = 7 ∨ i = 8 ∨ i = 9 ∨ i = 10 ∨ i = 11 ∨ i = 12 ∨ i = 13 ∨ i = 14 ∨ i = 15 ∨ i = 16 := by omega
  ·
   exact .inr ⟨rfl, fun K' hK => wp_move (.tmp 12) rfl (eval_tmp ((hev 12 (by decide)).trans rfl)) (hK _ _ (hJ.grow hLi (by simp) (by simp) (Below.refl _ _)) rfl veL_same)⟩
  ·
   exact .inr ⟨rfl, fun K' hK => wp_move (.tmp 13) rfl (eval_tmp ((hev 13 (by decide)).trans rfl)) (hK _ _ (hJ.grow hLi (by simp) (by simp) (Below.refl _ _)) rfl veL_same)⟩
  ·
   exact .inr ⟨rfl, fun K' hK => wp_ixa 50 (.tmp 10) (.tmp 43) rfl (eval_tmp ((hev 10 (by decide)).trans rfl)) (eval_tmp ((hin 0 43 rfl).trans (congrArg some (show uu 0 = .int .i64 1 from (hd 0 (by decide) (by kernel_rfl)).2)))) (fun _ => by kernel_rfl) (hK _ _ (hJ.grow hLi (by simp) (by simp) (Below.refl _ _)) rfl veL_same)⟩
  ·
   exact .inr ⟨rfl, fun K' hK => wp_ixa 25 (.tmp 45) (.tmp 44) rfl (eval_tmp ((hin 2 45 rfl).trans (congrArg some (show uu 2 = .pointer (some ⟨bk5, 9, none⟩) from (hd 2 (by decide) (by kernel_rfl)).2)))) (eval_tmp ((hin 1 44 rfl).trans (congrArg some (show uu 1 = .int .i64 1 from (hd 1 (by decide) (by kernel_rfl)).2)))) (fun _ => by kernel_rfl) (hK _ _ (hJ.grow hLi (by simp) (by simp) (Below.refl _ _)) rfl veL_same)⟩
  ·
   exact .inr ⟨rfl, fun K' hK => wp_load 23 (.tmp 46) rfl bk5 12 3 (cT (mulT (mulT r q) s)) (cS (mulT (mulT r q) s).b.y) 50 (hJ.em.es.at' _ (List.mem_of_getElem? (i := 1) rfl)) (eval_tmp ((hin 3 46 rfl).trans (congrArg some (show uu 3 = .pointer (some ⟨bk5, 12, none⟩) from (hd 3 (by decide) (by kernel_rfl)).2)))) ag23 sz23 (Nat.le_of_ble_eq_true (by kernel_rfl)) (by kernel_rfl) (hK _ _ (hJ.grow hLi (by simp) (by simp) (Below.refl _ _)) rfl veL_same)⟩
  ·
   exact .inr ⟨rfl, fun K' hK => wp_move (.tmp 12) rfl (eval_tmp ((hev 12 (by decide)).trans rfl)) (hK _ _ (hJ.grow hLi (by simp) (by simp) (Below.refl _ _)) rfl veL_same)⟩
  ·
   exact .inr ⟨rfl, fun K' hK => wp_move (.tmp 13) rfl (eval_tmp ((hev 13 (by decide)).trans rfl)) (hK _ _ (hJ.grow hLi (by simp) (by simp) (Below.refl _ _)) rfl veL_same)⟩
  ·
   exact .inr ⟨rfl, fun K' hK => wp_ixa 50 (.tmp 11) (.tmp 48) rfl (eval_tmp ((hev 11 (by decide)).trans rfl)) (eval_tmp ((hin 5 48 rfl).trans (congrArg some (show uu 5 = .int .i64 1 from (hd 5 (by decide) (by kernel_rfl)).2)))) (fun _ => by kernel_rfl) (hK _ _ (hJ.grow hLi (by simp) (by simp) (Below.refl _ _)) rfl veL_same)⟩
  ·
   exact .inr ⟨rfl, fun K' hK => wp_ixa 25 (.tmp 50) (.tmp 49) rfl (eval_tmp ((hin 7 50 rfl).trans (congrArg some (show uu 7 = .pointer (some ⟨bk6, 9, none⟩) from (hd 7 (by decide) (by kernel_rfl)).2)))) (eval_tmp ((hin 6 49 rfl).trans (congrArg some (show uu 6 = .int .i64 1 from (hd 6 (by decide) (by kernel_rfl)).2)))) (fun _ => by kernel_rfl) (hK _ _ (hJ.grow hLi (by simp) (by simp) (Below.refl _ _)) rfl veL_same)⟩
  ·
   exact .inr ⟨rfl, fun K' hK => wp_load 23 (.tmp 51) rfl bk6 12 3 (cT (mulT r (mulT q s))) (cS (mulT r (mulT q s)).b.y) 50 (hJ.em.es.at' _ (List.mem_of_getElem? (i := 0) rfl)) (eval_tmp ((hin 8 51 rfl).trans (congrArg some (show uu 8 = .pointer (some ⟨bk6, 12, none⟩) from (hd 8 (by decide) (by kernel_rfl)).2)))) ag23 sz23 (Nat.le_of_ble_eq_true (by kernel_rfl)) (by kernel_rfl) (hK _ _ (hJ.grow hLi (by simp) (by simp) (Below.refl _ _)) rfl veL_same)⟩
  ·
   exact .inr ⟨rfl, fun K' hK => wp_callv (.func 41) #[.tmp 47, .tmp 52] _ 41 #[] #[.agg (cS (mulT (mulT r q) s).b.y), .agg (cS (mulT r (mulT q s)).b.y)] #[.agg (cS (mulT (mulT r q) s).b.y), .agg (cS (mulT r (mulT q s)).b.y)] rfl rfl (map2 (eval_tmp ((hin 4 47 rfl).trans (congrArg some (show uu 4 = .agg (cS (mulT (mulT r q) s).b.y) from (hd 4 (by decide) (by kernel_rfl)).2)))) (eval_tmp ((hin 9 52 rfl).trans (congrArg some (show uu 9 = .agg (cS (mulT r (mulT q s)).b.y) from (hd 9 (by decide) (by kernel_rfl)).2))))) (by kernel_rfl) (fun _ _ => by kernel_rfl) (meet_yes (chain_mul r q s).2.1.2.1 ww) (fun _ hB => (hK _ _ (hJ.grow hLi (by simp) (by simp) hB) rfl (veL_flat rfl)))⟩
  ·
   exact .inr ⟨rfl, fun K' hK => wp_move (.tmp 53) rfl (eval_tmp ((hin 10 53 rfl).trans (congrArg some (show uu 10 = .tuple #[.agg (cS (meetS (mulT (mulT r q) s).b.y (mulT r (mulT q s)).b.y)), .bool true] from (hd 10 (by decide) (by kernel_rfl)).2)))) (hK _ _ (hJ.grow hLi (by simp) (by simp) (Below.refl _ _)) rfl veL_same)⟩
  ·
   exact .inr ⟨rfl, fun K' hK => wp_ext (.tmp 42) 0 rfl (eval_tmp ((hin 11 42 rfl).trans (congrArg some (show uu 11 = .tuple #[.agg (cS (meetS (mulT (mulT r q) s).b.y (mulT r (mulT q s)).b.y)), .bool true] from (hd 11 (by decide) (by kernel_rfl)).2)))) (fun _ => rfl) (hK _ _ (hJ.grow hLi (by simp) (by simp) (Below.refl _ _)) rfl veL_same)⟩
  ·
   exact .inr ⟨rfl, fun K' hK => wp_ext (.tmp 42) 1 rfl (eval_tmp ((hin 11 42 rfl).trans (congrArg some (show uu 11 = .tuple #[.agg (cS (meetS (mulT (mulT r q) s).b.y (mulT r (mulT q s)).b.y)), .bool true] from (hd 11 (by decide) (by kernel_rfl)).2)))) (fun _ => rfl) (hK _ _ (hJ.grow hLi (by simp) (by simp) (Below.refl _ _)) rfl veL_same)⟩
  ·
   exact .inr ⟨rfl, fun K' hK => wp_alloc 23 rfl (.agg (cS zS)) zv23 (hK _ _ (hJ.alloc hLi (n := 3) rfl (by simp) (by simp)) trivial (veL_flat rfl))⟩
  ·
   have hLa := (hd 14 (by decide) (by kernel_rfl)).1
   obtain ⟨kb, kC, ke, kge, ksz, kcl⟩ := hJ.bx (14, 3, 23) (by simp) hLa
   have x14 : aa.tmps[14]? = some (.pointer (some ⟨kb, 0, none⟩)) := (hin 14 14 rfl).trans (congrArg some ke)
   have x54 : aa.tmps[54]? = some (.agg (cS (meetS (mulT (mulT r q) s).b.y (mulT r (mulT q s)).b.y))) := ((hin 12 54 rfl).trans (congrArg some (show uu 12 = .agg (cS (meetS (mulT (mulT r q) s).b.y (mulT r (mulT q s)).b.y)) from (hd 12 (by decide) (by kernel_rfl)).2)))
   clear hd hev hin
   simp only [List.getElem_cons_succ, List.getElem_cons_zero]
   clear hl
   refine .inr ⟨rfl, fun K' hK => ?_⟩
   have HK := Lib.hid hK
   clear hK
   refine wp_store 23 (.tmp 14) (.tmp 54) rfl 0 kb 0 kC 23 3 (cS (meetS (mulT (mulT r q) s).b.y (mulT r (mulT q s)).b.y)).toList (hJ.em.join kge kcl) rfl (eval_tmp x14) (by rw [eval_tmp x54]; rfl) sz23 (by kernel_rfl) (by rw [ksz]; decide) (by kernel_rfl) (fun ww2 hE hk hz => ?_)
   rw [putC_full (show kC.size = (cS (meetS (mulT (mulT r q) s).b.y (mulT r (mulT q s)).b.y)).toList.length from ksz), Array.toArray_toList] at hE
   exact HK.out undef _ (hJ.store (a := 14) (n := 3) (T := 23) (Cn := (cS (meetS (mulT (mulT r q) s).b.y (mulT r (mulT q s)).b.y))) hLi (by simp) (by simp) (by simp) (by simp) (by simp) (by simp) hLa ke kge rfl hE hk hz) trivial (veL_flat rfl)
  ·
   exact .inr ⟨rfl, fun K' hK => wp_asgn (.tmp 55) rfl (eval_tmp ((hin 13 55 rfl).trans (congrArg some (show uu 13 = .bool true from (hd 13 (by decide) (by kernel_rfl)).2)))) (hK _ _ (hJ.grow hLi (by simp) (by simp) (Below.refl _ _)) rfl veL_same)⟩
 clear hM
 intro LL uu W14 hLL hJm hd
 have e_0 : uu 0 = .int .i64 1 := hd 0 (by decide)
 have e_1 : uu 1 = .int .i64 1 := hd 1 (by decide)
 have e_2 : uu 2 = .pointer (some ⟨bk5, 9, none⟩) := hd 2 (by decide)
 have e_3 : uu 3 = .pointer (some ⟨bk5, 12, none⟩) := hd 3 (by decide)
 have e_4 : uu 4 = .agg (cS (mulT (mulT r q) s).b.y) := hd 4 (by decide)
 have e_5 : uu 5 = .int .i64 1 := hd 5 (by decide)
 have e_6 : uu 6 = .int .i64 1 := hd 6 (by decide)
 have e_7 : uu 7 = .pointer (some ⟨bk6, 9, none⟩) := hd 7 (by decide)
 have e_8 : uu 8 = .pointer (some ⟨bk6, 12, none⟩) := hd 8 (by decide)
 have e_9 : uu 9 = .agg (cS (mulT r (mulT q s)).b.y) := hd 9 (by decide)
 have e_10 : uu 10 = .tuple #[.agg (cS (meetS (mulT (mulT r q) s).b.y (mulT r (mulT q s)).b.y)), .bool true] := hd 10 (by decide)
 have e_11 : uu 11 = .tuple #[.agg (cS (meetS (mulT (mulT r q) s).b.y (mulT r (mulT q s)).b.y)), .bool true] := hd 11 (by decide)
 have e_12 : uu 12 = .agg (cS (meetS (mulT (mulT r q) s).b.y (mulT r (mulT q s)).b.y)) := hd 12 (by decide)
 have e_13 : uu 13 = .bool true := hd 13 (by decide)
 obtain ⟨bk11, kC14, e_14, nge14, ksz14, nB14⟩ := hJm.bx (14, 3, 23) (by simp) (hLL 14 (by decide))
 have e_16 : uu 16 = .bool true := hd 16 (by decide)
 obtain ⟨_, kb15, ke15, kl15⟩ := hJm.st (15, 14, (cS (meetS (mulT (mulT r q) s).b.y (mulT r (mulT q s)).b.y)), 23) (by simp) (hLL 15 (by decide))
 have kq15 : kb15 = bk11 := by
  have hq := ke15.symm.trans e_14
  injection hq with hq
  injection hq with hq
  injection hq with hq
 subst kq15
 clear ke15
 have g14 := hJm.em.join nge14 kl15
 clear hd hLL
 simp only [layS, Act.put, List.setIfInBounds_toArray, List.set_cons_succ, List.set_cons_zero, Nat.zero_add, Nat.reduceAdd, List.drop_succ_cons, List.drop_zero, List.drop_nil, e_0, e_1, e_2, e_3, e_4, e_5, e_6, e_7, e_8, e_9, e_10, e_11, e_12, e_13, e_14, e_16]
 have hJ14 := g14
 clear hJm e_0 e_1 e_2 e_3 e_4 e_5 e_6 e_7 e_8 e_9 e_10 e_11 e_12 e_13 e_14 e_16 nge14 nB14 ksz14 g14
 have hJ14d := hJ14.sub (List.sublist_cons_self _ _)
 clear hJ14
 go_wp2
 rw [rounds_succ]
 go_wp2
 obtain ⟨m10_14, hm⟩ : ∃ m, m = W14.heap.size := ⟨_, rfl⟩
 have hM : ∀ uu, Jz w m10_14 [(bk6, (cT (mulT r (mulT q s))), 50), (bk5, (cT (mulT (mulT r q) s)), 50), (bk4, (cV v), 25), (bk3, (cT s), 50), (bk2, (cT q), 50), (bk1, (cT r), 50)] [(14, 3, 23)] [(15, 14, (cS (meetS (mulT (mulT r q) s).b.z (mulT r (mulT q s)).b.z)), 23)] (fun _ => false) uu W14.drew := fun uu => by rw [hm]; exact Jz.start hJ14d uu
 clear hm hJ14d
 refine wp_region_y 17 [some 43, some 44, some 45, some 46, some 47, some 48, some 49, some 50, some 51, some 52, some 53, some 42, some 54, some 55, some 14, none, some 15] (veL m10_14 [.eq (.int .i64 1), .eq (.int .i64 2), .eq (.pointer (some ⟨bk5, 9, none⟩)), .eq (.pointer (some ⟨bk5, 15, none⟩)), .eq (.agg (cS (mulT (mulT r q) s).b.z)), .eq (.int .i64 1), .eq (.int .i64 2), .eq (.pointer (some ⟨bk6, 9, none⟩)), .eq (.pointer (some ⟨bk6, 15, none⟩)), .eq (.agg (cS (mulT r (mulT q s)).b.z)), .eq (.tuple #[.agg (cS (meetS (mulT (mulT r q) s).b.z (mulT r (mulT q s)).b.z)), .bool true]), .eq (.tuple #[.agg (cS (meetS (mulT (mulT r q) s).b.z (mulT r (mulT q s)).b.z)), .bool true]), .eq (.agg (cS (meetS (mulT (mulT r q) s).b.z (mulT r (mulT q s)).b.z))), .eq (.bool true), .any, .any, .eq (.bool true)]) (Jz w m10_14 [(bk6, (cT (mulT r (mulT q s))), 50), (bk5, (cT (mulT (mulT r q) s)), 50), (bk4, (cV v), 25), (bk3, (cT s), 50), (bk2, (cT q), 50), (bk1, (cT r), 50)] [(14, 3, 23)] [(15, 14, (cS (meetS (mulT (mulT r q) s).b.z (mulT r (mulT q s)).b.z)), 23)]) (by kernel_rfl) (by kernel_rfl) (by rfl) (by decide) (by rfl) hM ?_ ?_
 ·
  intro i hl hi LL uu ww aa hLi hJ hd hev hin
  clear hM
  obtain rfl | rfl | rfl | rfl | rfl | rfl | rfl | rfl | rfl | rfl | rfl | rfl | rfl | rfl | rfl | rfl | rfl : i = 0 ∨ i = 1 ∨ i = 2 ∨ i = 3 ∨ i = 4 ∨ i = 5 ∨ i = 6 ∨ i = 7 ∨ i = 8 ∨ i = 9 ∨ i = 10 ∨ i = 11 ∨ i = 12 ∨ i = 13 ∨ i = 14 ∨ i = 15 ∨ i = 16 := by omega
  ·
   exact .inr ⟨rfl, fun K' hK => wp_move (.tmp 12) rfl (eval_tmp ((hev 12 (by decide)).trans rfl)) (hK _ _ (hJ.grow hLi (by simp) (by simp) (Below.refl _ _)) rfl veL_same)⟩
  ·
   exact .inr ⟨rfl, fun K' hK => wp_move (.tmp 13) rfl (eval_tmp ((hev 13 (by decide)).trans rfl)) (hK _ _ (hJ.grow hLi (by simp) (by simp) (Below.refl _ _)) rfl veL_same)⟩
  ·
   exact .inr ⟨rfl, fun K' hK => wp_ixa 50 (.tmp 10) (.tmp 43) rfl (eval_tmp ((hev 10 (by decide)).trans rfl)) (eval_tmp ((hin 0 43 rfl).trans (congrArg some (show uu 0 = .int .i64 1 from (hd 0 (by decide) (by kernel_rfl)).2)))) (fun _ => by kernel_rfl) (hK _ _ (hJ.grow hLi (by simp) (by simp) (Below.refl _ _)) rfl veL_same)⟩
  ·
   exact .inr ⟨rfl, fun K' hK => wp_ixa 25 (.tmp 45) (.tmp 44) rfl (eval_tmp ((hin 2 45 rfl).trans (congrArg some (show uu 2 = .pointer (some ⟨bk5, 9, none⟩) from (hd 2 (by decide) (by kernel_rfl)).2)))) (eval_tmp ((hin 1 44 rfl).trans (congrArg some (show uu 1 = .int .i64 2 from (hd 1 (by decide) (by kernel_rfl)).2)))) (fun _ => by kernel_rfl) (hK _ _ (hJ.grow hLi (by simp) (by simp) (Below.refl _ _)) rfl veL_same)⟩
  ·
   exact .inr ⟨rfl, fun K' hK => wp_load 23 (.tmp 46) rfl bk5 15 3 (cT (mulT (mulT r q) s)) (cS (mulT (mulT r q) s).b.z) 50 (hJ.em.es.at' _ (List.mem_of_getElem? (i := 1) rfl)) (eval_tmp ((hin 3 46 rfl).trans (congrArg some (show uu 3 = .pointer (some ⟨bk5, 15, none⟩) from (hd 3 (by decide) (by kernel_rfl)).2)))) ag23 sz23 (Nat.le_of_ble_eq_true (by kernel_rfl)) (by kernel_rfl) (hK _ _ (hJ.grow hLi (by simp) (by simp) (Below.refl _ _)) rfl veL_same)⟩
  ·
   exact .inr ⟨rfl, fun K' hK => wp_move (.tmp 12) rfl (eval_tmp ((hev 12 (by decide)).trans rfl)) (hK _ _ (hJ.grow hLi (by simp) (by simp) (Below.refl _ _)) rfl veL_same)⟩
  ·
   exact .inr ⟨rfl, fun K' hK => wp_move (.tmp 13) rfl (eval_tmp ((hev 13 (by decide)).trans rfl)) (hK _ _ (hJ.grow hLi (by simp) (by simp) (Below.refl _ _)) rfl veL_same)⟩
  ·
   exact .inr ⟨rfl, fun K' hK => wp_ixa 50 (.tmp 11) (.tmp 48) rfl (eval_tmp ((hev 11 (by decide)).trans rfl)) (eval_tmp ((hin 5 48 rfl).trans (congrArg some (show uu 5 = .int .i64 1 from (hd 5 (by decide) (by kernel_rfl)).2)))) (fun _ => by kernel_rfl) (hK _ _ (hJ.grow hLi (by simp) (by simp) (Below.refl _ _)) rfl veL_same)⟩
  ·
   exact .inr ⟨rfl, fun K' hK => wp_ixa 25 (.tmp 50) (.tmp 49) rfl (eval_tmp ((hin 7 50 rfl).trans (congrArg some (show uu 7 = .pointer (some ⟨bk6, 9, none⟩) from (hd 7 (by decide) (by kernel_rfl)).2)))) (eval_tmp ((hin 6 49 rfl).trans (congrArg some (show uu 6 = .int .i64 2 from (hd 6 (by decide) (by kernel_rfl)).2)))) (fun _ => by kernel_rfl) (hK _ _ (hJ.grow hLi (by simp) (by simp) (Below.refl _ _)) rfl veL_same)⟩
  ·
   exact .inr ⟨rfl, fun K' hK => wp_load 23 (.tmp 51) rfl bk6 15 3 (cT (mulT r (mulT q s))) (cS (mulT r (mulT q s)).b.z) 50 (hJ.em.es.at' _ (List.mem_of_getElem? (i := 0) rfl)) (eval_tmp ((hin 8 51 rfl).trans (congrArg some (show uu 8 = .pointer (some ⟨bk6, 15, none⟩) from (hd 8 (by decide) (by kernel_rfl)).2)))) ag23 sz23 (Nat.le_of_ble_eq_true (by kernel_rfl)) (by kernel_rfl) (hK _ _ (hJ.grow hLi (by simp) (by simp) (Below.refl _ _)) rfl veL_same)⟩
  ·
   exact .inr ⟨rfl, fun K' hK => wp_callv (.func 41) #[.tmp 47, .tmp 52] _ 41 #[] #[.agg (cS (mulT (mulT r q) s).b.z), .agg (cS (mulT r (mulT q s)).b.z)] #[.agg (cS (mulT (mulT r q) s).b.z), .agg (cS (mulT r (mulT q s)).b.z)] rfl rfl (map2 (eval_tmp ((hin 4 47 rfl).trans (congrArg some (show uu 4 = .agg (cS (mulT (mulT r q) s).b.z) from (hd 4 (by decide) (by kernel_rfl)).2)))) (eval_tmp ((hin 9 52 rfl).trans (congrArg some (show uu 9 = .agg (cS (mulT r (mulT q s)).b.z) from (hd 9 (by decide) (by kernel_rfl)).2))))) (by kernel_rfl) (fun _ _ => by kernel_rfl) (meet_yes (chain_mul r q s).2.1.2.2 ww) (fun _ hB => (hK _ _ (hJ.grow hLi (by simp) (by simp) hB) rfl (veL_flat rfl)))⟩
  ·
   exact .inr ⟨rfl, fun K' hK => wp_move (.tmp 53) rfl (eval_tmp ((hin 10 53 rfl).trans (congrArg some (show uu 10 = .tuple #[.agg (cS (meetS (mulT (mulT r q) s).b.z (mulT r (mulT q s)).b.z)), .bool true] from (hd 10 (by decide) (by kernel_rfl)).2)))) (hK _ _ (hJ.grow hLi (by simp) (by simp) (Below.refl _ _)) rfl veL_same)⟩
  ·
   exact .inr ⟨rfl, fun K' hK => wp_ext (.tmp 42) 0 rfl (eval_tmp ((hin 11 42 rfl).trans (congrArg some (show uu 11 = .tuple #[.agg (cS (meetS (mulT (mulT r q) s).b.z (mulT r (mulT q s)).b.z)), .bool true] from (hd 11 (by decide) (by kernel_rfl)).2)))) (fun _ => rfl) (hK _ _ (hJ.grow hLi (by simp) (by simp) (Below.refl _ _)) rfl veL_same)⟩
  ·
   exact .inr ⟨rfl, fun K' hK => wp_ext (.tmp 42) 1 rfl (eval_tmp ((hin 11 42 rfl).trans (congrArg some (show uu 11 = .tuple #[.agg (cS (meetS (mulT (mulT r q) s).b.z (mulT r (mulT q s)).b.z)), .bool true] from (hd 11 (by decide) (by kernel_rfl)).2)))) (fun _ => rfl) (hK _ _ (hJ.grow hLi (by simp) (by simp) (Below.refl _ _)) rfl veL_same)⟩
  ·
   exact .inr ⟨rfl, fun K' hK => wp_alloc 23 rfl (.agg (cS zS)) zv23 (hK _ _ (hJ.alloc hLi (n := 3) rfl (by simp) (by simp)) trivial (veL_flat rfl))⟩
  ·
   have hLa := (hd 14 (by decide) (by kernel_rfl)).1
   obtain ⟨kb, kC, ke, kge, ksz, kcl⟩ := hJ.bx (14, 3, 23) (by simp) hLa
   have x14 : aa.tmps[14]? = some (.pointer (some ⟨kb, 0, none⟩)) := (hin 14 14 rfl).trans (congrArg some ke)
   have x54 : aa.tmps[54]? = some (.agg (cS (meetS (mulT (mulT r q) s).b.z (mulT r (mulT q s)).b.z))) := ((hin 12 54 rfl).trans (congrArg some (show uu 12 = .agg (cS (meetS (mulT (mulT r q) s).b.z (mulT r (mulT q s)).b.z)) from (hd 12 (by decide) (by kernel_rfl)).2)))
   clear hd hev hin
   simp only [List.getElem_cons_succ, List.getElem_cons_zero]
   clear hl
   refine .inr ⟨rfl, fun K' hK => ?_⟩
   have HK := Lib.hid hK
   clear hK
   refine wp_store 23 (.tmp 14) (.tmp 54) rfl 0 kb 0 kC 23 3 (cS (meetS (mulT (mulT r q) s).b.z (mulT r (mulT q s)).b.z)).toList (hJ.em.join kge kcl) rfl (eval_tmp x14) (by rw [eval_tmp x54]; rfl) sz23 (by kernel_rfl) (by rw [ksz]; decide) (by kernel_rfl) (fun ww2 hE hk hz => ?_)
   rw [putC_full (show kC.size = (cS (meetS (mulT (mulT r q) s).b.z (mulT r (mulT q s)).b.z)).toList.length from ksz), Array.toArray_toList] at hE
   exact HK.out undef _ (hJ.store (a := 14) (n := 3) (T := 23) (Cn := (cS (meetS (mulT (mulT r q) s).b.z (mulT r (mulT q s)).b.z))) hLi (by simp) (by simp) (by simp) (by simp) (by simp) (by simp) hLa ke kge rfl hE hk hz) trivial (veL_flat rfl)
  ·
   exact .inr ⟨rfl, fun K' hK => wp_asgn (.tmp 55) rfl (eval_tmp ((hin 13 55 rfl).trans (congrArg some (show uu 13 = .bool true from (hd 13 (by decide) (by kernel_rfl)).2)))) (hK _ _ (hJ.grow hLi (by simp) (by simp) (Below.refl _ _)) rfl veL_same)⟩
 clear hM
 intro LL uu W15 hLL hJm hd
 have e_0 : uu 0 = .int .i64 1 := hd 0 (by decide)
 have e_1 : uu 1 = .int .i64 2 := hd 1 (by decide)
 have e_2 : uu 2 = .pointer (some ⟨bk5, 9, none⟩) := hd 2 (by decide)
 have e_3 : uu 3 = .pointer (some ⟨bk5, 15, none⟩) := hd 3 (by decide)
 have e_4 : uu 4 = .agg (cS (mulT (mulT r q) s).b.z) := hd 4 (by decide)
 have e_5 : uu 5 = .int .i64 1 := hd 5 (by decide)
 have e_6 : uu 6 = .int .i64 2 := hd 6 (by decide)
 have e_7 : uu 7 = .pointer (some ⟨bk6, 9, none⟩) := hd 7 (by decide)
 have e_8 : uu 8 = .pointer (some ⟨bk6, 15, none⟩) := hd 8 (by decide)
 have e_9 : uu 9 = .agg (cS (mulT r (mulT q s)).b.z) := hd 9 (by decide)
 have e_10 : uu 10 = .tuple #[.agg (cS (meetS (mulT (mulT r q) s).b.z (mulT r (mulT q s)).b.z)), .bool true] := hd 10 (by decide)
 have e_11 : uu 11 = .tuple #[.agg (cS (meetS (mulT (mulT r q) s).b.z (mulT r (mulT q s)).b.z)), .bool true] := hd 11 (by decide)
 have e_12 : uu 12 = .agg (cS (meetS (mulT (mulT r q) s).b.z (mulT r (mulT q s)).b.z)) := hd 12 (by decide)
 have e_13 : uu 13 = .bool true := hd 13 (by decide)
 obtain ⟨bk12, kC14, e_14, nge14, ksz14, nB14⟩ := hJm.bx (14, 3, 23) (by simp) (hLL 14 (by decide))
 have e_16 : uu 16 = .bool true := hd 16 (by decide)
 obtain ⟨_, kb15, ke15, kl15⟩ := hJm.st (15, 14, (cS (meetS (mulT (mulT r q) s).b.z (mulT r (mulT q s)).b.z)), 23) (by simp) (hLL 15 (by decide))
 have kq15 : kb15 = bk12 := by
  have hq := ke15.symm.trans e_14
  injection hq with hq
  injection hq with hq
  injection hq with hq
 subst kq15
 clear ke15
 have g14 := hJm.em.join nge14 kl15
 clear hd hLL
 simp only [layS, Act.put, List.setIfInBounds_toArray, List.set_cons_succ, List.set_cons_zero, Nat.zero_add, Nat.reduceAdd, List.drop_succ_cons, List.drop_zero, List.drop_nil, e_0, e_1, e_2, e_3, e_4, e_5, e_6, e_7, e_8, e_9, e_10, e_11, e_12, e_13, e_14, e_16]
 have hJ15 := g14
 clear hJm e_0 e_1 e_2 e_3 e_4 e_5 e_6 e_7 e_8 e_9 e_10 e_11 e_12 e_13 e_14 e_16 nge14 nB14 ksz14 g14
 have hJ15d := hJ15.sub (List.sublist_cons_self _ _)
 clear hJ15
 go_wp2
 rw [rounds_succ]
 go_wp2
 rw [rounds_succ]
 go_wp2
 refine wp_loop_rounds 4 ?_
 rw [rounds_succ]
 go_wp2
 obtain ⟨m10_15, hm⟩ : ∃ m, m = W15.heap.size := ⟨_, rfl⟩
 have hM : ∀ uu, Jz w m10_15 [(bk6, (cT (mulT r (mulT q s))), 50), (bk5, (cT (mulT (mulT r q) s)), 50), (bk4, (cV v), 25), (bk3, (cT s), 50), (bk2, (cT q), 50), (bk1, (cT r), 50)] [(14, 3, 23)] [(15, 14, (cS (meetS (mulT (mulT r q) s).c.x (mulT r (mulT q s)).c.x)), 23)] (fun _ => false) uu W15.drew := fun uu => by rw [hm]; exact Jz.start hJ15d uu
 clear hm hJ15d
 refine wp_region_y 17 [some 43, some 44, some 45, some 46, some 47, some 48, some 49, some 50, some 51, some 52, some 53, some 42, some 54, some 55, some 14, none, some 15] (veL m10_15 [.eq (.int .i64 2), .eq (.int .i64 0), .eq (.pointer (some ⟨bk5, 18, none⟩)), .eq (.pointer (some ⟨bk5, 18, none⟩)), .eq (.agg (cS (mulT (mulT r q) s).c.x)), .eq (.int .i64 2), .eq (.int .i64 0), .eq (.pointer (some ⟨bk6, 18, none⟩)), .eq (.pointer (some ⟨bk6, 18, none⟩)), .eq (.agg (cS (mulT r (mulT q s)).c.x)), .eq (.tuple #[.agg (cS (meetS (mulT (mulT r q) s).c.x (mulT r (mulT q s)).c.x)), .bool true]), .eq (.tuple #[.agg (cS (meetS (mulT (mulT r q) s).c.x (mulT r (mulT q s)).c.x)), .bool true]), .eq (.agg (cS (meetS (mulT (mulT r q) s).c.x (mulT r (mulT q s)).c.x))), .eq (.bool true), .any, .any, .eq (.bool true)]) (Jz w m10_15 [(bk6, (cT (mulT r (mulT q s))), 50), (bk5, (cT (mulT (mulT r q) s)), 50), (bk4, (cV v), 25), (bk3, (cT s), 50), (bk2, (cT q), 50), (bk1, (cT r), 50)] [(14, 3, 23)] [(15, 14, (cS (meetS (mulT (mulT r q) s).c.x (mulT r (mulT q s)).c.x)), 23)]) (by kernel_rfl) (by kernel_rfl) (by rfl) (by decide) (by rfl) hM ?_ ?_
 ·
  intro i hl hi LL uu ww aa hLi hJ hd hev hin
  clear hM
  obtain rfl | rfl | rfl | rfl | rfl | rfl | rfl | rfl | rfl | rfl | rfl | rfl | rfl | rfl | rfl | rfl | rfl : i = 0 ∨ i = 1 ∨ i = 2 ∨ i = 3 ∨ i = 4 ∨ i = 5 ∨ i = 6 ∨ i = 7 ∨ i = 8 ∨ i = 9 ∨ i = 10 ∨ i = 11 ∨ i = 12 ∨ i = 13 ∨ i = 14 ∨ i = 15 ∨ i = 16 := by omega
  ·
   exact .inr ⟨rfl, fun K' hK => wp_move (.tmp 12) rfl (eval_tmp ((hev 12 (by decide)).trans rfl)) (hK _ _ (hJ.grow hLi (by simp) (by simp) (Below.refl _ _)) rfl veL_same)⟩
  ·
   exact .inr ⟨rfl, fun K' hK => wp_move (.tmp 13) rfl (eval_tmp ((hev 13 (by decide)).trans rfl)) (hK _ _ (hJ.grow hLi (by simp) (by simp) (Below.refl _ _)) rfl veL_same)⟩
  ·
   exact .inr ⟨rfl, fun K' hK => wp_ixa 50 (.tmp 10) (.tmp 43) rfl (eval_tmp ((hev 10 (by decide)).trans rfl)) (eval_tmp ((hin 0 43 rfl).trans (congrArg some (show uu 0 = .int .i64 2 from (hd 0 (by decide) (by kernel_rfl)).2)))) (fun _ => by kernel_rfl) (hK _ _ (hJ.grow hLi (by simp) (by simp) (Below.refl _ _)) rfl veL_same)⟩
  ·
   exact .inr ⟨rfl, fun K' hK => wp_ixa 25 (.tmp 45) (.tmp 44) rfl (eval_tmp ((hin 2 45 rfl).trans (congrArg some (show uu 2 = .pointer (some ⟨bk5, 18, none⟩) from (hd 2 (by decide) (by kernel_rfl)).2)))) (eval_tmp ((hin 1 44 rfl).trans (congrArg some (show uu 1 = .int .i64 0 from (hd 1 (by decide) (by kernel_rfl)).2)))) (fun _ => by kernel_rfl) (hK _ _ (hJ.grow hLi (by simp) (by simp) (Below.refl _ _)) rfl veL_same)⟩
  ·
   exact .inr ⟨rfl, fun K' hK => wp_load 23 (.tmp 46) rfl bk5 18 3 (cT (mulT (mulT r q) s)) (cS (mulT (mulT r q) s).c.x) 50 (hJ.em.es.at' _ (List.mem_of_getElem? (i := 1) rfl)) (eval_tmp ((hin 3 46 rfl).trans (congrArg some (show uu 3 = .pointer (some ⟨bk5, 18, none⟩) from (hd 3 (by decide) (by kernel_rfl)).2)))) ag23 sz23 (Nat.le_of_ble_eq_true (by kernel_rfl)) (by kernel_rfl) (hK _ _ (hJ.grow hLi (by simp) (by simp) (Below.refl _ _)) rfl veL_same)⟩
  ·
   exact .inr ⟨rfl, fun K' hK => wp_move (.tmp 12) rfl (eval_tmp ((hev 12 (by decide)).trans rfl)) (hK _ _ (hJ.grow hLi (by simp) (by simp) (Below.refl _ _)) rfl veL_same)⟩
  ·
   exact .inr ⟨rfl, fun K' hK => wp_move (.tmp 13) rfl (eval_tmp ((hev 13 (by decide)).trans rfl)) (hK _ _ (hJ.grow hLi (by simp) (by simp) (Below.refl _ _)) rfl veL_same)⟩
  ·
   exact .inr ⟨rfl, fun K' hK => wp_ixa 50 (.tmp 11) (.tmp 48) rfl (eval_tmp ((hev 11 (by decide)).trans rfl)) (eval_tmp ((hin 5 48 rfl).trans (congrArg some (show uu 5 = .int .i64 2 from (hd 5 (by decide) (by kernel_rfl)).2)))) (fun _ => by kernel_rfl) (hK _ _ (hJ.grow hLi (by simp) (by simp) (Below.refl _ _)) rfl veL_same)⟩
  ·
   exact .inr ⟨rfl, fun K' hK => wp_ixa 25 (.tmp 50) (.tmp 49) rfl (eval_tmp ((hin 7 50 rfl).trans (congrArg some (show uu 7 = .pointer (some ⟨bk6, 18, none⟩) from (hd 7 (by decide) (by kernel_rfl)).2)))) (eval_tmp ((hin 6 49 rfl).trans (congrArg some (show uu 6 = .int .i64 0 from (hd 6 (by decide) (by kernel_rfl)).2)))) (fun _ => by kernel_rfl) (hK _ _ (hJ.grow hLi (by simp) (by simp) (Below.refl _ _)) rfl veL_same)⟩
  ·
   exact .inr ⟨rfl, fun K' hK => wp_load 23 (.tmp 51) rfl bk6 18 3 (cT (mulT r (mulT q s))) (cS (mulT r (mulT q s)).c.x) 50 (hJ.em.es.at' _ (List.mem_of_getElem? (i := 0) rfl)) (eval_tmp ((hin 8 51 rfl).trans (congrArg some (show uu 8 = .pointer (some ⟨bk6, 18, none⟩) from (hd 8 (by decide) (by kernel_rfl)).2)))) ag23 sz23 (Nat.le_of_ble_eq_true (by kernel_rfl)) (by kernel_rfl) (hK _ _ (hJ.grow hLi (by simp) (by simp) (Below.refl _ _)) rfl veL_same)⟩
  ·
   exact .inr ⟨rfl, fun K' hK => wp_callv (.func 41) #[.tmp 47, .tmp 52] _ 41 #[] #[.agg (cS (mulT (mulT r q) s).c.x), .agg (cS (mulT r (mulT q s)).c.x)] #[.agg (cS (mulT (mulT r q) s).c.x), .agg (cS (mulT r (mulT q s)).c.x)] rfl rfl (map2 (eval_tmp ((hin 4 47 rfl).trans (congrArg some (show uu 4 = .agg (cS (mulT (mulT r q) s).c.x) from (hd 4 (by decide) (by kernel_rfl)).2)))) (eval_tmp ((hin 9 52 rfl).trans (congrArg some (show uu 9 = .agg (cS (mulT r (mulT q s)).c.x) from (hd 9 (by decide) (by kernel_rfl)).2))))) (by kernel_rfl) (fun _ _ => by kernel_rfl) (meet_yes (chain_mul r q s).2.2.1 ww) (fun _ hB => (hK _ _ (hJ.grow hLi (by simp) (by simp) hB) rfl (veL_flat rfl)))⟩
  ·
   exact .inr ⟨rfl, fun K' hK => wp_move (.tmp 53) rfl (eval_tmp ((hin 10 53 rfl).trans (congrArg some (show uu 10 = .tuple #[.agg (cS (meetS (mulT (mulT r q) s).c.x (mulT r (mulT q s)).c.x)), .bool true] from (hd 10 (by decide) (by kernel_rfl)).2)))) (hK _ _ (hJ.grow hLi (by simp) (by simp) (Below.refl _ _)) rfl veL_same)⟩
  ·
   exact .inr ⟨rfl, fun K' hK => wp_ext (.tmp 42) 0 rfl (eval_tmp ((hin 11 42 rfl).trans (congrArg some (show uu 11 = .tuple #[.agg (cS (meetS (mulT (mulT r q) s).c.x (mulT r (mulT q s)).c.x)), .bool true] from (hd 11 (by decide) (by kernel_rfl)).2)))) (fun _ => rfl) (hK _ _ (hJ.grow hLi (by simp) (by simp) (Below.refl _ _)) rfl veL_same)⟩
  ·
   exact .inr ⟨rfl, fun K' hK => wp_ext (.tmp 42) 1 rfl (eval_tmp ((hin 11 42 rfl).trans (congrArg some (show uu 11 = .tuple #[.agg (cS (meetS (mulT (mulT r q) s).c.x (mulT r (mulT q s)).c.x)), .bool true] from (hd 11 (by decide) (by kernel_rfl)).2)))) (fun _ => rfl) (hK _ _ (hJ.grow hLi (by simp) (by simp) (Below.refl _ _)) rfl veL_same)⟩
  ·
   exact .inr ⟨rfl, fun K' hK => wp_alloc 23 rfl (.agg (cS zS)) zv23 (hK _ _ (hJ.alloc hLi (n := 3) rfl (by simp) (by simp)) trivial (veL_flat rfl))⟩
  ·
   have hLa := (hd 14 (by decide) (by kernel_rfl)).1
   obtain ⟨kb, kC, ke, kge, ksz, kcl⟩ := hJ.bx (14, 3, 23) (by simp) hLa
   have x14 : aa.tmps[14]? = some (.pointer (some ⟨kb, 0, none⟩)) := (hin 14 14 rfl).trans (congrArg some ke)
   have x54 : aa.tmps[54]? = some (.agg (cS (meetS (mulT (mulT r q) s).c.x (mulT r (mulT q s)).c.x))) := ((hin 12 54 rfl).trans (congrArg some (show uu 12 = .agg (cS (meetS (mulT (mulT r q) s).c.x (mulT r (mulT q s)).c.x)) from (hd 12 (by decide) (by kernel_rfl)).2)))
   clear hd hev hin
   simp only [List.getElem_cons_succ, List.getElem_cons_zero]
   clear hl
   refine .inr ⟨rfl, fun K' hK => ?_⟩
   have HK := Lib.hid hK
   clear hK
   refine wp_store 23 (.tmp 14) (.tmp 54) rfl 0 kb 0 kC 23 3 (cS (meetS (mulT (mulT r q) s).c.x (mulT r (mulT q s)).c.x)).toList (hJ.em.join kge kcl) rfl (eval_tmp x14) (by rw [eval_tmp x54]; rfl) sz23 (by kernel_rfl) (by rw [ksz]; decide) (by kernel_rfl) (fun ww2 hE hk hz => ?_)
   rw [putC_full (show kC.size = (cS (meetS (mulT (mulT r q) s).c.x (mulT r (mulT q s)).c.x)).toList.length from ksz), Array.toArray_toList] at hE
   exact HK.out undef _ (hJ.store (a := 14) (n := 3) (T := 23) (Cn := (cS (meetS (mulT (mulT r q) s).c.x (mulT r (mulT q s)).c.x))) hLi (by simp) (by simp) (by simp) (by simp) (by simp) (by simp) hLa ke kge rfl hE hk hz) trivial (veL_flat rfl)
  ·
   exact .inr ⟨rfl, fun K' hK => wp_asgn (.tmp 55) rfl (eval_tmp ((hin 13 55 rfl).trans (congrArg some (show uu 13 = .bool true from (hd 13 (by decide) (by kernel_rfl)).2)))) (hK _ _ (hJ.grow hLi (by simp) (by simp) (Below.refl _ _)) rfl veL_same)⟩
 clear hM
 intro LL uu W16 hLL hJm hd
 have e_0 : uu 0 = .int .i64 2 := hd 0 (by decide)
 have e_1 : uu 1 = .int .i64 0 := hd 1 (by decide)
 have e_2 : uu 2 = .pointer (some ⟨bk5, 18, none⟩) := hd 2 (by decide)
 have e_3 : uu 3 = .pointer (some ⟨bk5, 18, none⟩) := hd 3 (by decide)
 have e_4 : uu 4 = .agg (cS (mulT (mulT r q) s).c.x) := hd 4 (by decide)
 have e_5 : uu 5 = .int .i64 2 := hd 5 (by decide)
 have e_6 : uu 6 = .int .i64 0 := hd 6 (by decide)
 have e_7 : uu 7 = .pointer (some ⟨bk6, 18, none⟩) := hd 7 (by decide)
 have e_8 : uu 8 = .pointer (some ⟨bk6, 18, none⟩) := hd 8 (by decide)
 have e_9 : uu 9 = .agg (cS (mulT r (mulT q s)).c.x) := hd 9 (by decide)
 have e_10 : uu 10 = .tuple #[.agg (cS (meetS (mulT (mulT r q) s).c.x (mulT r (mulT q s)).c.x)), .bool true] := hd 10 (by decide)
 have e_11 : uu 11 = .tuple #[.agg (cS (meetS (mulT (mulT r q) s).c.x (mulT r (mulT q s)).c.x)), .bool true] := hd 11 (by decide)
 have e_12 : uu 12 = .agg (cS (meetS (mulT (mulT r q) s).c.x (mulT r (mulT q s)).c.x)) := hd 12 (by decide)
 have e_13 : uu 13 = .bool true := hd 13 (by decide)
 obtain ⟨bk13, kC14, e_14, nge14, ksz14, nB14⟩ := hJm.bx (14, 3, 23) (by simp) (hLL 14 (by decide))
 have e_16 : uu 16 = .bool true := hd 16 (by decide)
 obtain ⟨_, kb15, ke15, kl15⟩ := hJm.st (15, 14, (cS (meetS (mulT (mulT r q) s).c.x (mulT r (mulT q s)).c.x)), 23) (by simp) (hLL 15 (by decide))
 have kq15 : kb15 = bk13 := by
  have hq := ke15.symm.trans e_14
  injection hq with hq
  injection hq with hq
  injection hq with hq
 subst kq15
 clear ke15
 have g14 := hJm.em.join nge14 kl15
 clear hd hLL
 simp only [layS, Act.put, List.setIfInBounds_toArray, List.set_cons_succ, List.set_cons_zero, Nat.zero_add, Nat.reduceAdd, List.drop_succ_cons, List.drop_zero, List.drop_nil, e_0, e_1, e_2, e_3, e_4, e_5, e_6, e_7, e_8, e_9, e_10, e_11, e_12, e_13, e_14, e_16]
 have hJ16 := g14
 clear hJm e_0 e_1 e_2 e_3 e_4 e_5 e_6 e_7 e_8 e_9 e_10 e_11 e_12 e_13 e_14 e_16 nge14 nB14 ksz14 g14
 have hJ16d := hJ16.sub (List.sublist_cons_self _ _)
 clear hJ16
 go_wp2
 rw [rounds_succ]
 go_wp2
 obtain ⟨m10_16, hm⟩ : ∃ m, m = W16.heap.size := ⟨_, rfl⟩
 have hM : ∀ uu, Jz w m10_16 [(bk6, (cT (mulT r (mulT q s))), 50), (bk5, (cT (mulT (mulT r q) s)), 50), (bk4, (cV v), 25), (bk3, (cT s), 50), (bk2, (cT q), 50), (bk1, (cT r), 50)] [(14, 3, 23)] [(15, 14, (cS (meetS (mulT (mulT r q) s).c.y (mulT r (mulT q s)).c.y)), 23)] (fun _ => false) uu W16.drew := fun uu => by rw [hm]; exact Jz.start hJ16d uu
 clear hm hJ16d
 refine wp_region_y 17 [some 43, some 44, some 45, some 46, some 47, some 48, some 49, some 50, some 51, some 52, some 53, some 42, some 54, some 55, some 14, none, some 15] (veL m10_16 [.eq (.int .i64 2), .eq (.int .i64 1), .eq (.pointer (some ⟨bk5, 18, none⟩)), .eq (.pointer (some ⟨bk5, 21, none⟩)), .eq (.agg (cS (mulT (mulT r q) s).c.y)), .eq (.int .i64 2), .eq (.int .i64 1), .eq (.pointer (some ⟨bk6, 18, none⟩)), .eq (.pointer (some ⟨bk6, 21, none⟩)), .eq (.agg (cS (mulT r (mulT q s)).c.y)), .eq (.tuple #[.agg (cS (meetS (mulT (mulT r q) s).c.y (mulT r (mulT q s)).c.y)), .bool true]), .eq (.tuple #[.agg (cS (meetS (mulT (mulT r q) s).c.y (mulT r (mulT q s)).c.y)), .bool true]), .eq (.agg (cS (meetS (mulT (mulT r q) s).c.y (mulT r (mulT q s)).c.y))), .eq (.bool true), .any, .any, .eq (.bool true)]) (Jz w m10_16 [(bk6, (cT (mulT r (mulT q s))), 50), (bk5, (cT (mulT (mulT r q) s)), 50), (bk4, (cV v), 25), (bk3, (cT s), 50), (bk2, (cT q), 50), (bk1, (cT r), 50)] [(14, 3, 23)] [(15, 14, (cS (meetS (mulT (mulT r q) s).c.y (mulT r (mulT q s)).c.y)), 23)]) (by kernel_rfl) (by kernel_rfl) (by rfl) (by decide) (by rfl) hM ?_ ?_
 ·
  intro i hl hi LL uu ww aa hLi hJ hd hev hin
  clear hM
  obtain rfl | rfl | rfl | rfl | rfl | rfl | rfl | rfl | rfl | rfl | rfl | rfl | rfl | rfl | rfl | rfl | rfl : i = 0 ∨ i = 1 ∨ i = 2 ∨ i = 3 ∨ i = 4 ∨ i = 5 ∨ i = 6 ∨ i = 7 ∨ i = 8 ∨ i = 9 ∨ i = 10 ∨ i = 11 ∨ i = 12 ∨ i = 13 ∨ i = 14 ∨ i = 15 ∨ i = 16 := by omega
  ·
   exact .inr ⟨rfl, fun K' hK => wp_move (.tmp 12) rfl (eval_tmp ((hev 12 (by decide)).trans rfl)) (hK _ _ (hJ.grow hLi (by simp) (by simp) (Below.refl _ _)) rfl veL_same)⟩
  ·
   exact .inr ⟨rfl, fun K' hK => wp_move (.tmp 13) rfl (eval_tmp ((hev 13 (by decide)).trans rfl)) (hK _ _ (hJ.grow hLi (by simp) (by simp) (Below.refl _ _)) rfl veL_same)⟩
  ·
   exact .inr ⟨rfl, fun K' hK => wp_ixa 50 (.tmp 10) (.tmp 43) rfl (eval_tmp ((hev 10 (by decide)).trans rfl)) (eval_tmp ((hin 0 43 rfl).trans (congrArg some (show uu 0 = .int .i64 2 from (hd 0 (by decide) (by kernel_rfl)).2)))) (fun _ => by kernel_rfl) (hK _ _ (hJ.grow hLi (by simp) (by simp) (Below.refl _ _)) rfl veL_same)⟩
  ·
   exact .inr ⟨rfl, fun K' hK => wp_ixa 25 (.tmp 45) (.tmp 44) rfl (eval_tmp ((hin 2 45 rfl).trans (congrArg some (show uu 2 = .pointer (some ⟨bk5, 18, none⟩) from (hd 2 (by decide) (by kernel_rfl)).2)))) (eval_tmp ((hin 1 44 rfl).trans (congrArg some (show uu 1 = .int .i64 1 from (hd 1 (by decide) (by kernel_rfl)).2)))) (fun _ => by kernel_rfl) (hK _ _ (hJ.grow hLi (by simp) (by simp) (Below.refl _ _)) rfl veL_same)⟩
  ·
   exact .inr ⟨rfl, fun K' hK => wp_load 23 (.tmp 46) rfl bk5 21 3 (cT (mulT (mulT r q) s)) (cS (mulT (mulT r q) s).c.y) 50 (hJ.em.es.at' _ (List.mem_of_getElem? (i := 1) rfl)) (eval_tmp ((hin 3 46 rfl).trans (congrArg some (show uu 3 = .pointer (some ⟨bk5, 21, none⟩) from (hd 3 (by decide) (by kernel_rfl)).2)))) ag23 sz23 (Nat.le_of_ble_eq_true (by kernel_rfl)) (by kernel_rfl) (hK _ _ (hJ.grow hLi (by simp) (by simp) (Below.refl _ _)) rfl veL_same)⟩
  ·
   exact .inr ⟨rfl, fun K' hK => wp_move (.tmp 12) rfl (eval_tmp ((hev 12 (by decide)).trans rfl)) (hK _ _ (hJ.grow hLi (by simp) (by simp) (Below.refl _ _)) rfl veL_same)⟩
  ·
   exact .inr ⟨rfl, fun K' hK => wp_move (.tmp 13) rfl (eval_tmp ((hev 13 (by decide)).trans rfl)) (hK _ _ (hJ.grow hLi (by simp) (by simp) (Below.refl _ _)) rfl veL_same)⟩
  ·
   exact .inr ⟨rfl, fun K' hK => wp_ixa 50 (.tmp 11) (.tmp 48) rfl (eval_tmp ((hev 11 (by decide)).trans rfl)) (eval_tmp ((hin 5 48 rfl).trans (congrArg some (show uu 5 = .int .i64 2 from (hd 5 (by decide) (by kernel_rfl)).2)))) (fun _ => by kernel_rfl) (hK _ _ (hJ.grow hLi (by simp) (by simp) (Below.refl _ _)) rfl veL_same)⟩
  ·
   exact .inr ⟨rfl, fun K' hK => wp_ixa 25 (.tmp 50) (.tmp 49) rfl (eval_tmp ((hin 7 50 rfl).trans (congrArg some (show uu 7 = .pointer (some ⟨bk6, 18, none⟩) from (hd 7 (by decide) (by kernel_rfl)).2)))) (eval_tmp ((hin 6 49 rfl).trans (congrArg some (show uu 6 = .int .i64 1 from (hd 6 (by decide) (by kernel_rfl)).2)))) (fun _ => by kernel_rfl) (hK _ _ (hJ.grow hLi (by simp) (by simp) (Below.refl _ _)) rfl veL_same)⟩
  ·
   exact .inr ⟨rfl, fun K' hK => wp_load 23 (.tmp 51) rfl bk6 21 3 (cT (mulT r (mulT q s))) (cS (mulT r (mulT q s)).c.y) 50 (hJ.em.es.at' _ (List.mem_of_getElem? (i := 0) rfl)) (eval_tmp ((hin 8 51 rfl).trans (congrArg some (show uu 8 = .pointer (some ⟨bk6, 21, none⟩) from (hd 8 (by decide) (by kernel_rfl)).2)))) ag23 sz23 (Nat.le_of_ble_eq_true (by kernel_rfl)) (by kernel_rfl) (hK _ _ (hJ.grow hLi (by simp) (by simp) (Below.refl _ _)) rfl veL_same)⟩
  ·
   exact .inr ⟨rfl, fun K' hK => wp_callv (.func 41) #[.tmp 47, .tmp 52] _ 41 #[] #[.agg (cS (mulT (mulT r q) s).c.y), .agg (cS (mulT r (mulT q s)).c.y)] #[.agg (cS (mulT (mulT r q) s).c.y), .agg (cS (mulT r (mulT q s)).c.y)] rfl rfl (map2 (eval_tmp ((hin 4 47 rfl).trans (congrArg some (show uu 4 = .agg (cS (mulT (mulT r q) s).c.y) from (hd 4 (by decide) (by kernel_rfl)).2)))) (eval_tmp ((hin 9 52 rfl).trans (congrArg some (show uu 9 = .agg (cS (mulT r (mulT q s)).c.y) from (hd 9 (by decide) (by kernel_rfl)).2))))) (by kernel_rfl) (fun _ _ => by kernel_rfl) (meet_yes (chain_mul r q s).2.2.2.1 ww) (fun _ hB => (hK _ _ (hJ.grow hLi (by simp) (by simp) hB) rfl (veL_flat rfl)))⟩
  ·
   exact .inr ⟨rfl, fun K' hK => wp_move (.tmp 53) rfl (eval_tmp ((hin 10 53 rfl).trans (congrArg some (show uu 10 = .tuple #[.agg (cS (meetS (mulT (mulT r q) s).c.y (mulT r (mulT q s)).c.y)), .bool true] from (hd 10 (by decide) (by kernel_rfl)).2)))) (hK _ _ (hJ.grow hLi (by simp) (by simp) (Below.refl _ _)) rfl veL_same)⟩
  ·
   exact .inr ⟨rfl, fun K' hK => wp_ext (.tmp 42) 0 rfl (eval_tmp ((hin 11 42 rfl).trans (congrArg some (show uu 11 = .tuple #[.agg (cS (meetS (mulT (mulT r q) s).c.y (mulT r (mulT q s)).c.y)), .bool true] from (hd 11 (by decide) (by kernel_rfl)).2)))) (fun _ => rfl) (hK _ _ (hJ.grow hLi (by simp) (by simp) (Below.refl _ _)) rfl veL_same)⟩
  ·
   exact .inr ⟨rfl, fun K' hK => wp_ext (.tmp 42) 1 rfl (eval_tmp ((hin 11 42 rfl).trans (congrArg some (show uu 11 = .tuple #[.agg (cS (meetS (mulT (mulT r q) s).c.y (mulT r (mulT q s)).c.y)), .bool true] from (hd 11 (by decide) (by kernel_rfl)).2)))) (fun _ => rfl) (hK _ _ (hJ.grow hLi (by simp) (by simp) (Below.refl _ _)) rfl veL_same)⟩
  ·
   exact .inr ⟨rfl, fun K' hK => wp_alloc 23 rfl (.agg (cS zS)) zv23 (hK _ _ (hJ.alloc hLi (n := 3) rfl (by simp) (by simp)) trivial (veL_flat rfl))⟩
  ·
   have hLa := (hd 14 (by decide) (by kernel_rfl)).1
   obtain ⟨kb, kC, ke, kge, ksz, kcl⟩ := hJ.bx (14, 3, 23) (by simp) hLa
   have x14 : aa.tmps[14]? = some (.pointer (some ⟨kb, 0, none⟩)) := (hin 14 14 rfl).trans (congrArg some ke)
   have x54 : aa.tmps[54]? = some (.agg (cS (meetS (mulT (mulT r q) s).c.y (mulT r (mulT q s)).c.y))) := ((hin 12 54 rfl).trans (congrArg some (show uu 12 = .agg (cS (meetS (mulT (mulT r q) s).c.y (mulT r (mulT q s)).c.y)) from (hd 12 (by decide) (by kernel_rfl)).2)))
   clear hd hev hin
   simp only [List.getElem_cons_succ, List.getElem_cons_zero]
   clear hl
   refine .inr ⟨rfl, fun K' hK => ?_⟩
   have HK := Lib.hid hK
   clear hK
   refine wp_store 23 (.tmp 14) (.tmp 54) rfl 0 kb 0 kC 23 3 (cS (meetS (mulT (mulT r q) s).c.y (mulT r (mulT q s)).c.y)).toList (hJ.em.join kge kcl) rfl (eval_tmp x14) (by rw [eval_tmp x54]; rfl) sz23 (by kernel_rfl) (by rw [ksz]; decide) (by kernel_rfl) (fun ww2 hE hk hz => ?_)
   rw [putC_full (show kC.size = (cS (meetS (mulT (mulT r q) s).c.y (mulT r (mulT q s)).c.y)).toList.length from ksz), Array.toArray_toList] at hE
   exact HK.out undef _ (hJ.store (a := 14) (n := 3) (T := 23) (Cn := (cS (meetS (mulT (mulT r q) s).c.y (mulT r (mulT q s)).c.y))) hLi (by simp) (by simp) (by simp) (by simp) (by simp) (by simp) hLa ke kge rfl hE hk hz) trivial (veL_flat rfl)
  ·
   exact .inr ⟨rfl, fun K' hK => wp_asgn (.tmp 55) rfl (eval_tmp ((hin 13 55 rfl).trans (congrArg some (show uu 13 = .bool true from (hd 13 (by decide) (by kernel_rfl)).2)))) (hK _ _ (hJ.grow hLi (by simp) (by simp) (Below.refl _ _)) rfl veL_same)⟩
 clear hM
 intro LL uu W17 hLL hJm hd
 have e_0 : uu 0 = .int .i64 2 := hd 0 (by decide)
 have e_1 : uu 1 = .int .i64 1 := hd 1 (by decide)
 have e_2 : uu 2 = .pointer (some ⟨bk5, 18, none⟩) := hd 2 (by decide)
 have e_3 : uu 3 = .pointer (some ⟨bk5, 21, none⟩) := hd 3 (by decide)
 have e_4 : uu 4 = .agg (cS (mulT (mulT r q) s).c.y) := hd 4 (by decide)
 have e_5 : uu 5 = .int .i64 2 := hd 5 (by decide)
 have e_6 : uu 6 = .int .i64 1 := hd 6 (by decide)
 have e_7 : uu 7 = .pointer (some ⟨bk6, 18, none⟩) := hd 7 (by decide)
 have e_8 : uu 8 = .pointer (some ⟨bk6, 21, none⟩) := hd 8 (by decide)
 have e_9 : uu 9 = .agg (cS (mulT r (mulT q s)).c.y) := hd 9 (by decide)
 have e_10 : uu 10 = .tuple #[.agg (cS (meetS (mulT (mulT r q) s).c.y (mulT r (mulT q s)).c.y)), .bool true] := hd 10 (by decide)
 have e_11 : uu 11 = .tuple #[.agg (cS (meetS (mulT (mulT r q) s).c.y (mulT r (mulT q s)).c.y)), .bool true] := hd 11 (by decide)
 have e_12 : uu 12 = .agg (cS (meetS (mulT (mulT r q) s).c.y (mulT r (mulT q s)).c.y)) := hd 12 (by decide)
 have e_13 : uu 13 = .bool true := hd 13 (by decide)
 obtain ⟨bk14, kC14, e_14, nge14, ksz14, nB14⟩ := hJm.bx (14, 3, 23) (by simp) (hLL 14 (by decide))
 have e_16 : uu 16 = .bool true := hd 16 (by decide)
 obtain ⟨_, kb15, ke15, kl15⟩ := hJm.st (15, 14, (cS (meetS (mulT (mulT r q) s).c.y (mulT r (mulT q s)).c.y)), 23) (by simp) (hLL 15 (by decide))
 have kq15 : kb15 = bk14 := by
  have hq := ke15.symm.trans e_14
  injection hq with hq
  injection hq with hq
  injection hq with hq
 subst kq15
 clear ke15
 have g14 := hJm.em.join nge14 kl15
 clear hd hLL
 simp only [layS, Act.put, List.setIfInBounds_toArray, List.set_cons_succ, List.set_cons_zero, Nat.zero_add, Nat.reduceAdd, List.drop_succ_cons, List.drop_zero, List.drop_nil, e_0, e_1, e_2, e_3, e_4, e_5, e_6, e_7, e_8, e_9, e_10, e_11, e_12, e_13, e_14, e_16]
 have hJ17 := g14
 clear hJm e_0 e_1 e_2 e_3 e_4 e_5 e_6 e_7 e_8 e_9 e_10 e_11 e_12 e_13 e_14 e_16 nge14 nB14 ksz14 g14
 have hJ17d := hJ17.sub (List.sublist_cons_self _ _)
 clear hJ17
 go_wp2
 rw [rounds_succ]
 go_wp2
 obtain ⟨m10_17, hm⟩ : ∃ m, m = W17.heap.size := ⟨_, rfl⟩
 have hM : ∀ uu, Jz w m10_17 [(bk6, (cT (mulT r (mulT q s))), 50), (bk5, (cT (mulT (mulT r q) s)), 50), (bk4, (cV v), 25), (bk3, (cT s), 50), (bk2, (cT q), 50), (bk1, (cT r), 50)] [(14, 3, 23)] [(15, 14, (cS (meetS (mulT (mulT r q) s).c.z (mulT r (mulT q s)).c.z)), 23)] (fun _ => false) uu W17.drew := fun uu => by rw [hm]; exact Jz.start hJ17d uu
 clear hm hJ17d
 refine wp_region_y 17 [some 43, some 44, some 45, some 46, some 47, some 48, some 49, some 50, some 51, some 52, some 53, some 42, some 54, some 55, some 14, none, some 15] (veL m10_17 [.eq (.int .i64 2), .eq (.int .i64 2), .eq (.pointer (some ⟨bk5, 18, none⟩)), .eq (.pointer (some ⟨bk5, 24, none⟩)), .eq (.agg (cS (mulT (mulT r q) s).c.z)), .eq (.int .i64 2), .eq (.int .i64 2), .eq (.pointer (some ⟨bk6, 18, none⟩)), .eq (.pointer (some ⟨bk6, 24, none⟩)), .eq (.agg (cS (mulT r (mulT q s)).c.z)), .eq (.tuple #[.agg (cS (meetS (mulT (mulT r q) s).c.z (mulT r (mulT q s)).c.z)), .bool true]), .eq (.tuple #[.agg (cS (meetS (mulT (mulT r q) s).c.z (mulT r (mulT q s)).c.z)), .bool true]), .eq (.agg (cS (meetS (mulT (mulT r q) s).c.z (mulT r (mulT q s)).c.z))), .eq (.bool true), .any, .any, .eq (.bool true)]) (Jz w m10_17 [(bk6, (cT (mulT r (mulT q s))), 50), (bk5, (cT (mulT (mulT r q) s)), 50), (bk4, (cV v), 25), (bk3, (cT s), 50), (bk2, (cT q), 50), (bk1, (cT r), 50)] [(14, 3, 23)] [(15, 14, (cS (meetS (mulT (mulT r q) s).c.z (mulT r (mulT q s)).c.z)), 23)]) (by kernel_rfl) (by kernel_rfl) (by rfl) (by decide) (by rfl) hM ?_ ?_
 ·
  intro i hl hi LL uu ww aa hLi hJ hd hev hin
  clear hM
  obtain rfl | rfl | rfl | rfl | rfl | rfl | rfl | rfl | rfl | rfl | rfl | rfl | rfl | rfl | rfl | rfl | rfl : i = 0 ∨ i = 1 ∨ i = 2 ∨ i = 3 ∨ i = 4 ∨ i = 5 ∨ i = 6 ∨ i = 7 ∨ i = 8 ∨ i = 9 ∨ i = 10 ∨ i = 11 ∨ i = 12 ∨ i = 13 ∨ i = 14 ∨ i = 15 ∨ i = 16 := by omega
  ·
   exact .inr ⟨rfl, fun K' hK => wp_move (.tmp 12) rfl (eval_tmp ((hev 12 (by decide)).trans rfl)) (hK _ _ (hJ.grow hLi (by simp) (by simp) (Below.refl _ _)) rfl veL_same)⟩
  ·
   exact .inr ⟨rfl, fun K' hK => wp_move (.tmp 13) rfl (eval_tmp ((hev 13 (by decide)).trans rfl)) (hK _ _ (hJ.grow hLi (by simp) (by simp) (Below.refl _ _)) rfl veL_same)⟩
  ·
   exact .inr ⟨rfl, fun K' hK => wp_ixa 50 (.tmp 10) (.tmp 43) rfl (eval_tmp ((hev 10 (by decide)).trans rfl)) (eval_tmp ((hin 0 43 rfl).trans (congrArg some (show uu 0 = .int .i64 2 from (hd 0 (by decide) (by kernel_rfl)).2)))) (fun _ => by kernel_rfl) (hK _ _ (hJ.grow hLi (by simp) (by simp) (Below.refl _ _)) rfl veL_same)⟩
  ·
   exact .inr ⟨rfl, fun K' hK => wp_ixa 25 (.tmp 45) (.tmp 44) rfl (eval_tmp ((hin 2 45 rfl).trans (congrArg some (show uu 2 = .pointer (some ⟨bk5, 18, none⟩) from (hd 2 (by decide) (by kernel_rfl)).2)))) (eval_tmp ((hin 1 44 rfl).trans (congrArg some (show uu 1 = .int .i64 2 from (hd 1 (by decide) (by kernel_rfl)).2)))) (fun _ => by kernel_rfl) (hK _ _ (hJ.grow hLi (by simp) (by simp) (Below.refl _ _)) rfl veL_same)⟩
  ·
   exact .inr ⟨rfl, fun K' hK => wp_load 23 (.tmp 46) rfl bk5 24 3 (cT (mulT (mulT r q) s)) (cS (mulT (mulT r q) s).c.z) 50 (hJ.em.es.at' _ (List.mem_of_getElem? (i := 1) rfl)) (eval_tmp ((hin 3 46 rfl).trans (congrArg some (show uu 3 = .pointer (some ⟨bk5, 24, none⟩) from (hd 3 (by decide) (by kernel_rfl)).2)))) ag23 sz23 (Nat.le_of_ble_eq_true (by kernel_rfl)) (by kernel_rfl) (hK _ _ (hJ.grow hLi (by simp) (by simp) (Below.refl _ _)) rfl veL_same)⟩
  ·
   exact .inr ⟨rfl, fun K' hK => wp_move (.tmp 12) rfl (eval_tmp ((hev 12 (by decide)).trans rfl)) (hK _ _ (hJ.grow hLi (by simp) (by simp) (Below.refl _ _)) rfl veL_same)⟩
  ·
   exact .inr ⟨rfl, fun K' hK => wp_move (.tmp 13) rfl (eval_tmp ((hev 13 (by decide)).trans rfl)) (hK _ _ (hJ.grow hLi (by simp) (by simp) (Below.refl _ _)) rfl veL_same)⟩
  ·
   exact .inr ⟨rfl, fun K' hK => wp_ixa 50 (.tmp 11) (.tmp 48) rfl (eval_tmp ((hev 11 (by decide)).trans rfl)) (eval_tmp ((hin 5 48 rfl).trans (congrArg some (show uu 5 = .int .i64 2 from (hd 5 (by decide) (by kernel_rfl)).2)))) (fun _ => by kernel_rfl) (hK _ _ (hJ.grow hLi (by simp) (by simp) (Below.refl _ _)) rfl veL_same)⟩
  ·
   exact .inr ⟨rfl, fun K' hK => wp_ixa 25 (.tmp 50) (.tmp 49) rfl (eval_tmp ((hin 7 50 rfl).trans (congrArg some (show uu 7 = .pointer (some ⟨bk6, 18, none⟩) from (hd 7 (by decide) (by kernel_rfl)).2)))) (eval_tmp ((hin 6 49 rfl).trans (congrArg some (show uu 6 = .int .i64 2 from (hd 6 (by decide) (by kernel_rfl)).2)))) (fun _ => by kernel_rfl) (hK _ _ (hJ.grow hLi (by simp) (by simp) (Below.refl _ _)) rfl veL_same)⟩
  ·
   exact .inr ⟨rfl, fun K' hK => wp_load 23 (.tmp 51) rfl bk6 24 3 (cT (mulT r (mulT q s))) (cS (mulT r (mulT q s)).c.z) 50 (hJ.em.es.at' _ (List.mem_of_getElem? (i := 0) rfl)) (eval_tmp ((hin 8 51 rfl).trans (congrArg some (show uu 8 = .pointer (some ⟨bk6, 24, none⟩) from (hd 8 (by decide) (by kernel_rfl)).2)))) ag23 sz23 (Nat.le_of_ble_eq_true (by kernel_rfl)) (by kernel_rfl) (hK _ _ (hJ.grow hLi (by simp) (by simp) (Below.refl _ _)) rfl veL_same)⟩
  ·
   exact .inr ⟨rfl, fun K' hK => wp_callv (.func 41) #[.tmp 47, .tmp 52] _ 41 #[] #[.agg (cS (mulT (mulT r q) s).c.z), .agg (cS (mulT r (mulT q s)).c.z)] #[.agg (cS (mulT (mulT r q) s).c.z), .agg (cS (mulT r (mulT q s)).c.z)] rfl rfl (map2 (eval_tmp ((hin 4 47 rfl).trans (congrArg some (show uu 4 = .agg (cS (mulT (mulT r q) s).c.z) from (hd 4 (by decide) (by kernel_rfl)).2)))) (eval_tmp ((hin 9 52 rfl).trans (congrArg some (show uu 9 = .agg (cS (mulT r (mulT q s)).c.z) from (hd 9 (by decide) (by kernel_rfl)).2))))) (by kernel_rfl) (fun _ _ => by kernel_rfl) (meet_yes (chain_mul r q s).2.2.2.2 ww) (fun _ hB => (hK _ _ (hJ.grow hLi (by simp) (by simp) hB) rfl (veL_flat rfl)))⟩
  ·
   exact .inr ⟨rfl, fun K' hK => wp_move (.tmp 53) rfl (eval_tmp ((hin 10 53 rfl).trans (congrArg some (show uu 10 = .tuple #[.agg (cS (meetS (mulT (mulT r q) s).c.z (mulT r (mulT q s)).c.z)), .bool true] from (hd 10 (by decide) (by kernel_rfl)).2)))) (hK _ _ (hJ.grow hLi (by simp) (by simp) (Below.refl _ _)) rfl veL_same)⟩
  ·
   exact .inr ⟨rfl, fun K' hK => wp_ext (.tmp 42) 0 rfl (eval_tmp ((hin 11 42 rfl).trans (congrArg some (show uu 11 = .tuple #[.agg (cS (meetS (mulT (mulT r q) s).c.z (mulT r (mulT q s)).c.z)), .bool true] from (hd 11 (by decide) (by kernel_rfl)).2)))) (fun _ => rfl) (hK _ _ (hJ.grow hLi (by simp) (by simp) (Below.refl _ _)) rfl veL_same)⟩
  ·
   exact .inr ⟨rfl, fun K' hK => wp_ext (.tmp 42) 1 rfl (eval_tmp ((hin 11 42 rfl).trans (congrArg some (show uu 11 = .tuple #[.agg (cS (meetS (mulT (mulT r q) s).c.z (mulT r (mulT q s)).c.z)), .bool true] from (hd 11 (by decide) (by kernel_rfl)).2)))) (fun _ => rfl) (hK _ _ (hJ.grow hLi (by simp) (by simp) (Below.refl _ _)) rfl veL_same)⟩
  ·
   exact .inr ⟨rfl, fun K' hK => wp_alloc 23 rfl (.agg (cS zS)) zv23 (hK _ _ (hJ.alloc hLi (n := 3) rfl (by simp) (by simp)) trivial (veL_flat rfl))⟩
  ·
   have hLa := (hd 14 (by decide) (by kernel_rfl)).1
   obtain ⟨kb, kC, ke, kge, ksz, kcl⟩ := hJ.bx (14, 3, 23) (by simp) hLa
   have x14 : aa.tmps[14]? = some (.pointer (some ⟨kb, 0, none⟩)) := (hin 14 14 rfl).trans (congrArg some ke)
   have x54 : aa.tmps[54]? = some (.agg (cS (meetS (mulT (mulT r q) s).c.z (mulT r (mulT q s)).c.z))) := ((hin 12 54 rfl).trans (congrArg some (show uu 12 = .agg (cS (meetS (mulT (mulT r q) s).c.z (mulT r (mulT q s)).c.z)) from (hd 12 (by decide) (by kernel_rfl)).2)))
   clear hd hev hin
   simp only [List.getElem_cons_succ, List.getElem_cons_zero]
   clear hl
   refine .inr ⟨rfl, fun K' hK => ?_⟩
   have HK := Lib.hid hK
   clear hK
   refine wp_store 23 (.tmp 14) (.tmp 54) rfl 0 kb 0 kC 23 3 (cS (meetS (mulT (mulT r q) s).c.z (mulT r (mulT q s)).c.z)).toList (hJ.em.join kge kcl) rfl (eval_tmp x14) (by rw [eval_tmp x54]; rfl) sz23 (by kernel_rfl) (by rw [ksz]; decide) (by kernel_rfl) (fun ww2 hE hk hz => ?_)
   rw [putC_full (show kC.size = (cS (meetS (mulT (mulT r q) s).c.z (mulT r (mulT q s)).c.z)).toList.length from ksz), Array.toArray_toList] at hE
   exact HK.out undef _ (hJ.store (a := 14) (n := 3) (T := 23) (Cn := (cS (meetS (mulT (mulT r q) s).c.z (mulT r (mulT q s)).c.z))) hLi (by simp) (by simp) (by simp) (by simp) (by simp) (by simp) hLa ke kge rfl hE hk hz) trivial (veL_flat rfl)
  ·
   exact .inr ⟨rfl, fun K' hK => wp_asgn (.tmp 55) rfl (eval_tmp ((hin 13 55 rfl).trans (congrArg some (show uu 13 = .bool true from (hd 13 (by decide) (by kernel_rfl)).2)))) (hK _ _ (hJ.grow hLi (by simp) (by simp) (Below.refl _ _)) rfl veL_same)⟩
 clear hM
 intro LL uu W18 hLL hJm hd
 have e_0 : uu 0 = .int .i64 2 := hd 0 (by decide)
 have e_1 : uu 1 = .int .i64 2 := hd 1 (by decide)
 have e_2 : uu 2 = .pointer (some ⟨bk5, 18, none⟩) := hd 2 (by decide)
 have e_3 : uu 3 = .pointer (some ⟨bk5, 24, none⟩) := hd 3 (by decide)
 have e_4 : uu 4 = .agg (cS (mulT (mulT r q) s).c.z) := hd 4 (by decide)
 have e_5 : uu 5 = .int .i64 2 := hd 5 (by decide)
 have e_6 : uu 6 = .int .i64 2 := hd 6 (by decide)
 have e_7 : uu 7 = .pointer (some ⟨bk6, 18, none⟩) := hd 7 (by decide)
 have e_8 : uu 8 = .pointer (some ⟨bk6, 24, none⟩) := hd 8 (by decide)
 have e_9 : uu 9 = .agg (cS (mulT r (mulT q s)).c.z) := hd 9 (by decide)
 have e_10 : uu 10 = .tuple #[.agg (cS (meetS (mulT (mulT r q) s).c.z (mulT r (mulT q s)).c.z)), .bool true] := hd 10 (by decide)
 have e_11 : uu 11 = .tuple #[.agg (cS (meetS (mulT (mulT r q) s).c.z (mulT r (mulT q s)).c.z)), .bool true] := hd 11 (by decide)
 have e_12 : uu 12 = .agg (cS (meetS (mulT (mulT r q) s).c.z (mulT r (mulT q s)).c.z)) := hd 12 (by decide)
 have e_13 : uu 13 = .bool true := hd 13 (by decide)
 obtain ⟨bk15, kC14, e_14, nge14, ksz14, nB14⟩ := hJm.bx (14, 3, 23) (by simp) (hLL 14 (by decide))
 have e_16 : uu 16 = .bool true := hd 16 (by decide)
 obtain ⟨_, kb15, ke15, kl15⟩ := hJm.st (15, 14, (cS (meetS (mulT (mulT r q) s).c.z (mulT r (mulT q s)).c.z)), 23) (by simp) (hLL 15 (by decide))
 have kq15 : kb15 = bk15 := by
  have hq := ke15.symm.trans e_14
  injection hq with hq
  injection hq with hq
  injection hq with hq
 subst kq15
 clear ke15
 have g14 := hJm.em.join nge14 kl15
 clear hd hLL
 simp only [layS, Act.put, List.setIfInBounds_toArray, List.set_cons_succ, List.set_cons_zero, Nat.zero_add, Nat.reduceAdd, List.drop_succ_cons, List.drop_zero, List.drop_nil, e_0, e_1, e_2, e_3, e_4, e_5, e_6, e_7, e_8, e_9, e_10, e_11, e_12, e_13, e_14, e_16]
 have hJ18 := g14
 clear hJm e_0 e_1 e_2 e_3 e_4 e_5 e_6 e_7 e_8 e_9 e_10 e_11 e_12 e_13 e_14 e_16 nge14 nB14 ksz14 g14
 have hJ18d := hJ18.sub (List.sublist_cons_self _ _)
 clear hJ18
 go_wp2
 rw [rounds_succ]
 go_wp2
 rw [rounds_succ]
 go_wp2
 obtain ⟨m13_18, hm⟩ : ∃ m, m = W18.heap.size := ⟨_, rfl⟩
 have hM := hJ18d.em
 rw [← hm] at hM
 clear hm hJ18d
 refine wp_region_z 6 [some 58, some 59, some 60, some 61, some 62, some 16] (veL m13_18 [.eq (.agg (cT r)), .eq (.agg (cT q)), .eq (.agg (cV v)), .eq (.agg (cV (appT q v))), .eq (.agg (cV (appT r (appT q v)))), .box (cV zV) 25]) (Em w m13_18 [(bk6, (cT (mulT r (mulT q s))), 50), (bk5, (cT (mulT (mulT r q) s)), 50), (bk4, (cV v), 25), (bk3, (cT s), 50), (bk2, (cT q), 50), (bk1, (cT r), 50)]) (by kernel_rfl) (by kernel_rfl) (by rfl) (by decide) (by rfl) hM ?_ ?_
 ·
  intro i hl hi uu ww aa hJ hd hev hin
  clear hM
  obtain rfl | rfl | rfl | rfl | rfl | rfl : i = 0 ∨ i = 1 ∨ i = 2 ∨ i = 3 ∨ i = 4 ∨ i = 5 := by omega
  ·
   exact .inr ⟨rfl, fun K' hK => wp_load 50 (.tmp 4) rfl bk1 0 27 (cT r) (cT r) 50 (hJ.es.at' _ (List.mem_of_getElem? (i := 5) rfl)) (eval_tmp ((hev 4 (by decide)).trans rfl)) ag50 sz50 (Nat.le_of_ble_eq_true (by kernel_rfl)) (by kernel_rfl) (hK _ _ hJ rfl veL_same)⟩
  ·
   exact .inr ⟨rfl, fun K' hK => wp_load 50 (.tmp 5) rfl bk2 0 27 (cT q) (cT q) 50 (hJ.es.at' _ (List.mem_of_getElem? (i := 4) rfl)) (eval_tmp ((hev 5 (by decide)).trans rfl)) ag50 sz50 (Nat.le_of_ble_eq_true (by kernel_rfl)) (by kernel_rfl) (hK _ _ hJ rfl veL_same)⟩
  ·
   exact .inr ⟨rfl, fun K' hK => wp_load 25 (.tmp 7) rfl bk4 0 9 (cV v) (cV v) 25 (hJ.es.at' _ (List.mem_of_getElem? (i := 2) rfl)) (eval_tmp ((hev 7 (by decide)).trans rfl)) ag25 sz25 (Nat.le_of_ble_eq_true (by kernel_rfl)) (by kernel_rfl) (hK _ _ hJ rfl veL_same)⟩
  ·
   exact .inr ⟨rfl, fun K' hK => wp_callv (.func 42) #[.tmp 59, .tmp 60] _ 42 #[] #[.agg (cT q), .agg (cV v)] #[.agg (cT q), .agg (cV v)] rfl rfl (map2 (eval_tmp ((hin 1 59 rfl).trans (congrArg some (show uu 1 = .agg (cT q) from hd 1 (by decide) (by kernel_rfl))))) (eval_tmp ((hin 2 60 rfl).trans (congrArg some (show uu 2 = .agg (cV v) from hd 2 (by decide) (by kernel_rfl)))))) (by kernel_rfl) (fun _ _ => by kernel_rfl) (tApp_any q v ww) (fun _ hB => (hK _ _ (hJ.later hB) rfl (veL_later hB)))⟩
  ·
   exact .inr ⟨rfl, fun K' hK => wp_callv (.func 42) #[.tmp 58, .tmp 61] _ 42 #[] #[.agg (cT r), .agg (cV (appT q v))] #[.agg (cT r), .agg (cV (appT q v))] rfl rfl (map2 (eval_tmp ((hin 0 58 rfl).trans (congrArg some (show uu 0 = .agg (cT r) from hd 0 (by decide) (by kernel_rfl))))) (eval_tmp ((hin 3 61 rfl).trans (congrArg some (show uu 3 = .agg (cV (appT q v)) from hd 3 (by decide) (by kernel_rfl)))))) (by kernel_rfl) (fun _ _ => by kernel_rfl) (tApp_any r (appT q v) ww) (fun _ hB => (hK _ _ (hJ.later hB) rfl (veL_later hB)))⟩
  ·
   exact .inr ⟨rfl, fun K' hK => wp_alloc 25 rfl (.agg (cV zV)) zv25 (hK _ _ (hJ.later ((Below.refl _ _).alloc (Nat.le_refl _) _)) ⟨ww.heap.size, rfl, hJ.le, heap_new ww _⟩ (veL_later ((Below.refl _ _).alloc (Nat.le_refl _) _)))⟩
 clear hM
 intro uu W19 hJm hd
 have e_0 : uu 0 = .agg (cT r) := hd 0 (by decide)
 have e_1 : uu 1 = .agg (cT q) := hd 1 (by decide)
 have e_2 : uu 2 = .agg (cV v) := hd 2 (by decide)
 have e_3 : uu 3 = .agg (cV (appT q v)) := hd 3 (by decide)
 have e_4 : uu 4 = .agg (cV (appT r (appT q v))) := hd 4 (by decide)
 obtain ⟨bk16, e_5, nge5, nB5⟩ := (show veP m13_18 (.box (cV zV) 25) (uu 5) W19 from hd 5 (by decide))
 clear hd
 simp only [layS, Act.put, List.setIfInBounds_toArray, List.set_cons_succ, List.set_cons_zero, Nat.zero_add, Nat.reduceAdd, List.drop_succ_cons, List.drop_zero, List.drop_nil, e_0, e_1, e_2, e_3, e_4, e_5]
 clear e_0 e_1 e_2 e_3 e_4 e_5
 have hJ19 := hJm.join nge5 nB5
 clear hJm nge5 nB5
 go_wp2_with (refine stop_store 25 (.tmp 16) (.tmp 62) 0 bk16 0 (cV zV) 25 9 (cV (appT r (appT q v))).toList (cV (appT r (appT q v))) [(bk16, (cV (appT r (appT q v))), 25), (bk6, (cT (mulT r (mulT q s))), 50), (bk5, (cT (mulT (mulT r q) s)), 50), (bk4, (cV v), 25), (bk3, (cT s), 50), (bk2, (cT q), 50), (bk1, (cT r), 50)] rfl rfl rfl rfl sz25 hJ19 rfl (by kernel_rfl) (Nat.le_of_ble_eq_true (by kernel_rfl)) (by kernel_rfl) (by kernel_rfl) (by kernel_rfl) (fun W20 hJ20 => ?_))
 clear hJ19
 unfold Stop
 try simp only [Act.put, List.setIfInBounds_toArray, List.set_cons_succ, List.set_cons_zero]
 go_wp2
 obtain ⟨m14_20, hm⟩ : ∃ m, m = W20.heap.size := ⟨_, rfl⟩
 have hM := hJ20.em
 rw [← hm] at hM
 clear hm hJ20
 refine wp_region_z 6 [some 63, some 64, some 65, some 66, some 67, some 17] (veL m14_20 [.eq (.agg (cT r)), .eq (.agg (cT q)), .eq (.agg (cT (mulT r q))), .eq (.agg (cV v)), .eq (.agg (cV (appT (mulT r q) v))), .box (cV zV) 25]) (Em w m14_20 [(bk16, (cV (appT r (appT q v))), 25), (bk6, (cT (mulT r (mulT q s))), 50), (bk5, (cT (mulT (mulT r q) s)), 50), (bk4, (cV v), 25), (bk3, (cT s), 50), (bk2, (cT q), 50), (bk1, (cT r), 50)]) (by kernel_rfl) (by kernel_rfl) (by rfl) (by decide) (by rfl) hM ?_ ?_
 ·
  intro i hl hi uu ww aa hJ hd hev hin
  clear hM
  obtain rfl | rfl | rfl | rfl | rfl | rfl : i = 0 ∨ i = 1 ∨ i = 2 ∨ i = 3 ∨ i = 4 ∨ i = 5 := by omega
  ·
   exact .inr ⟨rfl, fun K' hK => wp_load 50 (.tmp 4) rfl bk1 0 27 (cT r) (cT r) 50 (hJ.es.at' _ (List.mem_of_getElem? (i := 6) rfl)) (eval_tmp ((hev 4 (by decide)).trans rfl)) ag50 sz50 (Nat.le_of_ble_eq_true (by kernel_rfl)) (by kernel_rfl) (hK _ _ hJ rfl veL_same)⟩
  ·
   exact .inr ⟨rfl, fun K' hK => wp_load 50 (.tmp 5) rfl bk2 0 27 (cT q) (cT q) 50 (hJ.es.at' _ (List.mem_of_getElem? (i := 5) rfl)) (eval_tmp ((hev 5 (by decide)).trans rfl)) ag50 sz50 (Nat.le_of_ble_eq_true (by kernel_rfl)) (by kernel_rfl) (hK _ _ hJ rfl veL_same)⟩
  ·
   exact .inr ⟨rfl, fun K' hK => wp_callv (.func 37) #[.tmp 63, .tmp 64] _ 37 #[] #[.agg (cT r), .agg (cT q)] #[.agg (cT r), .agg (cT q)] rfl rfl (map2 (eval_tmp ((hin 0 63 rfl).trans (congrArg some (show uu 0 = .agg (cT r) from hd 0 (by decide) (by kernel_rfl))))) (eval_tmp ((hin 1 64 rfl).trans (congrArg some (show uu 1 = .agg (cT q) from hd 1 (by decide) (by kernel_rfl)))))) (by kernel_rfl) (fun _ _ => by kernel_rfl) (tMul_any r q ww) (fun _ hB => (hK _ _ (hJ.later hB) rfl (veL_later hB)))⟩
  ·
   exact .inr ⟨rfl, fun K' hK => wp_load 25 (.tmp 7) rfl bk4 0 9 (cV v) (cV v) 25 (hJ.es.at' _ (List.mem_of_getElem? (i := 3) rfl)) (eval_tmp ((hev 7 (by decide)).trans rfl)) ag25 sz25 (Nat.le_of_ble_eq_true (by kernel_rfl)) (by kernel_rfl) (hK _ _ hJ rfl veL_same)⟩
  ·
   exact .inr ⟨rfl, fun K' hK => wp_callv (.func 42) #[.tmp 65, .tmp 66] _ 42 #[] #[.agg (cT (mulT r q)), .agg (cV v)] #[.agg (cT (mulT r q)), .agg (cV v)] rfl rfl (map2 (eval_tmp ((hin 2 65 rfl).trans (congrArg some (show uu 2 = .agg (cT (mulT r q)) from hd 2 (by decide) (by kernel_rfl))))) (eval_tmp ((hin 3 66 rfl).trans (congrArg some (show uu 3 = .agg (cV v) from hd 3 (by decide) (by kernel_rfl)))))) (by kernel_rfl) (fun _ _ => by kernel_rfl) (tApp_any (mulT r q) v ww) (fun _ hB => (hK _ _ (hJ.later hB) rfl (veL_later hB)))⟩
  ·
   exact .inr ⟨rfl, fun K' hK => wp_alloc 25 rfl (.agg (cV zV)) zv25 (hK _ _ (hJ.later ((Below.refl _ _).alloc (Nat.le_refl _) _)) ⟨ww.heap.size, rfl, hJ.le, heap_new ww _⟩ (veL_later ((Below.refl _ _).alloc (Nat.le_refl _) _)))⟩
 clear hM
 intro uu W21 hJm hd
 have e_0 : uu 0 = .agg (cT r) := hd 0 (by decide)
 have e_1 : uu 1 = .agg (cT q) := hd 1 (by decide)
 have e_2 : uu 2 = .agg (cT (mulT r q)) := hd 2 (by decide)
 have e_3 : uu 3 = .agg (cV v) := hd 3 (by decide)
 have e_4 : uu 4 = .agg (cV (appT (mulT r q) v)) := hd 4 (by decide)
 obtain ⟨bk17, e_5, nge5, nB5⟩ := (show veP m14_20 (.box (cV zV) 25) (uu 5) W21 from hd 5 (by decide))
 clear hd
 simp only [layS, Act.put, List.setIfInBounds_toArray, List.set_cons_succ, List.set_cons_zero, Nat.zero_add, Nat.reduceAdd, List.drop_succ_cons, List.drop_zero, List.drop_nil, e_0, e_1, e_2, e_3, e_4, e_5]
 clear e_0 e_1 e_2 e_3 e_4 e_5
 have hJ21 := hJm.join nge5 nB5
 clear hJm nge5 nB5
 go_wp2_with (refine stop_store 25 (.tmp 17) (.tmp 67) 0 bk17 0 (cV zV) 25 9 (cV (appT (mulT r q) v)).toList (cV (appT (mulT r q) v)) [(bk17, (cV (appT (mulT r q) v)), 25), (bk16, (cV (appT r (appT q v))), 25), (bk6, (cT (mulT r (mulT q s))), 50), (bk5, (cT (mulT (mulT r q) s)), 50), (bk4, (cV v), 25), (bk3, (cT s), 50), (bk2, (cT q), 50), (bk1, (cT r), 50)] rfl rfl rfl rfl sz25 hJ21 rfl (by kernel_rfl) (Nat.le_of_ble_eq_true (by kernel_rfl)) (by kernel_rfl) (by kernel_rfl) (by kernel_rfl) (fun W22 hJ22 => ?_))
 clear hJ21
 unfold Stop
 try simp only [Act.put, List.setIfInBounds_toArray, List.set_cons_succ, List.set_cons_zero]
 go_wp2
 refine wp_loop_rounds 4 ?_
 rw [rounds_succ]
 go_wp2
 obtain ⟨m18_22, hm⟩ : ∃ m, m = W22.heap.size := ⟨_, rfl⟩
 have hM : ∀ uu, Jz w m18_22 [(bk17, (cV (appT (mulT r q) v)), 25), (bk16, (cV (appT r (appT q v))), 25), (bk6, (cT (mulT r (mulT q s))), 50), (bk5, (cT (mulT (mulT r q) s)), 50), (bk4, (cV v), 25), (bk3, (cT s), 50), (bk2, (cT q), 50), (bk1, (cT r), 50)] [(10, 3, 23)] [(11, 10, (cS (meetS (appT r (appT q v)).x (appT (mulT r q) v).x)), 23)] (fun _ => false) uu W22.drew := fun uu => by rw [hm]; exact Jz.start hJ22 uu
 clear hm hJ22
 refine wp_region_y 13 [some 73, some 74, some 75, some 76, some 77, some 78, some 79, some 72, some 80, some 81, some 19, none, some 20] (veL m18_22 [.eq (.int .i64 0), .eq (.pointer (some ⟨bk16, 0, none⟩)), .eq (.agg (cS (appT r (appT q v)).x)), .eq (.int .i64 0), .eq (.pointer (some ⟨bk17, 0, none⟩)), .eq (.agg (cS (appT (mulT r q) v).x)), .eq (.tuple #[.agg (cS (meetS (appT r (appT q v)).x (appT (mulT r q) v).x)), .bool true]), .eq (.tuple #[.agg (cS (meetS (appT r (appT q v)).x (appT (mulT r q) v).x)), .bool true]), .eq (.agg (cS (meetS (appT r (appT q v)).x (appT (mulT r q) v).x))), .eq (.bool true), .any, .any, .eq (.bool true)]) (Jz w m18_22 [(bk17, (cV (appT (mulT r q) v)), 25), (bk16, (cV (appT r (appT q v))), 25), (bk6, (cT (mulT r (mulT q s))), 50), (bk5, (cT (mulT (mulT r q) s)), 50), (bk4, (cV v), 25), (bk3, (cT s), 50), (bk2, (cT q), 50), (bk1, (cT r), 50)] [(10, 3, 23)] [(11, 10, (cS (meetS (appT r (appT q v)).x (appT (mulT r q) v).x)), 23)]) (by kernel_rfl) (by kernel_rfl) (by rfl) (by decide) (by rfl) hM ?_ ?_
 ·
  intro i hl hi LL uu ww aa hLi hJ hd hev hin
  clear hM
  obtain rfl | rfl | rfl | rfl | rfl | rfl | rfl | rfl | rfl | rfl | rfl | rfl | rfl : i = 0 ∨ i = 1 ∨ i = 2 ∨ i = 3 ∨ i = 4 ∨ i = 5 ∨ i = 6 ∨ i = 7 ∨ i = 8 ∨ i = 9 ∨ i = 10 ∨ i = 11 ∨ i = 12 := by omega
  ·
   exact .inr ⟨rfl, fun K' hK => wp_move (.tmp 18) rfl (eval_tmp ((hev 18 (by decide)).trans rfl)) (hK _ _ (hJ.grow hLi (by simp) (by simp) (Below.refl _ _)) rfl veL_same)⟩
  ·
   exact .inr ⟨rfl, fun K' hK => wp_ixa 25 (.tmp 16) (.tmp 73) rfl (eval_tmp ((hev 16 (by decide)).trans rfl)) (eval_tmp ((hin 0 73 rfl).trans (congrArg some (show uu 0 = .int .i64 0 from (hd 0 (by decide) (by kernel_rfl)).2)))) (fun _ => by kernel_rfl) (hK _ _ (hJ.grow hLi (by simp) (by simp) (Below.refl _ _)) rfl veL_same)⟩
  ·
   exact .inr ⟨rfl, fun K' hK => wp_load 23 (.tmp 74) rfl bk16 0 3 (cV (appT r (appT q v))) (cS (appT r (appT q v)).x) 25 (hJ.em.es.at' _ (List.mem_of_getElem? (i := 1) rfl)) (eval_tmp ((hin 1 74 rfl).trans (congrArg some (show uu 1 = .pointer (some ⟨bk16, 0, none⟩) from (hd 1 (by decide) (by kernel_rfl)).2)))) ag23 sz23 (Nat.le_of_ble_eq_true (by kernel_rfl)) (by kernel_rfl) (hK _ _ (hJ.grow hLi (by simp) (by simp) (Below.refl _ _)) rfl veL_same)⟩
  ·
   exact .inr ⟨rfl, fun K' hK => wp_move (.tmp 18) rfl (eval_tmp ((hev 18 (by decide)).trans rfl)) (hK _ _ (hJ.grow hLi (by simp) (by simp) (Below.refl _ _)) rfl veL_same)⟩
  ·
   exact .inr ⟨rfl, fun K' hK => wp_ixa 25 (.tmp 17) (.tmp 76) rfl (eval_tmp ((hev 17 (by decide)).trans rfl)) (eval_tmp ((hin 3 76 rfl).trans (congrArg some (show uu 3 = .int .i64 0 from (hd 3 (by decide) (by kernel_rfl)).2)))) (fun _ => by kernel_rfl) (hK _ _ (hJ.grow hLi (by simp) (by simp) (Below.refl _ _)) rfl veL_same)⟩
  ·
   exact .inr ⟨rfl, fun K' hK => wp_load 23 (.tmp 77) rfl bk17 0 3 (cV (appT (mulT r q) v)) (cS (appT (mulT r q) v).x) 25 (hJ.em.es.at' _ (List.mem_of_getElem? (i := 0) rfl)) (eval_tmp ((hin 4 77 rfl).trans (congrArg some (show uu 4 = .pointer (some ⟨bk17, 0, none⟩) from (hd 4 (by decide) (by kernel_rfl)).2)))) ag23 sz23 (Nat.le_of_ble_eq_true (by kernel_rfl)) (by kernel_rfl) (hK _ _ (hJ.grow hLi (by simp) (by simp) (Below.refl _ _)) rfl veL_same)⟩
  ·
   exact .inr ⟨rfl, fun K' hK => wp_callv (.func 41) #[.tmp 75, .tmp 78] _ 41 #[] #[.agg (cS (appT r (appT q v)).x), .agg (cS (appT (mulT r q) v).x)] #[.agg (cS (appT r (appT q v)).x), .agg (cS (appT (mulT r q) v).x)] rfl rfl (map2 (eval_tmp ((hin 2 75 rfl).trans (congrArg some (show uu 2 = .agg (cS (appT r (appT q v)).x) from (hd 2 (by decide) (by kernel_rfl)).2)))) (eval_tmp ((hin 5 78 rfl).trans (congrArg some (show uu 5 = .agg (cS (appT (mulT r q) v).x) from (hd 5 (by decide) (by kernel_rfl)).2))))) (by kernel_rfl) (fun _ _ => by kernel_rfl) (meet_yes (chain_app r q v).1 ww) (fun _ hB => (hK _ _ (hJ.grow hLi (by simp) (by simp) hB) rfl (veL_flat rfl)))⟩
  ·
   exact .inr ⟨rfl, fun K' hK => wp_move (.tmp 79) rfl (eval_tmp ((hin 6 79 rfl).trans (congrArg some (show uu 6 = .tuple #[.agg (cS (meetS (appT r (appT q v)).x (appT (mulT r q) v).x)), .bool true] from (hd 6 (by decide) (by kernel_rfl)).2)))) (hK _ _ (hJ.grow hLi (by simp) (by simp) (Below.refl _ _)) rfl veL_same)⟩
  ·
   exact .inr ⟨rfl, fun K' hK => wp_ext (.tmp 72) 0 rfl (eval_tmp ((hin 7 72 rfl).trans (congrArg some (show uu 7 = .tuple #[.agg (cS (meetS (appT r (appT q v)).x (appT (mulT r q) v).x)), .bool true] from (hd 7 (by decide) (by kernel_rfl)).2)))) (fun _ => rfl) (hK _ _ (hJ.grow hLi (by simp) (by simp) (Below.refl _ _)) rfl veL_same)⟩
  ·
   exact .inr ⟨rfl, fun K' hK => wp_ext (.tmp 72) 1 rfl (eval_tmp ((hin 7 72 rfl).trans (congrArg some (show uu 7 = .tuple #[.agg (cS (meetS (appT r (appT q v)).x (appT (mulT r q) v).x)), .bool true] from (hd 7 (by decide) (by kernel_rfl)).2)))) (fun _ => rfl) (hK _ _ (hJ.grow hLi (by simp) (by simp) (Below.refl _ _)) rfl veL_same)⟩
  ·
   exact .inr ⟨rfl, fun K' hK => wp_alloc 23 rfl (.agg (cS zS)) zv23 (hK _ _ (hJ.alloc hLi (n := 3) rfl (by simp) (by simp)) trivial (veL_flat rfl))⟩
  ·
   have hLa := (hd 10 (by decide) (by kernel_rfl)).1
   obtain ⟨kb, kC, ke, kge, ksz, kcl⟩ := hJ.bx (10, 3, 23) (by simp) hLa
   have x19 : aa.tmps[19]? = some (.pointer (some ⟨kb, 0, none⟩)) := (hin 10 19 rfl).trans (congrArg some ke)
   have x80 : aa.tmps[80]? = some (.agg (cS (meetS (appT r (appT q v)).x (appT (mulT r q) v).x))) := ((hin 8 80 rfl).trans (congrArg some (show uu 8 = .agg (cS (meetS (appT r (appT q v)).x (appT (mulT r q) v).x)) from (hd 8 (by decide) (by kernel_rfl)).2)))
   clear hd hev hin
   simp only [List.getElem_cons_succ, List.getElem_cons_zero]
   clear hl
   refine .inr ⟨rfl, fun K' hK => ?_⟩
   have HK := Lib.hid hK
   clear hK
   refine wp_store 23 (.tmp 19) (.tmp 80) rfl 0 kb 0 kC 23 3 (cS (meetS (appT r (appT q v)).x (appT (mulT r q) v).x)).toList (hJ.em.join kge kcl) rfl (eval_tmp x19) (by rw [eval_tmp x80]; rfl) sz23 (by kernel_rfl) (by rw [ksz]; decide) (by kernel_rfl) (fun ww2 hE hk hz => ?_)
   rw [putC_full (show kC.size = (cS (meetS (appT r (appT q v)).x (appT (mulT r q) v).x)).toList.length from ksz), Array.toArray_toList] at hE
   exact HK.out undef _ (hJ.store (a := 10) (n := 3) (T := 23) (Cn := (cS (meetS (appT r (appT q v)).x (appT (mulT r q) v).x))) hLi (by simp) (by simp) (by simp) (by simp) (by simp) (by simp) hLa ke kge rfl hE hk hz) trivial (veL_flat rfl)
  ·
   exact .inr ⟨rfl, fun K' hK => wp_asgn (.tmp 81) rfl (eval_tmp ((hin 9 81 rfl).trans (congrArg some (show uu 9 = .bool true from (hd 9 (by decide) (by kernel_rfl)).2)))) (hK _ _ (hJ.grow hLi (by simp) (by simp) (Below.refl _ _)) rfl veL_same)⟩
 clear hM
 intro LL uu W23 hLL hJm hd
 have e_0 : uu 0 = .int .i64 0 := hd 0 (by decide)
 have e_1 : uu 1 = .pointer (some ⟨bk16, 0, none⟩) := hd 1 (by decide)
 have e_2 : uu 2 = .agg (cS (appT r (appT q v)).x) := hd 2 (by decide)
 have e_3 : uu 3 = .int .i64 0 := hd 3 (by decide)
 have e_4 : uu 4 = .pointer (some ⟨bk17, 0, none⟩) := hd 4 (by decide)
 have e_5 : uu 5 = .agg (cS (appT (mulT r q) v).x) := hd 5 (by decide)
 have e_6 : uu 6 = .tuple #[.agg (cS (meetS (appT r (appT q v)).x (appT (mulT r q) v).x)), .bool true] := hd 6 (by decide)
 have e_7 : uu 7 = .tuple #[.agg (cS (meetS (appT r (appT q v)).x (appT (mulT r q) v).x)), .bool true] := hd 7 (by decide)
 have e_8 : uu 8 = .agg (cS (meetS (appT r (appT q v)).x (appT (mulT r q) v).x)) := hd 8 (by decide)
 have e_9 : uu 9 = .bool true := hd 9 (by decide)
 obtain ⟨bk18, kC10, e_10, nge10, ksz10, nB10⟩ := hJm.bx (10, 3, 23) (by simp) (hLL 10 (by decide))
 have e_12 : uu 12 = .bool true := hd 12 (by decide)
 obtain ⟨_, kb11, ke11, kl11⟩ := hJm.st (11, 10, (cS (meetS (appT r (appT q v)).x (appT (mulT r q) v).x)), 23) (by simp) (hLL 11 (by decide))
 have kq11 : kb11 = bk18 := by
  have hq := ke11.symm.trans e_10
  injection hq with hq
  injection hq with hq
  injection hq with hq
 subst kq11
 clear ke11
 have g10 := hJm.em.join nge10 kl11
 clear hd hLL
 simp only [layS, Act.put, List.setIfInBounds_toArray, List.set_cons_succ, List.set_cons_zero, Nat.zero_add, Nat.reduceAdd, List.drop_succ_cons, List.drop_zero, List.drop_nil, e_0, e_1, e_2, e_3, e_4, e_5, e_6, e_7, e_8, e_9, e_10, e_12]
 have hJ23 := g10
 clear hJm e_0 e_1 e_2 e_3 e_4 e_5 e_6 e_7 e_8 e_9 e_10 e_12 nge10 nB10 ksz10 g10
 have hJ23d := hJ23.sub (List.sublist_cons_self _ _)
 clear hJ23
 go_wp2
 rw [rounds_succ]
 go_wp2
 obtain ⟨m18_23, hm⟩ : ∃ m, m = W23.heap.size := ⟨_, rfl⟩
 have hM : ∀ uu, Jz w m18_23 [(bk17, (cV (appT (mulT r q) v)), 25), (bk16, (cV (appT r (appT q v))), 25), (bk6, (cT (mulT r (mulT q s))), 50), (bk5, (cT (mulT (mulT r q) s)), 50), (bk4, (cV v), 25), (bk3, (cT s), 50), (bk2, (cT q), 50), (bk1, (cT r), 50)] [(10, 3, 23)] [(11, 10, (cS (meetS (appT r (appT q v)).y (appT (mulT r q) v).y)), 23)] (fun _ => false) uu W23.drew := fun uu => by rw [hm]; exact Jz.start hJ23d uu
 clear hm hJ23d
 refine wp_region_y 13 [some 73, some 74, some 75, some 76, some 77, some 78, some 79, some 72, some 80, some 81, some 19, none, some 20] (veL m18_23 [.eq (.int .i64 1), .eq (.pointer (some ⟨bk16, 3, none⟩)), .eq (.agg (cS (appT r (appT q v)).y)), .eq (.int .i64 1), .eq (.pointer (some ⟨bk17, 3, none⟩)), .eq (.agg (cS (appT (mulT r q) v).y)), .eq (.tuple #[.agg (cS (meetS (appT r (appT q v)).y (appT (mulT r q) v).y)), .bool true]), .eq (.tuple #[.agg (cS (meetS (appT r (appT q v)).y (appT (mulT r q) v).y)), .bool true]), .eq (.agg (cS (meetS (appT r (appT q v)).y (appT (mulT r q) v).y))), .eq (.bool true), .any, .any, .eq (.bool true)]) (Jz w m18_23 [(bk17, (cV (appT (mulT r q) v)), 25), (bk16, (cV (appT r (appT q v))), 25), (bk6, (cT (mulT r (mulT q s))), 50), (bk5, (cT (mulT (mulT r q) s)), 50), (bk4, (cV v), 25), (bk3, (cT s), 50), (bk2, (cT q), 50), (bk1, (cT r), 50)] [(10, 3, 23)] [(11, 10, (cS (meetS (appT r (appT q v)).y (appT (mulT r q) v).y)), 23)]) (by kernel_rfl) (by kernel_rfl) (by rfl) (by decide) (by rfl) hM ?_ ?_
 ·
  intro i hl hi LL uu ww aa hLi hJ hd hev hin
  clear hM
  obtain rfl | rfl | rfl | rfl | rfl | rfl | rfl | rfl | rfl | rfl | rfl | rfl | rfl : i = 0 ∨ i = 1 ∨ i = 2 ∨ i = 3 ∨ i = 4 ∨ i = 5 ∨ i = 6 ∨ i = 7 ∨ i = 8 ∨ i = 9 ∨ i = 10 ∨ i = 11 ∨ i = 12 := by omega
  ·
   exact .inr ⟨rfl, fun K' hK => wp_move (.tmp 18) rfl (eval_tmp ((hev 18 (by decide)).trans rfl)) (hK _ _ (hJ.grow hLi (by simp) (by simp) (Below.refl _ _)) rfl veL_same)⟩
  ·
   exact .inr ⟨rfl, fun K' hK => wp_ixa 25 (.tmp 16) (.tmp 73) rfl (eval_tmp ((hev 16 (by decide)).trans rfl)) (eval_tmp ((hin 0 73 rfl).trans (congrArg some (show uu 0 = .int .i64 1 from (hd 0 (by decide) (by kernel_rfl)).2)))) (fun _ => by kernel_rfl) (hK _ _ (hJ.grow hLi (by simp) (by simp) (Below.refl _ _)) rfl veL_same)⟩
  ·
   exact .inr ⟨rfl, fun K' hK => wp_load 23 (.tmp 74) rfl bk16 3 3 (cV (appT r (appT q v))) (cS (appT r (appT q v)).y) 25 (hJ.em.es.at' _ (List.mem_of_getElem? (i := 1) rfl)) (eval_tmp ((hin 1 74 rfl).trans (congrArg some (show uu 1 = .pointer (some ⟨bk16, 3, none⟩) from (hd 1 (by decide) (by kernel_rfl)).2)))) ag23 sz23 (Nat.le_of_ble_eq_true (by kernel_rfl)) (by kernel_rfl) (hK _ _ (hJ.grow hLi (by simp) (by simp) (Below.refl _ _)) rfl veL_same)⟩
  ·
   exact .inr ⟨rfl, fun K' hK => wp_move (.tmp 18) rfl (eval_tmp ((hev 18 (by decide)).trans rfl)) (hK _ _ (hJ.grow hLi (by simp) (by simp) (Below.refl _ _)) rfl veL_same)⟩
  ·
   exact .inr ⟨rfl, fun K' hK => wp_ixa 25 (.tmp 17) (.tmp 76) rfl (eval_tmp ((hev 17 (by decide)).trans rfl)) (eval_tmp ((hin 3 76 rfl).trans (congrArg some (show uu 3 = .int .i64 1 from (hd 3 (by decide) (by kernel_rfl)).2)))) (fun _ => by kernel_rfl) (hK _ _ (hJ.grow hLi (by simp) (by simp) (Below.refl _ _)) rfl veL_same)⟩
  ·
   exact .inr ⟨rfl, fun K' hK => wp_load 23 (.tmp 77) rfl bk17 3 3 (cV (appT (mulT r q) v)) (cS (appT (mulT r q) v).y) 25 (hJ.em.es.at' _ (List.mem_of_getElem? (i := 0) rfl)) (eval_tmp ((hin 4 77 rfl).trans (congrArg some (show uu 4 = .pointer (some ⟨bk17, 3, none⟩) from (hd 4 (by decide) (by kernel_rfl)).2)))) ag23 sz23 (Nat.le_of_ble_eq_true (by kernel_rfl)) (by kernel_rfl) (hK _ _ (hJ.grow hLi (by simp) (by simp) (Below.refl _ _)) rfl veL_same)⟩
  ·
   exact .inr ⟨rfl, fun K' hK => wp_callv (.func 41) #[.tmp 75, .tmp 78] _ 41 #[] #[.agg (cS (appT r (appT q v)).y), .agg (cS (appT (mulT r q) v).y)] #[.agg (cS (appT r (appT q v)).y), .agg (cS (appT (mulT r q) v).y)] rfl rfl (map2 (eval_tmp ((hin 2 75 rfl).trans (congrArg some (show uu 2 = .agg (cS (appT r (appT q v)).y) from (hd 2 (by decide) (by kernel_rfl)).2)))) (eval_tmp ((hin 5 78 rfl).trans (congrArg some (show uu 5 = .agg (cS (appT (mulT r q) v).y) from (hd 5 (by decide) (by kernel_rfl)).2))))) (by kernel_rfl) (fun _ _ => by kernel_rfl) (meet_yes (chain_app r q v).2.1 ww) (fun _ hB => (hK _ _ (hJ.grow hLi (by simp) (by simp) hB) rfl (veL_flat rfl)))⟩
  ·
   exact .inr ⟨rfl, fun K' hK => wp_move (.tmp 79) rfl (eval_tmp ((hin 6 79 rfl).trans (congrArg some (show uu 6 = .tuple #[.agg (cS (meetS (appT r (appT q v)).y (appT (mulT r q) v).y)), .bool true] from (hd 6 (by decide) (by kernel_rfl)).2)))) (hK _ _ (hJ.grow hLi (by simp) (by simp) (Below.refl _ _)) rfl veL_same)⟩
  ·
   exact .inr ⟨rfl, fun K' hK => wp_ext (.tmp 72) 0 rfl (eval_tmp ((hin 7 72 rfl).trans (congrArg some (show uu 7 = .tuple #[.agg (cS (meetS (appT r (appT q v)).y (appT (mulT r q) v).y)), .bool true] from (hd 7 (by decide) (by kernel_rfl)).2)))) (fun _ => rfl) (hK _ _ (hJ.grow hLi (by simp) (by simp) (Below.refl _ _)) rfl veL_same)⟩
  ·
   exact .inr ⟨rfl, fun K' hK => wp_ext (.tmp 72) 1 rfl (eval_tmp ((hin 7 72 rfl).trans (congrArg some (show uu 7 = .tuple #[.agg (cS (meetS (appT r (appT q v)).y (appT (mulT r q) v).y)), .bool true] from (hd 7 (by decide) (by kernel_rfl)).2)))) (fun _ => rfl) (hK _ _ (hJ.grow hLi (by simp) (by simp) (Below.refl _ _)) rfl veL_same)⟩
  ·
   exact .inr ⟨rfl, fun K' hK => wp_alloc 23 rfl (.agg (cS zS)) zv23 (hK _ _ (hJ.alloc hLi (n := 3) rfl (by simp) (by simp)) trivial (veL_flat rfl))⟩
  ·
   have hLa := (hd 10 (by decide) (by kernel_rfl)).1
   obtain ⟨kb, kC, ke, kge, ksz, kcl⟩ := hJ.bx (10, 3, 23) (by simp) hLa
   have x19 : aa.tmps[19]? = some (.pointer (some ⟨kb, 0, none⟩)) := (hin 10 19 rfl).trans (congrArg some ke)
   have x80 : aa.tmps[80]? = some (.agg (cS (meetS (appT r (appT q v)).y (appT (mulT r q) v).y))) := ((hin 8 80 rfl).trans (congrArg some (show uu 8 = .agg (cS (meetS (appT r (appT q v)).y (appT (mulT r q) v).y)) from (hd 8 (by decide) (by kernel_rfl)).2)))
   clear hd hev hin
   simp only [List.getElem_cons_succ, List.getElem_cons_zero]
   clear hl
   refine .inr ⟨rfl, fun K' hK => ?_⟩
   have HK := Lib.hid hK
   clear hK
   refine wp_store 23 (.tmp 19) (.tmp 80) rfl 0 kb 0 kC 23 3 (cS (meetS (appT r (appT q v)).y (appT (mulT r q) v).y)).toList (hJ.em.join kge kcl) rfl (eval_tmp x19) (by rw [eval_tmp x80]; rfl) sz23 (by kernel_rfl) (by rw [ksz]; decide) (by kernel_rfl) (fun ww2 hE hk hz => ?_)
   rw [putC_full (show kC.size = (cS (meetS (appT r (appT q v)).y (appT (mulT r q) v).y)).toList.length from ksz), Array.toArray_toList] at hE
   exact HK.out undef _ (hJ.store (a := 10) (n := 3) (T := 23) (Cn := (cS (meetS (appT r (appT q v)).y (appT (mulT r q) v).y))) hLi (by simp) (by simp) (by simp) (by simp) (by simp) (by simp) hLa ke kge rfl hE hk hz) trivial (veL_flat rfl)
  ·
   exact .inr ⟨rfl, fun K' hK => wp_asgn (.tmp 81) rfl (eval_tmp ((hin 9 81 rfl).trans (congrArg some (show uu 9 = .bool true from (hd 9 (by decide) (by kernel_rfl)).2)))) (hK _ _ (hJ.grow hLi (by simp) (by simp) (Below.refl _ _)) rfl veL_same)⟩
 clear hM
 intro LL uu W24 hLL hJm hd
 have e_0 : uu 0 = .int .i64 1 := hd 0 (by decide)
 have e_1 : uu 1 = .pointer (some ⟨bk16, 3, none⟩) := hd 1 (by decide)
 have e_2 : uu 2 = .agg (cS (appT r (appT q v)).y) := hd 2 (by decide)
 have e_3 : uu 3 = .int .i64 1 := hd 3 (by decide)
 have e_4 : uu 4 = .pointer (some ⟨bk17, 3, none⟩) := hd 4 (by decide)
 have e_5 : uu 5 = .agg (cS (appT (mulT r q) v).y) := hd 5 (by decide)
 have e_6 : uu 6 = .tuple #[.agg (cS (meetS (appT r (appT q v)).y (appT (mulT r q) v).y)), .bool true] := hd 6 (by decide)
 have e_7 : uu 7 = .tuple #[.agg (cS (meetS (appT r (appT q v)).y (appT (mulT r q) v).y)), .bool true] := hd 7 (by decide)
 have e_8 : uu 8 = .agg (cS (meetS (appT r (appT q v)).y (appT (mulT r q) v).y)) := hd 8 (by decide)
 have e_9 : uu 9 = .bool true := hd 9 (by decide)
 obtain ⟨bk19, kC10, e_10, nge10, ksz10, nB10⟩ := hJm.bx (10, 3, 23) (by simp) (hLL 10 (by decide))
 have e_12 : uu 12 = .bool true := hd 12 (by decide)
 obtain ⟨_, kb11, ke11, kl11⟩ := hJm.st (11, 10, (cS (meetS (appT r (appT q v)).y (appT (mulT r q) v).y)), 23) (by simp) (hLL 11 (by decide))
 have kq11 : kb11 = bk19 := by
  have hq := ke11.symm.trans e_10
  injection hq with hq
  injection hq with hq
  injection hq with hq
 subst kq11
 clear ke11
 have g10 := hJm.em.join nge10 kl11
 clear hd hLL
 simp only [layS, Act.put, List.setIfInBounds_toArray, List.set_cons_succ, List.set_cons_zero, Nat.zero_add, Nat.reduceAdd, List.drop_succ_cons, List.drop_zero, List.drop_nil, e_0, e_1, e_2, e_3, e_4, e_5, e_6, e_7, e_8, e_9, e_10, e_12]
 have hJ24 := g10
 clear hJm e_0 e_1 e_2 e_3 e_4 e_5 e_6 e_7 e_8 e_9 e_10 e_12 nge10 nB10 ksz10 g10
 have hJ24d := hJ24.sub (List.sublist_cons_self _ _)
 clear hJ24
 go_wp2
 rw [rounds_succ]
 go_wp2
 obtain ⟨m18_24, hm⟩ : ∃ m, m = W24.heap.size := ⟨_, rfl⟩
 have hM : ∀ uu, Jz w m18_24 [(bk17, (cV (appT (mulT r q) v)), 25), (bk16, (cV (appT r (appT q v))), 25), (bk6, (cT (mulT r (mulT q s))), 50), (bk5, (cT (mulT (mulT r q) s)), 50), (bk4, (cV v), 25), (bk3, (cT s), 50), (bk2, (cT q), 50), (bk1, (cT r), 50)] [(10, 3, 23)] [(11, 10, (cS (meetS (appT r (appT q v)).z (appT (mulT r q) v).z)), 23)] (fun _ => false) uu W24.drew := fun uu => by rw [hm]; exact Jz.start hJ24d uu
 clear hm hJ24d
 refine wp_region_y 13 [some 73, some 74, some 75, some 76, some 77, some 78, some 79, some 72, some 80, some 81, some 19, none, some 20] (veL m18_24 [.eq (.int .i64 2), .eq (.pointer (some ⟨bk16, 6, none⟩)), .eq (.agg (cS (appT r (appT q v)).z)), .eq (.int .i64 2), .eq (.pointer (some ⟨bk17, 6, none⟩)), .eq (.agg (cS (appT (mulT r q) v).z)), .eq (.tuple #[.agg (cS (meetS (appT r (appT q v)).z (appT (mulT r q) v).z)), .bool true]), .eq (.tuple #[.agg (cS (meetS (appT r (appT q v)).z (appT (mulT r q) v).z)), .bool true]), .eq (.agg (cS (meetS (appT r (appT q v)).z (appT (mulT r q) v).z))), .eq (.bool true), .any, .any, .eq (.bool true)]) (Jz w m18_24 [(bk17, (cV (appT (mulT r q) v)), 25), (bk16, (cV (appT r (appT q v))), 25), (bk6, (cT (mulT r (mulT q s))), 50), (bk5, (cT (mulT (mulT r q) s)), 50), (bk4, (cV v), 25), (bk3, (cT s), 50), (bk2, (cT q), 50), (bk1, (cT r), 50)] [(10, 3, 23)] [(11, 10, (cS (meetS (appT r (appT q v)).z (appT (mulT r q) v).z)), 23)]) (by kernel_rfl) (by kernel_rfl) (by rfl) (by decide) (by rfl) hM ?_ ?_
 ·
  intro i hl hi LL uu ww aa hLi hJ hd hev hin
  clear hM
  obtain rfl | rfl | rfl | rfl | rfl | rfl | rfl | rfl | rfl | rfl | rfl | rfl | rfl : i = 0 ∨ i = 1 ∨ i = 2 ∨ i = 3 ∨ i = 4 ∨ i = 5 ∨ i = 6 ∨ i = 7 ∨ i = 8 ∨ i = 9 ∨ i = 10 ∨ i = 11 ∨ i = 12 := by omega
  ·
   exact .inr ⟨rfl, fun K' hK => wp_move (.tmp 18) rfl (eval_tmp ((hev 18 (by decide)).trans rfl)) (hK _ _ (hJ.grow hLi (by simp) (by simp) (Below.refl _ _)) rfl veL_same)⟩
  ·
   exact .inr ⟨rfl, fun K' hK => wp_ixa 25 (.tmp 16) (.tmp 73) rfl (eval_tmp ((hev 16 (by decide)).trans rfl)) (eval_tmp ((hin 0 73 rfl).trans (congrArg some (show uu 0 = .int .i64 2 from (hd 0 (by decide) (by kernel_rfl)).2)))) (fun _ => by kernel_rfl) (hK _ _ (hJ.grow hLi (by simp) (by simp) (Below.refl _ _)) rfl veL_same)⟩
  ·
   exact .inr ⟨rfl, fun K' hK => wp_load 23 (.tmp 74) rfl bk16 6 3 (cV (appT r (appT q v))) (cS (appT r (appT q v)).z) 25 (hJ.em.es.at' _ (List.mem_of_getElem? (i := 1) rfl)) (eval_tmp ((hin 1 74 rfl).trans (congrArg some (show uu 1 = .pointer (some ⟨bk16, 6, none⟩) from (hd 1 (by decide) (by kernel_rfl)).2)))) ag23 sz23 (Nat.le_of_ble_eq_true (by kernel_rfl)) (by kernel_rfl) (hK _ _ (hJ.grow hLi (by simp) (by simp) (Below.refl _ _)) rfl veL_same)⟩
  ·
   exact .inr ⟨rfl, fun K' hK => wp_move (.tmp 18) rfl (eval_tmp ((hev 18 (by decide)).trans rfl)) (hK _ _ (hJ.grow hLi (by simp) (by simp) (Below.refl _ _)) rfl veL_same)⟩
  ·
   exact .inr ⟨rfl, fun K' hK => wp_ixa 25 (.tmp 17) (.tmp 76) rfl (eval_tmp ((hev 17 (by decide)).trans rfl)) (eval_tmp ((hin 3 76 rfl).trans (congrArg some (show uu 3 = .int .i64 2 from (hd 3 (by decide) (by kernel_rfl)).2)))) (fun _ => by kernel_rfl) (hK _ _ (hJ.grow hLi (by simp) (by simp) (Below.refl _ _)) rfl veL_same)⟩
  ·
   exact .inr ⟨rfl, fun K' hK => wp_load 23 (.tmp 77) rfl bk17 6 3 (cV (appT (mulT r q) v)) (cS (appT (mulT r q) v).z) 25 (hJ.em.es.at' _ (List.mem_of_getElem? (i := 0) rfl)) (eval_tmp ((hin 4 77 rfl).trans (congrArg some (show uu 4 = .pointer (some ⟨bk17, 6, none⟩) from (hd 4 (by decide) (by kernel_rfl)).2)))) ag23 sz23 (Nat.le_of_ble_eq_true (by kernel_rfl)) (by kernel_rfl) (hK _ _ (hJ.grow hLi (by simp) (by simp) (Below.refl _ _)) rfl veL_same)⟩
  ·
   exact .inr ⟨rfl, fun K' hK => wp_callv (.func 41) #[.tmp 75, .tmp 78] _ 41 #[] #[.agg (cS (appT r (appT q v)).z), .agg (cS (appT (mulT r q) v).z)] #[.agg (cS (appT r (appT q v)).z), .agg (cS (appT (mulT r q) v).z)] rfl rfl (map2 (eval_tmp ((hin 2 75 rfl).trans (congrArg some (show uu 2 = .agg (cS (appT r (appT q v)).z) from (hd 2 (by decide) (by kernel_rfl)).2)))) (eval_tmp ((hin 5 78 rfl).trans (congrArg some (show uu 5 = .agg (cS (appT (mulT r q) v).z) from (hd 5 (by decide) (by kernel_rfl)).2))))) (by kernel_rfl) (fun _ _ => by kernel_rfl) (meet_yes (chain_app r q v).2.2 ww) (fun _ hB => (hK _ _ (hJ.grow hLi (by simp) (by simp) hB) rfl (veL_flat rfl)))⟩
  ·
   exact .inr ⟨rfl, fun K' hK => wp_move (.tmp 79) rfl (eval_tmp ((hin 6 79 rfl).trans (congrArg some (show uu 6 = .tuple #[.agg (cS (meetS (appT r (appT q v)).z (appT (mulT r q) v).z)), .bool true] from (hd 6 (by decide) (by kernel_rfl)).2)))) (hK _ _ (hJ.grow hLi (by simp) (by simp) (Below.refl _ _)) rfl veL_same)⟩
  ·
   exact .inr ⟨rfl, fun K' hK => wp_ext (.tmp 72) 0 rfl (eval_tmp ((hin 7 72 rfl).trans (congrArg some (show uu 7 = .tuple #[.agg (cS (meetS (appT r (appT q v)).z (appT (mulT r q) v).z)), .bool true] from (hd 7 (by decide) (by kernel_rfl)).2)))) (fun _ => rfl) (hK _ _ (hJ.grow hLi (by simp) (by simp) (Below.refl _ _)) rfl veL_same)⟩
  ·
   exact .inr ⟨rfl, fun K' hK => wp_ext (.tmp 72) 1 rfl (eval_tmp ((hin 7 72 rfl).trans (congrArg some (show uu 7 = .tuple #[.agg (cS (meetS (appT r (appT q v)).z (appT (mulT r q) v).z)), .bool true] from (hd 7 (by decide) (by kernel_rfl)).2)))) (fun _ => rfl) (hK _ _ (hJ.grow hLi (by simp) (by simp) (Below.refl _ _)) rfl veL_same)⟩
  ·
   exact .inr ⟨rfl, fun K' hK => wp_alloc 23 rfl (.agg (cS zS)) zv23 (hK _ _ (hJ.alloc hLi (n := 3) rfl (by simp) (by simp)) trivial (veL_flat rfl))⟩
  ·
   have hLa := (hd 10 (by decide) (by kernel_rfl)).1
   obtain ⟨kb, kC, ke, kge, ksz, kcl⟩ := hJ.bx (10, 3, 23) (by simp) hLa
   have x19 : aa.tmps[19]? = some (.pointer (some ⟨kb, 0, none⟩)) := (hin 10 19 rfl).trans (congrArg some ke)
   have x80 : aa.tmps[80]? = some (.agg (cS (meetS (appT r (appT q v)).z (appT (mulT r q) v).z))) := ((hin 8 80 rfl).trans (congrArg some (show uu 8 = .agg (cS (meetS (appT r (appT q v)).z (appT (mulT r q) v).z)) from (hd 8 (by decide) (by kernel_rfl)).2)))
   clear hd hev hin
   simp only [List.getElem_cons_succ, List.getElem_cons_zero]
   clear hl
   refine .inr ⟨rfl, fun K' hK => ?_⟩
   have HK := Lib.hid hK
   clear hK
   refine wp_store 23 (.tmp 19) (.tmp 80) rfl 0 kb 0 kC 23 3 (cS (meetS (appT r (appT q v)).z (appT (mulT r q) v).z)).toList (hJ.em.join kge kcl) rfl (eval_tmp x19) (by rw [eval_tmp x80]; rfl) sz23 (by kernel_rfl) (by rw [ksz]; decide) (by kernel_rfl) (fun ww2 hE hk hz => ?_)
   rw [putC_full (show kC.size = (cS (meetS (appT r (appT q v)).z (appT (mulT r q) v).z)).toList.length from ksz), Array.toArray_toList] at hE
   exact HK.out undef _ (hJ.store (a := 10) (n := 3) (T := 23) (Cn := (cS (meetS (appT r (appT q v)).z (appT (mulT r q) v).z))) hLi (by simp) (by simp) (by simp) (by simp) (by simp) (by simp) hLa ke kge rfl hE hk hz) trivial (veL_flat rfl)
  ·
   exact .inr ⟨rfl, fun K' hK => wp_asgn (.tmp 81) rfl (eval_tmp ((hin 9 81 rfl).trans (congrArg some (show uu 9 = .bool true from (hd 9 (by decide) (by kernel_rfl)).2)))) (hK _ _ (hJ.grow hLi (by simp) (by simp) (Below.refl _ _)) rfl veL_same)⟩
 clear hM
 intro LL uu W25 hLL hJm hd
 have e_0 : uu 0 = .int .i64 2 := hd 0 (by decide)
 have e_1 : uu 1 = .pointer (some ⟨bk16, 6, none⟩) := hd 1 (by decide)
 have e_2 : uu 2 = .agg (cS (appT r (appT q v)).z) := hd 2 (by decide)
 have e_3 : uu 3 = .int .i64 2 := hd 3 (by decide)
 have e_4 : uu 4 = .pointer (some ⟨bk17, 6, none⟩) := hd 4 (by decide)
 have e_5 : uu 5 = .agg (cS (appT (mulT r q) v).z) := hd 5 (by decide)
 have e_6 : uu 6 = .tuple #[.agg (cS (meetS (appT r (appT q v)).z (appT (mulT r q) v).z)), .bool true] := hd 6 (by decide)
 have e_7 : uu 7 = .tuple #[.agg (cS (meetS (appT r (appT q v)).z (appT (mulT r q) v).z)), .bool true] := hd 7 (by decide)
 have e_8 : uu 8 = .agg (cS (meetS (appT r (appT q v)).z (appT (mulT r q) v).z)) := hd 8 (by decide)
 have e_9 : uu 9 = .bool true := hd 9 (by decide)
 obtain ⟨bk20, kC10, e_10, nge10, ksz10, nB10⟩ := hJm.bx (10, 3, 23) (by simp) (hLL 10 (by decide))
 have e_12 : uu 12 = .bool true := hd 12 (by decide)
 obtain ⟨_, kb11, ke11, kl11⟩ := hJm.st (11, 10, (cS (meetS (appT r (appT q v)).z (appT (mulT r q) v).z)), 23) (by simp) (hLL 11 (by decide))
 have kq11 : kb11 = bk20 := by
  have hq := ke11.symm.trans e_10
  injection hq with hq
  injection hq with hq
  injection hq with hq
 subst kq11
 clear ke11
 have g10 := hJm.em.join nge10 kl11
 clear hd hLL
 simp only [layS, Act.put, List.setIfInBounds_toArray, List.set_cons_succ, List.set_cons_zero, Nat.zero_add, Nat.reduceAdd, List.drop_succ_cons, List.drop_zero, List.drop_nil, e_0, e_1, e_2, e_3, e_4, e_5, e_6, e_7, e_8, e_9, e_10, e_12]
 have hJ25 := g10
 clear hJm e_0 e_1 e_2 e_3 e_4 e_5 e_6 e_7 e_8 e_9 e_10 e_12 nge10 nB10 ksz10 g10
 have hJ25d := hJ25.sub (List.sublist_cons_self _ _)
 clear hJ25
 go_wp2
 rw [rounds_succ]
 go_wp2
 obtain ⟨m21_25, hm⟩ : ∃ m, m = W25.heap.size := ⟨_, rfl⟩
 have hM := hJ25d.em
 rw [← hm] at hM
 clear hm hJ25d
 refine wp_region_z 4 [some 84, some 85, some 86, some 21] (veL m21_25 [.eq (.agg (cT idT)), .eq (.agg (cT r)), .eq (.agg (cT (mulT idT r))), .box (cT zT) 50]) (Em w m21_25 [(bk17, (cV (appT (mulT r q) v)), 25), (bk16, (cV (appT r (appT q v))), 25), (bk6, (cT (mulT r (mulT q s))), 50), (bk5, (cT (mulT (mulT r q) s)), 50), (bk4, (cV v), 25), (bk3, (cT s), 50), (bk2, (cT q), 50), (bk1, (cT r), 50)]) (by kernel_rfl) (by kernel_rfl) (by rfl) (by decide) (by rfl) hM ?_ ?_
 ·
  intro i hl hi uu ww aa hJ hd hev hin
  clear hM
  obtain rfl | rfl | rfl | rfl : i = 0 ∨ i = 1 ∨ i = 2 ∨ i = 3 := by omega
  ·
   exact .inr ⟨rfl, fun K' hK => wp_callv (.func 35) #[] _ 35 #[] #[] #[] rfl rfl (by simp) (by kernel_rfl) (fun _ _ => by kernel_rfl) (tId_any ww) (fun _ hB => (hK _ _ (hJ.later hB) rfl (veL_later hB)))⟩
  ·
   exact .inr ⟨rfl, fun K' hK => wp_load 50 (.tmp 4) rfl bk1 0 27 (cT r) (cT r) 50 (hJ.es.at' _ (List.mem_of_getElem? (i := 7) rfl)) (eval_tmp ((hev 4 (by decide)).trans rfl)) ag50 sz50 (Nat.le_of_ble_eq_true (by kernel_rfl)) (by kernel_rfl) (hK _ _ hJ rfl veL_same)⟩
  ·
   exact .inr ⟨rfl, fun K' hK => wp_callv (.func 37) #[.tmp 84, .tmp 85] _ 37 #[] #[.agg (cT idT), .agg (cT r)] #[.agg (cT idT), .agg (cT r)] rfl rfl (map2 (eval_tmp ((hin 0 84 rfl).trans (congrArg some (show uu 0 = .agg (cT idT) from hd 0 (by decide) (by kernel_rfl))))) (eval_tmp ((hin 1 85 rfl).trans (congrArg some (show uu 1 = .agg (cT r) from hd 1 (by decide) (by kernel_rfl)))))) (by kernel_rfl) (fun _ _ => by kernel_rfl) (tMul_any idT r ww) (fun _ hB => (hK _ _ (hJ.later hB) rfl (veL_later hB)))⟩
  ·
   exact .inr ⟨rfl, fun K' hK => wp_alloc 50 rfl (.agg (cT zT)) zv50 (hK _ _ (hJ.later ((Below.refl _ _).alloc (Nat.le_refl _) _)) ⟨ww.heap.size, rfl, hJ.le, heap_new ww _⟩ (veL_later ((Below.refl _ _).alloc (Nat.le_refl _) _)))⟩
 clear hM
 intro uu W26 hJm hd
 have e_0 : uu 0 = .agg (cT idT) := hd 0 (by decide)
 have e_1 : uu 1 = .agg (cT r) := hd 1 (by decide)
 have e_2 : uu 2 = .agg (cT (mulT idT r)) := hd 2 (by decide)
 obtain ⟨bk21, e_3, nge3, nB3⟩ := (show veP m21_25 (.box (cT zT) 50) (uu 3) W26 from hd 3 (by decide))
 clear hd
 simp only [layS, Act.put, List.setIfInBounds_toArray, List.set_cons_succ, List.set_cons_zero, Nat.zero_add, Nat.reduceAdd, List.drop_succ_cons, List.drop_zero, List.drop_nil, e_0, e_1, e_2, e_3]
 clear e_0 e_1 e_2 e_3
 have hJ26 := hJm.join nge3 nB3
 clear hJm nge3 nB3
 go_wp2_with (refine stop_store 50 (.tmp 21) (.tmp 86) 0 bk21 0 (cT zT) 50 27 (cT (mulT idT r)).toList (cT (mulT idT r)) [(bk21, (cT (mulT idT r)), 50), (bk17, (cV (appT (mulT r q) v)), 25), (bk16, (cV (appT r (appT q v))), 25), (bk6, (cT (mulT r (mulT q s))), 50), (bk5, (cT (mulT (mulT r q) s)), 50), (bk4, (cV v), 25), (bk3, (cT s), 50), (bk2, (cT q), 50), (bk1, (cT r), 50)] rfl rfl rfl rfl sz50 hJ26 rfl (by kernel_rfl) (Nat.le_of_ble_eq_true (by kernel_rfl)) (by kernel_rfl) (by kernel_rfl) (by kernel_rfl) (fun W27 hJ27 => ?_))
 clear hJ26
 unfold Stop
 try simp only [Act.put, List.setIfInBounds_toArray, List.set_cons_succ, List.set_cons_zero]
 go_wp2_with (refine stop_op rfl (fun K hK => wp_load 50 (.tmp 4) rfl bk1 0 27 (cT r) (cT r) 50 (hJ27.at' _ (List.mem_of_getElem? (i := 8) rfl)) rfl ag50 sz50 (Nat.le_of_ble_eq_true (by kernel_rfl)) (by kernel_rfl) (hK _ _ ?_)))
 unfold Stop
 try simp only [Act.put, List.setIfInBounds_toArray, List.set_cons_succ, List.set_cons_zero]
 go_wp2_with (refine stop_op rfl (fun K hK => wp_load 50 (.tmp 21) rfl bk21 0 27 (cT (mulT idT r)) (cT (mulT idT r)) 50 (hJ27.at' _ (List.mem_of_getElem? (i := 0) rfl)) rfl ag50 sz50 (Nat.le_of_ble_eq_true (by kernel_rfl)) (by kernel_rfl) (hK _ _ ?_)))
 unfold Stop
 try simp only [Act.put, List.setIfInBounds_toArray, List.set_cons_succ, List.set_cons_zero]
 go_wp2_with fail
 refine (Ho.out _).mono ?_
 rintro zz W28 ⟨rfl, hB⟩
 have hJ28 := hJ27.later hB
 clear hB
 clear hJ27
 go_wp2
 go_ret
 exact ⟨rfl, hJ28.below⟩
theorem RotChain_any (r q s : Tu) (v : Vc) (w : World) : Calls Try.prog 9 #[.agg (cT r), .agg (cT q), .agg (cT s), .agg (cV v)] w (PVal (.bool true) w) :=
 rc_w r q s v (fun W => by have := tIn_any r (mulT idT r) W; rw [chain_own r] at this; exact this) w
end Go.Proofs.Ytdochhhepmlapaa
