/- Parts of the proof. -/
import Derived.Test.YtdochhhepmlapaaGd37
import Derived.Test.YtdochhhepmlapaaGd31
/- The walk of the law RotAxis. No statement of the seat is proved here. -/
namespace Go.Proofs.Ytdochhhepmlapaa
open Go Go.RowKit
set_option maxRecDepth 100000 in
set_option maxHeartbeats 12800000 in
theorem rx_w (x y z : Int) (v u : Vc) (hHo : ∀ W : World, Calls Try.prog 25 #[.agg (cV (ofV x y z)), .agg (cV (appT (expT (ofV x y z)) (ofV x y z)))] W (PVal (.bool true) W)) (w : World)   : Calls Try.prog 6 #[.int .i64 x, .int .i64 y, .int .i64 z, .agg (cV v), .agg (cV u)] w (PVal (.bool true) w) := by
 have Ho := Lib.hid hHo
 clear hHo
 have hJ0 := es_nil w
 go_enter Try.func6, Try.ntmps6
 go_wp2_with (refine stop_box 25 (.tmp 3) (cV v) rfl rfl rfl hJ0 (fun bk1 W1 hJ1 => ?_))
 clear hJ0
 unfold Stop
 try simp only [Act.put, List.setIfInBounds_toArray, List.set_cons_succ, List.set_cons_zero]
 go_wp2_with (refine stop_box 25 (.tmp 4) (cV u) rfl rfl rfl hJ1 (fun bk2 W2 hJ2 => ?_))
 clear hJ1
 unfold Stop
 try simp only [Act.put, List.setIfInBounds_toArray, List.set_cons_succ, List.set_cons_zero]
 go_wp2_with fail
 refine (rawake_any W2).mono ?_
 rintro zz W3 ⟨rfl, hB⟩
 have hJ3 := hJ2.later hB
 clear hB
 clear hJ2
 go_wp2_with fail
 refine (vOf_any x y z W3).mono ?_
 rintro zz W4 ⟨rfl, hB⟩
 have hJ4 := hJ3.later hB
 clear hB
 clear hJ3
 go_wp2_with (refine stop_alloc 25 (cV zV) (.agg (cV zV)) rfl rfl zv25 rfl hJ4 (fun bk3 W5 hJ5 => ?_))
 clear hJ4
 unfold Stop
 try simp only [Act.put, List.setIfInBounds_toArray, List.set_cons_succ, List.set_cons_zero]
 go_wp2_with (refine stop_store 25 (.tmp 12) (.tmp 25) 0 bk3 0 (cV zV) 25 9 (cV (ofV x y z)).toList (cV (ofV x y z)) [(bk3, (cV (ofV x y z)), 25), (bk2, (cV u), 25), (bk1, (cV v), 25)] rfl rfl rfl rfl sz25 hJ5 rfl (by kernel_rfl) (Nat.le_of_ble_eq_true (by kernel_rfl)) (by kernel_rfl) (by kernel_rfl) (by kernel_rfl) (fun W6 hJ6 => ?_))
 clear hJ5
 unfold Stop
 try simp only [Act.put, List.setIfInBounds_toArray, List.set_cons_succ, List.set_cons_zero]
 go_wp2_with (refine stop_op rfl (fun K hK => wp_load 25 (.tmp 12) rfl bk3 0 9 (cV (ofV x y z)) (cV (ofV x y z)) 25 (hJ6.at' _ (List.mem_of_getElem? (i := 0) rfl)) rfl ag25 sz25 (Nat.le_of_ble_eq_true (by kernel_rfl)) (by kernel_rfl) (hK _ _ ?_)))
 unfold Stop
 try simp only [Act.put, List.setIfInBounds_toArray, List.set_cons_succ, List.set_cons_zero]
 go_wp2_with fail
 refine (tExp_any (ofV x y z) W6).mono ?_
 rintro zz W7 ⟨rfl, hB⟩
 have hJ7 := hJ6.later hB
 clear hB
 clear hJ6
 go_wp2_with (refine stop_alloc 50 (cT zT) (.agg (cT zT)) rfl rfl zv50 rfl hJ7 (fun bk4 W8 hJ8 => ?_))
 clear hJ7
 unfold Stop
 try simp only [Act.put, List.setIfInBounds_toArray, List.set_cons_succ, List.set_cons_zero]
 go_wp2_with (refine stop_store 50 (.tmp 13) (.tmp 27) 0 bk4 0 (cT zT) 50 27 (cT (expT (ofV x y z))).toList (cT (expT (ofV x y z))) [(bk4, (cT (expT (ofV x y z))), 50), (bk3, (cV (ofV x y z)), 25), (bk2, (cV u), 25), (bk1, (cV v), 25)] rfl rfl rfl rfl sz50 hJ8 rfl (by kernel_rfl) (Nat.le_of_ble_eq_true (by kernel_rfl)) (by kernel_rfl) (by kernel_rfl) (by kernel_rfl) (fun W9 hJ9 => ?_))
 clear hJ8
 unfold Stop
 try simp only [Act.put, List.setIfInBounds_toArray, List.set_cons_succ, List.set_cons_zero]
 go_wp2
 obtain ⟨m4_9, hm⟩ : ∃ m, m = W9.heap.size := ⟨_, rfl⟩
 have hM := hJ9.em
 rw [← hm] at hM
 clear hm hJ9
 refine wp_region_z 6 [some 28, some 29, some 30, some 31, some 32, some 14] (veL m4_9 [.eq (.agg (cV (ofV x y z))), .eq (.agg (cT (expT (ofV x y z)))), .eq (.agg (cV (ofV x y z))), .eq (.agg (cV (appT (expT (ofV x y z)) (ofV x y z)))), .eq (.bool true), .eq (.bool true)]) (Em w m4_9 [(bk4, (cT (expT (ofV x y z))), 50), (bk3, (cV (ofV x y z)), 25), (bk2, (cV u), 25), (bk1, (cV v), 25)]) (by kernel_rfl) (by kernel_rfl) (by rfl) (by decide) (by rfl) hM ?_ ?_
 ·
  intro i hl hi uu ww aa hJ hd hev hin
  clear hM
  obtain rfl | rfl | rfl | rfl | rfl | rfl : i = 0 ∨ i = 1 ∨ i = 2 ∨ i = 3 ∨ i = 4 ∨ i = 5 := by omega
  ·
   exact .inr ⟨rfl, fun K' hK => wp_load 25 (.tmp 12) rfl bk3 0 9 (cV (ofV x y z)) (cV (ofV x y z)) 25 (hJ.es.at' _ (List.mem_of_getElem? (i := 1) rfl)) (eval_tmp ((hev 12 (by decide)).trans rfl)) ag25 sz25 (Nat.le_of_ble_eq_true (by kernel_rfl)) (by kernel_rfl) (hK _ _ hJ rfl veL_same)⟩
  ·
   exact .inr ⟨rfl, fun K' hK => wp_load 50 (.tmp 13) rfl bk4 0 27 (cT (expT (ofV x y z))) (cT (expT (ofV x y z))) 50 (hJ.es.at' _ (List.mem_of_getElem? (i := 0) rfl)) (eval_tmp ((hev 13 (by decide)).trans rfl)) ag50 sz50 (Nat.le_of_ble_eq_true (by kernel_rfl)) (by kernel_rfl) (hK _ _ hJ rfl veL_same)⟩
  ·
   exact .inr ⟨rfl, fun K' hK => wp_load 25 (.tmp 12) rfl bk3 0 9 (cV (ofV x y z)) (cV (ofV x y z)) 25 (hJ.es.at' _ (List.mem_of_getElem? (i := 1) rfl)) (eval_tmp ((hev 12 (by decide)).trans rfl)) ag25 sz25 (Nat.le_of_ble_eq_true (by kernel_rfl)) (by kernel_rfl) (hK _ _ hJ rfl veL_same)⟩
  ·
   exact .inr ⟨rfl, fun K' hK => wp_callv (.func 42) #[.tmp 29, .tmp 30] _ 42 #[] #[.agg (cT (expT (ofV x y z))), .agg (cV (ofV x y z))] #[.agg (cT (expT (ofV x y z))), .agg (cV (ofV x y z))] rfl rfl (map2 (eval_tmp ((hin 1 29 rfl).trans (congrArg some (show uu 1 = .agg (cT (expT (ofV x y z))) from hd 1 (by decide) (by kernel_rfl))))) (eval_tmp ((hin 2 30 rfl).trans (congrArg some (show uu 2 = .agg (cV (ofV x y z)) from hd 2 (by decide) (by kernel_rfl)))))) (by kernel_rfl) (fun _ _ => by kernel_rfl) (tApp_any (expT (ofV x y z)) (ofV x y z) ww) (fun _ hB => (hK _ _ (hJ.later hB) rfl (veL_later hB)))⟩
  ·
   exact .inr ⟨rfl, fun K' hK => wp_callv (.func 25) #[.tmp 28, .tmp 31] _ 25 #[] #[.agg (cV (ofV x y z)), .agg (cV (appT (expT (ofV x y z)) (ofV x y z)))] #[.agg (cV (ofV x y z)), .agg (cV (appT (expT (ofV x y z)) (ofV x y z)))] rfl rfl (map2 (eval_tmp ((hin 0 28 rfl).trans (congrArg some (show uu 0 = .agg (cV (ofV x y z)) from hd 0 (by decide) (by kernel_rfl))))) (eval_tmp ((hin 3 31 rfl).trans (congrArg some (show uu 3 = .agg (cV (appT (expT (ofV x y z)) (ofV x y z))) from hd 3 (by decide) (by kernel_rfl)))))) (by kernel_rfl) (fun _ _ => by kernel_rfl) (Ho.out ww) (fun _ hB => (hK _ _ (hJ.later hB) rfl (veL_later hB)))⟩
  ·
   exact .inr ⟨rfl, fun K' hK => wp_asgn (.tmp 32) rfl (eval_tmp ((hin 4 32 rfl).trans (congrArg some (show uu 4 = .bool true from hd 4 (by decide) (by kernel_rfl))))) (hK _ _ hJ rfl veL_same)⟩
 clear hM
 intro uu W10 hJm hd
 have e_0 : uu 0 = .agg (cV (ofV x y z)) := hd 0 (by decide)
 have e_1 : uu 1 = .agg (cT (expT (ofV x y z))) := hd 1 (by decide)
 have e_2 : uu 2 = .agg (cV (ofV x y z)) := hd 2 (by decide)
 have e_3 : uu 3 = .agg (cV (appT (expT (ofV x y z)) (ofV x y z))) := hd 3 (by decide)
 have e_4 : uu 4 = .bool true := hd 4 (by decide)
 have e_5 : uu 5 = .bool true := hd 5 (by decide)
 clear hd
 simp only [layS, Act.put, List.setIfInBounds_toArray, List.set_cons_succ, List.set_cons_zero, Nat.zero_add, Nat.reduceAdd, List.drop_succ_cons, List.drop_zero, List.drop_nil, e_0, e_1, e_2, e_3, e_4, e_5]
 clear e_0 e_1 e_2 e_3 e_4 e_5
 have hJ10 := hJm.es
 clear hJm
 go_wp2_with (refine stop_op rfl (fun K hK => wp_load 50 (.tmp 13) rfl bk4 0 27 (cT (expT (ofV x y z))) (cT (expT (ofV x y z))) 50 (hJ10.at' _ (List.mem_of_getElem? (i := 0) rfl)) rfl ag50 sz50 (Nat.le_of_ble_eq_true (by kernel_rfl)) (by kernel_rfl) (hK _ _ ?_)))
 unfold Stop
 try simp only [Act.put, List.setIfInBounds_toArray, List.set_cons_succ, List.set_cons_zero]
 go_wp2_with (refine stop_op rfl (fun K hK => wp_load 25 (.tmp 8) rfl bk1 0 9 (cV v) (cV v) 25 (hJ10.at' _ (List.mem_of_getElem? (i := 3) rfl)) rfl ag25 sz25 (Nat.le_of_ble_eq_true (by kernel_rfl)) (by kernel_rfl) (hK _ _ ?_)))
 unfold Stop
 try simp only [Act.put, List.setIfInBounds_toArray, List.set_cons_succ, List.set_cons_zero]
 go_wp2_with fail
 refine (tApp_any (expT (ofV x y z)) v W10).mono ?_
 rintro zz W11 ⟨rfl, hB⟩
 have hJ11 := hJ10.later hB
 clear hB
 clear hJ10
 go_wp2_with (refine stop_alloc 25 (cV zV) (.agg (cV zV)) rfl rfl zv25 rfl hJ11 (fun bk5 W12 hJ12 => ?_))
 clear hJ11
 unfold Stop
 try simp only [Act.put, List.setIfInBounds_toArray, List.set_cons_succ, List.set_cons_zero]
 go_wp2_with (refine stop_store 25 (.tmp 15) (.tmp 35) 0 bk5 0 (cV zV) 25 9 (cV (appT (expT (ofV x y z)) v)).toList (cV (appT (expT (ofV x y z)) v)) [(bk5, (cV (appT (expT (ofV x y z)) v)), 25), (bk4, (cT (expT (ofV x y z))), 50), (bk3, (cV (ofV x y z)), 25), (bk2, (cV u), 25), (bk1, (cV v), 25)] rfl rfl rfl rfl sz25 hJ12 rfl (by kernel_rfl) (Nat.le_of_ble_eq_true (by kernel_rfl)) (by kernel_rfl) (by kernel_rfl) (by kernel_rfl) (fun W13 hJ13 => ?_))
 clear hJ12
 unfold Stop
 try simp only [Act.put, List.setIfInBounds_toArray, List.set_cons_succ, List.set_cons_zero]
 go_wp2_with (refine stop_op rfl (fun K hK => wp_load 50 (.tmp 13) rfl bk4 0 27 (cT (expT (ofV x y z))) (cT (expT (ofV x y z))) 50 (hJ13.at' _ (List.mem_of_getElem? (i := 1) rfl)) rfl ag50 sz50 (Nat.le_of_ble_eq_true (by kernel_rfl)) (by kernel_rfl) (hK _ _ ?_)))
 unfold Stop
 try simp only [Act.put, List.setIfInBounds_toArray, List.set_cons_succ, List.set_cons_zero]
 go_wp2_with (refine stop_op rfl (fun K hK => wp_load 25 (.tmp 9) rfl bk2 0 9 (cV u) (cV u) 25 (hJ13.at' _ (List.mem_of_getElem? (i := 3) rfl)) rfl ag25 sz25 (Nat.le_of_ble_eq_true (by kernel_rfl)) (by kernel_rfl) (hK _ _ ?_)))
 unfold Stop
 try simp only [Act.put, List.setIfInBounds_toArray, List.set_cons_succ, List.set_cons_zero]
 go_wp2_with fail
 refine (tApp_any (expT (ofV x y z)) u W13).mono ?_
 rintro zz W14 ⟨rfl, hB⟩
 have hJ14 := hJ13.later hB
 clear hB
 clear hJ13
 go_wp2_with (refine stop_alloc 25 (cV zV) (.agg (cV zV)) rfl rfl zv25 rfl hJ14 (fun bk6 W15 hJ15 => ?_))
 clear hJ14
 unfold Stop
 try simp only [Act.put, List.setIfInBounds_toArray, List.set_cons_succ, List.set_cons_zero]
 go_wp2_with (refine stop_store 25 (.tmp 16) (.tmp 38) 0 bk6 0 (cV zV) 25 9 (cV (appT (expT (ofV x y z)) u)).toList (cV (appT (expT (ofV x y z)) u)) [(bk6, (cV (appT (expT (ofV x y z)) u)), 25), (bk5, (cV (appT (expT (ofV x y z)) v)), 25), (bk4, (cT (expT (ofV x y z))), 50), (bk3, (cV (ofV x y z)), 25), (bk2, (cV u), 25), (bk1, (cV v), 25)] rfl rfl rfl rfl sz25 hJ15 rfl (by kernel_rfl) (Nat.le_of_ble_eq_true (by kernel_rfl)) (by kernel_rfl) (by kernel_rfl) (by kernel_rfl) (fun W16 hJ16 => ?_))
 clear hJ15
 unfold Stop
 try simp only [Act.put, List.setIfInBounds_toArray, List.set_cons_succ, List.set_cons_zero]
 go_wp2
 obtain ⟨m7_16, hm⟩ : ∃ m, m = W16.heap.size := ⟨_, rfl⟩
 have hM : ∀ uu, Jz w m7_16 [(bk6, (cV (appT (expT (ofV x y z)) u)), 25), (bk5, (cV (appT (expT (ofV x y z)) v)), 25), (bk4, (cT (expT (ofV x y z))), 50), (bk3, (cV (ofV x y z)), 25), (bk2, (cV u), 25), (bk1, (cV v), 25)] [(8, 3, 23)] [(9, 8, (cS (meetS (normV (appT (expT (ofV x y z)) v)) (normV v))), 23)] (fun _ => false) uu W16.drew := fun uu => by rw [hm]; exact Jz.start hJ16 uu
 clear hm hJ16
 refine wp_region_y 11 [some 40, some 41, some 42, some 43, some 44, some 39, some 45, some 46, some 17, none, some 18] (veL m7_16 [.eq (.agg (cV (appT (expT (ofV x y z)) v))), .eq (.agg (cS (normV (appT (expT (ofV x y z)) v)))), .eq (.agg (cV v)), .eq (.agg (cS (normV v))), .eq (.tuple #[.agg (cS (meetS (normV (appT (expT (ofV x y z)) v)) (normV v))), .bool true]), .eq (.tuple #[.agg (cS (meetS (normV (appT (expT (ofV x y z)) v)) (normV v))), .bool true]), .eq (.agg (cS (meetS (normV (appT (expT (ofV x y z)) v)) (normV v)))), .eq (.bool true), .any, .any, .eq (.bool true)]) (Jz w m7_16 [(bk6, (cV (appT (expT (ofV x y z)) u)), 25), (bk5, (cV (appT (expT (ofV x y z)) v)), 25), (bk4, (cT (expT (ofV x y z))), 50), (bk3, (cV (ofV x y z)), 25), (bk2, (cV u), 25), (bk1, (cV v), 25)] [(8, 3, 23)] [(9, 8, (cS (meetS (normV (appT (expT (ofV x y z)) v)) (normV v))), 23)]) (by kernel_rfl) (by kernel_rfl) (by rfl) (by decide) (by rfl) hM ?_ ?_
 ·
  intro i hl hi LL uu ww aa hLi hJ hd hev hin
  clear hM
  obtain rfl | rfl | rfl | rfl | rfl | rfl | rfl | rfl | rfl | rfl | rfl : i = 0 ∨ i = 1 ∨ i = 2 ∨ i = 3 ∨ i = 4 ∨ i = 5 ∨ i = 6 ∨ i = 7 ∨ i = 8 ∨ i = 9 ∨ i = 10 := by omega
  ·
   exact .inr ⟨rfl, fun K' hK => wp_load 25 (.tmp 15) rfl bk5 0 9 (cV (appT (expT (ofV x y z)) v)) (cV (appT (expT (ofV x y z)) v)) 25 (hJ.em.es.at' _ (List.mem_of_getElem? (i := 1) rfl)) (eval_tmp ((hev 15 (by decide)).trans rfl)) ag25 sz25 (Nat.le_of_ble_eq_true (by kernel_rfl)) (by kernel_rfl) (hK _ _ (hJ.grow hLi (by simp) (by simp) (Below.refl _ _)) rfl veL_same)⟩
  ·
   exact .inr ⟨rfl, fun K' hK => wp_callv (.func 18) #[.tmp 40] _ 18 #[] #[.agg (cV (appT (expT (ofV x y z)) v))] #[.agg (cV (appT (expT (ofV x y z)) v))] rfl rfl (map1 (eval_tmp ((hin 0 40 rfl).trans (congrArg some (show uu 0 = .agg (cV (appT (expT (ofV x y z)) v)) from (hd 0 (by decide) (by kernel_rfl)).2))))) (by kernel_rfl) (fun _ _ => by kernel_rfl) (vNorm_any (appT (expT (ofV x y z)) v) ww) (fun _ hB => (hK _ _ (hJ.grow hLi (by simp) (by simp) hB) rfl (veL_flat rfl)))⟩
  ·
   exact .inr ⟨rfl, fun K' hK => wp_load 25 (.tmp 8) rfl bk1 0 9 (cV v) (cV v) 25 (hJ.em.es.at' _ (List.mem_of_getElem? (i := 5) rfl)) (eval_tmp ((hev 8 (by decide)).trans rfl)) ag25 sz25 (Nat.le_of_ble_eq_true (by kernel_rfl)) (by kernel_rfl) (hK _ _ (hJ.grow hLi (by simp) (by simp) (Below.refl _ _)) rfl veL_same)⟩
  ·
   exact .inr ⟨rfl, fun K' hK => wp_callv (.func 18) #[.tmp 42] _ 18 #[] #[.agg (cV v)] #[.agg (cV v)] rfl rfl (map1 (eval_tmp ((hin 2 42 rfl).trans (congrArg some (show uu 2 = .agg (cV v) from (hd 2 (by decide) (by kernel_rfl)).2))))) (by kernel_rfl) (fun _ _ => by kernel_rfl) (vNorm_any v ww) (fun _ hB => (hK _ _ (hJ.grow hLi (by simp) (by simp) hB) rfl (veL_flat rfl)))⟩
  ·
   exact .inr ⟨rfl, fun K' hK => wp_callv (.func 41) #[.tmp 41, .tmp 43] _ 41 #[] #[.agg (cS (normV (appT (expT (ofV x y z)) v))), .agg (cS (normV v))] #[.agg (cS (normV (appT (expT (ofV x y z)) v))), .agg (cS (normV v))] rfl rfl (map2 (eval_tmp ((hin 1 41 rfl).trans (congrArg some (show uu 1 = .agg (cS (normV (appT (expT (ofV x y z)) v))) from (hd 1 (by decide) (by kernel_rfl)).2)))) (eval_tmp ((hin 3 43 rfl).trans (congrArg some (show uu 3 = .agg (cS (normV v)) from (hd 3 (by decide) (by kernel_rfl)).2))))) (by kernel_rfl) (fun _ _ => by kernel_rfl) (meet_yes (axis_norm (ofV x y z) v) ww) (fun _ hB => (hK _ _ (hJ.grow hLi (by simp) (by simp) hB) rfl (veL_flat rfl)))⟩
  ·
   exact .inr ⟨rfl, fun K' hK => wp_move (.tmp 44) rfl (eval_tmp ((hin 4 44 rfl).trans (congrArg some (show uu 4 = .tuple #[.agg (cS (meetS (normV (appT (expT (ofV x y z)) v)) (normV v))), .bool true] from (hd 4 (by decide) (by kernel_rfl)).2)))) (hK _ _ (hJ.grow hLi (by simp) (by simp) (Below.refl _ _)) rfl veL_same)⟩
  ·
   exact .inr ⟨rfl, fun K' hK => wp_ext (.tmp 39) 0 rfl (eval_tmp ((hin 5 39 rfl).trans (congrArg some (show uu 5 = .tuple #[.agg (cS (meetS (normV (appT (expT (ofV x y z)) v)) (normV v))), .bool true] from (hd 5 (by decide) (by kernel_rfl)).2)))) (fun _ => rfl) (hK _ _ (hJ.grow hLi (by simp) (by simp) (Below.refl _ _)) rfl veL_same)⟩
  ·
   exact .inr ⟨rfl, fun K' hK => wp_ext (.tmp 39) 1 rfl (eval_tmp ((hin 5 39 rfl).trans (congrArg some (show uu 5 = .tuple #[.agg (cS (meetS (normV (appT (expT (ofV x y z)) v)) (normV v))), .bool true] from (hd 5 (by decide) (by kernel_rfl)).2)))) (fun _ => rfl) (hK _ _ (hJ.grow hLi (by simp) (by simp) (Below.refl _ _)) rfl veL_same)⟩
  ·
   exact .inr ⟨rfl, fun K' hK => wp_alloc 23 rfl (.agg (cS zS)) zv23 (hK _ _ (hJ.alloc hLi (n := 3) rfl (by simp) (by simp)) trivial (veL_flat rfl))⟩
  ·
   have hLa := (hd 8 (by decide) (by kernel_rfl)).1
   obtain ⟨kb, kC, ke, kge, ksz, kcl⟩ := hJ.bx (8, 3, 23) (by simp) hLa
   have x17 : aa.tmps[17]? = some (.pointer (some ⟨kb, 0, none⟩)) := (hin 8 17 rfl).trans (congrArg some ke)
   have x45 : aa.tmps[45]? = some (.agg (cS (meetS (normV (appT (expT (ofV x y z)) v)) (normV v)))) := ((hin 6 45 rfl).trans (congrArg some (show uu 6 = .agg (cS (meetS (normV (appT (expT (ofV x y z)) v)) (normV v))) from (hd 6 (by decide) (by kernel_rfl)).2)))
   clear hd hev hin
   simp only [List.getElem_cons_succ, List.getElem_cons_zero]
   clear hl
   refine .inr ⟨rfl, fun K' hK => ?_⟩
   have HK := Lib.hid hK
   clear hK
   refine wp_store 23 (.tmp 17) (.tmp 45) rfl 0 kb 0 kC 23 3 (cS (meetS (normV (appT (expT (ofV x y z)) v)) (normV v))).toList (hJ.em.join kge kcl) rfl (eval_tmp x17) (by rw [eval_tmp x45]; rfl) sz23 (by kernel_rfl) (by rw [ksz]; decide) (by kernel_rfl) (fun ww2 hE hk hz => ?_)
   rw [putC_full (show kC.size = (cS (meetS (normV (appT (expT (ofV x y z)) v)) (normV v))).toList.length from ksz), Array.toArray_toList] at hE
   exact HK.out undef _ (hJ.store (a := 8) (n := 3) (T := 23) (Cn := (cS (meetS (normV (appT (expT (ofV x y z)) v)) (normV v)))) hLi (by simp) (by simp) (by simp) (by simp) (by simp) (by simp) hLa ke kge rfl hE hk hz) trivial (veL_flat rfl)
  ·
   exact .inr ⟨rfl, fun K' hK => wp_asgn (.tmp 46) rfl (eval_tmp ((hin 7 46 rfl).trans (congrArg some (show uu 7 = .bool true from (hd 7 (by decide) (by kernel_rfl)).2)))) (hK _ _ (hJ.grow hLi (by simp) (by simp) (Below.refl _ _)) rfl veL_same)⟩
 clear hM
 intro LL uu W17 hLL hJm hd
 have e_0 : uu 0 = .agg (cV (appT (expT (ofV x y z)) v)) := hd 0 (by decide)
 have e_1 : uu 1 = .agg (cS (normV (appT (expT (ofV x y z)) v))) := hd 1 (by decide)
 have e_2 : uu 2 = .agg (cV v) := hd 2 (by decide)
 have e_3 : uu 3 = .agg (cS (normV v)) := hd 3 (by decide)
 have e_4 : uu 4 = .tuple #[.agg (cS (meetS (normV (appT (expT (ofV x y z)) v)) (normV v))), .bool true] := hd 4 (by decide)
 have e_5 : uu 5 = .tuple #[.agg (cS (meetS (normV (appT (expT (ofV x y z)) v)) (normV v))), .bool true] := hd 5 (by decide)
 have e_6 : uu 6 = .agg (cS (meetS (normV (appT (expT (ofV x y z)) v)) (normV v))) := hd 6 (by decide)
 have e_7 : uu 7 = .bool true := hd 7 (by decide)
 obtain ⟨bk7, kC8, e_8, nge8, ksz8, nB8⟩ := hJm.bx (8, 3, 23) (by simp) (hLL 8 (by decide))
 have e_10 : uu 10 = .bool true := hd 10 (by decide)
 obtain ⟨_, kb9, ke9, kl9⟩ := hJm.st (9, 8, (cS (meetS (normV (appT (expT (ofV x y z)) v)) (normV v))), 23) (by simp) (hLL 9 (by decide))
 have kq9 : kb9 = bk7 := by
  have hq := ke9.symm.trans e_8
  injection hq with hq
  injection hq with hq
  injection hq with hq
 subst kq9
 clear ke9
 have g8 := hJm.em.join nge8 kl9
 clear hd hLL
 simp only [layS, Act.put, List.setIfInBounds_toArray, List.set_cons_succ, List.set_cons_zero, Nat.zero_add, Nat.reduceAdd, List.drop_succ_cons, List.drop_zero, List.drop_nil, e_0, e_1, e_2, e_3, e_4, e_5, e_6, e_7, e_8, e_10]
 have hJ17 := g8
 clear hJm e_0 e_1 e_2 e_3 e_4 e_5 e_6 e_7 e_8 e_10 nge8 nB8 ksz8 g8
 go_wp2
 obtain ⟨m8_17, hm⟩ : ∃ m, m = W17.heap.size := ⟨_, rfl⟩
 have hM : ∀ uu, Jz w m8_17 [(kb9, (cS (meetS (normV (appT (expT (ofV x y z)) v)) (normV v))), 23), (bk6, (cV (appT (expT (ofV x y z)) u)), 25), (bk5, (cV (appT (expT (ofV x y z)) v)), 25), (bk4, (cT (expT (ofV x y z))), 50), (bk3, (cV (ofV x y z)), 25), (bk2, (cV u), 25), (bk1, (cV v), 25)] [(10, 3, 23)] [(11, 10, (cS (meetS (dotV (appT (expT (ofV x y z)) v) (appT (expT (ofV x y z)) u)) (dotV v u))), 23)] (fun _ => false) uu W17.drew := fun uu => by rw [hm]; exact Jz.start hJ17 uu
 clear hm hJ17
 refine wp_region_y 13 [some 48, some 49, some 50, some 51, some 52, some 53, some 54, some 47, some 55, some 56, some 19, none, some 20] (veL m8_17 [.eq (.agg (cV (appT (expT (ofV x y z)) v))), .eq (.agg (cV (appT (expT (ofV x y z)) u))), .eq (.agg (cS (dotV (appT (expT (ofV x y z)) v) (appT (expT (ofV x y z)) u)))), .eq (.agg (cV v)), .eq (.agg (cV u)), .eq (.agg (cS (dotV v u))), .eq (.tuple #[.agg (cS (meetS (dotV (appT (expT (ofV x y z)) v) (appT (expT (ofV x y z)) u)) (dotV v u))), .bool true]), .eq (.tuple #[.agg (cS (meetS (dotV (appT (expT (ofV x y z)) v) (appT (expT (ofV x y z)) u)) (dotV v u))), .bool true]), .eq (.agg (cS (meetS (dotV (appT (expT (ofV x y z)) v) (appT (expT (ofV x y z)) u)) (dotV v u)))), .eq (.bool true), .any, .any, .eq (.bool true)]) (Jz w m8_17 [(kb9, (cS (meetS (normV (appT (expT (ofV x y z)) v)) (normV v))), 23), (bk6, (cV (appT (expT (ofV x y z)) u)), 25), (bk5, (cV (appT (expT (ofV x y z)) v)), 25), (bk4, (cT (expT (ofV x y z))), 50), (bk3, (cV (ofV x y z)), 25), (bk2, (cV u), 25), (bk1, (cV v), 25)] [(10, 3, 23)] [(11, 10, (cS (meetS (dotV (appT (expT (ofV x y z)) v) (appT (expT (ofV x y z)) u)) (dotV v u))), 23)]) (by kernel_rfl) (by kernel_rfl) (by rfl) (by decide) (by rfl) hM ?_ ?_
 ·
  intro i hl hi LL uu ww aa hLi hJ hd hev hin
  clear hM
  obtain rfl | rfl | rfl | rfl | rfl | rfl | rfl | rfl | rfl | rfl | rfl | rfl | rfl : i = 0 ∨ i = 1 ∨ i = 2 ∨ i = 3 ∨ i = 4 ∨ i = 5 ∨ i = 6 ∨ i = 7 ∨ i = 8 ∨ i = 9 ∨ i = 10 ∨ i = 11 ∨ i = 12 := by omega
  ·
   exact .inr ⟨rfl, fun K' hK => wp_load 25 (.tmp 15) rfl bk5 0 9 (cV (appT (expT (ofV x y z)) v)) (cV (appT (expT (ofV x y z)) v)) 25 (hJ.em.es.at' _ (List.mem_of_getElem? (i := 2) rfl)) (eval_tmp ((hev 15 (by decide)).trans rfl)) ag25 sz25 (Nat.le_of_ble_eq_true (by kernel_rfl)) (by kernel_rfl) (hK _ _ (hJ.grow hLi (by simp) (by simp) (Below.refl _ _)) rfl veL_same)⟩
  ·
   exact .inr ⟨rfl, fun K' hK => wp_load 25 (.tmp 16) rfl bk6 0 9 (cV (appT (expT (ofV x y z)) u)) (cV (appT (expT (ofV x y z)) u)) 25 (hJ.em.es.at' _ (List.mem_of_getElem? (i := 1) rfl)) (eval_tmp ((hev 16 (by decide)).trans rfl)) ag25 sz25 (Nat.le_of_ble_eq_true (by kernel_rfl)) (by kernel_rfl) (hK _ _ (hJ.grow hLi (by simp) (by simp) (Below.refl _ _)) rfl veL_same)⟩
  ·
   exact .inr ⟨rfl, fun K' hK => wp_callv (.func 16) #[.tmp 48, .tmp 49] _ 16 #[] #[.agg (cV (appT (expT (ofV x y z)) v)), .agg (cV (appT (expT (ofV x y z)) u))] #[.agg (cV (appT (expT (ofV x y z)) v)), .agg (cV (appT (expT (ofV x y z)) u))] rfl rfl (map2 (eval_tmp ((hin 0 48 rfl).trans (congrArg some (show uu 0 = .agg (cV (appT (expT (ofV x y z)) v)) from (hd 0 (by decide) (by kernel_rfl)).2)))) (eval_tmp ((hin 1 49 rfl).trans (congrArg some (show uu 1 = .agg (cV (appT (expT (ofV x y z)) u)) from (hd 1 (by decide) (by kernel_rfl)).2))))) (by kernel_rfl) (fun _ _ => by kernel_rfl) (vDot_any (appT (expT (ofV x y z)) v) (appT (expT (ofV x y z)) u) ww) (fun _ hB => (hK _ _ (hJ.grow hLi (by simp) (by simp) hB) rfl (veL_flat rfl)))⟩
  ·
   exact .inr ⟨rfl, fun K' hK => wp_load 25 (.tmp 8) rfl bk1 0 9 (cV v) (cV v) 25 (hJ.em.es.at' _ (List.mem_of_getElem? (i := 6) rfl)) (eval_tmp ((hev 8 (by decide)).trans rfl)) ag25 sz25 (Nat.le_of_ble_eq_true (by kernel_rfl)) (by kernel_rfl) (hK _ _ (hJ.grow hLi (by simp) (by simp) (Below.refl _ _)) rfl veL_same)⟩
  ·
   exact .inr ⟨rfl, fun K' hK => wp_load 25 (.tmp 9) rfl bk2 0 9 (cV u) (cV u) 25 (hJ.em.es.at' _ (List.mem_of_getElem? (i := 5) rfl)) (eval_tmp ((hev 9 (by decide)).trans rfl)) ag25 sz25 (Nat.le_of_ble_eq_true (by kernel_rfl)) (by kernel_rfl) (hK _ _ (hJ.grow hLi (by simp) (by simp) (Below.refl _ _)) rfl veL_same)⟩
  ·
   exact .inr ⟨rfl, fun K' hK => wp_callv (.func 16) #[.tmp 51, .tmp 52] _ 16 #[] #[.agg (cV v), .agg (cV u)] #[.agg (cV v), .agg (cV u)] rfl rfl (map2 (eval_tmp ((hin 3 51 rfl).trans (congrArg some (show uu 3 = .agg (cV v) from (hd 3 (by decide) (by kernel_rfl)).2)))) (eval_tmp ((hin 4 52 rfl).trans (congrArg some (show uu 4 = .agg (cV u) from (hd 4 (by decide) (by kernel_rfl)).2))))) (by kernel_rfl) (fun _ _ => by kernel_rfl) (vDot_any v u ww) (fun _ hB => (hK _ _ (hJ.grow hLi (by simp) (by simp) hB) rfl (veL_flat rfl)))⟩
  ·
   exact .inr ⟨rfl, fun K' hK => wp_callv (.func 41) #[.tmp 50, .tmp 53] _ 41 #[] #[.agg (cS (dotV (appT (expT (ofV x y z)) v) (appT (expT (ofV x y z)) u))), .agg (cS (dotV v u))] #[.agg (cS (dotV (appT (expT (ofV x y z)) v) (appT (expT (ofV x y z)) u))), .agg (cS (dotV v u))] rfl rfl (map2 (eval_tmp ((hin 2 50 rfl).trans (congrArg some (show uu 2 = .agg (cS (dotV (appT (expT (ofV x y z)) v) (appT (expT (ofV x y z)) u))) from (hd 2 (by decide) (by kernel_rfl)).2)))) (eval_tmp ((hin 5 53 rfl).trans (congrArg some (show uu 5 = .agg (cS (dotV v u)) from (hd 5 (by decide) (by kernel_rfl)).2))))) (by kernel_rfl) (fun _ _ => by kernel_rfl) (meet_yes (axis_dot (ofV x y z) v u) ww) (fun _ hB => (hK _ _ (hJ.grow hLi (by simp) (by simp) hB) rfl (veL_flat rfl)))⟩
  ·
   exact .inr ⟨rfl, fun K' hK => wp_move (.tmp 54) rfl (eval_tmp ((hin 6 54 rfl).trans (congrArg some (show uu 6 = .tuple #[.agg (cS (meetS (dotV (appT (expT (ofV x y z)) v) (appT (expT (ofV x y z)) u)) (dotV v u))), .bool true] from (hd 6 (by decide) (by kernel_rfl)).2)))) (hK _ _ (hJ.grow hLi (by simp) (by simp) (Below.refl _ _)) rfl veL_same)⟩
  ·
   exact .inr ⟨rfl, fun K' hK => wp_ext (.tmp 47) 0 rfl (eval_tmp ((hin 7 47 rfl).trans (congrArg some (show uu 7 = .tuple #[.agg (cS (meetS (dotV (appT (expT (ofV x y z)) v) (appT (expT (ofV x y z)) u)) (dotV v u))), .bool true] from (hd 7 (by decide) (by kernel_rfl)).2)))) (fun _ => rfl) (hK _ _ (hJ.grow hLi (by simp) (by simp) (Below.refl _ _)) rfl veL_same)⟩
  ·
   exact .inr ⟨rfl, fun K' hK => wp_ext (.tmp 47) 1 rfl (eval_tmp ((hin 7 47 rfl).trans (congrArg some (show uu 7 = .tuple #[.agg (cS (meetS (dotV (appT (expT (ofV x y z)) v) (appT (expT (ofV x y z)) u)) (dotV v u))), .bool true] from (hd 7 (by decide) (by kernel_rfl)).2)))) (fun _ => rfl) (hK _ _ (hJ.grow hLi (by simp) (by simp) (Below.refl _ _)) rfl veL_same)⟩
  ·
   exact .inr ⟨rfl, fun K' hK => wp_alloc 23 rfl (.agg (cS zS)) zv23 (hK _ _ (hJ.alloc hLi (n := 3) rfl (by simp) (by simp)) trivial (veL_flat rfl))⟩
  ·
   have hLa := (hd 10 (by decide) (by kernel_rfl)).1
   obtain ⟨kb, kC, ke, kge, ksz, kcl⟩ := hJ.bx (10, 3, 23) (by simp) hLa
   have x19 : aa.tmps[19]? = some (.pointer (some ⟨kb, 0, none⟩)) := (hin 10 19 rfl).trans (congrArg some ke)
   have x55 : aa.tmps[55]? = some (.agg (cS (meetS (dotV (appT (expT (ofV x y z)) v) (appT (expT (ofV x y z)) u)) (dotV v u)))) := ((hin 8 55 rfl).trans (congrArg some (show uu 8 = .agg (cS (meetS (dotV (appT (expT (ofV x y z)) v) (appT (expT (ofV x y z)) u)) (dotV v u))) from (hd 8 (by decide) (by kernel_rfl)).2)))
   clear hd hev hin
   simp only [List.getElem_cons_succ, List.getElem_cons_zero]
   clear hl
   refine .inr ⟨rfl, fun K' hK => ?_⟩
   have HK := Lib.hid hK
   clear hK
   refine wp_store 23 (.tmp 19) (.tmp 55) rfl 0 kb 0 kC 23 3 (cS (meetS (dotV (appT (expT (ofV x y z)) v) (appT (expT (ofV x y z)) u)) (dotV v u))).toList (hJ.em.join kge kcl) rfl (eval_tmp x19) (by rw [eval_tmp x55]; rfl) sz23 (by kernel_rfl) (by rw [ksz]; decide) (by kernel_rfl) (fun ww2 hE hk hz => ?_)
   rw [putC_full (show kC.size = (cS (meetS (dotV (appT (expT (ofV x y z)) v) (appT (expT (ofV x y z)) u)) (dotV v u))).toList.length from ksz), Array.toArray_toList] at hE
   exact HK.out undef _ (hJ.store (a := 10) (n := 3) (T := 23) (Cn := (cS (meetS (dotV (appT (expT (ofV x y z)) v) (appT (expT (ofV x y z)) u)) (dotV v u)))) hLi (by simp) (by simp) (by simp) (by simp) (by simp) (by simp) hLa ke kge rfl hE hk hz) trivial (veL_flat rfl)
  ·
   exact .inr ⟨rfl, fun K' hK => wp_asgn (.tmp 56) rfl (eval_tmp ((hin 9 56 rfl).trans (congrArg some (show uu 9 = .bool true from (hd 9 (by decide) (by kernel_rfl)).2)))) (hK _ _ (hJ.grow hLi (by simp) (by simp) (Below.refl _ _)) rfl veL_same)⟩
 clear hM
 intro LL uu W18 hLL hJm hd
 have e_0 : uu 0 = .agg (cV (appT (expT (ofV x y z)) v)) := hd 0 (by decide)
 have e_1 : uu 1 = .agg (cV (appT (expT (ofV x y z)) u)) := hd 1 (by decide)
 have e_2 : uu 2 = .agg (cS (dotV (appT (expT (ofV x y z)) v) (appT (expT (ofV x y z)) u))) := hd 2 (by decide)
 have e_3 : uu 3 = .agg (cV v) := hd 3 (by decide)
 have e_4 : uu 4 = .agg (cV u) := hd 4 (by decide)
 have e_5 : uu 5 = .agg (cS (dotV v u)) := hd 5 (by decide)
 have e_6 : uu 6 = .tuple #[.agg (cS (meetS (dotV (appT (expT (ofV x y z)) v) (appT (expT (ofV x y z)) u)) (dotV v u))), .bool true] := hd 6 (by decide)
 have e_7 : uu 7 = .tuple #[.agg (cS (meetS (dotV (appT (expT (ofV x y z)) v) (appT (expT (ofV x y z)) u)) (dotV v u))), .bool true] := hd 7 (by decide)
 have e_8 : uu 8 = .agg (cS (meetS (dotV (appT (expT (ofV x y z)) v) (appT (expT (ofV x y z)) u)) (dotV v u))) := hd 8 (by decide)
 have e_9 : uu 9 = .bool true := hd 9 (by decide)
 obtain ⟨bk8, kC10, e_10, nge10, ksz10, nB10⟩ := hJm.bx (10, 3, 23) (by simp) (hLL 10 (by decide))
 have e_12 : uu 12 = .bool true := hd 12 (by decide)
 obtain ⟨_, kb11, ke11, kl11⟩ := hJm.st (11, 10, (cS (meetS (dotV (appT (expT (ofV x y z)) v) (appT (expT (ofV x y z)) u)) (dotV v u))), 23) (by simp) (hLL 11 (by decide))
 have kq11 : kb11 = bk8 := by
  have hq := ke11.symm.trans e_10
  injection hq with hq
  injection hq with hq
  injection hq with hq
 subst kq11
 clear ke11
 have g10 := hJm.em.join nge10 kl11
 clear hd hLL
 simp only [layS, Act.put, List.setIfInBounds_toArray, List.set_cons_succ, List.set_cons_zero, Nat.zero_add, Nat.reduceAdd, List.drop_succ_cons, List.drop_zero, List.drop_nil, e_0, e_1, e_2, e_3, e_4, e_5, e_6, e_7, e_8, e_9, e_10, e_12]
 have hJ18 := g10
 clear hJm e_0 e_1 e_2 e_3 e_4 e_5 e_6 e_7 e_8 e_9 e_10 e_12 nge10 nB10 ksz10 g10
 go_wp2
 go_ret
 exact ⟨rfl, hJ18.below⟩
theorem RotAxis_any (x y z : Int) (v u : Vc) (w : World) : Calls Try.prog 6 #[.int .i64 x, .int .i64 y, .int .i64 z, .agg (cV v), .agg (cV u)] w (PVal (.bool true) w) :=
 rx_w x y z v u (fun W => by have := vIn_any (ofV x y z) (appT (expT (ofV x y z)) (ofV x y z)) W; rw [axis_own x y z] at this; exact this) w
end Go.Proofs.Ytdochhhepmlapaa
